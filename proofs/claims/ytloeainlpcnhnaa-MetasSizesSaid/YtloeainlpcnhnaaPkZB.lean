/-
  Texts of one proof, put together. No statement is proved here.
-/
import Derived.Test.YtloeainlpcnhnaaPb
import Derived.Test.YtloeainlpcnhnaaQa
import Derived.Test.YtloeainlpcnhnaaPd
import Derived.Test.YtloeainlpcnhnaaPkVB
import Derived.Test.YtloeainlpcnhnaaPkYB
/-
  Lambda terms with constants, reduced in parallel: two ways meet again (Church and Rosser, by Takahashi's complete development). No statement is proved here.
-/
namespace Go.Proofs.Ytloeainlpcnhnaa.Cr
set_option linter.unusedVariables false
inductive Lm where
  | v (i : Nat) : Lm
  | c (k h : Int) : Lm
  | a (f x : Lm) : Lm
  | l (b : Lm) : Lm
def upr (r : Nat → Nat) : Nat → Nat
  | 0 => 0
  | i + 1 => r i + 1
def ren : (Nat → Nat) → Lm → Lm
  | r, .v i => .v (r i)
  | _, .c k h => .c k h
  | r, .a f x => .a (ren r f) (ren r x)
  | r, .l b => .l (ren (upr r) b)
def ups (s : Nat → Lm) : Nat → Lm
  | 0 => .v 0
  | i + 1 => ren (· + 1) (s i)
def sub : (Nat → Lm) → Lm → Lm
  | s, .v i => s i
  | _, .c k h => .c k h
  | s, .a f x => .a (sub s f) (sub s x)
  | s, .l b => .l (sub (ups s) b)
def one (x : Lm) : Nat → Lm
  | 0 => x
  | i + 1 => .v i
theorem ren_ext {r r' : Nat → Nat} (h : ∀ i, r i = r' i) (t : Lm) : ren r t = ren r' t := by
  induction t generalizing r r' with
  | v i => simp only [ren, h]
  | c k h => rfl
  | a f x ihf ihx => simp only [ren, ihf h, ihx h]
  | l b ih => simp only [ren]; rw [ih (r' := upr r')]; intro i; cases i <;> simp [upr, h]
theorem sub_ext {s s' : Nat → Lm} (h : ∀ i, s i = s' i) (t : Lm) : sub s t = sub s' t := by
  induction t generalizing s s' with
  | v i => exact h i
  | c k h => rfl
  | a f x ihf ihx => simp only [sub, ihf h, ihx h]
  | l b ih => simp only [sub]; rw [ih (s' := ups s')]; intro i; cases i <;> simp [ups, h]
theorem ren_ren (r r' : Nat → Nat) (t : Lm) : ren r' (ren r t) = ren (fun i => r' (r i)) t := by
  induction t generalizing r r' with
  | v i => rfl
  | c k h => rfl
  | a f x ihf ihx => simp only [ren, ihf, ihx]
  | l b ih => simp only [ren, ih]; congr 1; apply ren_ext; intro i; cases i <;> rfl
theorem sub_ren (r : Nat → Nat) (s : Nat → Lm) (t : Lm) : sub s (ren r t) = sub (fun i => s (r i)) t := by
  induction t generalizing r s with
  | v i => rfl
  | c k h => rfl
  | a f x ihf ihx => simp only [ren, sub, ihf, ihx]
  | l b ih => simp only [ren, sub, ih]; congr 1; apply sub_ext; intro i; cases i <;> rfl
theorem ren_sub (s : Nat → Lm) (r : Nat → Nat) (t : Lm) : ren r (sub s t) = sub (fun i => ren r (s i)) t := by
  induction t generalizing r s with
  | v i => rfl
  | c k h => rfl
  | a f x ihf ihx => simp only [ren, sub, ihf, ihx]
  | l b ih =>
    simp only [ren, sub, ih]; congr 1; apply sub_ext; intro i
    cases i with
    | zero => rfl
    | succ i => simp only [ups, ren_ren]; apply ren_ext; intro j; rfl
theorem sub_sub (s u : Nat → Lm) (t : Lm) : sub u (sub s t) = sub (fun i => sub u (s i)) t := by
  induction t generalizing s u with
  | v i => rfl
  | c k h => rfl
  | a f x ihf ihx => simp only [sub, ihf, ihx]
  | l b ih =>
    simp only [sub, ih]; congr 1; apply sub_ext; intro i
    cases i with
    | zero => rfl
    | succ i => simp only [ups, sub_ren, ren_sub]
theorem sub_v (t : Lm) : sub .v t = t := by
  induction t with
  | v i => rfl
  | c k h => rfl
  | a f x ihf ihx => simp only [sub, ihf, ihx]
  | l b ih => simp only [sub]; congr 1; rw [sub_ext (s' := .v)]; exact ih; intro i; cases i <;> rfl
theorem ren_eq_sub (r : Nat → Nat) (t : Lm) : ren r t = sub (fun i => .v (r i)) t := by
  have := ren_sub .v r t
  rw [sub_v] at this
  exact this
/-- what is put for 0, behind a substitution -/
theorem sub_one (s : Nat → Lm) (x b : Lm) : sub s (sub (one x) b) = sub (one (sub s x)) (sub (ups s) b) := by
  rw [sub_sub, sub_sub]
  apply sub_ext
  intro i
  cases i with
  | zero => rfl
  | succ i => simp only [one, ups, sub, sub_ren]; rw [sub_v]
inductive Par : Lm → Lm → Prop where
  | v (i : Nat) : Par (.v i) (.v i)
  | c (k h : Int) : Par (.c k h) (.c k h)
  | a {f f' x x' : Lm} : Par f f' → Par x x' → Par (.a f x) (.a f' x')
  | l {b b' : Lm} : Par b b' → Par (.l b) (.l b')
  | beta {b b' x x' : Lm} : Par b b' → Par x x' → Par (.a (.l b) x) (sub (one x') b')
theorem Par.refl : ∀ t : Lm, Par t t
  | .v i => .v i
  | .c k h => .c k h
  | .a f x => .a (Par.refl f) (Par.refl x)
  | .l b => .l (Par.refl b)
theorem Par.ren {t t' : Lm} (h : Par t t') : ∀ r, Par (ren r t) (ren r t') := by
  induction h with
  | v i => intro r; exact .v _
  | c k h => intro r; exact .c _ _
  | a _ _ ihf ihx => intro r; exact .a (ihf r) (ihx r)
  | l _ ih => intro r; exact .l (ih _)
  | @beta b b' x x' _ _ ihb ihx =>
    intro r
    have e : Cr.ren r (sub (one x') b') = sub (one (Cr.ren r x')) (Cr.ren (upr r) b') := by
      rw [ren_sub, sub_ren]; apply sub_ext; intro i; cases i <;> rfl
    rw [e]
    exact .beta (ihb _) (ihx r)
theorem Par.ups {s s' : Nat → Lm} (h : ∀ i, Par (s i) (s' i)) : ∀ i, Par (ups s i) (ups s' i)
  | 0 => .v 0
  | i + 1 => (h i).ren _
theorem Par.sub {t t' : Lm} (h : Par t t') : ∀ {s s' : Nat → Lm}, (∀ i, Par (s i) (s' i)) → Par (sub s t) (sub s' t') := by
  induction h with
  | v i => intro s s' hs; exact hs i
  | c k h => intro s s' hs; exact .c _ _
  | a _ _ ihf ihx => intro s s' hs; exact .a (ihf hs) (ihx hs)
  | l _ ih => intro s s' hs; exact .l (ih (Par.ups hs))
  | @beta b b' x x' _ _ ihb ihx =>
    intro s s' hs
    rw [sub_one]
    exact .beta (ihb (Par.ups hs)) (ihx hs)
theorem Par.one {x x' : Lm} (h : Par x x') : ∀ i, Par (one x i) (one x' i)
  | 0 => h
  | i + 1 => .v i
/-- all that can be reduced at once -/
def dev : Lm → Lm
  | .v i => .v i
  | .c k h => .c k h
  | .a (.l b) x => sub (one (dev x)) (dev b)
  | .a (.v i) x => .a (.v i) (dev x)
  | .a (.c k h) x => .a (.c k h) (dev x)
  | .a (.a f y) x => .a (dev (.a f y)) (dev x)
  | .l b => .l (dev b)
theorem Par.dev {t t' : Lm} (h : Par t t') : Par t' (dev t) := by
  induction h with
  | v i => exact .v i
  | c k h => exact .c k h
  | @a f f' x x' hf hx ihf ihx =>
    cases f with
    | v i => cases hf; exact .a (.v i) ihx
    | c k h => cases hf; exact .a (.c k h) ihx
    | a g y => exact .a ihf ihx
    | l b =>
      cases hf with
      | l hb => 
        simp only [Cr.dev] at ihf ⊢
        cases ihf with
        | l h => exact .beta h ihx
  | l _ ih => exact .l ih
  | beta _ _ ihb ihx => exact ihb.sub (Par.one ihx)
inductive Ps : Lm → Lm → Prop where
  | refl (t : Lm) : Ps t t
  | step {t u x : Lm} : Par t u → Ps u x → Ps t x
theorem Ps.trans {t u x : Lm} (h : Ps t u) (k : Ps u x) : Ps t x := by
  induction h with
  | refl t => exact k
  | step p _ ih => exact .step p (ih k)
theorem Ps.of {t u : Lm} (h : Par t u) : Ps t u := .step h (.refl _)
theorem Ps.strip {t u x : Lm} (h : Ps t u) (p : Par t x) : ∃ y, Par u y ∧ Ps x y := by
  induction h generalizing x with
  | refl t => exact ⟨x, p, .refl _⟩
  | @step t t1 u q _ ih =>
    obtain ⟨y, h1, h2⟩ := ih q.dev
    exact ⟨y, h1, .step p.dev h2⟩
theorem Ps.conf {t u x : Lm} (h : Ps t u) (k : Ps t x) : ∃ y, Ps u y ∧ Ps x y := by
  induction k generalizing u with
  | refl t => exact ⟨u, .refl _, h⟩
  | @step t t1 x p _ ih =>
    obtain ⟨y, h1, h2⟩ := h.strip p
    obtain ⟨z, h3, h4⟩ := ih h2
    exact ⟨z, .step h1 h3, h4⟩
def lamL : Lm → Bool
  | .l _ => true
  | _ => false
def nf : Lm → Bool
  | .v _ => true
  | .c _ _ => true
  | .a f x => !lamL f && nf f && nf x
  | .l b => nf b
theorem Par.nf {t t' : Lm} (h : Par t t') : nf t = true → t' = t := by
  induction h with
  | v i => intro _; rfl
  | c k h => intro _; rfl
  | a _ _ ihf ihx => 
    intro e
    simp only [Cr.nf, Bool.and_eq_true] at e
    rw [ihf e.1.2, ihx e.2]
  | l _ ih => intro e; rw [ih e]
  | beta _ _ _ _ => intro e; simp [Cr.nf, lamL] at e
theorem Ps.nf {t u : Lm} (h : Ps t u) : nf t = true → u = t := by
  induction h with
  | refl t => intro _; rfl
  | step p _ ih => intro e; have := p.nf e; subst this; exact ih e
theorem Ps.same {t u x : Lm} (h : Ps t u) (k : Ps t x) (hu : Cr.nf u = true) (hx : Cr.nf x = true) : u = x := by
  obtain ⟨y, h1, h2⟩ := h.conf k
  rw [← h1.nf hu, h2.nf hx]
theorem Ps.a {f f' x x' : Lm} (h : Ps f f') (k : Ps x x') : Ps (.a f x) (.a f' x') := by
  induction h with
  | refl f =>
    induction k with
    | refl x => exact .refl _
    | step p _ ih => exact .step (.a (.refl _) p) ih
  | step p _ ih => exact .step (.a p (.refl _)) ih
theorem Ps.l {b b' : Lm} (h : Ps b b') : Ps (.l b) (.l b') := by
  induction h with
  | refl f => exact .refl _
  | step p _ ih => exact .step (.l p) ih
theorem Ps.ren {t t' : Lm} (h : Ps t t') (r : Nat → Nat) : Ps (ren r t) (ren r t') := by
  induction h with
  | refl f => exact .refl _
  | step p _ ih => exact .step (p.ren r) ih
theorem Ps.sub {t t' : Lm} (h : Ps t t') (s : Nat → Lm) : Ps (sub s t) (sub s t') := by
  induction h with
  | refl f => exact .refl _
  | step p _ ih => exact .step (p.sub fun i => .refl _) ih
theorem Ps.ups {s s' : Nat → Lm} (h : ∀ i, Ps (s i) (s' i)) : ∀ i, Ps (ups s i) (ups s' i)
  | 0 => .refl _
  | i + 1 => (h i).ren _
theorem Ps.subs (t : Lm) : ∀ {s s' : Nat → Lm}, (∀ i, Ps (s i) (s' i)) → Ps (Cr.sub s t) (Cr.sub s' t) := by
  induction t with
  | v i => intro s s' h; exact h i
  | c k h => intro s s' h; exact .refl _
  | a f x ihf ihx => intro s s' h; exact .a (ihf h) (ihx h)
  | l b ih => intro s s' h; exact .l (ih (Ps.ups h))
end Go.Proofs.Ytloeainlpcnhnaa.Cr
/-
  Terms as lambda terms with constants: what Apply and Spine tell is what they reduce to; what has nothing to reduce is normal; so two ways to it tell the same. No statement is proved here.
-/
namespace Go.Proofs.Ytloeainlpcnhnaa.Cr
open Go.RowKit
set_option linter.unusedVariables false
def apps : Lm → List Lm → Lm
  | f, [] => f
  | f, x :: xs => apps (.a f x) xs
def PsL : List Lm → List Lm → Prop
  | [], [] => True
  | x :: xs, y :: ys => Ps x y ∧ PsL xs ys
  | _, _ => False
theorem PsL.apps : ∀ {xs ys : List Lm} {f g : Lm}, Ps f g → PsL xs ys → Ps (Cr.apps f xs) (Cr.apps g ys)
  | [], [], _, _, h, _ => h
  | _ :: _, _ :: _, _, _, h, k => by
    have := PsL.apps (h.a k.1) k.2
    exact this
  | [], _ :: _, _, _, _, k => k.elim
  | _ :: _, [], _, _, _, k => k.elim
theorem PsL.refl : ∀ xs : List Lm, PsL xs xs
  | [] => trivial
  | x :: xs => ⟨.refl x, PsL.refl xs⟩
/-- the head of a node -/
def at0 (k h : Int) : Lm := if k = 4 then .v h.toNat else .c k h
def wrap1 (n : Nat) (x : Lm) : Lm := if n = 1 then .l x else x
mutual
def tr : T → Lm
  | .node k h xs => if k = 3 then (trL k xs.length xs 0).headD (.c 0 0) else apps (at0 k h) (trL k xs.length xs 0)
def trL (k : Int) (m : Nat) : List T → Nat → List Lm
  | [], _ => []
  | x :: xs, i => wrap1 (bdn k m i) (tr x) :: trL k m xs (i + 1)
end
theorem bdn_none {k : Int} (hk : k ≠ 1 ∧ k ≠ 3) (m i : Nat) : bdn k m i = 0 := by unfold bdn; rw [if_neg (by omega)]
theorem trL_map {k : Int} (hk : k ≠ 1 ∧ k ≠ 3) (m : Nat) : ∀ (xs : List T) (i : Nat), trL k m xs i = xs.map tr
  | [], _ => by rw [trL]; rfl
  | x :: xs, i => by rw [trL, bdn_none hk, trL_map hk m xs]; rfl
theorem tr_lam (h : Int) (x : T) : tr (.node 3 h [x]) = .l (tr x) := by
  rw [tr, if_pos rfl]
  simp [trL, bdn, wrap1]
theorem tr_app {k h : Int} (hk : k ≠ 1 ∧ k ≠ 3) (xs : List T) : tr (.node k h xs) = apps (at0 k h) (xs.map tr) := by
  rw [tr, if_neg hk.2, trL_map hk]
/-- what a substitution is -/
def sg (L : List T) (sh : Int) (i : Nat) : Lm := if L.length ≤ i then .v (i - L.length + sh.toNat) else tr (L.getD (L.length - 1 - i) (.node 0 0 []))
end Go.Proofs.Ytloeainlpcnhnaa.Cr
namespace Go.Proofs.Ytloeainlpcnhnaa
open Go.RowKit
end Go.Proofs.Ytloeainlpcnhnaa
/-
  Lambda terms with dependent types up to conversion: what has a type has it renamed, under substitutions, and reduced. No statement is proved here.
-/
namespace Go.Proofs.Ytloeainlpcnhnaa.Cr
open Go.RowKit
set_option linter.unusedVariables false
def Cv (t u : Lm) : Prop := ∃ x, Ps t x ∧ Ps u x
theorem Cv.refl (t : Lm) : Cv t t := ⟨t, .refl _, .refl _⟩
theorem Cv.symm {t u : Lm} (h : Cv t u) : Cv u t := by obtain ⟨x, h1, h2⟩ := h; exact ⟨x, h2, h1⟩
theorem Cv.trans {t u x : Lm} (h : Cv t u) (k : Cv u x) : Cv t x := by
  obtain ⟨y, h1, h2⟩ := h
  obtain ⟨z, h3, h4⟩ := k
  obtain ⟨q, h5, h6⟩ := h2.conf h3
  exact ⟨q, h1.trans h5, h4.trans h6⟩
theorem Cv.of {t u : Lm} (h : Ps t u) : Cv t u := ⟨u, h, .refl _⟩
theorem Cv.a {f f' x x' : Lm} (h : Cv f f') (k : Cv x x') : Cv (.a f x) (.a f' x') := by
  obtain ⟨y, h1, h2⟩ := h
  obtain ⟨z, h3, h4⟩ := k
  exact ⟨_, h1.a h3, h2.a h4⟩
theorem Cv.l {f f' : Lm} (h : Cv f f') : Cv (.l f) (.l f') := by
  obtain ⟨y, h1, h2⟩ := h
  exact ⟨_, h1.l, h2.l⟩
theorem Cv.ren {f f' : Lm} (h : Cv f f') (r : Nat → Nat) : Cv (ren r f) (ren r f') := by
  obtain ⟨y, h1, h2⟩ := h
  exact ⟨_, h1.ren r, h2.ren r⟩
theorem Cv.sub {f f' : Lm} (h : Cv f f') (s : Nat → Lm) : Cv (Cr.sub s f) (Cr.sub s f') := by
  obtain ⟨y, h1, h2⟩ := h
  exact ⟨_, h1.sub s, h2.sub s⟩
theorem Cv.one {x x' : Lm} (h : Cv x x') (t : Lm) : Cv (Cr.sub (Cr.one x) t) (Cr.sub (Cr.one x') t) := by
  obtain ⟨y, h1, h2⟩ := h
  refine ⟨Cr.sub (Cr.one y) t, Ps.subs t fun i => ?_, Ps.subs t fun i => ?_⟩
  · cases i with
    | zero => exact h1
    | succ i => exact .refl _
  · cases i with
    | zero => exact h2
    | succ i => exact .refl _
/-- what asks for A, and then is B -/
def pi (A B : Lm) : Lm := .a (.a (.c 1 0) A) (.l B)
theorem par_pi {A B C : Lm} (h : Par (pi A B) C) : ∃ A' B', C = pi A' B' ∧ Par A A' ∧ Par B B' := by
  unfold pi at h
  cases h with
  | a hf hx =>
    cases hf with
    | a h1 h2 =>
      cases h1
      cases hx with
      | l hb => exact ⟨_, _, rfl, h2, hb⟩
theorem ps_pi {t C : Lm} (h : Ps t C) : ∀ {A B : Lm}, t = pi A B → ∃ A' B', C = pi A' B' ∧ Ps A A' ∧ Ps B B' := by
  induction h with
  | refl t => intro A B e; exact ⟨A, B, e, .refl _, .refl _⟩
  | step p _ ih =>
    intro A B e
    subst e
    obtain ⟨A', B', e, h1, h2⟩ := par_pi p
    obtain ⟨A2, B2, e2, h3, h4⟩ := ih e
    exact ⟨A2, B2, e2, .step h1 h3, .step h2 h4⟩
theorem Cv.pi_inj {A B A' B' : Lm} (h : Cv (pi A B) (pi A' B')) : Cv A A' ∧ Cv B B' := by
  obtain ⟨C, h1, h2⟩ := h
  obtain ⟨A1, B1, rfl, a1, b1⟩ := ps_pi h1 rfl
  obtain ⟨A2, B2, e, a2, b2⟩ := ps_pi h2 rfl
  unfold pi at e
  injection e with e1 e2
  injection e1 with _ e3
  injection e2 with e4
  subst e3; subst e4
  exact ⟨⟨_, a1, a2⟩, ⟨_, b1, b2⟩⟩
theorem Cv.pi {A B A' B' : Lm} (h : Cv A A') (k : Cv B B') : Cv (Cr.pi A B) (Cr.pi A' B') := Cv.a (Cv.a (Cv.refl _) h) k.l
theorem ren_one (r : Nat → Nat) (x b : Lm) : ren r (sub (one x) b) = sub (one (ren r x)) (ren (upr r) b) := by
  rw [ren_sub, sub_ren]; apply sub_ext; intro i; cases i <;> rfl
theorem ups_ren (s : Nat → Lm) (t : Lm) : sub (ups s) (ren (· + 1) t) = ren (· + 1) (sub s t) := by
  rw [sub_ren, ren_sub]; rfl
/-- what nothing changes -/
def Clo (t : Lm) : Prop := ∀ s, sub s t = t
theorem Clo.ren {t : Lm} (h : Clo t) (r : Nat → Nat) : ren r t = t := by rw [ren_eq_sub]; exact h _
/-- constants have types of their own; types up to conversion; which types are in order is not asked -/
inductive Ty (K : Int → Int → Lm → Prop) : List Lm → Lm → Lm → Prop where
  | v {G : List Lm} {i : Nat} {A : Lm} : G[i]? = some A → Ty K G (.v i) (ren (fun j => j + (i + 1)) A)
  | c {G : List Lm} {k h : Int} {A : Lm} : K k h A → Ty K G (.c k h) A
  | a {G : List Lm} {f x A B : Lm} : Ty K G f (pi A B) → Ty K G x A → Ty K G (.a f x) (sub (one x) B)
  | l {G : List Lm} {b A B : Lm} : Ty K (A :: G) b B → Ty K G (.l b) (pi A B)
  | conv {G : List Lm} {t A A' : Lm} : Ty K G t A → Cv A A' → Ty K G t A'
def Rn (G G' : List Lm) (r : Nat → Nat) : Prop := ∀ i A, G[i]? = some A → ∃ A', G'[r i]? = some A' ∧ ren (fun j => j + (r i + 1)) A' = ren r (ren (fun j => j + (i + 1)) A)
theorem Rn.up {G G' : List Lm} {r : Nat → Nat} (h : Rn G G' r) (A : Lm) : Rn (A :: G) (ren r A :: G') (upr r) := fun i B hB => by
  cases i with
  | zero =>
    simp at hB
    subst hB
    exact ⟨_, rfl, by rw [ren_ren, ren_ren]; exact ren_ext (fun j => rfl) _⟩
  | succ i =>
    obtain ⟨A', h1, h2⟩ := h i B (by simpa using hB)
    refine ⟨A', by simpa [upr] using h1, ?_⟩
    have e := congrArg (ren (· + 1)) h2
    rw [ren_ren, ren_ren, ren_ren] at e
    rw [ren_ren]
    rw [show (fun j => j + (upr r (i + 1) + 1)) = (fun j => j + (r i + 1) + 1) from rfl, e]
    exact ren_ext (fun j => rfl) _
theorem Ty.ren {K : Int → Int → Lm → Prop} (hK : ∀ k h A, K k h A → Clo A) {G : List Lm} {t A : Lm} (h : Ty K G t A) : ∀ {G' : List Lm} {r : Nat → Nat}, Rn G G' r → Ty K G' (ren r t) (ren r A) := by
  induction h with
  | @v G i A hi =>
    intro G' r hr
    obtain ⟨A', h1, h2⟩ := hr i A hi
    rw [← h2]
    exact .v h1
  | c hk => intro G' r hr; rw [(hK _ _ _ hk).ren]; exact .c hk
  | a _ _ ihf ihx =>
    intro G' r hr
    rw [ren_one]
    exact .a (ihf hr) (ihx hr)
  | l _ ih => intro G' r hr; exact .l (ih (hr.up _))
  | conv _ hc ih => intro G' r hr; exact .conv (ih hr) (hc.ren r)
def Sb (K : Int → Int → Lm → Prop) (G G' : List Lm) (s : Nat → Lm) : Prop := ∀ i A, G[i]? = some A → Ty K G' (s i) (sub s (ren (fun j => j + (i + 1)) A))
theorem rn_one (G : List Lm) (A : Lm) : Rn G (A :: G) (· + 1) := fun i B hB => ⟨B, by simpa using hB, by rw [ren_ren]; exact ren_ext (fun j => rfl) _⟩
theorem Sb.up {K : Int → Int → Lm → Prop} (hK : ∀ k h A, K k h A → Clo A) {G G' : List Lm} {s : Nat → Lm} (h : Sb K G G' s) (A : Lm) : Sb K (A :: G) (sub s A :: G') (ups s) := fun i B hB => by
  cases i with
  | zero =>
    simp at hB
    subst hB
    have e : sub (ups s) (ren (fun j => j + (0 + 1)) A) = ren (fun j => j + (0 + 1)) (sub s A) := ups_ren s A
    rw [e]
    exact .v rfl
  | succ i =>
    have h1 := (h i B (by simpa using hB)).ren hK (rn_one G' (sub s A))
    have e : sub (ups s) (ren (fun j => j + (i + 1 + 1)) B) = ren (· + 1) (sub s (ren (fun j => j + (i + 1)) B)) := by
      rw [← ups_ren, ren_ren]
      congr 1
    rw [e]
    exact h1
theorem Ty.sub {K : Int → Int → Lm → Prop} (hK : ∀ k h A, K k h A → Clo A) {G : List Lm} {t A : Lm} (h : Ty K G t A) : ∀ {G' : List Lm} {s : Nat → Lm}, Sb K G G' s → Ty K G' (sub s t) (sub s A) := by
  induction h with
  | v hi => intro G' s hs; exact hs _ _ hi
  | c hk => intro G' s hs; rw [hK _ _ _ hk]; exact .c hk
  | a _ _ ihf ihx =>
    intro G' s hs
    rw [sub_one]
    exact .a (ihf hs) (ihx hs)
  | l _ ih => intro G' s hs; exact .l (ih (hs.up hK _))
  | conv _ hc ih => intro G' s hs; exact .conv (ih hs) (hc.sub s)
theorem sb_one {K : Int → Int → Lm → Prop} {G : List Lm} {x A : Lm} (h : Ty K G x A) : Sb K (A :: G) G (one x) := fun i B hB => by
  cases i with
  | zero =>
    simp at hB
    subst hB
    have e : sub (one x) (ren (fun j => j + (0 + 1)) A) = A := by rw [sub_ren]; exact sub_v A
    rw [e]
    exact h
  | succ i =>
    have e : sub (one x) (ren (fun j => j + (i + 1 + 1)) B) = ren (fun j => j + (i + 1)) B := by rw [sub_ren, ren_eq_sub]; rfl
    rw [e]
    exact .v (by simpa using hB)
/-- contexts up to conversion -/
def CvG : List Lm → List Lm → Prop
  | [], [] => True
  | A :: G, B :: G' => Cv A B ∧ CvG G G'
  | _, _ => False
theorem CvG.refl : ∀ G, CvG G G
  | [] => trivial
  | A :: G => ⟨Cv.refl A, CvG.refl G⟩
theorem CvG.at_ : ∀ {G G' : List Lm} {i : Nat} {A : Lm}, CvG G G' → G[i]? = some A → ∃ A', G'[i]? = some A' ∧ Cv A A'
  | A :: G, B :: G', 0, C, h, e => by simp at e; subst e; exact ⟨B, rfl, h.1⟩
  | A :: G, B :: G', i + 1, C, h, e => by
    obtain ⟨A', h1, h2⟩ := CvG.at_ (i := i) h.2 (by simpa using e)
    exact ⟨A', by simpa using h1, h2⟩
  | [], _, _, _, _, e => by simp at e
  | A :: G, [], _, _, h, _ => h.elim
/-! ### How something came to its type -/
theorem Ty.gen_a {K : Int → Int → Lm → Prop} {G : List Lm} {t C : Lm} (h : Ty K G t C) : ∀ {f x : Lm}, t = .a f x → ∃ A B, Ty K G f (Cr.pi A B) ∧ Ty K G x A ∧ Cv C (Cr.sub (one x) B) := by
  induction h with
  | v _ => intro f x e; cases e
  | c _ => intro f x e; cases e
  | a hf hx _ _ => intro f x e; cases e; exact ⟨_, _, hf, hx, Cv.refl _⟩
  | l _ _ => intro f x e; cases e
  | conv _ hc ih =>
    intro f x e
    obtain ⟨A, B, h1, h2, h3⟩ := ih e
    exact ⟨A, B, h1, h2, hc.symm.trans h3⟩
theorem Ty.gen_l {K : Int → Int → Lm → Prop} {G : List Lm} {t C : Lm} (h : Ty K G t C) : ∀ {b : Lm}, t = .l b → ∃ A B, Ty K (A :: G) b B ∧ Cv C (Cr.pi A B) := by
  induction h with
  | v _ => intro b e; cases e
  | c _ => intro b e; cases e
  | a _ _ _ _ => intro b e; cases e
  | l hb _ => intro b e; cases e; exact ⟨_, _, hb, Cv.refl _⟩
  | conv _ hc ih =>
    intro b e
    obtain ⟨A, B, h1, h3⟩ := ih e
    exact ⟨A, B, h1, hc.symm.trans h3⟩
/-- what is reduced has the type -/
theorem Ty.par {K : Int → Int → Lm → Prop} (hK : ∀ k h A, K k h A → Clo A) {t t' : Lm} (p : Par t t') : ∀ {G : List Lm} {C : Lm}, Ty K G t C → Ty K G t' C := by
  induction p with
  | v i => intro G C h; exact h
  | c k h => intro G C h; exact h
  | @a f f' x x' _ hx ihf ihx =>
    intro G C h
    obtain ⟨A, B, h1, h2, h3⟩ := h.gen_a rfl
    exact .conv (.a (ihf h1) (ihx h2)) ((Cv.one (Cv.of (Ps.of hx)) B).symm.trans h3.symm)
  | l _ ih =>
    intro G C h
    obtain ⟨A, B, h1, h2⟩ := h.gen_l rfl
    exact .conv (.l (ih h1)) h2.symm
  | @beta b b' x x' _ hx ihb ihx =>
    intro G C h
    obtain ⟨A, B, h1, h2, h3⟩ := h.gen_a rfl
    obtain ⟨A1, B1, h4, h5⟩ := h1.gen_l rfl
    obtain ⟨h6, h7⟩ := h5.pi_inj
    have h8 := (ihb h4).sub hK (sb_one (.conv (ihx h2) h6))
    exact .conv h8 (((Cv.one (Cv.of (Ps.of hx)) B1).symm.trans (h7.symm.sub _)).trans h3.symm)
theorem Ty.ps {K : Int → Int → Lm → Prop} (hK : ∀ k h A, K k h A → Clo A) {t t' : Lm} (p : Ps t t') : ∀ {G : List Lm} {C : Lm}, Ty K G t C → Ty K G t' C := by
  induction p with
  | refl t => intro G C h; exact h
  | step p _ ih => intro G C h; exact ih (h.par hK p)
/-- a spine, up to conversion -/
def Spn (K : Int → Int → Lm → Prop) (G : List Lm) : Lm → List Lm → Lm → Prop
  | t, [], C => Cv t C
  | t, x :: xs, C => ∃ A B, Cv t (pi A B) ∧ Ty K G x A ∧ Spn K G (sub (one x) B) xs C
theorem Spn.cv {K : Int → Int → Lm → Prop} {G : List Lm} : ∀ {xs : List Lm} {t t' C : Lm}, Cv t' t → Spn K G t xs C → Spn K G t' xs C
  | [], _, _, _, h, k => h.trans k
  | x :: xs, _, _, _, h, k => by
    obtain ⟨A, B, h1, h2, h3⟩ := k
    exact ⟨A, B, h.trans h1, h2, h3⟩
theorem Spn.of {K : Int → Int → Lm → Prop} {G : List Lm} : ∀ {xs : List Lm} {f C : Lm}, Ty K G (apps f xs) C → ∃ t, Ty K G f t ∧ Spn K G t xs C
  | [], f, C, h => ⟨C, h, Cv.refl _⟩
  | x :: xs, f, C, h => by
    obtain ⟨t, h1, h2⟩ := Spn.of (xs := xs) (f := .a f x) h
    obtain ⟨A, B, h3, h4, h5⟩ := h1.gen_a rfl
    exact ⟨_, h3, A, B, Cv.refl _, h4, h2.cv h5.symm⟩
end Go.Proofs.Ytloeainlpcnhnaa.Cr
/-
  Simple types: what a term's arguments are, functions or not; what is put for variables keeps them, so that nothing but a function is applied. No statement is proved here.
-/
namespace Go.Proofs.Ytloeainlpcnhnaa
open Go.RowKit
set_option linter.unusedVariables false
/-- simple types -/
inductive S0 where
  | o : S0
  | r (a b : S0) : S0
mutual
def er : T → S0
  | .node k _ xs => if k = 1 then erL xs else .o
def erL : List T → S0
  | [] => .o
  | x :: xs => erM (er x) xs
def erM (s : S0) : List T → S0
  | [] => .o
  | y :: _ => .r s (er y)
end
mutual
inductive StT (C : Int → Int → Option S0) : List S0 → T → S0 → Prop where
  | lam {G : List S0} {h : Int} {x : T} {a b : S0} : StT C (a :: G) x b → StT C G (.node 3 h [x]) (.r a b)
  | var {G : List S0} {h : Int} {xs : List T} {s : S0} : 0 ≤ h → G[h.toNat]? = some s → StS C G xs s → StT C G (.node 4 h xs) .o
  | con {G : List S0} {k h : Int} {xs : List T} {s : S0} : k = 5 ∨ k = 6 → C k h = some s → StS C G xs s → StT C G (.node k h xs) .o
inductive StS (C : Int → Int → Option S0) : List S0 → List T → S0 → Prop where
  | nil {G : List S0} : StS C G [] .o
  | cons {G : List S0} {x : T} {xs : List T} {a b : S0} : StT C G x a → StS C G xs b → StS C G (x :: xs) (.r a b)
end
/-- what is a type (true), or a kind (false), as far as simple types tell -/
inductive Wf (C : Int → Int → Option S0) : Bool → List S0 → T → Prop where
  | sort {G : List S0} {h : Int} : Wf C false G (.node 0 h [])
  | pi {b : Bool} {G : List S0} {h : Int} {x y : T} : Wf C true G x → Wf C b (er x :: G) y → Wf C b G (.node 1 h [x, y])
  | fam {G : List S0} {h : Int} {xs : List T} {s : S0} : C 2 h = some s → StS C G xs s → Wf C true G (.node 2 h xs)
theorem StS.map {C C' : Int → Int → Option S0} {G G' : List S0} {f : T → T} : ∀ {xs : List T} {s : S0}, (∀ x ∈ xs, ∀ a, StT C G x a → StT C' G' (f x) a) → StS C G xs s → StS C' G' (xs.map f) s
  | [], s, _, h => by cases h; exact .nil
  | x :: xs, s, hf, h => by
    cases h with
    | cons h1 h2 => exact .cons (hf x (List.mem_cons_self ..) _ h1) (StS.map (fun y hy => hf y (List.mem_cons_of_mem _ hy)) h2)
/-- more is known of -/
theorem StT.more {C C' : Int → Int → Option S0} (hC : ∀ k h s, C k h = some s → C' k h = some s) (t : T) : ∀ {G G' : List S0} {a : S0}, (∀ (i : Nat) (s : S0), G[i]? = some s → G'[i]? = some s) → StT C G t a → StT C' G' t a := by
  induction t using T.ind with
  | step k h xs ih =>
    intro G G' a hG ht
    have hsp : ∀ {s : S0}, StS C G xs s → StS C' G' xs s := fun hs => by
      have := hs.map (C' := C') (G' := G') (f := id) (fun x hx b hb => ih x hx hG hb)
      simpa using this
    cases ht with
    | lam hb =>
      refine .lam (ih _ (List.mem_cons_self ..) (fun i s hi => ?_) hb)
      cases i with
      | zero => exact hi
      | succ i => exact hG i s hi
    | var h0 hg hs => exact .var h0 (hG _ _ hg) (hsp hs)
    | con hk hc hs => exact .con hk (hC _ _ _ hc) (hsp hs)
theorem StS.more {C C' : Int → Int → Option S0} (hC : ∀ k h s, C k h = some s → C' k h = some s) {G G' : List S0} (hG : ∀ (i : Nat) (s : S0), G[i]? = some s → G'[i]? = some s) {xs : List T} {s : S0} (h : StS C G xs s) : StS C' G' xs s := by
  have := h.map (C' := C') (G' := G') (f := id) (fun x hx b hb => hb.more hC x hG)
  simpa using this
theorem Wf.more {C C' : Int → Int → Option S0} (hC : ∀ k h s, C k h = some s → C' k h = some s) {b : Bool} {G : List S0} {t : T} (h : Wf C b G t) : ∀ {G' : List S0}, (∀ (i : Nat) (s : S0), G[i]? = some s → G'[i]? = some s) → Wf C' b G' t := by
  induction h with
  | sort => intro G' _; exact .sort
  | pi _ _ ih1 ih2 =>
    intro G' hG
    refine .pi (ih1 hG) (ih2 fun i s hi => ?_)
    cases i with
    | zero => exact hi
    | succ i => exact hG i s hi
  | fam hc hs => intro G' hG; exact .fam (hC _ _ _ hc) (hs.more hC hG)
/-! ### Up -/
theorem up_lamS {b h : Int} {x : T} {c : Int} : upT b (.node 3 h [x]) c = .node 3 h [upT b x (c + 1)] := by
  simp [upT, upL, bd]
theorem up_piS {b h : Int} {x y : T} {c : Int} : upT b (.node 1 h [x, y]) c = .node 1 h [upT b x c, upT b y (c + 1)] := by
  simp [upT, upL, bd]
theorem up_flatS {b k h c : Int} {xs : List T} (hk : k ≠ 1 ∧ k ≠ 3) : upT b (.node k h xs) c = .node k (if k = 4 ∧ c ≤ h then h + b else h) (xs.map fun x => upT b x c) := by
  have key : ∀ (n : Nat) (ys : List T) (i : Nat), upL b k n ys i c = ys.map fun x => upT b x c := by
    intro n ys
    induction ys with
    | nil => intro i; rw [upL]; rfl
    | cons y ys ih => intro i; rw [upL, ih, bd_var hk, Int.add_zero]; rfl
  rw [upT, key]
theorem look_mid {D E G : List S0} {i : Nat} {s : S0} (h : (D ++ G)[i]? = some s) : (D ++ (E ++ G))[if D.length ≤ i then i + E.length else i]? = some s := by
  by_cases hi : D.length ≤ i
  · rw [if_pos hi, List.getElem?_append_right (by omega), List.getElem?_append_right (by omega)]
    rw [List.getElem?_append_right hi] at h
    rw [show i + E.length - D.length - E.length = i - D.length by omega]
    exact h
  · rw [if_neg hi, List.getElem?_append_left (by omega)]
    rwa [List.getElem?_append_left (by omega)] at h
theorem StT.up {C : Int → Int → Option S0} {E : List S0} (t : T) : ∀ {D G : List S0} {a : S0}, StT C (D ++ G) t a → StT C (D ++ (E ++ G)) (upT E.length t D.length) a := by
  induction t using T.ind with
  | step k h xs ih =>
    intro D G a ht
    have hsp : ∀ {s : S0}, StS C (D ++ G) xs s → StS C (D ++ (E ++ G)) (xs.map fun x => upT E.length x D.length) s := fun hs => hs.map fun x hx b hb => ih x hx hb
    cases ht with
    | @lam _ _ x a b hb =>
      rw [up_lamS]
      have := ih x (List.mem_cons_self ..) (D := a :: D) hb
      rw [List.length_cons, Int.natCast_add] at this
      exact .lam this
    | var h0 hg hs =>
      rw [up_flatS (by omega)]
      have hl := look_mid (E := E) hg
      refine .var (by split <;> omega) ?_ (hsp hs)
      by_cases hd : (D.length : Int) ≤ h
      · rw [if_pos ⟨rfl, hd⟩]
        rw [if_pos (by omega)] at hl
        rw [show (h + (E.length : Int)).toNat = h.toNat + E.length by omega]
        exact hl
      · rw [if_neg (fun e => hd e.2)]
        rwa [if_neg (by omega)] at hl
    | con hk hc hs =>
      rw [up_flatS (by omega), if_neg (by omega)]
      exact .con hk hc (hsp hs)
theorem StS.up {C : Int → Int → Option S0} {E D G : List S0} {xs : List T} {s : S0} (h : StS C (D ++ G) xs s) : StS C (D ++ (E ++ G)) (xs.map fun x => upT E.length x D.length) s := h.map fun x hx b hb => hb.up x
mutual
theorem er_up {b : Int} : ∀ (t : T) (c : Int), er (upT b t c) = er t
  | .node k h xs, c => by
    rw [upT, er, er]
    by_cases hk : k = 1
    · rw [if_pos hk, if_pos hk]; exact er_upL k xs.length xs 0 c
    · rw [if_neg hk, if_neg hk]
theorem er_upL {b : Int} (k : Int) (n : Nat) : ∀ (xs : List T) (i : Nat) (c : Int), erL (upL b k n xs i c) = erL xs
  | [], _, _ => by rw [upL]
  | x :: xs, i, c => by rw [upL, erL, erL, er_up x, er_upM k n (er x) xs]
theorem er_upM {b : Int} (k : Int) (n : Nat) (s : S0) : ∀ (xs : List T) (i : Nat) (c : Int), erM s (upL b k n xs i c) = erM s xs
  | [], _, _ => by rw [upL]
  | x :: xs, i, c => by rw [upL, erM, erM, er_up x]
end
theorem Wf.up {C : Int → Int → Option S0} {E : List S0} {b : Bool} {H : List S0} {t : T} (h : Wf C b H t) : ∀ {D G : List S0}, H = D ++ G → Wf C b (D ++ (E ++ G)) (upT E.length t D.length) := by
  induction h with
  | sort => intro D G e; rw [up_flatS (by omega), if_neg (by omega)]; exact .sort
  | @pi b H h x y _ _ ih1 ih2 =>
    intro D G e
    subst e
    rw [up_piS]
    have h2 := ih2 (D := er x :: D) (G := G) rfl
    rw [List.length_cons, Int.natCast_add] at h2
    refine .pi (ih1 rfl) ?_
    rw [er_up]
    exact h2
  | fam hc hs =>
    intro D G e
    subst e
    rw [up_flatS (by omega), if_neg (by omega)]
    exact .fam hc hs.up
end Go.Proofs.Ytloeainlpcnhnaa
/-
  Contract of the laws' own good, with no bound on Heads: what is in order has low ones. No statement is proved here.
-/
namespace Go.Proofs.Ytloeainlpcnhnaa
open Go.ChangeShapes Go.WideShapes Go.ChangeAt Go.RowKit
set_option linter.unusedVariables false
def AllLo (l : List T) : Prop := ∀ t ∈ l, okT loV t
theorem AllLo.snoc {l : List T} {x : T} (h : AllLo l) (hx : okT loV x) : AllLo (l ++ [x]) := fun t ht => by
  rcases List.mem_append.1 ht with ht | ht
  · exact h t ht
  · rw [List.mem_singleton.1 ht]; exact hx
end Go.Proofs.Ytloeainlpcnhnaa
/-
  What is checked has its simple type, and its type up to conversion, where there are no metas. No statement is proved here.
-/
namespace Go.Proofs.Ytloeainlpcnhnaa
open Go.RowKit
set_option linter.unusedVariables false
/-- simple types of constants, and of families -/
def cS (sg : List T) (k h : Int) : Option S0 :=
  if 0 ≤ h then (match sg[h.toNat]? with
    | some t => if (k = 2 ∧ kiB t = true) ∨ (k = 5 ∧ kiB t = false) then some (er t) else none
    | none => none) else none
def gS (cx : List T) : List S0 := (cx.map er).reverse
/-- entries that are types, each behind those ahead -/
def WfX (sg cx : List T) : Prop := ∀ i x, cx[i]? = some x → nodB x = true ∧ Wf (cS sg) true (gS (cx.take i)) x
def SgX (sg : List T) : Prop := ∀ t ∈ sg, nodB t = true ∧ (kiB t = true → Wf (cS sg) false [] t) ∧ (kiB t = false → Wf (cS sg) true [] t)
theorem WfX.snoc {sg cx : List T} {a : T} (h : WfX sg cx) (hn : nodB a = true) (ha : Wf (cS sg) true (gS cx) a) : WfX sg (cx ++ [a]) := fun i x hx => by
  by_cases hi : i < cx.length
  · rw [List.getElem?_append_left hi] at hx
    rw [List.take_append_of_le_length (by omega)]
    exact h i x hx
  · have hl := (List.getElem?_eq_some_iff.1 hx).1
    rw [List.length_append, List.length_singleton] at hl
    obtain rfl : i = cx.length := by omega
    rw [List.getElem?_append_right (Nat.le_refl _), Nat.sub_self] at hx
    simp at hx
    subst hx
    rw [List.take_left']
    · exact ⟨hn, ha⟩
    · rfl
/-- an entry, up, in all of the context -/
theorem WfX.up {sg cx : List T} (h : WfX sg cx) {i : Nat} {x : T} (hx : cx[i]? = some x) : Wf (cS sg) true (gS cx) (upT ((cx.length - i : Nat) : Int) x 0) := by
  have hi := (List.getElem?_eq_some_iff.1 hx).1
  have e : gS cx = ((cx.drop i).map er).reverse ++ gS (cx.take i) := by
    unfold gS
    rw [← List.reverse_append, ← List.map_append, List.take_append_drop]
  have := (h i x hx).2.up (E := ((cx.drop i).map er).reverse) (D := []) rfl
  simp only [List.nil_append, List.length_reverse, List.length_map, List.length_drop, List.length_nil] at this
  rw [e]
  exact this
end Go.Proofs.Ytloeainlpcnhnaa
/-
  Contract of check.Term where there are no metas: terms of any Heads. No statement is proved here.
-/
namespace Go.Proofs.Ytloeainlpcnhnaa
open Go.ChangeShapes Go.WideShapes Go.ChangeAt Go.RowKit
set_option linter.unusedVariables false
end Go.Proofs.Ytloeainlpcnhnaa
/-
  With one entry more behind, and all up by one, a term has its type still. No statement is proved here.
-/
namespace Go.Proofs.Ytloeainlpcnhnaa
open Go.RowKit
set_option linter.unusedVariables false
end Go.Proofs.Ytloeainlpcnhnaa
/-
  With one entry more behind, and all up by one, a term has its type still: what is told of types. No statement is proved here.
-/
namespace Go.Proofs.Ytloeainlpcnhnaa
open Go.RowKit
set_option linter.unusedVariables false
end Go.Proofs.Ytloeainlpcnhnaa
/-
  The walk of the law CheckFront.
-/
namespace Go.Proofs.Ytloeainlpcnhnaa
open Go.ChangeShapes Go.WideShapes Go.ChangeAt Go.RowKit
set_option linter.unusedVariables false
end Go.Proofs.Ytloeainlpcnhnaa
/-
  Types up to conversion and simple types together tell of a term that nothing reduces in that it is checked, but for what is too great; so a term put for a variable keeps types. No statement is proved here.
-/
namespace Go.Proofs.Ytloeainlpcnhnaa
open Go.RowKit
set_option linter.unusedVariables false
/-! ### Closed terms -/
def clL : Nat → Cr.Lm → Prop
  | n, .v i => i < n
  | _, .c _ _ => True
  | n, .a f x => clL n f ∧ clL n x
  | n, .l b => clL (n + 1) b
theorem clL_apps : ∀ {xs : List Cr.Lm} {f : Cr.Lm} {n : Nat}, clL n f → (∀ x ∈ xs, clL n x) → clL n (Cr.apps f xs)
  | [], _, _, h, _ => h
  | x :: xs, f, n, h, hx => clL_apps (xs := xs) (f := .a f x) ⟨h, hx x (by simp)⟩ fun y hy => hx y (by simp [hy])
def gT (cx : List T) : List Cr.Lm := (cx.map Cr.tr).reverse
theorem sb_one {x : T} (hx : myB x = true) : sbB [x] 0 = true := sb_of (by simp) (by omega) (fun y hy => by rw [List.mem_singleton.1 hy]; exact hx)
end Go.Proofs.Ytloeainlpcnhnaa
