/-
  Texts of one proof, put together. No statement is proved here.
-/
import Derived.Test.YtelicajhamgibaaGreatPb
import Derived.Test.YtelicajhamgibaaGreatWi
import Derived.Test.YtelicajhamgibaaGreatPd
import Derived.Test.YtelicajhamgibaaGreatPkB
import Derived.Test.YtelicajhamgibaaGreatPkJe
import Derived.Test.YtelicajhamgibaaGreatPkK
import Derived.Test.YtelicajhamgibaaGreatPkFu

/-
  Lambda terms with constants, reduced in parallel: two ways meet again (Church and Rosser, by Takahashi's complete development). No statement is proved here.
-/
namespace Go.Proofs.YtelicajhamgibaaGreat.Cr
set_option linter.unusedVariables false

inductive Lm where
  | v (i : Nat) : Lm
  | c (k h : Int) : Lm
  | a (f x : Lm) : Lm
  | l (b : Lm) : Lm

def upr (r : Nat → Nat) : Nat → Nat
  | 0 => 0
  | i + 1 => r i + 1
def ren : (Nat → Nat) → Lm → Lm
  | r, .v i => .v (r i)
  | _, .c k h => .c k h
  | r, .a f x => .a (ren r f) (ren r x)
  | r, .l b => .l (ren (upr r) b)
def ups (s : Nat → Lm) : Nat → Lm
  | 0 => .v 0
  | i + 1 => ren (· + 1) (s i)
def sub : (Nat → Lm) → Lm → Lm
  | s, .v i => s i
  | _, .c k h => .c k h
  | s, .a f x => .a (sub s f) (sub s x)
  | s, .l b => .l (sub (ups s) b)
def one (x : Lm) : Nat → Lm
  | 0 => x
  | i + 1 => .v i

theorem ren_ext {r r' : Nat → Nat} (h : ∀ i, r i = r' i) (t : Lm) : ren r t = ren r' t := by
  induction t generalizing r r' with
  | v i => simp only [ren, h]
  | c k h => rfl
  | a f x ihf ihx => simp only [ren, ihf h, ihx h]
  | l b ih => simp only [ren]; rw [ih (r' := upr r')]; intro i; cases i <;> simp [upr, h]
theorem sub_ext {s s' : Nat → Lm} (h : ∀ i, s i = s' i) (t : Lm) : sub s t = sub s' t := by
  induction t generalizing s s' with
  | v i => exact h i
  | c k h => rfl
  | a f x ihf ihx => simp only [sub, ihf h, ihx h]
  | l b ih => simp only [sub]; rw [ih (s' := ups s')]; intro i; cases i <;> simp [ups, h]
theorem ren_ren (r r' : Nat → Nat) (t : Lm) : ren r' (ren r t) = ren (fun i => r' (r i)) t := by
  induction t generalizing r r' with
  | v i => rfl
  | c k h => rfl
  | a f x ihf ihx => simp only [ren, ihf, ihx]
  | l b ih => simp only [ren, ih]; congr 1; apply ren_ext; intro i; cases i <;> rfl
theorem sub_ren (r : Nat → Nat) (s : Nat → Lm) (t : Lm) : sub s (ren r t) = sub (fun i => s (r i)) t := by
  induction t generalizing r s with
  | v i => rfl
  | c k h => rfl
  | a f x ihf ihx => simp only [ren, sub, ihf, ihx]
  | l b ih => simp only [ren, sub, ih]; congr 1; apply sub_ext; intro i; cases i <;> rfl
theorem ren_sub (s : Nat → Lm) (r : Nat → Nat) (t : Lm) : ren r (sub s t) = sub (fun i => ren r (s i)) t := by
  induction t generalizing r s with
  | v i => rfl
  | c k h => rfl
  | a f x ihf ihx => simp only [ren, sub, ihf, ihx]
  | l b ih =>
    simp only [ren, sub, ih]; congr 1; apply sub_ext; intro i
    cases i with
    | zero => rfl
    | succ i => simp only [ups, ren_ren]; apply ren_ext; intro j; rfl
theorem sub_sub (s u : Nat → Lm) (t : Lm) : sub u (sub s t) = sub (fun i => sub u (s i)) t := by
  induction t generalizing s u with
  | v i => rfl
  | c k h => rfl
  | a f x ihf ihx => simp only [sub, ihf, ihx]
  | l b ih =>
    simp only [sub, ih]; congr 1; apply sub_ext; intro i
    cases i with
    | zero => rfl
    | succ i => simp only [ups, sub_ren, ren_sub]
theorem sub_v (t : Lm) : sub .v t = t := by
  induction t with
  | v i => rfl
  | c k h => rfl
  | a f x ihf ihx => simp only [sub, ihf, ihx]
  | l b ih => simp only [sub]; congr 1; rw [sub_ext (s' := .v)]; exact ih; intro i; cases i <;> rfl
theorem ren_eq_sub (r : Nat → Nat) (t : Lm) : ren r t = sub (fun i => .v (r i)) t := by
  have := ren_sub .v r t
  rw [sub_v] at this
  exact this

/-- what is put for 0, behind a substitution -/
theorem sub_one (s : Nat → Lm) (x b : Lm) : sub s (sub (one x) b) = sub (one (sub s x)) (sub (ups s) b) := by
  rw [sub_sub, sub_sub]
  apply sub_ext
  intro i
  cases i with
  | zero => rfl
  | succ i => simp only [one, ups, sub, sub_ren]; rw [sub_v]

inductive Par : Lm → Lm → Prop where
  | v (i : Nat) : Par (.v i) (.v i)
  | c (k h : Int) : Par (.c k h) (.c k h)
  | a {f f' x x' : Lm} : Par f f' → Par x x' → Par (.a f x) (.a f' x')
  | l {b b' : Lm} : Par b b' → Par (.l b) (.l b')
  | beta {b b' x x' : Lm} : Par b b' → Par x x' → Par (.a (.l b) x) (sub (one x') b')
theorem Par.refl : ∀ t : Lm, Par t t
  | .v i => .v i
  | .c k h => .c k h
  | .a f x => .a (Par.refl f) (Par.refl x)
  | .l b => .l (Par.refl b)
theorem Par.ren {t t' : Lm} (h : Par t t') : ∀ r, Par (ren r t) (ren r t') := by
  induction h with
  | v i => intro r; exact .v _
  | c k h => intro r; exact .c _ _
  | a _ _ ihf ihx => intro r; exact .a (ihf r) (ihx r)
  | l _ ih => intro r; exact .l (ih _)
  | @beta b b' x x' _ _ ihb ihx =>
    intro r
    have e : Cr.ren r (sub (one x') b') = sub (one (Cr.ren r x')) (Cr.ren (upr r) b') := by
      rw [ren_sub, sub_ren]; apply sub_ext; intro i; cases i <;> rfl
    rw [e]
    exact .beta (ihb _) (ihx r)
theorem Par.ups {s s' : Nat → Lm} (h : ∀ i, Par (s i) (s' i)) : ∀ i, Par (ups s i) (ups s' i)
  | 0 => .v 0
  | i + 1 => (h i).ren _
theorem Par.sub {t t' : Lm} (h : Par t t') : ∀ {s s' : Nat → Lm}, (∀ i, Par (s i) (s' i)) → Par (sub s t) (sub s' t') := by
  induction h with
  | v i => intro s s' hs; exact hs i
  | c k h => intro s s' hs; exact .c _ _
  | a _ _ ihf ihx => intro s s' hs; exact .a (ihf hs) (ihx hs)
  | l _ ih => intro s s' hs; exact .l (ih (Par.ups hs))
  | @beta b b' x x' _ _ ihb ihx =>
    intro s s' hs
    rw [sub_one]
    exact .beta (ihb (Par.ups hs)) (ihx hs)
theorem Par.one {x x' : Lm} (h : Par x x') : ∀ i, Par (one x i) (one x' i)
  | 0 => h
  | i + 1 => .v i
/-- all that can be reduced at once -/
def dev : Lm → Lm
  | .v i => .v i
  | .c k h => .c k h
  | .a (.l b) x => sub (one (dev x)) (dev b)
  | .a (.v i) x => .a (.v i) (dev x)
  | .a (.c k h) x => .a (.c k h) (dev x)
  | .a (.a f y) x => .a (dev (.a f y)) (dev x)
  | .l b => .l (dev b)
theorem Par.dev {t t' : Lm} (h : Par t t') : Par t' (dev t) := by
  induction h with
  | v i => exact .v i
  | c k h => exact .c k h
  | @a f f' x x' hf hx ihf ihx =>
    cases f with
    | v i => cases hf; exact .a (.v i) ihx
    | c k h => cases hf; exact .a (.c k h) ihx
    | a g y => exact .a ihf ihx
    | l b =>
      cases hf with
      | l hb => 
        simp only [Cr.dev] at ihf ⊢
        cases ihf with
        | l h => exact .beta h ihx
  | l _ ih => exact .l ih
  | beta _ _ ihb ihx => exact ihb.sub (Par.one ihx)
inductive Ps : Lm → Lm → Prop where
  | refl (t : Lm) : Ps t t
  | step {t u x : Lm} : Par t u → Ps u x → Ps t x
theorem Ps.trans {t u x : Lm} (h : Ps t u) (k : Ps u x) : Ps t x := by
  induction h with
  | refl t => exact k
  | step p _ ih => exact .step p (ih k)
theorem Ps.of {t u : Lm} (h : Par t u) : Ps t u := .step h (.refl _)
theorem Ps.strip {t u x : Lm} (h : Ps t u) (p : Par t x) : ∃ y, Par u y ∧ Ps x y := by
  induction h generalizing x with
  | refl t => exact ⟨x, p, .refl _⟩
  | @step t t1 u q _ ih =>
    obtain ⟨y, h1, h2⟩ := ih q.dev
    exact ⟨y, h1, .step p.dev h2⟩
theorem Ps.conf {t u x : Lm} (h : Ps t u) (k : Ps t x) : ∃ y, Ps u y ∧ Ps x y := by
  induction k generalizing u with
  | refl t => exact ⟨u, .refl _, h⟩
  | @step t t1 x p _ ih =>
    obtain ⟨y, h1, h2⟩ := h.strip p
    obtain ⟨z, h3, h4⟩ := ih h2
    exact ⟨z, .step h1 h3, h4⟩
def lamL : Lm → Bool
  | .l _ => true
  | _ => false
def nf : Lm → Bool
  | .v _ => true
  | .c _ _ => true
  | .a f x => !lamL f && nf f && nf x
  | .l b => nf b
theorem Par.nf {t t' : Lm} (h : Par t t') : nf t = true → t' = t := by
  induction h with
  | v i => intro _; rfl
  | c k h => intro _; rfl
  | a _ _ ihf ihx => 
    intro e
    simp only [Cr.nf, Bool.and_eq_true] at e
    rw [ihf e.1.2, ihx e.2]
  | l _ ih => intro e; rw [ih e]
  | beta _ _ _ _ => intro e; simp [Cr.nf, lamL] at e
theorem Ps.nf {t u : Lm} (h : Ps t u) : nf t = true → u = t := by
  induction h with
  | refl t => intro _; rfl
  | step p _ ih => intro e; have := p.nf e; subst this; exact ih e
theorem Ps.same {t u x : Lm} (h : Ps t u) (k : Ps t x) (hu : Cr.nf u = true) (hx : Cr.nf x = true) : u = x := by
  obtain ⟨y, h1, h2⟩ := h.conf k
  rw [← h1.nf hu, h2.nf hx]
theorem Ps.a {f f' x x' : Lm} (h : Ps f f') (k : Ps x x') : Ps (.a f x) (.a f' x') := by
  induction h with
  | refl f =>
    induction k with
    | refl x => exact .refl _
    | step p _ ih => exact .step (.a (.refl _) p) ih
  | step p _ ih => exact .step (.a p (.refl _)) ih
theorem Ps.l {b b' : Lm} (h : Ps b b') : Ps (.l b) (.l b') := by
  induction h with
  | refl f => exact .refl _
  | step p _ ih => exact .step (.l p) ih
theorem Ps.ren {t t' : Lm} (h : Ps t t') (r : Nat → Nat) : Ps (ren r t) (ren r t') := by
  induction h with
  | refl f => exact .refl _
  | step p _ ih => exact .step (p.ren r) ih
theorem Ps.sub {t t' : Lm} (h : Ps t t') (s : Nat → Lm) : Ps (sub s t) (sub s t') := by
  induction h with
  | refl f => exact .refl _
  | step p _ ih => exact .step (p.sub fun i => .refl _) ih
theorem Ps.ups {s s' : Nat → Lm} (h : ∀ i, Ps (s i) (s' i)) : ∀ i, Ps (ups s i) (ups s' i)
  | 0 => .refl _
  | i + 1 => (h i).ren _
theorem Ps.subs (t : Lm) : ∀ {s s' : Nat → Lm}, (∀ i, Ps (s i) (s' i)) → Ps (Cr.sub s t) (Cr.sub s' t) := by
  induction t with
  | v i => intro s s' h; exact h i
  | c k h => intro s s' h; exact .refl _
  | a f x ihf ihx => intro s s' h; exact .a (ihf h) (ihx h)
  | l b ih => intro s s' h; exact .l (ih (Ps.ups h))
end Go.Proofs.YtelicajhamgibaaGreat.Cr

/-
  Terms as lambda terms with constants: what Apply and Spine tell is what they reduce to; what has nothing to reduce is normal; so two ways to it tell the same. No statement is proved here.
-/
namespace Go.Proofs.YtelicajhamgibaaGreat.Cr
open Go.RowKit
set_option linter.unusedVariables false

def apps : Lm → List Lm → Lm
  | f, [] => f
  | f, x :: xs => apps (.a f x) xs
theorem apps_app (f : Lm) (xs ys : List Lm) : apps f (xs ++ ys) = apps (apps f xs) ys := by
  induction xs generalizing f with
  | nil => rfl
  | cons x xs ih => exact ih _
theorem sub_apps (s : Nat → Lm) (f : Lm) (xs : List Lm) : sub s (apps f xs) = apps (sub s f) (xs.map (sub s)) := by
  induction xs generalizing f with
  | nil => rfl
  | cons x xs ih => exact ih _
theorem ren_apps (r : Nat → Nat) (f : Lm) (xs : List Lm) : ren r (apps f xs) = apps (ren r f) (xs.map (ren r)) := by
  induction xs generalizing f with
  | nil => rfl
  | cons x xs ih => exact ih _
def PsL : List Lm → List Lm → Prop
  | [], [] => True
  | x :: xs, y :: ys => Ps x y ∧ PsL xs ys
  | _, _ => False
theorem PsL.apps : ∀ {xs ys : List Lm} {f g : Lm}, Ps f g → PsL xs ys → Ps (Cr.apps f xs) (Cr.apps g ys)
  | [], [], _, _, h, _ => h
  | _ :: _, _ :: _, _, _, h, k => by
    have := PsL.apps (h.a k.1) k.2
    exact this
  | [], _ :: _, _, _, _, k => k.elim
  | _ :: _, [], _, _, _, k => k.elim
theorem PsL.refl : ∀ xs : List Lm, PsL xs xs
  | [] => trivial
  | x :: xs => ⟨.refl x, PsL.refl xs⟩
/-- what stands at the head, and what that is applied to -/
def dh : Lm → Lm
  | .a f _ => dh f
  | t => t
def da : Lm → List Lm → List Lm
  | .a f x, l => da f (x :: l)
  | _, l => l
theorem dh_apps (f : Lm) (xs : List Lm) : dh (apps f xs) = dh f := by
  induction xs generalizing f with
  | nil => rfl
  | cons x xs ih => exact ih _
theorem da_apps (f : Lm) (xs : List Lm) : ∀ l, da (apps f xs) l = da f (xs ++ l) := by
  induction xs generalizing f with
  | nil => intro l; rfl
  | cons x xs ih => intro l; exact ih _ _

/-- the head of a node -/
def at0 (k h : Int) : Lm := if k = 4 then .v h.toNat else .c k h
theorem at0_dh (k h : Int) : dh (at0 k h) = at0 k h := by unfold at0; split <;> rfl
theorem at0_da (k h : Int) (l : List Lm) : da (at0 k h) l = l := by unfold at0; split <;> rfl
theorem at0_lam (k h : Int) (b : Lm) : at0 k h ≠ .l b := by unfold at0; split <;> exact fun e => by cases e
def wrap1 (n : Nat) (x : Lm) : Lm := if n = 1 then .l x else x
mutual
def tr : T → Lm
  | .node k h xs => if k = 3 then (trL k xs.length xs 0).headD (.c 0 0) else apps (at0 k h) (trL k xs.length xs 0)
def trL (k : Int) (m : Nat) : List T → Nat → List Lm
  | [], _ => []
  | x :: xs, i => wrap1 (bdn k m i) (tr x) :: trL k m xs (i + 1)
end
theorem bdn_none {k : Int} (hk : k ≠ 1 ∧ k ≠ 3) (m i : Nat) : bdn k m i = 0 := by unfold bdn; rw [if_neg (by omega)]
theorem trL_map {k : Int} (hk : k ≠ 1 ∧ k ≠ 3) (m : Nat) : ∀ (xs : List T) (i : Nat), trL k m xs i = xs.map tr
  | [], _ => by rw [trL]; rfl
  | x :: xs, i => by rw [trL, bdn_none hk, trL_map hk m xs]; rfl
theorem tr_lam (h : Int) (x : T) : tr (.node 3 h [x]) = .l (tr x) := by
  rw [tr, if_pos rfl]
  simp [trL, bdn, wrap1]
theorem tr_app {k h : Int} (hk : k ≠ 1 ∧ k ≠ 3) (xs : List T) : tr (.node k h xs) = apps (at0 k h) (xs.map tr) := by
  rw [tr, if_neg hk.2, trL_map hk]
theorem lam_one' {k h : Int} {xs : List T} (hk : k = 3) (w : nodB (.node k h xs) = true) : h = 0 ∧ ∃ x, xs = [x] := by
  rw [nodB, Bool.and_eq_true] at w
  have hl : h = 0 ∧ xs.length = 1 := by
    rcases okN_cases w.1 with ⟨e, _⟩ | ⟨e, _⟩ | ⟨e, he⟩ | ⟨e, he⟩ | ⟨e, he⟩ | ⟨e, he⟩ | ⟨e, he⟩ <;> first | exact he | omega
  exact ⟨hl.1, List.length_eq_one_iff.1 hl.2⟩

/-! ### Up -/
def shr (b f : Nat) (i : Nat) : Nat := if f ≤ i then i + b else i
theorem upr_shr (b f : Nat) (i : Nat) : upr (shr b f) i = shr b (f + 1) i := by
  cases i with
  | zero => simp [upr, shr]
  | succ i => simp only [upr, shr]; split <;> split <;> omega
theorem ren_wrap (b f n : Nat) (hn : n ≤ 1) (x : Lm) : ren (shr b f) (wrap1 n x) = wrap1 n (ren (shr b (f + n)) x) := by
  unfold wrap1
  split
  · rename_i e
    subst e
    rw [ren, ren_ext (upr_shr b f)]
  · rw [show n = 0 by omega, Nat.add_zero]
theorem head_head {k h : Int} {xs : List T} (w : nodB (.node k h xs) = true) (hk : k = 4) : 0 ≤ h := by
  rw [nodB, Bool.and_eq_true] at w
  exact okN_head w.1 hk
mutual
theorem tr_up (b : Nat) : ∀ (t : T) (f : Nat), nodB t = true → tr (upT b t f) = ren (shr b f) (tr t)
  | .node k h xs, f, w => by
    have h0 := head_head w
    rw [nodB, Bool.and_eq_true] at w
    rw [upT, tr, tr, upL_len, tr_upL b k xs.length xs 0 f w.2]
    by_cases hk : k = 3
    · rw [if_pos hk, if_pos hk]
      cases trL k xs.length xs 0 with
      | nil => rfl
      | cons x l => rfl
    · rw [if_neg hk, if_neg hk, ren_apps]
      congr 1
      unfold at0
      by_cases hk4 : k = 4
      · have := h0 hk4
        rw [if_pos hk4, if_pos hk4, ren, shr]
        congr 1
        by_cases hf : (f : Int) ≤ h
        · rw [if_pos ⟨hk4, hf⟩, if_pos (by omega)]; omega
        · rw [if_neg (by omega), if_neg (by omega)]
      · rw [if_neg hk4, if_neg hk4, if_neg (by omega), ren]
theorem tr_upL (b : Nat) (k : Int) (m : Nat) : ∀ (xs : List T) (i : Nat) (f : Nat), nodL xs = true → trL k m (upL b k m xs i f) i = (trL k m xs i).map (ren (shr b f))
  | [], i, f, _ => by rw [upL, trL]; rfl
  | x :: xs, i, f, w => by
    rw [nodL, Bool.and_eq_true] at w
    rw [upL, trL, trL, List.map_cons, tr_upL b k m xs (i + 1) f w.2, ren_wrap _ _ _ (bdn_le _ _ _), bd_bdn, show (f : Int) + (bdn k m i : Int) = ((f + bdn k m i : Nat) : Int) by omega, tr_up b x _ w.1]
end

/-! ### Substitutions -/
def upn : Nat → (Nat → Lm) → Nat → Lm
  | 0, s => s
  | u + 1, s => ups (upn u s)
theorem upn_lt (s : Nat → Lm) : ∀ (u i : Nat), i < u → upn u s i = .v i
  | u + 1, 0, _ => rfl
  | u + 1, i + 1, h => by rw [upn, ups, upn_lt s u i (by omega)]; rfl
theorem upn_ge (s : Nat → Lm) : ∀ (u i : Nat), upn u s (i + u) = ren (shr u 0) (s i)
  | 0, i => by
    rw [upn, Nat.add_zero, ren_eq_sub, sub_ext (s' := .v), sub_v]
    intro j
    simp [shr]
  | u + 1, i => by
    rw [upn, ← Nat.add_assoc, ups, upn_ge s u i, ren_ren]
    apply ren_ext
    intro j
    simp [shr]
    omega
theorem sub_wrap (s : Nat → Lm) (u n : Nat) (hn : n ≤ 1) (x : Lm) : sub (upn u s) (wrap1 n x) = wrap1 n (sub (upn (u + n) s) x) := by
  unfold wrap1
  split
  · rename_i e
    subst e
    rw [sub]
    rfl
  · rw [show n = 0 by omega, Nat.add_zero]
/-- what a substitution is -/
def sg (L : List T) (sh : Int) (i : Nat) : Lm := if L.length ≤ i then .v (i - L.length + sh.toNat) else tr (L.getD (L.length - 1 - i) (.node 0 0 []))
theorem sg_one (a : T) (i : Nat) : sg [a] 0 i = one (tr a) i := by
  cases i with
  | zero => rfl
  | succ i => simp [sg, one]
theorem tr_mp {L : List T} {sh : Int} (hL : ∀ x ∈ L, nodB x = true) (h0 : 0 ≤ sh) (fr u : Nat) : tr (mpT L sh fr u) = ren (shr u 0) (sg L sh fr) ∧ nodB (mpT L sh fr u) = true := by
  unfold mpT sg
  by_cases hl : L.length ≤ fr
  · rw [if_pos (by omega), if_pos hl, tr_app (by omega)]
    refine ⟨?_, ?_⟩
    · simp only [List.map_nil, apps, at0, if_pos, ren, shr, Nat.zero_le]
      congr 1
      omega
    · have : 0 ≤ (fr : Int) - (L.length : Int) + sh + u := by omega
      simp [nodB, nodL, okN, this]
  · rw [if_neg (by omega), if_neg hl]
    have hm := getD_mem (.node 0 0 []) (show L.length - 1 - fr < L.length by omega)
    rw [Int.toNat_natCast]
    exact ⟨tr_up u _ 0 (hL _ hm), nodB_up (by omega) _ _ (hL _ hm)⟩
theorem ps_wrap (n : Nat) {x y : Lm} (h : Ps x y) : Ps (wrap1 n x) (wrap1 n y) := by
  unfold wrap1
  split
  · exact h.l
  · exact h

theorem apL_red {A : Nat → T → Nat → Res} {k : Int} {m u : Nat} {s : Nat → Lm} (hA : ∀ (v : Nat) (x : T) (n : Nat) (t' : T) (n' : Nat), nodB x = true → A v x n = .ok (t', n') → nodB t' = true ∧ Ps (sub (upn v s) (tr x)) (tr t')) :
    ∀ (xs : List T) (i n : Nat) (ys : List T) (n' : Nat), nodL xs = true → apL A k m u xs i n = .ok (ys, n') → nodL ys = true ∧ ys.length = xs.length ∧ PsL ((trL k m xs i).map (sub (upn u s))) (trL k m ys i) := by
  intro xs
  induction xs with
  | nil =>
    intro i n ys n' _ h
    rw [apL] at h
    cases h
    exact ⟨by rw [nodL], rfl, by rw [trL]; trivial⟩
  | cons x xs ih =>
    intro i n ys n' hn h
    rw [apL] at h
    rw [nodL, Bool.and_eq_true] at hn
    split at h
    · cases h
    · rename_i y n1 h1
      split at h
      · cases h
      · rename_i zs n2 h2
        cases h
        obtain ⟨g1, g2⟩ := hA _ x n y n1 hn.1 h1
        obtain ⟨e0, e1, e2⟩ := ih (i + 1) n1 zs n' hn.2 h2
        rw [trL, trL, List.map_cons, sub_wrap _ _ _ (bdn_le _ _ _)]
        exact ⟨by rw [nodL, g1, e0]; rfl, by rw [List.length_cons, List.length_cons, e1], ps_wrap _ g2, e2⟩
theorem spL_red {A : T → T → Nat → Res} (hA : ∀ (a x : T) (n : Nat) (t' : T) (n' : Nat), nodB a = true → nodB x = true → A a x n = .ok (t', n') → nodB t' = true ∧ Ps (sub (one (tr a)) (tr x)) (tr t')) :
    ∀ (bs : List T) (t : T) (n : Nat) (t' : T) (n' : Nat), nodB t = true → nodL bs = true → spL A t bs n = .ok (t', n') → nodB t' = true ∧ Ps (apps (tr t) (bs.map tr)) (tr t') := by
  intro bs
  induction bs with
  | nil =>
    intro t n t' n' ht _ h
    rw [spL] at h
    cases h
    exact ⟨ht, .refl _⟩
  | cons a bs ih =>
    rintro ⟨k, h, xs⟩ n t' n' ht hb hr
    rw [nodL, Bool.and_eq_true] at hb
    rw [spL] at hr
    by_cases hk : k = 3
    · rw [if_pos hk] at hr
      by_cases hm : myB a = true
      · rw [if_pos hm] at hr
        obtain ⟨_, x, rfl⟩ := lam_one' hk ht
        subst hk
        rw [nodB, nodL, Bool.and_eq_true, Bool.and_eq_true] at ht
        simp only [List.headD_cons] at hr
        split at hr
        · cases hr
        · rename_i t1 n1 h1
          obtain ⟨g1, g2⟩ := hA a x n t1 n1 hb.1 ht.2.1 h1
          obtain ⟨e1, e2⟩ := ih t1 n1 t' n' g1 hb.2 hr
          refine ⟨e1, ?_⟩
          rw [tr_lam, List.map_cons, apps]
          exact (PsL.apps ((Ps.of (.beta (.refl _) (.refl _))).trans g2) (.refl _)).trans e2
      · rw [if_neg hm] at hr; cases hr
    · rw [if_neg hk] at hr
      split at hr
      · rename_i hk2
        cases hr
        refine ⟨?_, ?_⟩
        · rw [nodB, Bool.and_eq_true] at ht ⊢
          refine ⟨?_, nodL_app ht.2 (by rw [nodL, hb.1, hb.2]; rfl)⟩
          rcases okN_cases ht.1 with ⟨e, _⟩ | ⟨e, _⟩ | ⟨e, _⟩ | ⟨e, he⟩ | ⟨e, he⟩ | ⟨e, he⟩ | ⟨e, he⟩ <;> first | omega | (subst e; simp [okN, he])
        · rw [tr_app (by omega), tr_app (by omega), List.map_append, apps_app]
          exact .refl _
      · cases hr
theorem ap_red : ∀ (f : Nat) (L : List T) (sh : Int) (u : Nat) (t : T) (n : Nat) (t' : T) (n' : Nat), (∀ x ∈ L, nodB x = true) → 0 ≤ sh → nodB t = true → ap f L sh u t n = .ok (t', n') → nodB t' = true ∧ Ps (sub (upn u (sg L sh)) (tr t)) (tr t') := by
  intro f
  induction f with
  | zero => intro L sh u t n t' n' _ _ _ h; rw [ap] at h; cases h
  | succ f ih =>
    rintro L sh u ⟨k, h, xs⟩ n t' n' hL h0 ht hr
    have hh := head_head ht
    rw [ap] at hr
    split at hr
    · cases hr
    · split at hr
      · cases hr
      · rename_i args n1 h1
        have hn := ht
        rw [nodB, Bool.and_eq_true] at hn
        obtain ⟨e0, e1, e2⟩ := apL_red (A := fun u' x m => ap f L sh u' x m) (s := sg L sh) (fun v x m t1 m1 hx he => ih L sh v x m t1 m1 hL h0 hx he) xs 0 (n + 1) args n1 hn.2 h1
        by_cases hc : k = 4 ∧ (u : Int) ≤ h
        · rw [if_pos hc] at hr
          obtain ⟨hk, hu⟩ := hc
          subst hk
          obtain ⟨m1, m2⟩ := tr_mp hL h0 (h.toNat - u) u
          rw [show ((h.toNat - u : Nat) : Int) = h - u by omega] at m1 m2
          obtain ⟨g1, g2⟩ := spL_red (A := fun a x m => ap f [a] 0 0 x m) (fun a x m t1 m1 ha hx he => by
            obtain ⟨q1, q2⟩ := ih [a] 0 0 x m t1 m1 (fun y hy => by rw [List.mem_singleton.1 hy]; exact ha) (by omega) hx he
            rw [upn, sub_ext (sg_one a)] at q2
            exact ⟨q1, q2⟩) args _ n1 t' n' m2 e0 hr
          refine ⟨g1, ?_⟩
          rw [tr_app (by omega), sub_apps]
          rw [trL_map (by omega), trL_map (by omega)] at e2
          have ea : sub (upn u (sg L sh)) (at0 4 h) = tr (mpT L sh (h - u) u) := by
            rw [m1, at0, if_pos rfl, sub, ← upn_ge]
            congr 1
            omega
          rw [ea]
          exact (PsL.apps (.refl _) e2).trans g2
        · rw [if_neg hc] at hr
          cases hr
          refine ⟨by rw [nodB, e1, hn.1, e0]; rfl, ?_⟩
          rw [tr, tr, e1]
          by_cases hk : k = 3
          · obtain ⟨_, x, rfl⟩ := lam_one' hk ht
            rw [if_pos hk, if_pos hk]
            obtain ⟨y, rfl⟩ : ∃ y, args = [y] := List.length_eq_one_iff.1 e1
            simp only [trL, List.map_cons, List.map_nil, PsL] at e2
            simp only [trL, List.headD_cons]
            exact e2.1
          · rw [if_neg hk, if_neg hk, sub_apps]
            refine PsL.apps ?_ e2
            unfold at0
            by_cases hk4 : k = 4
            · have := hh hk4
              rw [if_pos hk4, sub, upn_lt _ _ _ (by omega)]
              exact .refl _
            · rw [if_neg hk4, sub]
              exact .refl _

/-! ### Nothing to reduce; which term it is -/
theorem nf_apps {f : Lm} : ∀ (xs : List Lm) {f : Lm}, lamL f = false → nf f = true → (∀ x ∈ xs, nf x = true) → nf (apps f xs) = true
  | [], _, _, h, _ => h
  | x :: xs, f, hl, h, hx => by
    rw [apps]
    refine nf_apps (f := f) xs rfl ?_ (fun y hy => hx y (List.mem_cons_of_mem _ hy))
    simp [nf, hl, h, hx x (List.mem_cons_self ..)]
theorem nf_wrap (n : Nat) {x : Lm} (h : nf x = true) : nf (wrap1 n x) = true := by
  unfold wrap1
  split
  · exact h
  · exact h
mutual
theorem nf_tr : ∀ t : T, nodB t = true → nf (tr t) = true
  | .node k h xs, w => by
    have w' := w
    rw [nodB, Bool.and_eq_true] at w'
    have hL := nf_trL k xs.length xs 0 w'.2
    rw [tr]
    by_cases hk : k = 3
    · rw [if_pos hk]
      cases hq : trL k xs.length xs 0 with
      | nil => rfl
      | cons x l => exact hL x (by rw [hq]; exact List.mem_cons_self ..)
    · rw [if_neg hk]
      refine nf_apps (f := at0 k h) _ ?_ ?_ hL
      · unfold at0; split <;> rfl
      · unfold at0; split <;> rfl
theorem nf_trL (k : Int) (m : Nat) : ∀ (xs : List T) (i : Nat), nodL xs = true → ∀ y ∈ trL k m xs i, nf y = true
  | [], _, _, y, h => by rw [trL] at h; cases h
  | x :: xs, i, w, y, h => by
    rw [nodL, Bool.and_eq_true] at w
    rw [trL] at h
    rcases List.mem_cons.1 h with rfl | h
    · exact nf_wrap _ (nf_tr x w.1)
    · exact nf_trL k m xs (i + 1) w.2 y h
end
theorem wrap_inj {n : Nat} {x y : Lm} (h : wrap1 n x = wrap1 n y) : x = y := by
  unfold wrap1 at h
  split at h
  · cases h; rfl
  · exact h
theorem trL_len (k : Int) (m : Nat) : ∀ (xs : List T) (i : Nat), (trL k m xs i).length = xs.length
  | [], _ => by rw [trL]; rfl
  | x :: xs, i => by rw [trL, List.length_cons, List.length_cons, trL_len k m xs]
theorem trL_inj (k : Int) (m : Nat) : ∀ (xs ys : List T) (i : Nat), (∀ x ∈ xs, ∀ y, nodB x = true → nodB y = true → tr x = tr y → x = y) → nodL xs = true → nodL ys = true → trL k m xs i = trL k m ys i → xs = ys
  | [], [], _, _, _, _, _ => rfl
  | [], y :: ys, _, _, _, _, h => by rw [trL, trL] at h; cases h
  | x :: xs, [], _, _, _, _, h => by rw [trL, trL] at h; cases h
  | x :: xs, y :: ys, i, ih, hx, hy, h => by
    rw [nodL, Bool.and_eq_true] at hx hy
    rw [trL, trL] at h
    have h1 := wrap_inj (List.cons.inj h).1
    have h2 := (List.cons.inj h).2
    rw [ih x (List.mem_cons_self ..) y hx.1 hy.1 h1, trL_inj k m xs ys (i + 1) (fun x hx => ih x (List.mem_cons_of_mem _ hx)) hx.2 hy.2 h2]
theorem tr_inj : ∀ (t u : T), nodB t = true → nodB u = true → tr t = tr u → t = u := by
  intro t
  induction t using T.ind with
  | step k h xs ih =>
    rintro ⟨k', h', ys⟩ w w' e
    have hh := head_head w
    have hh' := head_head w'
    have n1 := w
    have n2 := w'
    rw [nodB, Bool.and_eq_true] at n1 n2
    by_cases hk : k = 3
    · obtain ⟨rfl, x, rfl⟩ := lam_one' hk w
      subst hk
      by_cases hk' : k' = 3
      · obtain ⟨rfl, y, rfl⟩ := lam_one' hk' w'
        subst hk'
        rw [tr_lam, tr_lam] at e
        simp only [nodL, Bool.and_true] at n1 n2
        rw [ih x (List.mem_cons_self ..) y n1.2 n2.2 (Lm.l.inj e)]
      · have e2 := congrArg dh e
        rw [tr_lam, tr, if_neg hk', dh_apps, at0_dh] at e2
        exact absurd e2.symm (at0_lam _ _ _)
    · by_cases hk' : k' = 3
      · obtain ⟨rfl, y, rfl⟩ := lam_one' hk' w'
        subst hk'
        have e2 := congrArg dh e
        rw [tr_lam, tr, if_neg hk, dh_apps, at0_dh] at e2
        exact absurd e2 (at0_lam _ _ _)
      · have e2 := congrArg dh e
        have e3 := congrArg (fun t => da t []) e
        simp only [tr, if_neg hk, if_neg hk', dh_apps, at0_dh, da_apps, at0_da, List.append_nil] at e2 e3
        have hkk : k = k' ∧ h = h' := by
          unfold at0 at e2
          split at e2
          · split at e2
            · have := Lm.v.inj e2
              rename_i p q
              have := hh p
              have := hh' q
              omega
            · cases e2
          · split at e2
            · cases e2
            · exact Lm.c.inj e2
        obtain ⟨rfl, rfl⟩ := hkk
        have hl : xs.length = ys.length := by
          have := congrArg List.length e3
          rw [trL_len, trL_len] at this
          exact this
        rw [← hl] at e3
        rw [trL_inj k xs.length xs ys 0 (fun x hx y hnx hny => ih x hx y hnx hny) n1.2 n2.2 e3]
end Go.Proofs.YtelicajhamgibaaGreat.Cr
namespace Go.Proofs.YtelicajhamgibaaGreat
open Go.RowKit
/-- two variables replaced one behind the other is both at once -/
theorem ap_twice {f : Nat} {t n m a b x c : T} {c1 c2 c3 c4 d1 d2 d3 d4 : Nat} (ht : nodB t = true) (hn : nodB n = true) (hm : nodB m = true)
    (ha : ap f [n] 0 0 t c1 = .ok (a, d1)) (hb : ap f [m] 0 0 a c2 = .ok (b, d2)) (hx : ap f [m] 0 0 n c3 = .ok (x, d3)) (hc : ap f [m, x] 0 0 t c4 = .ok (c, d4)) : b = c := by
  have one1 : ∀ {y : T}, nodB y = true → ∀ z ∈ [y], nodB z = true := fun h z hz => by rw [List.mem_singleton.1 hz]; exact h
  obtain ⟨na, ra⟩ := Cr.ap_red f [n] 0 0 t c1 a d1 (one1 hn) (by omega) ht ha
  obtain ⟨nb, rb⟩ := Cr.ap_red f [m] 0 0 a c2 b d2 (one1 hm) (by omega) na hb
  obtain ⟨nx, rx⟩ := Cr.ap_red f [m] 0 0 n c3 x d3 (one1 hm) (by omega) hn hx
  obtain ⟨nc, rc⟩ := Cr.ap_red f [m, x] 0 0 t c4 c d4 (fun z hz => by
    rcases List.mem_cons.1 hz with rfl | hz
    · exact hm
    · rw [List.mem_singleton.1 hz]; exact nx) (by omega) ht hc
  simp only [Cr.upn] at ra rb rx rc
  have h1 := (ra.sub (Cr.sg [m] 0)).trans rb
  rw [Cr.sub_sub] at h1
  refine Cr.tr_inj b c nb nc (Cr.Ps.same h1 (.trans (Cr.Ps.subs (Cr.tr t) fun i => ?_) rc) (Cr.nf_tr b nb) (Cr.nf_tr c nc))
  match i with
  | 0 => exact rx
  | 1 => exact .refl _
  | i + 2 =>
    have e1 : Cr.sg [n] 0 (i + 2) = .v (i + 1) := by simp [Cr.sg]
    have e2 : Cr.sg [m, x] 0 (i + 2) = .v i := by simp [Cr.sg]
    rw [e1, e2, Cr.sub]
    have e3 : Cr.sg [m] 0 (i + 1) = .v i := by simp [Cr.sg]
    rw [e3]
    exact .refl _
end Go.Proofs.YtelicajhamgibaaGreat

/-
  Terms as lambda terms, where each meta is something: Apply keeps what that is. No statement is proved here.
-/
namespace Go.Proofs.YtelicajhamgibaaGreat.Cr
open Go.RowKit
set_option linter.unusedVariables false

/-- what metas are -/
abbrev Va := Int → Lm
/-- a meta's Args, and what is around -/
def sM (xs : List Lm) (m i : Nat) : Lm := if xs.length ≤ i then .v (i - xs.length + m) else xs.getD (xs.length - 1 - i) (.c 0 0)
mutual
def trM (θ : Va) : T → Nat → Lm
  | .node k h xs, m => if k = 3 then (trML θ k xs.length xs 0 m).headD (.c 0 0) else if k = 6 then sub (sM (trML θ k xs.length xs 0 m) m) (θ h) else apps (at0 k h) (trML θ k xs.length xs 0 m)
def trML (θ : Va) (k : Int) (n : Nat) : List T → Nat → Nat → List Lm
  | [], _, _ => []
  | x :: xs, i, m => wrap1 (bdn k n i) (trM θ x (m + bdn k n i)) :: trML θ k n xs (i + 1) m
end
theorem trML_map {θ : Va} {k : Int} (hk : k ≠ 1 ∧ k ≠ 3) (n : Nat) : ∀ (xs : List T) (i m : Nat), trML θ k n xs i m = xs.map fun x => trM θ x m
  | [], _, _ => by rw [trML]; rfl
  | x :: xs, i, m => by rw [trML, bdn_none hk, trML_map hk n xs]; rfl
theorem trML_len (θ : Va) (k : Int) (n : Nat) : ∀ (xs : List T) (i m : Nat), (trML θ k n xs i m).length = xs.length
  | [], _, _ => by rw [trML]; rfl
  | x :: xs, i, m => by rw [trML, List.length_cons, List.length_cons, trML_len θ k n xs]
theorem trM_lam (θ : Va) (h : Int) (x : T) (m : Nat) : trM θ (.node 3 h [x]) m = .l (trM θ x (m + 1)) := by
  rw [trM, if_pos rfl]
  simp [trML, bdn, wrap1]
theorem trM_app {θ : Va} {k h : Int} (hk : k ≠ 1 ∧ k ≠ 3 ∧ k ≠ 6) (xs : List T) (m : Nat) : trM θ (.node k h xs) m = apps (at0 k h) (xs.map fun x => trM θ x m) := by
  rw [trM, if_neg hk.2.1, if_neg hk.2.2, trML_map ⟨hk.1, hk.2.1⟩]
theorem trM_meta (θ : Va) (h : Int) (xs : List T) (m : Nat) : trM θ (.node 6 h xs) m = sub (sM (xs.map fun x => trM θ x m) m) (θ h) := by
  rw [trM, if_neg (by omega), if_pos rfl, trML_map (by omega)]
theorem sM_map (g : Lm → Lm) (xs : List Lm) (m m' i : Nat) (h : ∀ j, xs.length ≤ j → g (.v (j - xs.length + m)) = .v (j - xs.length + m')) : sM (xs.map g) m' i = g (sM xs m i) := by
  unfold sM
  rw [List.length_map]
  split
  · rename_i hl
    rw [h i hl]
  · rename_i hl
    have : xs.length - 1 - i < xs.length := by omega
    rw [List.getD_eq_getElem?_getD, List.getD_eq_getElem?_getD, List.getElem?_map, List.getElem?_eq_getElem this]
    rfl

/-! ### Up -/
mutual
theorem trM_up (θ : Va) (b : Nat) : ∀ (t : T) (f m : Nat), f ≤ m → nodB t = true → trM θ (upT b t f) (m + b) = ren (shr b f) (trM θ t m)
  | .node k h xs, f, m, hf, w => by
    have h0 := head_head w
    rw [nodB, Bool.and_eq_true] at w
    rw [upT, trM, trM, upL_len, trML_up θ b k xs.length xs 0 f m hf w.2]
    by_cases hk : k = 3
    · rw [if_pos hk, if_pos hk]
      cases trML θ k xs.length xs 0 m with
      | nil => rfl
      | cons x l => rfl
    · rw [if_neg hk, if_neg hk]
      by_cases h6 : k = 6
      · rw [if_pos h6, if_pos h6, if_neg (by omega), ren_sub]
        apply sub_ext
        intro i
        refine sM_map _ _ _ _ _ fun j hj => ?_
        rw [ren, shr, if_pos (by omega)]
        congr 1
        omega
      · rw [if_neg h6, if_neg h6, ren_apps]
        congr 1
        unfold at0
        by_cases hk4 : k = 4
        · have := h0 hk4
          rw [if_pos hk4, if_pos hk4, ren, shr]
          congr 1
          by_cases hf : (f : Int) ≤ h
          · rw [if_pos ⟨hk4, hf⟩, if_pos (by omega)]; omega
          · rw [if_neg (by omega), if_neg (by omega)]
        · rw [if_neg hk4, if_neg hk4, if_neg (by omega), ren]
theorem trML_up (θ : Va) (b : Nat) (k : Int) (n : Nat) : ∀ (xs : List T) (i f m : Nat), f ≤ m → nodL xs = true → trML θ k n (upL b k n xs i f) i (m + b) = (trML θ k n xs i m).map (ren (shr b f))
  | [], i, f, m, _, _ => by rw [upL, trML, trML]; rfl
  | x :: xs, i, f, m, hf, w => by
    rw [nodL, Bool.and_eq_true] at w
    rw [upL, trML, trML, List.map_cons, trML_up θ b k n xs (i + 1) f m hf w.2, ren_wrap _ _ _ (bdn_le _ _ _), bd_bdn, show (f : Int) + (bdn k n i : Int) = ((f + bdn k n i : Nat) : Int) by omega, show m + b + bdn k n i = (m + bdn k n i) + b by omega, trM_up θ b x _ _ (by omega) w.1]
end

/-! ### Apply -/
/-- what a substitution is, below c entries -/
def sgM (θ : Va) (c : Nat) (L : List T) (s : Nat) (i : Nat) : Lm := if L.length ≤ i then .v (i - L.length + s) else trM θ (L.getD (L.length - 1 - i) (.node 0 0 [])) (c + s)
theorem sgM_one (θ : Va) (c : Nat) (a : T) (i : Nat) : sgM θ c [a] 0 i = one (trM θ a c) i := by
  cases i with
  | zero => rfl
  | succ i => simp [sgM, one]
theorem trM_mp {θ : Va} {L : List T} {c s : Nat} (hL : ∀ x ∈ L, nodB x = true) (fr u : Nat) : trM θ (mpT L s fr u) (c + s + u) = ren (shr u 0) (sgM θ c L s fr) ∧ nodB (mpT L s fr u) = true := by
  unfold mpT sgM
  by_cases hl : L.length ≤ fr
  · rw [if_pos (by omega), if_pos hl, trM_app (by omega)]
    refine ⟨?_, ?_⟩
    · simp only [List.map_nil, apps, at0, if_pos, ren, shr, Nat.zero_le]
      congr 1
      omega
    · have : 0 ≤ (fr : Int) - (L.length : Int) + s + u := by omega
      simp [nodB, nodL, okN, this]
  · rw [if_neg (by omega), if_neg hl]
    have hm := getD_mem (.node 0 0 []) (show L.length - 1 - fr < L.length by omega)
    rw [Int.toNat_natCast]
    exact ⟨trM_up θ u _ 0 _ (Nat.zero_le _) (hL _ hm), nodB_up (by omega) _ _ (hL _ hm)⟩
theorem PsL.getD : ∀ {xs ys : List Lm} (i : Nat) (d : Lm), PsL xs ys → Ps (xs.getD i d) (ys.getD i d)
  | [], [], i, d, _ => .refl _
  | x :: xs, y :: ys, 0, d, h => h.1
  | x :: xs, y :: ys, i + 1, d, h => PsL.getD i d h.2
  | [], _ :: _, _, _, h => h.elim
  | _ :: _, [], _, _, h => h.elim
theorem PsL.len : ∀ {xs ys : List Lm}, PsL xs ys → xs.length = ys.length
  | [], [], _ => rfl
  | x :: xs, y :: ys, h => by rw [List.length_cons, List.length_cons, PsL.len h.2]
  | [], _ :: _, h => h.elim
  | _ :: _, [], h => h.elim
theorem sM_ps {xs ys : List Lm} (h : PsL xs ys) (m i : Nat) : Ps (sM xs m i) (sM ys m i) := by
  unfold sM
  rw [h.len]
  split
  · exact .refl _
  · exact h.getD _ _
theorem apL_redM {θ : Va} {A : Nat → T → Nat → Res} {k : Int} {n u M M' : Nat} {s : Nat → Lm} (hA : ∀ (v : Nat) (x : T) (N : Nat) (t' : T) (N' : Nat), nodB x = true → A v x N = .ok (t', N') → nodB t' = true ∧ Ps (sub (upn v s) (trM θ x (M + v))) (trM θ t' (M' + v))) :
    ∀ (xs : List T) (i N : Nat) (ys : List T) (N' : Nat), nodL xs = true → apL A k n u xs i N = .ok (ys, N') → nodL ys = true ∧ ys.length = xs.length ∧ PsL ((trML θ k n xs i (M + u)).map (sub (upn u s))) (trML θ k n ys i (M' + u)) := by
  intro xs
  induction xs with
  | nil =>
    intro i N ys N' _ h
    rw [apL] at h
    cases h
    exact ⟨by rw [nodL], rfl, by rw [trML, trML]; trivial⟩
  | cons x xs ih =>
    intro i N ys N' hn h
    rw [apL] at h
    rw [nodL, Bool.and_eq_true] at hn
    split at h
    · cases h
    · rename_i y n1 h1
      split at h
      · cases h
      · rename_i zs n2 h2
        cases h
        obtain ⟨g1, g2⟩ := hA _ x N y n1 hn.1 h1
        obtain ⟨e0, e1, e2⟩ := ih (i + 1) n1 zs N' hn.2 h2
        rw [trML, trML, List.map_cons, sub_wrap _ _ _ (bdn_le _ _ _), Nat.add_assoc, Nat.add_assoc]
        exact ⟨by rw [nodL, g1, e0]; rfl, by rw [List.length_cons, List.length_cons, e1], ps_wrap _ g2, e2⟩
theorem spL_redM {θ : Va} {A : T → T → Nat → Res} {M : Nat} (hA : ∀ (a x : T) (n : Nat) (t' : T) (n' : Nat), nodB a = true → nodB x = true → A a x n = .ok (t', n') → nodB t' = true ∧ Ps (sub (one (trM θ a M)) (trM θ x (M + 1))) (trM θ t' M)) :
    ∀ (bs : List T) (t : T) (n : Nat) (t' : T) (n' : Nat), nodB t = true → nodL bs = true → spL A t bs n = .ok (t', n') → nodB t' = true ∧ Ps (apps (trM θ t M) (bs.map fun x => trM θ x M)) (trM θ t' M) := by
  intro bs
  induction bs with
  | nil =>
    intro t n t' n' ht _ h
    rw [spL] at h
    cases h
    exact ⟨ht, .refl _⟩
  | cons a bs ih =>
    rintro ⟨k, h, xs⟩ n t' n' ht hb hr
    rw [nodL, Bool.and_eq_true] at hb
    rw [spL] at hr
    by_cases hk : k = 3
    · rw [if_pos hk] at hr
      by_cases hm : myB a = true
      · rw [if_pos hm] at hr
        obtain ⟨_, x, rfl⟩ := lam_one' hk ht
        subst hk
        rw [nodB, nodL, Bool.and_eq_true, Bool.and_eq_true] at ht
        simp only [List.headD_cons] at hr
        split at hr
        · cases hr
        · rename_i t1 n1 h1
          obtain ⟨g1, g2⟩ := hA a x n t1 n1 hb.1 ht.2.1 h1
          obtain ⟨e1, e2⟩ := ih t1 n1 t' n' g1 hb.2 hr
          refine ⟨e1, ?_⟩
          rw [trM_lam, List.map_cons, apps]
          exact (PsL.apps ((Ps.of (.beta (.refl _) (.refl _))).trans g2) (.refl _)).trans e2
      · rw [if_neg hm] at hr; cases hr
    · rw [if_neg hk] at hr
      split at hr
      · rename_i hk2
        cases hr
        refine ⟨?_, ?_⟩
        · rw [nodB, Bool.and_eq_true] at ht ⊢
          refine ⟨?_, nodL_app ht.2 (by rw [nodL, hb.1, hb.2]; rfl)⟩
          rcases okN_cases ht.1 with ⟨e, _⟩ | ⟨e, _⟩ | ⟨e, _⟩ | ⟨e, he⟩ | ⟨e, he⟩ | ⟨e, he⟩ | ⟨e, he⟩ <;> first | omega | (subst e; simp [okN, he])
        · rw [trM_app (by omega), trM_app (by omega), List.map_append, apps_app]
          exact .refl _
      · cases hr
theorem ap_redM {θ : Va} : ∀ (f : Nat) (L : List T) (c s u : Nat) (t : T) (n : Nat) (t' : T) (n' : Nat), (∀ x ∈ L, nodB x = true) → nodB t = true → ap f L s u t n = .ok (t', n') → nodB t' = true ∧ Ps (sub (upn u (sgM θ c L s)) (trM θ t (c + L.length + u))) (trM θ t' (c + s + u)) := by
  intro f
  induction f with
  | zero => intro L c s u t n t' n' _ _ h; rw [ap] at h; cases h
  | succ f ih =>
    rintro L c s u ⟨k, h, xs⟩ n t' n' hL ht hr
    have hh := head_head ht
    rw [ap] at hr
    split at hr
    · cases hr
    · split at hr
      · cases hr
      · rename_i args n1 h1
        have hn := ht
        rw [nodB, Bool.and_eq_true] at hn
        obtain ⟨e0, e1, e2⟩ := apL_redM (θ := θ) (M := c + L.length) (M' := c + s) (A := fun u' x m => ap f L s u' x m) (s := sgM θ c L s) (fun v x m t1 m1 hx he => ih L c s v x m t1 m1 hL hx he) xs 0 (n + 1) args n1 hn.2 h1
        by_cases hc : k = 4 ∧ (u : Int) ≤ h
        · rw [if_pos hc] at hr
          obtain ⟨hk, hu⟩ := hc
          subst hk
          obtain ⟨m1, m2⟩ := trM_mp (θ := θ) (c := c) (s := s) hL (h.toNat - u) u
          rw [show ((h.toNat - u : Nat) : Int) = h - u by omega] at m1 m2
          obtain ⟨g1, g2⟩ := spL_redM (θ := θ) (M := c + s + u) (A := fun a x m => ap f [a] 0 0 x m) (fun a x m t1 m1 ha hx he => by
            obtain ⟨q1, q2⟩ := ih [a] (c + s + u) 0 0 x m t1 m1 (fun y hy => by rw [List.mem_singleton.1 hy]; exact ha) hx he
            rw [upn, sub_ext (sgM_one θ _ a)] at q2
            exact ⟨q1, q2⟩) args _ n1 t' n' m2 e0 hr
          refine ⟨g1, ?_⟩
          rw [trM_app (by omega), sub_apps]
          rw [trML_map (by omega), trML_map (by omega)] at e2
          have ea : sub (upn u (sgM θ c L s)) (at0 4 h) = trM θ (mpT L s (h - u) u) (c + s + u) := by
            rw [m1, at0, if_pos rfl, sub, ← upn_ge]
            congr 1
            omega
          rw [ea]
          exact (PsL.apps (.refl _) e2).trans g2
        · rw [if_neg hc] at hr
          cases hr
          refine ⟨by rw [nodB, e1, hn.1, e0]; rfl, ?_⟩
          rw [trM, trM, e1]
          by_cases hk : k = 3
          · obtain ⟨_, x, rfl⟩ := lam_one' hk ht
            rw [if_pos hk, if_pos hk]
            obtain ⟨y, rfl⟩ : ∃ y, args = [y] := List.length_eq_one_iff.1 e1
            simp only [trML, List.map_cons, List.map_nil, PsL] at e2
            simp only [trML, List.headD_cons]
            exact e2.1
          · rw [if_neg hk, if_neg hk]
            by_cases h6 : k = 6
            · rw [if_pos h6, if_pos h6, sub_sub]
              refine Ps.subs (θ h) fun i => ?_
              have e3 := sM_map (sub (upn u (sgM θ c L s))) (trML θ k xs.length xs 0 (c + L.length + u)) (c + L.length + u) (c + s + u) i fun j hj => by
                rw [sub, show j - (trML θ k xs.length xs 0 (c + L.length + u)).length + (c + L.length + u) = (j - (trML θ k xs.length xs 0 (c + L.length + u)).length + (c + L.length)) + u by omega, upn_ge, sgM, if_pos (by omega), ren, shr, if_pos (Nat.zero_le _)]
                congr 1
                omega
              rw [← e3]
              exact sM_ps e2 _ _
            · rw [if_neg h6, if_neg h6, sub_apps]
              refine PsL.apps ?_ e2
              unfold at0
              by_cases hk4 : k = 4
              · have := hh hk4
                rw [if_pos hk4, sub, upn_lt _ _ _ (by omega)]
                exact .refl _
              · rw [if_neg hk4, sub]
                exact .refl _
/-- Apply, as it is told -/
theorem apT_redM {θ : Va} {t : T} {L : List T} {s : Nat} (hL : ∀ x ∈ L, nodB x = true) (ht : nodB t = true) (h : apE t L s = 0) : Ps (sub (sgM θ 0 L s) (trM θ t L.length)) (trM θ (apT t L s) s) := by
  unfold apE at h
  unfold apT
  split at h
  · rename_i hc
    rw [if_pos hc]
    cases hr : apR t L s with
    | error e =>
      rw [hr] at h
      exact absurd h (by simpa [anE] using ap_err _ _ _ _ _ _ _ (show ap fl L s 0 t 0 = .error e from hr))
    | ok p =>
      obtain ⟨t', n'⟩ := p
      rw [hr] at h
      obtain ⟨g1, g2⟩ := ap_redM (θ := θ) fl L 0 s 0 t 0 t' n' hL ht hr
      rw [Nat.zero_add, Nat.zero_add, Nat.add_zero, Nat.add_zero, upn] at g2
      cases hm : myB t' with
      | true => simpa [anT, hm] using g2
      | false => simp [anE, hm] at h
  · omega
end Go.Proofs.YtelicajhamgibaaGreat.Cr

/-
  Lambda terms that come to the same: what holds of heads and what they are applied to; terms whose metas have all of their Args. No statement is proved here.
-/
namespace Go.Proofs.YtelicajhamgibaaGreat.Cr
open Go.RowKit
set_option linter.unusedVariables false

/-- both come to one -/
def Cv (a b : Lm) : Prop := ∃ y, Ps a y ∧ Ps b y
theorem Cv.refl (a : Lm) : Cv a a := ⟨a, .refl _, .refl _⟩
theorem Cv.symm {a b : Lm} (h : Cv a b) : Cv b a := by obtain ⟨y, h1, h2⟩ := h; exact ⟨y, h2, h1⟩
theorem Cv.trans {a b c : Lm} (h : Cv a b) (k : Cv b c) : Cv a c := by
  obtain ⟨y, h1, h2⟩ := h
  obtain ⟨z, k1, k2⟩ := k
  obtain ⟨u, e1, e2⟩ := h2.conf k1
  exact ⟨u, h1.trans e1, k2.trans e2⟩
theorem Cv.of {a b : Lm} (h : Ps a b) : Cv a b := ⟨b, h, .refl _⟩
theorem Cv.nf {a b : Lm} (h : Cv a b) (hb : Cr.nf b = true) : Ps a b := by
  obtain ⟨y, h1, h2⟩ := h
  rwa [h2.nf hb] at h1
theorem Cv.a {f g x y : Lm} (h : Cv f g) (k : Cv x y) : Cv (.a f x) (.a g y) := by
  obtain ⟨u, h1, h2⟩ := h
  obtain ⟨v, k1, k2⟩ := k
  exact ⟨_, h1.a k1, h2.a k2⟩
theorem Cv.l {b c : Lm} (h : Cv b c) : Cv (.l b) (.l c) := by
  obtain ⟨u, h1, h2⟩ := h
  exact ⟨_, h1.l, h2.l⟩
theorem Cv.ren {a b : Lm} (h : Cv a b) (r : Nat → Nat) : Cv (Cr.ren r a) (Cr.ren r b) := by
  obtain ⟨u, h1, h2⟩ := h
  exact ⟨_, h1.ren r, h2.ren r⟩
theorem Cv.sub {a b : Lm} {s s' : Nat → Lm} (h : Cv a b) (hs : ∀ i, Cv (s i) (s' i)) : Cv (Cr.sub s a) (Cr.sub s' b) := by
  obtain ⟨u, h1, h2⟩ := h
  have hy := fun i => (hs i).choose_spec
  refine ⟨Cr.sub (fun i => (hs i).choose) u, (h1.sub s).trans (Ps.subs u fun i => (hy i).1), (h2.sub s').trans (Ps.subs u fun i => (hy i).2)⟩
def CvL : List Lm → List Lm → Prop
  | [], [] => True
  | x :: xs, y :: ys => Cv x y ∧ CvL xs ys
  | _, _ => False
theorem CvL.len : ∀ {xs ys : List Lm}, CvL xs ys → xs.length = ys.length
  | [], [], _ => rfl
  | x :: xs, y :: ys, h => by rw [List.length_cons, List.length_cons, CvL.len h.2]
  | [], _ :: _, h => h.elim
  | _ :: _, [], h => h.elim
theorem CvL.apps : ∀ {xs ys : List Lm} {f g : Lm}, Cv f g → CvL xs ys → Cv (Cr.apps f xs) (Cr.apps g ys)
  | [], [], _, _, h, _ => h
  | _ :: _, _ :: _, _, _, h, k => by
    have := CvL.apps (h.a k.1) k.2
    exact this
  | [], _ :: _, _, _, _, k => k.elim
  | _ :: _, [], _, _, _, k => k.elim
theorem CvL.getD : ∀ {xs ys : List Lm} (i : Nat) (d : Lm), CvL xs ys → Cv (xs.getD i d) (ys.getD i d)
  | [], [], i, d, _ => .refl _
  | x :: xs, y :: ys, 0, d, h => h.1
  | x :: xs, y :: ys, i + 1, d, h => CvL.getD i d h.2
  | [], _ :: _, _, _, h => h.elim
  | _ :: _, [], _, _, h => h.elim
theorem CvL.sM {xs ys : List Lm} (h : CvL xs ys) (m i : Nat) : Cv (Cr.sM xs m i) (Cr.sM ys m i) := by
  unfold Cr.sM
  rw [h.len]
  split
  · exact .refl _
  · exact h.getD _ _
theorem CvL.of : ∀ {xs ys zs : List Lm}, PsL xs zs → PsL ys zs → CvL xs ys
  | [], [], [], _, _ => trivial
  | x :: xs, y :: ys, z :: zs, h, k => ⟨⟨z, h.1, k.1⟩, CvL.of h.2 k.2⟩
  | [], [], _ :: _, h, _ => h.elim
  | [], _ :: _, [], _, k => k.elim
  | [], _ :: _, _ :: _, h, _ => h.elim
  | _ :: _, [], [], h, _ => h.elim
  | _ :: _, [], _ :: _, _, k => k.elim
  | _ :: _, _ :: _, [], h, _ => h.elim
theorem PsL.trans : ∀ {xs ys zs : List Lm}, PsL xs ys → PsL ys zs → PsL xs zs
  | [], [], [], _, _ => trivial
  | x :: xs, y :: ys, z :: zs, h, k => ⟨h.1.trans k.1, PsL.trans h.2 k.2⟩
  | [], [], _ :: _, _, k => k.elim
  | [], _ :: _, _, h, _ => h.elim
  | _ :: _, [], _, h, _ => h.elim
  | _ :: _, _ :: _, [], _, k => k.elim

/-! ### A head that is none to reduce -/
theorem Par.rig {t t' : Lm} (h : Par t t') : (∀ b, dh t ≠ .l b) → dh t' = dh t ∧ ∀ l l', PsL l l' → PsL (da t l) (da t' l') := by
  induction h with
  | v i => intro _; exact ⟨rfl, fun l l' h => h⟩
  | c k h => intro _; exact ⟨rfl, fun l l' h => h⟩
  | @a f f' x x' hf hx ihf ihx =>
    intro hr
    obtain ⟨h1, h2⟩ := ihf hr
    exact ⟨h1, fun l l' hl => h2 (x :: l) (x' :: l') ⟨.of hx, hl⟩⟩
  | l _ _ => intro hr; exact absurd rfl (hr _)
  | beta _ _ _ _ => intro hr; exact absurd rfl (hr _)
theorem Ps.rig {t t' : Lm} (h : Ps t t') : (∀ b, dh t ≠ .l b) → dh t' = dh t ∧ PsL (da t []) (da t' []) := by
  induction h with
  | refl t => intro _; exact ⟨rfl, PsL.refl _⟩
  | @step t u x p _ ih =>
    intro hr
    obtain ⟨h1, h2⟩ := p.rig hr
    obtain ⟨h3, h4⟩ := ih (by rw [h1]; exact hr)
    exact ⟨h3.trans h1, (h2 [] [] trivial).trans h4⟩
theorem apps_rig {k h : Int} (xs : List Lm) : (∀ b, dh (apps (at0 k h) xs) ≠ .l b) ∧ dh (apps (at0 k h) xs) = at0 k h ∧ da (apps (at0 k h) xs) [] = xs := by
  have e : dh (apps (at0 k h) xs) = at0 k h := by rw [dh_apps, at0_dh]
  exact ⟨fun b => by rw [e]; exact at0_lam k h b, e, by rw [da_apps, at0_da, List.append_nil]⟩
theorem Cv.rig {k h k' h' : Int} {xs ys : List Lm} (c : Cv (apps (at0 k h) xs) (apps (at0 k' h') ys)) : at0 k h = at0 k' h' ∧ CvL xs ys := by
  obtain ⟨y, h1, h2⟩ := c
  obtain ⟨r1, e1, d1⟩ := apps_rig (k := k) (h := h) xs
  obtain ⟨r2, e2, d2⟩ := apps_rig (k := k') (h := h') ys
  obtain ⟨a1, b1⟩ := h1.rig r1
  obtain ⟨a2, b2⟩ := h2.rig r2
  rw [d1] at b1
  rw [d2] at b2
  exact ⟨by rw [← e1, ← e2, ← a1, ← a2], CvL.of b1 b2⟩
theorem Ps.lam {t t' : Lm} (h : Ps t t') : ∀ b, t = .l b → ∃ b', t' = .l b' ∧ Ps b b' := by
  induction h with
  | refl t => intro b e; exact ⟨b, e, .refl _⟩
  | step p _ ih =>
    intro b e
    subst e
    cases p with
    | l p =>
      obtain ⟨b', e1, e2⟩ := ih _ rfl
      exact ⟨b', e1, .step p e2⟩
theorem Cv.lam {b c : Lm} (h : Cv (.l b) (.l c)) : Cv b c := by
  obtain ⟨y, h1, h2⟩ := h
  obtain ⟨b1, rfl, p1⟩ := h1.lam _ rfl
  obtain ⟨b2, e, p2⟩ := h2.lam _ rfl
  cases e
  exact ⟨_, p1, p2⟩
theorem Cv.no_lam {b : Lm} {k h : Int} {xs : List Lm} (c : Cv (.l b) (apps (at0 k h) xs)) : False := by
  obtain ⟨y, h1, h2⟩ := c
  obtain ⟨b1, rfl, p1⟩ := h1.lam _ rfl
  obtain ⟨r1, e1, d1⟩ := apps_rig (k := k) (h := h) xs
  have := (h2.rig r1).1
  rw [e1] at this
  exact at0_lam k h b1 this.symm
theorem Cv.wrap {n : Nat} {x y : Lm} (h : Cv x y) : Cv (wrap1 n x) (wrap1 n y) := by
  unfold wrap1
  split
  · exact h.l
  · exact h
theorem Cv.unwrap {n : Nat} {x y : Lm} (h : Cv (wrap1 n x) (wrap1 n y)) : Cv x y := by
  unfold wrap1 at h
  split at h
  · exact h.lam
  · exact h
theorem at0_inj {k h k' h' : Int} (e : at0 k h = at0 k' h') (hh : k = 4 → 0 ≤ h) (hh' : k' = 4 → 0 ≤ h') : k = k' ∧ h = h' := by
  unfold at0 at e
  split at e
  · split at e
    · rename_i h1 h2
      have := hh h1
      have := hh' h2
      injection e with e
      omega
    · cases e
  · split at e
    · cases e
    · cases e; exact ⟨rfl, rfl⟩

/-! ### Nodes -/
theorem trML_at {θ : Va} {k : Int} {n m : Nat} : ∀ {xs : List T} {i j : Nat} {x : T}, xs[j]? = some x → (trML θ k n xs i m)[j]? = some (wrap1 (bdn k n (i + j)) (trM θ x (m + bdn k n (i + j))))
  | [], i, j, x, h => by simp at h
  | y :: ys, i, 0, x, h => by simp at h; subst h; rw [trML]; rfl
  | y :: ys, i, j + 1, x, h => by
    simp at h
    rw [trML, List.getElem?_cons_succ, trML_at h, show i + 1 + j = i + (j + 1) by omega]
theorem CvL.at_ : ∀ {xs ys : List Lm} {j : Nat} {x y : Lm}, CvL xs ys → xs[j]? = some x → ys[j]? = some y → Cv x y
  | [], _, j, x, y, _, h, _ => by simp at h
  | a :: xs, [], j, x, y, h, _, _ => h.elim
  | a :: xs, b :: ys, 0, x, y, h, e1, e2 => by simp at e1 e2; subst e1; subst e2; exact h.1
  | a :: xs, b :: ys, j + 1, x, y, h, e1, e2 => CvL.at_ h.2 (by simpa using e1) (by simpa using e2)
theorem CvL.all : ∀ {xs ys : List Lm}, xs.length = ys.length → (∀ (j : Nat) (x y : Lm), xs[j]? = some x → ys[j]? = some y → Cv x y) → CvL xs ys
  | [], [], _, _ => trivial
  | a :: xs, b :: ys, h, k => ⟨k 0 a b rfl rfl, CvL.all (by simpa using h) fun j x y h1 h2 => k (j + 1) x y (by simpa using h1) (by simpa using h2)⟩
  | [], _ :: _, h, _ => by simp at h
  | _ :: _, [], h, _ => by simp at h
/-- two nodes that come to the same, of which none is a meta -/
theorem node_cv {θ : Va} {k h k' h' : Int} {xs ys : List T} {m : Nat} (w : nodB (.node k h xs) = true) (w' : nodB (.node k' h' ys) = true) (hk : k ≠ 6) (hk' : k' ≠ 6) (c : Cv (trM θ (.node k h xs) m) (trM θ (.node k' h' ys) m)) :
    k = k' ∧ h = h' ∧ xs.length = ys.length ∧ ∀ (j : Nat) (x y : T), xs[j]? = some x → ys[j]? = some y → Cv (trM θ x (m + bdn k xs.length j)) (trM θ y (m + bdn k xs.length j)) := by
  by_cases h3 : k = 3
  · obtain ⟨rfl, x, rfl⟩ := lam_one' h3 w
    subst h3
    by_cases h3' : k' = 3
    · obtain ⟨rfl, y, rfl⟩ := lam_one' h3' w'
      subst h3'
      rw [trM_lam, trM_lam] at c
      refine ⟨rfl, rfl, rfl, fun j x' y' e1 e2 => ?_⟩
      match j, e1, e2 with
      | 0, e1, e2 => simp at e1 e2; subst e1; subst e2; exact c.lam
    · rw [trM_lam, trM, if_neg h3', if_neg hk'] at c
      exact c.no_lam.elim
  · by_cases h3' : k' = 3
    · obtain ⟨rfl, y, rfl⟩ := lam_one' h3' w'
      subst h3'
      rw [trM_lam, trM, if_neg h3, if_neg hk] at c
      exact c.symm.no_lam.elim
    · rw [trM, trM, if_neg h3, if_neg h3', if_neg hk, if_neg hk'] at c
      obtain ⟨e, cl⟩ := c.rig
      obtain ⟨rfl, rfl⟩ := at0_inj e (head_head w) (head_head w')
      have hl := cl.len
      rw [trML_len, trML_len] at hl
      refine ⟨rfl, rfl, hl, fun j x y e1 e2 => ?_⟩
      rw [← hl] at cl
      have := cl.at_ (trML_at e1) (trML_at e2)
      rw [Nat.zero_add] at this
      exact this.unwrap
theorem node_of {θ : Va} {k h : Int} {xs ys : List T} {m : Nat} (hl : xs.length = ys.length) (hc : ∀ (j : Nat) (x y : T), xs[j]? = some x → ys[j]? = some y → Cv (trM θ x (m + bdn k xs.length j)) (trM θ y (m + bdn k xs.length j))) : CvL (trML θ k xs.length xs 0 m) (trML θ k ys.length ys 0 m) := by
  refine CvL.all (by rw [trML_len, trML_len, hl]) fun j a b e1 e2 => ?_
  have j1 : j < xs.length := by have := (List.getElem?_eq_some_iff.1 e1).1; rwa [trML_len] at this
  obtain ⟨x, h1⟩ : ∃ x, xs[j]? = some x := ⟨_, List.getElem?_eq_getElem j1⟩
  obtain ⟨y, h2⟩ : ∃ y, ys[j]? = some y := ⟨_, List.getElem?_eq_getElem (show j < ys.length by omega)⟩
  rw [trML_at h1] at e1
  rw [trML_at h2, ← hl] at e2
  cases e1
  cases e2
  rw [Nat.zero_add]
  exact (hc j _ _ h1 h2).wrap
theorem node_same {θ : Va} {k h : Int} {xs ys : List T} {m : Nat} (hl : xs.length = ys.length) (hc : ∀ (j : Nat) (x y : T), xs[j]? = some x → ys[j]? = some y → Cv (trM θ x (m + bdn k xs.length j)) (trM θ y (m + bdn k xs.length j))) : Cv (trM θ (.node k h xs) m) (trM θ (.node k h ys) m) := by
  have cl := node_of (θ := θ) (k := k) (h := h) (m := m) hl hc
  rw [trM, trM]
  by_cases h3 : k = 3
  · rw [if_pos h3, if_pos h3]
    cases e1 : trML θ k xs.length xs 0 m with
    | nil => cases e2 : trML θ k ys.length ys 0 m with
      | nil => exact .refl _
      | cons y l => rw [e1, e2] at cl; exact cl.elim
    | cons x l => cases e2 : trML θ k ys.length ys 0 m with
      | nil => rw [e1, e2] at cl; exact cl.elim
      | cons y l' => rw [e1, e2] at cl; exact cl.1
  · rw [if_neg h3, if_neg h3]
    by_cases h6 : k = 6
    · rw [if_pos h6, if_pos h6]
      exact (Cv.refl _).sub fun i => cl.sM m i
    · rw [if_neg h6, if_neg h6]
      exact cl.apps (.refl _)
end Go.Proofs.YtelicajhamgibaaGreat.Cr

/-
  Metas that have all of their Args; what Invert tells, as a lambda term that is renamed. No statement is proved here.
-/
namespace Go.Proofs.YtelicajhamgibaaGreat
open Go.ChangeShapes Go.WideShapes Go.ChangeAt Go.RowKit Cr
set_option linter.unusedVariables false

/-! ### Sizes -/
mutual
/-- each meta has as many Args as its context has entries -/
def zd (sz : List Int) : T → Prop
  | .node k h xs => (k = 6 → 0 ≤ h ∧ h < sz.length ∧ (xs.length : Int) = sz.getD h.toNat 0) ∧ zdL sz xs
def zdL (sz : List Int) : List T → Prop
  | [] => True
  | x :: xs => zd sz x ∧ zdL sz xs
end
theorem zdL_iff {sz : List Int} : ∀ {xs : List T}, zdL sz xs ↔ ∀ x ∈ xs, zd sz x
  | [] => by rw [zdL]; simp
  | x :: xs => by rw [zdL, zdL_iff (xs := xs)]; simp
theorem zd_leaf {sz : List Int} {k h : Int} (hk : k ≠ 6) : zd sz (.node k h []) := by rw [zd, zdL]; exact ⟨fun e => absurd e hk, trivial⟩
mutual
theorem zd_up {sz : List Int} (b : Int) : ∀ (t : T) (f : Int), zd sz t → zd sz (upT b t f)
  | .node k h xs, f, z => by
    rw [zd] at z
    rw [upT, zd, upL_len]
    refine ⟨fun hk => ?_, zdL_up b k xs.length xs 0 f z.2⟩
    rw [if_neg (by omega)]
    exact z.1 hk
theorem zdL_up {sz : List Int} (b k : Int) (n : Nat) : ∀ (xs : List T) (i : Nat) (f : Int), zdL sz xs → zdL sz (upL b k n xs i f)
  | [], i, f, _ => by rw [upL, zdL]; trivial
  | x :: xs, i, f, z => by
    rw [zdL] at z
    rw [upL, zdL]
    exact ⟨zd_up b x _ z.1, zdL_up b k n xs _ f z.2⟩
end
theorem apL_zd {sz : List Int} {A : Nat → T → Nat → Res} {k : Int} {m u : Nat} (hA : ∀ v x n t' n', A v x n = .ok (t', n') → zd sz x → zd sz t') : ∀ (xs : List T) (i n : Nat) (ys : List T) (n' : Nat), apL A k m u xs i n = .ok (ys, n') → zdL sz xs → zdL sz ys := by
  intro xs
  induction xs with
  | nil => intro i n ys n' h _; rw [apL] at h; cases h; rw [zdL]; trivial
  | cons x xs ih =>
    intro i n ys n' h z
    rw [apL] at h
    rw [zdL] at z
    split at h
    · cases h
    · rename_i y n1 h1
      split at h
      · cases h
      · rename_i zs n2 h2
        cases h
        rw [zdL]
        exact ⟨hA _ _ _ _ _ h1 z.1, ih _ _ _ _ h2 z.2⟩
theorem spL_zd {sz : List Int} {A : T → T → Nat → Res} (hA : ∀ a x n t' n', A a x n = .ok (t', n') → zd sz a → zd sz x → zd sz t') : ∀ (bs : List T) (t : T) (n : Nat) (t' : T) (n' : Nat), spL A t bs n = .ok (t', n') → zd sz t → (∀ b ∈ bs, zd sz b) → zd sz t' := by
  intro bs
  induction bs with
  | nil => intro t n t' n' h z _; rw [spL] at h; cases h; exact z
  | cons a bs ih =>
    rintro ⟨k, h, xs⟩ n t' n' hr z hb
    rw [spL] at hr
    by_cases hk : k = 3
    · rw [if_pos hk] at hr
      by_cases hm : myB a = true
      · rw [if_pos hm] at hr
        split at hr
        · cases hr
        · rename_i t1 n1 h1
          refine ih t1 n1 t' n' hr (hA _ _ _ _ _ h1 (hb a (List.mem_cons_self ..)) ?_) fun b hb' => hb b (List.mem_cons_of_mem _ hb')
          rw [zd] at z
          cases xs with
          | nil => exact zd_leaf (by omega)
          | cons x xs => rw [zdL] at z; exact z.2.1
      · rw [if_neg hm] at hr; cases hr
    · rw [if_neg hk] at hr
      split at hr
      · rename_i hk2
        cases hr
        rw [zd] at z ⊢
        refine ⟨fun e => by omega, zdL_iff.2 fun x hx => ?_⟩
        rcases List.mem_append.1 hx with hx | hx
        · exact zdL_iff.1 z.2 x hx
        · exact hb x hx
      · cases hr
theorem ap_zd {sz : List Int} : ∀ (f : Nat) (L : List T) (sh : Int) (u : Nat) (t : T) (n : Nat) (t' : T) (n' : Nat), (∀ x ∈ L, zd sz x) → zd sz t → ap f L sh u t n = .ok (t', n') → zd sz t' := by
  intro f
  induction f with
  | zero => intro L sh u t n t' n' _ _ h; rw [ap] at h; cases h
  | succ f ih =>
    rintro L sh u ⟨k, h, xs⟩ n t' n' hL z hr
    rw [ap] at hr
    split at hr
    · cases hr
    · split at hr
      · cases hr
      · rename_i args n1 h1
        have hlen := apL_len _ _ _ _ _ h1
        have z2 := z
        rw [zd] at z2
        have hy : zdL sz args := apL_zd (fun v x m t1 m1 e hx => ih L sh v x m t1 m1 hL hx e) xs 0 _ _ _ h1 z2.2
        split at hr
        · rename_i hc
          refine spL_zd (fun a x m t1 m1 e ha hx => ih [a] 0 0 x m t1 m1 (fun y hy => by rw [List.mem_singleton.1 hy]; exact ha) hx e) args _ _ _ _ hr ?_ (zdL_iff.1 hy)
          unfold mpT
          split
          · exact zd_leaf (by omega)
          · rename_i hle
            exact zd_up _ _ _ (hL _ (getD_mem (.node 0 0 []) (by omega)))
        · cases hr
          rw [zd, hlen]
          exact ⟨z2.1, hy⟩
theorem apT_zd {sz : List Int} {t : T} {L : List T} {sh : Int} (hL : ∀ x ∈ L, zd sz x) (ht : zd sz t) : zd sz (apT t L sh) := by
  unfold apT
  split
  · cases hr : apR t L sh with
    | error e => exact zd_leaf (by omega)
    | ok p =>
      obtain ⟨t', n'⟩ := p
      simp only [anT]
      split
      · exact ap_zd fl L sh 0 t 0 t' n' hL ht hr
      · exact zd_leaf (by omega)
  · exact zd_leaf (by omega)
mutual
theorem zd_iv {sz : List Int} {g : Int → Option Int} : ∀ (t : T) (s : Int) (u : T), ivT g t s = some u → zd sz t → zd sz u ∧ mts u = mts t
  | .node k h xs, s, u, e, z => by
    obtain ⟨h', ys, rfl, e1, e2, e3⟩ := iv_node e
    rw [zd] at z
    obtain ⟨z1, z2⟩ := zdL_iv k xs.length xs 0 s ys e1 z.2
    rw [zd, e2, mts, mts, z2]
    refine ⟨⟨fun hk => ?_, z1⟩, ?_⟩
    · rcases e3 with ⟨e4, _⟩ | ⟨_, rfl⟩
      · omega
      · exact z.1 hk
    · by_cases hk : k = 6
      · rcases e3 with ⟨e4, _⟩ | ⟨_, rfl⟩
        · omega
        · rfl
      · rw [if_neg hk, if_neg hk]
theorem zdL_iv {sz : List Int} {g : Int → Option Int} (k : Int) (n : Nat) : ∀ (xs : List T) (i : Nat) (s : Int) (ys : List T), ivL g k n xs i s = some ys → zdL sz xs → zdL sz ys ∧ mtsL ys = mtsL xs
  | [], i, s, ys, e, _ => by rw [ivL] at e; cases e; rw [zdL]; exact ⟨trivial, rfl⟩
  | x :: xs, i, s, ys, e, z => by
    obtain ⟨u, vs, rfl, e1, e2⟩ := iv_cons e
    rw [zdL] at z
    obtain ⟨a1, a2⟩ := zd_iv x _ u e1 z.1
    obtain ⟨b1, b2⟩ := zdL_iv k n xs _ s vs e2 z.2
    rw [zdL, mtsL, mtsL, a2, b2]
    exact ⟨⟨a1, b1⟩, rfl⟩
end

/-! ### Renaming -/
/-- where a pattern's variables come from -/
def rhoU (vs : List Int) (m : Nat) (i : Nat) : Nat := if vs.length ≤ i then i - vs.length + m else (vs.getD (vs.length - 1 - i) 0).toNat
def upU (s : Nat) (r : Nat → Nat) (i : Nat) : Nat := if i < s then i else r (i - s) + s
theorem upr_upU (s : Nat) (r : Nat → Nat) (i : Nat) : upr (upU s r) i = upU (s + 1) r i := by
  cases i with
  | zero => simp [upr, upU]
  | succ i =>
    simp only [upr, upU]
    by_cases h : i < s
    · rw [if_pos h, if_pos (by omega)]
    · rw [if_neg h, if_neg (by omega), show i + 1 - (s + 1) = i - s by omega]
      omega
theorem upU_zero (r : Nat → Nat) (i : Nat) : upU 0 r i = r i := by simp [upU]
theorem igo_rhoU {vs : List Int} {m : Nat} (hv : vB m [] vs = true) {x y : Int} (hx : 0 ≤ x) (h : igo vs m x = some y) : 0 ≤ y ∧ (rhoU vs m y.toNat : Int) = x := by
  have hv' := vB_top.1 hv
  unfold igo at h
  split at h
  · cases h
    refine ⟨by omega, ?_⟩
    rw [rhoU, if_pos (by omega)]
    omega
  · have h1 := pls_lt h
    have h2 := pls_at h
    refine ⟨h1.1, ?_⟩
    rw [rhoU, if_neg (by omega), List.getD_eq_getElem?_getD, h2]
    have := hv'.1 x (List.mem_of_getElem? h2)
    simp only [Option.getD_some]
    omega
theorem rho_igoU {vs : List Int} {m : Nat} (hv : vB m [] vs = true) (i : Nat) : igo vs m (rhoU vs m i) = some i := by
  have hv' := vB_top.1 hv
  unfold rhoU
  by_cases hi : vs.length ≤ i
  · rw [if_pos hi, igo, if_pos (by omega)]
    congr 1
    omega
  · rw [if_neg hi]
    have hl : vs.length - 1 - i < vs.length := by omega
    have e := List.getElem?_eq_getElem hl
    have hb := hv'.1 _ (List.getElem_mem hl)
    rw [List.getD_eq_getElem?_getD, e, Option.getD_some, igo, if_neg (by omega)]
    have := at_pls (vs.length - 1 - i) hv'.2 e
    rw [show ((vs[vs.length - 1 - i].toNat : Nat) : Int) = vs[vs.length - 1 - i] by omega, this]
    congr 1
    omega
/-- back again -/
def rhoI (vs : List Int) (m : Nat) (j : Nat) : Nat := ((igo vs m j).getD 0).toNat
theorem rhoI_rho {vs : List Int} {m : Nat} (hv : vB m [] vs = true) (i : Nat) : rhoI vs m (rhoU vs m i) = i := by
  rw [rhoI, rho_igoU hv]
  simp
theorem ren_back {vs : List Int} {m : Nat} (hv : vB m [] vs = true) (s : Lm) : Cr.ren (rhoI vs m) (Cr.ren (rhoU vs m) s) = s := by
  rw [ren_ren, ren_ext (r' := fun i => i) (rhoI_rho hv), ren_eq_sub, sub_v]
theorem ren_wrapU (s n : Nat) (hn : n ≤ 1) (r : Nat → Nat) (x : Lm) : Cr.ren (upU s r) (wrap1 n x) = wrap1 n (Cr.ren (upU (s + n) r) x) := by
  unfold wrap1
  split
  · rename_i e
    subst e
    rw [Cr.ren, ren_ext (upr_upU s r)]
  · rw [show n = 0 by omega, Nat.add_zero]
mutual
/-- what Invert tells, renamed, is the term -/
theorem iv_trM (θ : Va) {vs : List Int} {m : Nat} (hv : vB m [] vs = true) : ∀ (t : T) (s : Nat) (u : T), nodB t = true → ivT (igo vs m) t s = some u → trM θ t (m + s) = Cr.ren (upU s (rhoU vs m)) (trM θ u (vs.length + s))
  | .node k h xs, s, u, w, e => by
    have h0 := head_head w
    obtain ⟨h', ys, rfl, e1, e2, e3⟩ := iv_node e
    rw [nodB, Bool.and_eq_true] at w
    have hL := iv_trML θ hv k xs.length xs 0 s ys w.2 e1
    rw [trM, trM, e2, hL]
    by_cases hk : k = 3
    · rw [if_pos hk, if_pos hk]
      cases trML θ k xs.length ys 0 (vs.length + s) with
      | nil => rfl
      | cons x l => rfl
    · rw [if_neg hk, if_neg hk]
      by_cases h6 : k = 6
      · rw [if_pos h6, if_pos h6]
        have hh : h' = h := by
          rcases e3 with ⟨e4, _⟩ | ⟨_, rfl⟩
          · omega
          · rfl
        rw [hh, ren_sub]
        apply sub_ext
        intro i
        refine sM_map _ _ _ _ _ fun j hj => ?_
        rw [Cr.ren, upU, if_neg (by omega), rhoU, if_pos (by omega)]
        congr 1
        omega
      · rw [if_neg h6, if_neg h6, ren_apps]
        congr 1
        unfold at0
        by_cases hk4 : k = 4
        · have := h0 hk4
          rw [if_pos hk4, if_pos hk4, Cr.ren, upU]
          congr 1
          rcases e3 with ⟨_, h1, y, h2, rfl⟩ | ⟨h1, rfl⟩
          · obtain ⟨g1, g2⟩ := igo_rhoU hv (by omega) h2
            rw [if_neg (by omega), show (y + (s : Int)).toNat - s = y.toNat by omega]
            omega
          · have : ¬ ((s : Int) ≤ h') := fun e => h1 ⟨hk4, e⟩
            rw [if_pos (by omega)]
        · have hh : h' = h := by
            rcases e3 with ⟨e4, _⟩ | ⟨_, rfl⟩
            · omega
            · rfl
          rw [if_neg hk4, if_neg hk4, hh, Cr.ren]
theorem iv_trML (θ : Va) {vs : List Int} {m : Nat} (hv : vB m [] vs = true) (k : Int) (n : Nat) : ∀ (xs : List T) (i s : Nat) (ys : List T), nodL xs = true → ivL (igo vs m) k n xs i s = some ys → trML θ k n xs i (m + s) = (trML θ k n ys i (vs.length + s)).map (Cr.ren (upU s (rhoU vs m)))
  | [], i, s, ys, _, e => by rw [ivL] at e; cases e; rw [trML, trML]; rfl
  | x :: xs, i, s, ys, w, e => by
    obtain ⟨u, zs, rfl, e1, e2⟩ := iv_cons e
    rw [nodL, Bool.and_eq_true] at w
    rw [bd_bdn, show (s : Int) + (bdn k n i : Int) = ((s + bdn k n i : Nat) : Int) by omega] at e1
    rw [trML, trML, List.map_cons, iv_trML θ hv k n xs _ s zs w.2 e2, ren_wrapU _ _ (bdn_le _ _ _), Nat.add_assoc, Nat.add_assoc, iv_trM θ hv x _ u w.1 e1]
end
end Go.Proofs.YtelicajhamgibaaGreat

/-
  Making two terms the same, as lambda terms: what it tells makes them the same, and whatever makes them the same is told; a clash is none of these. No statement is proved here.
-/
namespace Go.Proofs.YtelicajhamgibaaGreat
open Go.ChangeShapes Go.WideShapes Go.ChangeAt Go.RowKit Cr
set_option linter.unusedVariables false

/-- what metas are is as it is told -/
def sat (θ : Va) (sz : List Int) (bs : List BT) : Prop := ∀ (i : Nat) (t : T), bs[i]? = some (true, t) → Cv (θ i) (trM θ t (sz.getD i 0).toNat)
/-- so is whatever nothing yet is to be -/
def InvU (sz : List Int) (bs : List BT) : Prop := ∀ θ0 : Va, ∃ θ : Va, sat θ sz bs ∧ ∀ h : Int, (thI bs h = false ∨ h < 0) → θ h = θ0 h
/-- what metas are so far is in order, all metas with all of their Args -/
structure SU (sz : List Int) (bs : List BT) (N : Nat) : Prop where
  ok : okU sz bs N
  zds : ∀ (i : Nat) (t : T), bs[i]? = some (true, t) → zd sz t
theorem SU.mono {sz : List Int} {bs : List BT} {N N' : Nat} (h : SU sz bs N) (hn : N ≤ N') : SU sz bs N' := ⟨h.ok.mono hn, h.zds⟩
theorem sg_sM (θ : Va) (xs : List T) (m i : Nat) : sgM θ 0 xs m i = sM (xs.map fun x => trM θ x m) m i := by
  unfold sgM sM
  rw [List.length_map]
  split
  · rfl
  · rename_i hl
    have : xs.length - 1 - i < xs.length := by omega
    rw [List.getD_eq_getElem?_getD, List.getD_eq_getElem?_getD, List.getElem?_map, List.getElem?_eq_getElem this, Nat.zero_add]
    rfl
theorem zd_kids {sz : List Int} {k h : Int} {xs : List T} (z : zd sz (.node k h xs)) : ∀ x ∈ xs, zd sz x := by
  rw [zd] at z
  exact zdL_iff.1 z.2
theorem rdU_sem {θ : Va} {sz : List Int} {bs : List BT} {m : Nat} : ∀ (f : Nat) (t : T) (N : Nat) (t' : T) (N' : Nat), SU sz bs N → WT (kN N + m) t → zd sz t → rdU bs m f t N = .ok (t', N') → (sat θ sz bs → Cv (trM θ t m) (trM θ t' m)) ∧ zd sz t' := by
  intro f
  induction f with
  | zero => intro t N t' N' _ _ _ h; rw [rdU] at h; cases h
  | succ f ih =>
    rintro ⟨k, g, xs⟩ N t' N' hb ht z h
    rw [rdU] at h
    split at h
    · cases h
    · split at h
      · rename_i hN hs
        split at h
        · rename_i he
          obtain ⟨rfl, h1, h2, h3⟩ := hb.ok.is hs
          obtain ⟨j, rfl⟩ : ∃ j : Nat, g = j := ⟨g.toNat, by have := ht.pos rfl; omega⟩
          rw [Int.toNat_natCast] at h3
          obtain ⟨h4, h5⟩ := h3 (by omega)
          have z1 := z
          rw [zd] at z1
          have z2 := z1.1 rfl
          rw [Int.toNat_natCast] at z2
          have hw := red_wt hb.ok ht (by omega) hs he
          have hnx : ∀ x ∈ xs, nodB x = true := (node_partsJ ht.nod).2
          obtain ⟨i1, i2⟩ := ih _ _ _ _ (hb.mono (Nat.le_succ N)) hw (apT_zd (zd_kids z) (hb.zds j _ h4)) h
          refine ⟨fun hsat => Cv.trans ?_ (i1 hsat), i2⟩
          have a1 := hsat j _ h4
          have a2 := apT_redM (θ := θ) hnx h5.nod he
          rw [trM_meta]
          rw [show (sz.getD j 0).toNat = xs.length by omega] at a1
          refine Cv.trans (a1.sub fun i => .refl _) (Cv.of ?_)
          rw [← sub_ext (sg_sM θ xs m)]
          exact a2
        · cases h
      · cases h
        exact ⟨fun _ => .refl _, z⟩
/-- none of a term's metas is something -/
theorem som_none {bs : List BT} {k h : Int} {xs : List T} (hs : som bs (.node k h xs) = false) (hx : noneB bs (mtsL xs)) : noneB bs (mts (.node k h xs)) := fun g hg => by
  rw [mts, List.mem_append] at hg
  rcases hg with hg | hg
  · split at hg
    · rename_i hk
      rw [List.mem_singleton] at hg
      subst hg
      simpa [som, hk] using hs
    · cases hg
  · exact hx g hg
theorem rsL_sem {θ : Va} {sz : List Int} {bs : List BT} {A : T → Int → Nat → Res} {k : Int} {n : Nat} {m : Nat}
    (hG : ∀ t (m : Nat) N t' N', SU sz bs N → WT (kN N + m) t → A t m N = .ok (t', N') → N ≤ N' ∧ N' ≤ 40000)
    (hA : ∀ t (m : Nat) N t' N', SU sz bs N → WT (kN N + m) t → zd sz t → A t m N = .ok (t', N') → (sat θ sz bs → Cv (trM θ t m) (trM θ t' m)) ∧ zd sz t' ∧ noneB bs (mts t')) :
    ∀ (xs : List T) (i N : Nat) (ys : List T) (N' : Nat), SU sz bs N → (∀ j x, xs[j]? = some x → WT (kN N + m + bd k n (i + j)) x) → (∀ x ∈ xs, zd sz x) → rsL A k n m xs i N = .ok (ys, N') →
      ys.length = xs.length ∧ (∀ y ∈ ys, zd sz y) ∧ noneB bs (mtsL ys) ∧ (sat θ sz bs → ∀ (j : Nat) (x y : T), xs[j]? = some x → ys[j]? = some y → Cv (trM θ x (m + bdn k n (i + j))) (trM θ y (m + bdn k n (i + j)))) := by
  intro xs
  induction xs with
  | nil =>
    intro i N ys N' _ _ _ h
    rw [rsL] at h
    cases h
    exact ⟨rfl, (fun y hy => by cases hy), (by intro g hg; rw [mtsL] at hg; cases hg), (fun _ j x y hx => by simp at hx)⟩
  | cons x xs ih =>
    intro i N ys N' hb hx hz h
    rw [rsL] at h
    split at h
    · cases h
    · rename_i y N1 h1
      split at h
      · cases h
      · rename_i zs N2 h2
        cases h
        have h0 := hx 0 x rfl
        rw [Nat.add_zero, bd_bdn] at h0
        rw [bd_bdn, show (m : Int) + (bdn k n i : Int) = ((m + bdn k n i : Nat) : Int) by omega] at h1
        have h0 : WT (kN N + ((m + bdn k n i : Nat) : Int)) x := h0.mono (by omega)
        obtain ⟨c1, _⟩ := hG _ _ _ _ _ hb h0 h1
        obtain ⟨e1, e2, e3⟩ := hA _ _ _ _ _ hb h0 (hz x (List.mem_cons_self ..)) h1
        obtain ⟨g1, g2, g3, g4⟩ := ih (i + 1) N1 _ _ (hb.mono c1) (fun j x' hj => by
          have := hx (j + 1) x' (by simpa using hj)
          rw [show i + (j + 1) = i + 1 + j by omega] at this
          exact this.mono (by have := kN_mono c1; omega)) (fun y hy => hz y (List.mem_cons_of_mem _ hy)) h2
        refine ⟨by rw [List.length_cons, List.length_cons, g1], fun u hu => ?_, fun g hg => ?_, fun hsat j x' y' hj hj' => ?_⟩
        · rcases List.mem_cons.1 hu with rfl | hu
          · exact e2
          · exact g2 u hu
        · rw [mtsL, List.mem_append] at hg
          rcases hg with hg | hg
          · exact e3 g hg
          · exact g3 g hg
        · cases j with
          | zero => simp at hj hj'; subst hj; subst hj'; exact e1 hsat
          | succ j =>
            have := g4 hsat j x' y' (by simpa using hj) (by simpa using hj')
            rwa [show i + 1 + j = i + (j + 1) by omega] at this
theorem rsU_sem {θ : Va} {sz : List Int} {bs : List BT} : ∀ (f : Nat) (t : T) (m N : Nat) (t' : T) (N' : Nat), SU sz bs N → WT (kN N + m) t → zd sz t → rsU bs f t m N = .ok (t', N') → (sat θ sz bs → Cv (trM θ t m) (trM θ t' m)) ∧ zd sz t' ∧ noneB bs (mts t') := by
  intro f
  induction f with
  | zero => intro t m N t' N' _ _ _ h; rw [rsU] at h; cases h
  | succ f ih =>
    intro t m N t' N' hb ht z h
    rw [rsU] at h
    split at h
    · cases h
    · rename_i k g xs N1 h1
      obtain ⟨e1, e2, e3, e4⟩ := rdU_good (by omega) _ _ _ _ _ hb.ok ht h1
      obtain ⟨s1, s2⟩ := rdU_sem (θ := θ) _ _ _ _ _ hb ht z h1
      split at h
      · cases h
      · rename_i ys N2 h2
        cases h
        obtain ⟨g1, g2, g3, g4⟩ := rsL_sem (θ := θ) (A := rsU bs f) (fun t m N t' N' hb ht h => by
          have := rsU_good f t m N t' N' (by omega) hb.ok ht h
          omega) (fun t m N t' N' hb ht z h => ih t m N t' N' hb ht z h) xs 0 N1 ys _ (hb.mono (by omega)) (fun j x hj => by rw [Nat.zero_add]; exact e3.arg hj) (zd_kids s2) h2
        have s3 := s2
        rw [zd] at s3
        refine ⟨fun hsat => (s1 hsat).trans (node_same g1.symm fun j x y hx hy => by have := g4 hsat j x y hx hy; rwa [Nat.zero_add] at this), ?_, som_none (by simpa [som] using e4) g3⟩
        rw [zd, g1]
        exact ⟨s3.1, zdL_iff.2 g2⟩
end Go.Proofs.YtelicajhamgibaaGreat

/-
  Solving, as lambda terms. No statement is proved here.
-/
namespace Go.Proofs.YtelicajhamgibaaGreat
open Go.ChangeShapes Go.WideShapes Go.ChangeAt Go.RowKit Cr
set_option linter.unusedVariables false

mutual
theorem sam_eqU : ∀ (t u : T), samB t u = true → t = u
  | .node k h xs, .node k' h' ys, e => by
    rw [samB] at e
    simp only [Bool.and_eq_true, beq_iff_eq] at e
    obtain ⟨⟨⟨rfl, rfl⟩, hl⟩, hs⟩ := e
    rw [sam_eqLU xs ys hl hs]
theorem sam_eqLU : ∀ (xs ys : List T), xs.length = ys.length → samL xs ys = true → xs = ys
  | [], [], _, _ => rfl
  | x :: xs, y :: ys, hl, e => by
    rw [samL, Bool.and_eq_true] at e
    rw [sam_eqU x y e.1, sam_eqLU xs ys (by simpa using hl) e.2]
end
theorem ptn_vrsR (n : Int) : ∀ (xs : List T) (seen zs : List Int), ptn n seen xs = some zs → ∃ vs, zs = seen ++ vs ∧ xs = vrs vs ∧ vB n seen vs = true
  | [], seen, zs, h => by rw [ptn] at h; cases h; exact ⟨[], by simp, rfl, rfl⟩
  | .node k g ys :: ts, seen, zs, h => by
    rw [ptn] at h
    by_cases hp : pt1 seen n (.node k g ys) = true
    · rw [if_pos hp] at h
      obtain ⟨vs, e1, e2, e3⟩ := ptn_vrsR n ts _ zs h
      rw [pt1] at hp
      have hp2 := hp
      simp only [Bool.and_eq_true, beq_iff_eq, decide_eq_true_eq] at hp
      obtain ⟨⟨⟨⟨rfl, hl⟩, h0⟩, h1⟩, h2⟩ := hp
      obtain rfl : ys = [] := List.length_eq_zero_iff.1 hl
      refine ⟨g :: vs, by rw [e1, hd, List.append_assoc]; rfl, by rw [e2]; rfl, ?_⟩
      rw [vB, Bool.and_eq_true]
      refine ⟨?_, e3⟩
      simp only [Bool.and_eq_true, decide_eq_true_eq]
      exact ⟨⟨h0, h1⟩, h2⟩
    · rw [if_neg hp] at h; cases h
theorem sM_vars (θ : Va) (vs : List Int) (m i : Nat) : sM ((vrs vs).map fun x => trM θ x m) m i = .v (rhoU vs m i) := by
  have e : (vrs vs).map (fun x => trM θ x m) = vs.map fun v => Lm.v v.toNat := by
    unfold vrs
    rw [List.map_map]
    refine List.map_congr_left fun v _ => ?_
    show trM θ (.node 4 v []) m = _
    rw [trM_app (by omega)]
    rfl
  rw [e]
  unfold sM rhoU
  rw [List.length_map]
  split
  · rfl
  · rename_i hl
    have : vs.length - 1 - i < vs.length := by omega
    rw [List.getD_eq_getElem?_getD, List.getD_eq_getElem?_getD, List.getElem?_map, List.getElem?_eq_getElem this]
    rfl
theorem sub_vars (θ : Va) (vs : List Int) (m : Nat) (s : Lm) : Cr.sub (sM ((vrs vs).map fun x => trM θ x m) m) s = Cr.ren (rhoU vs m) s := by
  rw [ren_eq_sub, sub_ext (sM_vars θ vs m)]
/-! ### What is renamed is so behind steps -/
theorem par_ren {t y : Lm} (h : Par t y) : ∀ (r : Nat → Nat) (s : Lm), t = Cr.ren r s → ∃ s', y = Cr.ren r s' := by
  induction h with
  | v i => intro r s e; exact ⟨s, e⟩
  | c k h => intro r s e; exact ⟨s, e⟩
  | a _ _ ihf ihx =>
    intro r s e
    cases s with
    | a f x =>
      rw [Cr.ren] at e
      cases e
      obtain ⟨f', e1⟩ := ihf r f rfl
      obtain ⟨x', e2⟩ := ihx r x rfl
      exact ⟨.a f' x', by rw [Cr.ren, e1, e2]⟩
    | v i => cases e
    | c k h => cases e
    | l b => cases e
  | l _ ih =>
    intro r s e
    cases s with
    | l b =>
      rw [Cr.ren] at e
      cases e
      obtain ⟨b', e1⟩ := ih (upr r) b rfl
      exact ⟨.l b', by rw [Cr.ren, e1]⟩
    | v i => cases e
    | c k h => cases e
    | a f x => cases e
  | @beta b b' x x' _ _ ihb ihx =>
    intro r s e
    cases s with
    | a f z =>
      rw [Cr.ren] at e
      cases f with
      | l c =>
        rw [Cr.ren] at e
        cases e
        obtain ⟨c', e1⟩ := ihb (upr r) c rfl
        obtain ⟨z', e2⟩ := ihx r z rfl
        refine ⟨Cr.sub (Cr.one z') c', ?_⟩
        rw [e1, e2, ren_sub, sub_ren]
        apply sub_ext
        intro i
        cases i <;> rfl
      | v i => cases e
      | c k h => cases e
      | a f x => cases e
    | v i => cases e
    | c k h => cases e
    | l b => cases e
theorem ps_ren {t y : Lm} (h : Ps t y) : ∀ (r : Nat → Nat) (s : Lm), t = Cr.ren r s → ∃ s', y = Cr.ren r s' := by
  induction h with
  | refl t => intro r s e; exact ⟨s, e⟩
  | step p _ ih =>
    intro r s e
    obtain ⟨s', e'⟩ := par_ren p r s e
    exact ih r s' e'
theorem dh_ren (r : Nat → Nat) : ∀ s : Lm, dh (Cr.ren r s) = Cr.ren r (dh s)
  | .v i => rfl
  | .c k h => rfl
  | .a f x => by rw [Cr.ren, dh, dh, dh_ren r f]
  | .l b => rfl
theorem da_ren (r : Nat → Nat) : ∀ (s : Lm) (l : List Lm), da (Cr.ren r s) (l.map (Cr.ren r)) = (da s l).map (Cr.ren r)
  | .v i, l => rfl
  | .c k h, l => rfl
  | .a f x, l => by
    have := da_ren r f (x :: l)
    rw [List.map_cons] at this
    rw [Cr.ren, da, da, this]
  | .l b, l => rfl
mutual
/-- a term without metas that is a renamed one is told by Invert -/
theorem iv_some {θ : Va} {vs : List Int} {m : Nat} (hv : vB m [] vs = true) : ∀ (t : T) (s : Nat) (z : Lm), nodB t = true → mts t = [] → trM θ t (m + s) = Cr.ren (upU s (rhoU vs m)) z → ∃ u, ivT (igo vs m) t s = some u
  | .node k h xs, s, z, w, hm, e => by
    have h0 := head_head w
    have h6 : k ≠ 6 := fun e => by subst e; rw [mts] at hm; simp at hm
    have hmx : mtsL xs = [] := by rw [mts, if_neg h6] at hm; simpa using hm
    have hw := w
    rw [nodB, Bool.and_eq_true] at w
    have fin : (∃ h' : Int, (if k = 4 ∧ (s : Int) ≤ h then (igo vs m (h - s)).map (fun y => y + (s : Int)) else some h) = some h') → (∃ ys, ivL (igo vs m) k xs.length xs 0 s = some ys) → ∃ u, ivT (igo vs m) (.node k h xs) s = some u := by
      rintro ⟨h', e1⟩ ⟨ys, e2⟩
      refine ⟨.node k h' ys, ?_⟩
      rw [ivT, e1, e2]
      rfl
    rw [trM] at e
    by_cases h3 : k = 3
    · obtain ⟨_, x, rfl⟩ := lam_one' h3 hw
      subst h3
      rw [if_pos rfl] at e
      have hb : bdn 3 [x].length 0 = 1 := by simp [bdn]
      simp only [trML, List.headD_cons, hb] at e
      have e' : wrap1 1 (trM θ x (m + s + 1)) = Cr.ren (upU s (rhoU vs m)) z := e
      rw [wrap1, if_pos rfl] at e'
      cases z with
      | l b =>
        rw [Cr.ren, ren_ext (upr_upU s _)] at e'
        injection e' with e'
        rw [nodL, Bool.and_eq_true] at w
        rw [mtsL, List.append_eq_nil_iff] at hmx
        obtain ⟨u, hu⟩ := iv_some hv x (s + 1) b w.2.1 hmx.1 (by rw [← Nat.add_assoc]; exact e')
        refine fin ⟨h, by rw [if_neg (by omega)]⟩ ⟨[u], ?_⟩
        rw [ivL, ivL, bd_bdn, hb]
        have : ((s : Int) + ((1 : Nat) : Int)) = ((s + 1 : Nat) : Int) := by omega
        rw [this, hu]
        rfl
      | v i => cases e'
      | c k h => cases e'
      | a f x => cases e'
    · rw [if_neg h3, if_neg h6] at e
      obtain ⟨r1, r2, r3⟩ := apps_rig (k := k) (h := h) (trML θ k xs.length xs 0 (m + s))
      rw [e] at r2 r3
      rw [dh_ren] at r2
      have r4 := da_ren (upU s (rhoU vs m)) z []
      rw [List.map_nil, r3] at r4
      refine fin ?_ (iv_someL hv k xs.length xs 0 s (da z []) w.2 hmx r4)
      by_cases h4 : k = 4
      · rw [at0, if_pos h4] at r2
        have hn := h0 h4
        by_cases hs : (s : Int) ≤ h
        · rw [if_pos ⟨h4, hs⟩]
          cases hz : dh z with
          | v i =>
            rw [hz, Cr.ren] at r2
            injection r2 with r2
            unfold upU at r2
            split at r2
            · omega
            · have e3 : h - s = (rhoU vs m (i - s) : Nat) := by omega
              rw [e3, rho_igoU hv]
              exact ⟨_, rfl⟩
          | c k h => rw [hz] at r2; cases r2
          | a f x => rw [hz] at r2; cases r2
          | l b => rw [hz] at r2; cases r2
        · rw [if_neg fun e => hs e.2]
          exact ⟨_, rfl⟩
      · rw [if_neg fun e => h4 e.1]
        exact ⟨_, rfl⟩
theorem iv_someL {θ : Va} {vs : List Int} {m : Nat} (hv : vB m [] vs = true) (k : Int) (n : Nat) : ∀ (xs : List T) (i s : Nat) (zs : List Lm), nodL xs = true → mtsL xs = [] → trML θ k n xs i (m + s) = zs.map (Cr.ren (upU s (rhoU vs m))) → ∃ us, ivL (igo vs m) k n xs i s = some us
  | [], i, s, zs, _, _, _ => ⟨[], by rw [ivL]⟩
  | x :: xs, i, s, zs, w, hm, e => by
    rw [trML] at e
    cases zs with
    | nil => cases e
    | cons z zs =>
      rw [List.map_cons] at e
      injection e with e1 e2
      rw [nodL, Bool.and_eq_true] at w
      rw [mtsL, List.append_eq_nil_iff] at hm
      obtain ⟨us, hus⟩ := iv_someL hv k n xs (i + 1) s zs w.2 hm.2 e2
      have hx : ∃ z', trM θ x (m + (s + bdn k n i)) = Cr.ren (upU (s + bdn k n i) (rhoU vs m)) z' := by
        rw [← Nat.add_assoc]
        unfold wrap1 at e1
        split at e1
        · rename_i hb
          cases z with
          | l b =>
            rw [Cr.ren, ren_ext (upr_upU s _)] at e1
            injection e1 with e1
            exact ⟨b, by rw [hb]; rw [hb] at e1; exact e1⟩
          | v i => cases e1
          | c k h => cases e1
          | a f x => cases e1
        · have hb := bdn_le k n i
          exact ⟨z, by rw [show bdn k n i = 0 by omega]; rw [show bdn k n i = 0 by omega] at e1; exact e1⟩
      obtain ⟨z', hz'⟩ := hx
      obtain ⟨u, hu⟩ := iv_some hv x (s + bdn k n i) z' w.1 hm.1 hz'
      refine ⟨u :: us, ?_⟩
      rw [ivL, bd_bdn, show (s : Int) + (bdn k n i : Int) = ((s + bdn k n i : Nat) : Int) by omega, hu, hus]
      rfl
end
mutual
theorem trM_ext {θ θ' : Va} : ∀ (t : T) (m : Nat), (∀ g ∈ mts t, θ g = θ' g) → trM θ t m = trM θ' t m
  | .node k h xs, m, hg => by
    have hL := trML_ext (θ := θ) (θ' := θ') k xs.length xs 0 m fun g hx => hg g (by rw [mts]; exact List.mem_append.2 (.inr hx))
    rw [trM, trM, hL]
    by_cases h6 : k = 6
    · rw [hg h (by rw [mts, if_pos h6]; simp)]
    · rw [if_neg h6, if_neg h6]
theorem trML_ext {θ θ' : Va} (k : Int) (n : Nat) : ∀ (xs : List T) (i m : Nat), (∀ g ∈ mtsL xs, θ g = θ' g) → trML θ k n xs i m = trML θ' k n xs i m
  | [], i, m, _ => by rw [trML, trML]
  | x :: xs, i, m, hg => by
    rw [trML, trML, trM_ext x _ fun g h => hg g (by rw [mtsL]; exact List.mem_append.2 (.inl h)), trML_ext k n xs _ _ fun g h => hg g (by rw [mtsL]; exact List.mem_append.2 (.inr h))]
end
mutual
theorem trM_bare {θ : Va} : ∀ (t : T) (m : Nat), mts t = [] → trM θ t m = tr t
  | .node k h xs, m, hm => by
    have h6 : k ≠ 6 := fun e => by subst e; rw [mts] at hm; simp at hm
    rw [mts, if_neg h6] at hm
    rw [trM, tr, trML_bare k xs.length xs 0 m (by simpa using hm), if_neg h6]
theorem trML_bare {θ : Va} (k : Int) (n : Nat) : ∀ (xs : List T) (i m : Nat), mtsL xs = [] → trML θ k n xs i m = trL k n xs i
  | [], i, m, _ => by rw [trML, trL]
  | x :: xs, i, m, hm => by
    rw [mtsL, List.append_eq_nil_iff] at hm
    rw [trML, trL, trM_bare x _ hm.1, trML_bare k n xs _ _ hm.2]
end
/-- where Invert has none -/
theorem iv_badU {t : T} {vs : List Int} {m K : Int} (hK : 0 ≤ K) (hKb : K ≤ 281474976710656) (hvl : vs.length ≤ 1048576) (ht : lv (K + m) t) (hnd : nd t ≤ 40000) (h : ivR t vs m = .error 7) : ivT (igo vs m) t 0 = none ∧ vB m [] vs = true := by
  rw [ivR] at h
  split at h
  · rename_i hc
    simp only [Bool.and_eq_true, decide_eq_true_eq] at hc
    obtain ⟨⟨⟨h1, h2⟩, h3⟩, h4⟩ := hc
    have hd := dp_le t
    have hok : okT (K + 1000 + 50000) t := okT_mono (by omega) _ (lv_ok t ht)
    rw [rn_iv (M := K + 1000 + 50000) (g := igo vs m) (by omega) (fun x h0 hx => ⟨igW_eq h0 (by omega) ⟨h1, h2⟩ (by omega), fun y hy => by have := igo_bd (M := K + 1000 + 50000) (by omega) hx h1 hy; omega⟩) t 0 hok (by omega) (by omega)] at h
    cases hi : ivT (igo vs m) t 0 with
    | none => exact ⟨rfl, h4⟩
    | some v => rw [hi] at h; cases h
  · cases h
end Go.Proofs.YtelicajhamgibaaGreat

/-
  Unify, as lambda terms: what is told makes both the same, whatever makes both the same is told, a clash is none. No statement is proved here.
-/
namespace Go.Proofs.YtelicajhamgibaaGreat
open Go.ChangeShapes Go.WideShapes Go.ChangeAt Go.RowKit Cr
set_option linter.unusedVariables false

/-- what an answer means, for whatever metas may be -/
def SemR (sz : List Int) (bs : List BT) (R : Except Int USt) (P : Va → Prop) : Prop :=
  (∀ o bs' N', R = .ok (o, bs', N') → SU sz bs' N' ∧ (InvU sz bs → InvU sz bs') ∧ ∀ θ, (o = false → sat θ sz bs' → sat θ sz bs ∧ P θ) ∧ (sat θ sz bs → P θ → sat θ sz bs')) ∧
  (R = .error 6 → ∀ θ, sat θ sz bs → ¬ P θ)
theorem SemR.iff {sz : List Int} {bs : List BT} {R : Except Int USt} {P Q : Va → Prop} (h : SemR sz bs R P) (hp : ∀ θ, sat θ sz bs → (P θ ↔ Q θ)) : SemR sz bs R Q := by
  refine ⟨fun o bs' N' e => ?_, fun e θ hs hq => h.2 e θ hs ((hp θ hs).2 hq)⟩
  obtain ⟨h1, h2, h3⟩ := h.1 o bs' N' e
  exact ⟨h1, h2, fun θ => ⟨fun ho hs => by
    obtain ⟨a, b⟩ := (h3 θ).1 ho hs
    exact ⟨a, (hp θ a).1 b⟩, fun hs hq => (h3 θ).2 hs ((hp θ hs).2 hq)⟩⟩
theorem SemR.err {sz : List Int} {bs : List BT} {P : Va → Prop} {e : Int} (h : e ≠ 6) : SemR sz bs (.error e) P := ⟨fun _ _ _ h => (by cases h), fun h' => by cases h'; exact absurd rfl h⟩
theorem Er4.ne6 {e : Int} (h : Er4 e) : e ≠ 6 := by rcases h with h | h | h <;> omega
/-- nothing has turned -/
theorem SemR.same {sz : List Int} {bs : List BT} {N : Nat} {P : Va → Prop} {o : Bool} (hs : SU sz bs N) (hp : o = false → ∀ θ, sat θ sz bs → P θ) : SemR sz bs (.ok (o, bs, N)) P :=
  ⟨fun o' bs' N' e => by cases e; exact ⟨hs, fun h => h, fun θ => ⟨fun ho h => ⟨h, hp ho θ h⟩, fun h _ => h⟩⟩, fun e => by cases e⟩
theorem thI_set {bs : List BT} {j : Nat} {u : T} {g : Int} (hj : j < bs.length) (h : thI (bs.set j (true, u)) g = false) : g ≠ j ∧ thI bs g = false := by
  unfold thI at h ⊢
  rw [List.length_set] at h
  have hne : g ≠ j := fun e => by
    subst e
    rw [Int.toNat_natCast, List.getD_eq_getElem?_getD, List.getElem?_set_self hj] at h
    simp at h
    omega
  refine ⟨hne, ?_⟩
  by_cases hg : g.toNat = j
  · by_cases h0 : g < 0
    · -- below nought it is the place 0
      rw [List.getD_eq_getElem?_getD, hg, List.getElem?_set_self hj] at h
      simp at h
      omega
    · omega
  · rw [List.getD_eq_getElem?_getD, List.getElem?_set_ne (fun e => hg e.symm), ← List.getD_eq_getElem?_getD] at h
    exact h

set_option maxHeartbeats 1000000 in
theorem sv_sem {sz : List Int} {bs : List BT} {f : Nat} {j : Nat} {xs : List T} {t : T} {m N : Nat} (hb : SU sz bs N) (hx : WT (kN N + m) (.node 6 j xs)) (ht : WT (kN N + m) t) (zx : zd sz (.node 6 j xs)) (zt : zd sz t) (hth : thI bs j = false) :
    SemR sz bs (svU sz bs f j xs t m N) fun θ => Cv (trM θ (.node 6 j xs) m) (trM θ t m) := by
  have hgood := fun o bs' N' e => svU_good (o := o) (bs' := bs') (N' := N') (f := f) (show (0 : Int) ≤ m by omega) hb.ok hx ht e
  obtain ⟨R, hR⟩ : ∃ R, svU sz bs f j xs t m N = R := ⟨_, rfl⟩
  rw [hR] at hgood ⊢
  rw [svU] at hR
  split at hR
  · rw [← hR]; exact SemR.err (by decide)
  · rename_i hc
    rw [Int.toNat_natCast] at hc
    have hjl : j < bs.length := by omega
    split at hR
    · rename_i e he; rw [← hR]; exact SemR.err (rsU_er _ _ _ _ _ he).ne6
    · rename_i t' N1 h1
      obtain ⟨e1, e2, e3, e4, e5⟩ := rsU_good f t m N t' N1 (by omega) hb.ok ht h1
      have hsem := fun θ => rsU_sem (θ := θ) f t m N t' N1 hb ht zt h1
      split at hR
      · rename_i e he; rw [← hR]; exact SemR.err (rsL_er (fun x m N e he => rsU_er f x m N e he) _ _ _ _ he).ne6
      · rename_i ys N2 h2
        have hxw : ∀ i x, xs[i]? = some x → WT (kN N1 + m + bd 0 0 (0 + i)) x := fun i x hi => by
          have := hx.arg hi
          rw [bd_bind (by omega) (by omega)] at this ⊢
          exact this.mono (by have := kN_mono (show N ≤ N1 by omega); omega)
        obtain ⟨g1, g2, g3, g4, g5, g6⟩ := rsL_good (A := rsU bs f) (show (0 : Int) ≤ m by omega) (fun t m N t' N' hm hb ht h => rsU_good f t m N t' N' hm hb ht h) xs 0 N1 ys N2 e2 (hb.ok.mono (by omega)) hxw h2
        have hLs := fun θ => rsL_sem (θ := θ) (A := rsU bs f) (fun t m N t' N' hb ht h => by
          have := rsU_good f t m N t' N' (by omega) hb.ok ht h
          omega) (fun t m N t' N' hb ht z h => rsU_sem (θ := θ) f t m N t' N' hb ht z h) xs 0 N1 ys N2 (hb.mono (by omega)) hxw (zd_kids zx) h2
        have hb2 := hb.mono (show N ≤ N2 by omega)
        split at hR
        · rw [← hR]; exact SemR.same hb2 fun h => by cases h
        · rename_i vs hv
          split at hR
          · rw [← hR]; exact SemR.same hb2 fun h => by cases h
          · rename_i hjm
            obtain ⟨vs', ev, rfl, hvB⟩ := ptn_vrsR m ys [] vs hv
            rw [List.nil_append] at ev
            subst ev
            have hvl : vs.length = xs.length := by rw [← g3, vrs]; simp
            have hlx := hx.len
            have zx1 := zx
            rw [zd] at zx1
            have zx2 := zx1.1 rfl
            rw [Int.toNat_natCast] at zx2
            have hsz : (sz.getD j 0).toNat = vs.length := by omega
            -- the meta, under its Args
            have hA : ∀ θ, sat θ sz bs → Cv (trM θ (.node 6 j xs) m) (Cr.ren (rhoU vs m) (θ j)) := fun θ hs => by
              rw [trM_meta, ← sub_vars θ]
              refine (Cv.refl _).sub fun i => CvL.sM ?_ m i
              refine CvL.all (by rw [List.length_map, List.length_map]; exact g3.symm) fun i a c ha hc => ?_
              rw [List.getElem?_map, Option.map_eq_some_iff] at ha hc
              obtain ⟨x, hx1, rfl⟩ := ha
              obtain ⟨y, hy1, rfl⟩ := hc
              have := (hLs θ).2.2.2 hs i x y hx1 hy1
              rwa [bdn_none (by omega), Nat.add_zero] at this
            split at hR
            · rename_i u hu
              obtain ⟨k1, k2, _, _, _, _⟩ := iv_good (K := kN N2) (by have := kN_pos N2; omega) (by unfold kN; omega) (by omega) (lv_mono (by have := kN_mono g1; omega) _ e5) (by omega) hu
              obtain ⟨z1, z2⟩ := zd_iv (sz := sz) t' 0 u k1 (hsem fun _ => .v 0).2.1
              have hC : ∀ θ, trM θ t' m = Cr.ren (rhoU vs m) (trM θ u vs.length) := fun θ => by
                have := iv_trM θ hvB t' 0 u e3 k1
                rwa [Nat.add_zero, Nat.add_zero, ren_ext (upU_zero _)] at this
              rw [← hR]
              refine ⟨fun o bs' N' e => ?_, fun e => by cases e⟩
              obtain ⟨q1, _, _⟩ := hgood o bs' N' (hR.symm.trans e)
              rw [Int.toNat_natCast] at e
              cases e
              have hset : ∀ (i : Nat) (v : T), (bs.set j (true, u))[i]? = some (true, v) → (i = j ∧ v = u) ∨ (i ≠ j ∧ bs[i]? = some (true, v)) := fun i v hi => by
                by_cases hij : i = j
                · subst hij
                  rw [List.getElem?_set_self hjl] at hi
                  cases hi
                  exact .inl ⟨rfl, rfl⟩
                · rw [List.getElem?_set_ne (fun e => hij e.symm)] at hi
                  exact .inr ⟨hij, hi⟩
              have hno : ∀ v, bs[j]? ≠ some (true, v) := fun v e => by
                rw [thI, decide_eq_true (by omega), Int.toNat_natCast, List.getD_eq_getElem?_getD, e] at hth
                cases hth
              have hmetas : ∀ g ∈ mts u, thI bs g = false ∧ g ≠ j := fun g hg => by
                rw [z2] at hg
                exact ⟨(hsem fun _ => .v 0).2.2 g hg, fun e => hjm (mem_rs.2 (e ▸ hg))⟩
              refine ⟨⟨q1, fun i v hi => ?_⟩, fun hinv θ0 => ?_, fun θ => ⟨fun _ hs => ?_, fun hs hp i v hi => ?_⟩⟩
              · rcases hset i v hi with ⟨_, rfl⟩ | ⟨_, h⟩
                · exact z1
                · exact hb.zds i v h
              · obtain ⟨θ, h1, h2⟩ := hinv fun g => if g = j then trM θ0 u vs.length else θ0 g
                have hj := h2 j (.inl hth)
                rw [if_pos rfl] at hj
                have hu' : trM θ u vs.length = trM θ0 u vs.length := trM_ext u _ fun g hg => by
                  obtain ⟨a1, a2⟩ := hmetas g hg
                  rw [h2 g (.inl a1), if_neg a2]
                refine ⟨θ, fun i v hi => ?_, fun g hg => ?_⟩
                · rcases hset i v hi with ⟨rfl, rfl⟩ | ⟨_, h⟩
                  · rw [hj, hsz, hu']; exact .refl _
                  · exact h1 i v h
                · rcases hg with hg | hg
                  · obtain ⟨a1, a2⟩ := thI_set hjl hg
                    rw [h2 g (.inl a2), if_neg a1]
                  · rw [h2 g (.inr hg), if_neg (by omega)]
              · have hs0 : sat θ sz bs := fun i v hi => by
                  by_cases hij : i = j
                  · subst hij; exact absurd hi (hno v)
                  · exact hs i v (by rw [List.getElem?_set_ne (fun e => hij e.symm)]; exact hi)
                have h0 := hs j u (List.getElem?_set_self hjl)
                rw [hsz] at h0
                have h3 := h0.ren (rhoU vs m)
                rw [← hC θ] at h3
                exact ⟨hs0, ((hA θ hs0).trans h3).trans ((hsem θ).1 hs0).symm⟩
              · rcases hset i v hi with ⟨rfl, rfl⟩ | ⟨_, h⟩
                · have h3 := (((hA θ hs).symm.trans hp).trans ((hsem θ).1 hs)).ren (rhoI vs m)
                  rw [hC θ, ren_back hvB, ren_back hvB] at h3
                  rw [hsz]
                  exact h3
                · exact hs i v h
            · rename_i e he
              split at hR
              · rename_i h7
                subst h7
                split at hR
                · rename_i hM
                  rw [← hR]
                  refine ⟨fun _ _ _ h => (by cases h), fun _ θ hs hp => ?_⟩
                  have hmt : mts t' = [] := mtO_nilU.1 (List.length_eq_zero_iff.1 hM)
                  obtain ⟨hn, _⟩ := iv_badU (K := kN N2) (by have := kN_pos N2; omega) (by unfold kN; omega) (by omega) (lv_mono (by have := kN_mono g1; omega) _ e5) (by omega) he
                  have h3 := ((hA θ hs).symm.trans hp).trans ((hsem θ).1 hs)
                  have h4 := h3.nf (by rw [trM_bare t' m hmt]; exact nf_tr t' e3)
                  obtain ⟨s', hs'⟩ := ps_ren h4 _ _ rfl
                  obtain ⟨u, hu⟩ := iv_some (θ := θ) hvB t' 0 s' e3 hmt (by rw [Nat.add_zero, hs', ren_ext (upU_zero _)])
                  have hu0 : ivT (igo vs m) t' 0 = some u := hu
                  rw [hn] at hu0
                  cases hu0
                · rw [← hR]; exact SemR.same hb2 fun h => by cases h
              · rw [← hR]; exact SemR.err (by decide)
theorem cm_sem {sz : List Int} {bs : List BT} {f : Nat} {a c : T} {m N : Nat} (hN : N ≤ 40000) (hb : SU sz bs N) (ha : WT (kN N + m) a) (hc : WT (kN N + m) c) (za : zd sz a) (zc : zd sz c) :
    SemR sz bs (cmU bs f a c m N) fun θ => Cv (trM θ a m) (trM θ c m) := by
  obtain ⟨R, hR⟩ : ∃ R, cmU bs f a c m N = R := ⟨_, rfl⟩
  rw [hR]
  rw [cmU] at hR
  split at hR
  · rename_i e he; rw [← hR]; exact SemR.err (rsL_er (fun x m N e he => rsU_er f x m N e he) _ _ _ _ he).ne6
  · rename_i ys N1 h1
    have hxw : ∀ (i : Nat) x, [a, c][i]? = some x → WT (kN N + m + bd 0 0 (0 + i)) x := fun i x hi => by
      rw [bd_bind (by omega) (by omega), Int.add_zero]
      have := List.mem_of_getElem? hi
      simp at this
      rcases this with rfl | rfl
      · exact ha
      · exact hc
    obtain ⟨g1, g2, _⟩ := rsL_good (A := rsU bs f) (show (0 : Int) ≤ m by omega) (fun t m N t' N' hm hb ht h => rsU_good f t m N t' N' hm hb ht h) [a, c] 0 N ys N1 hN hb.ok hxw h1
    have hLs := fun θ => rsL_sem (θ := θ) (A := rsU bs f) (fun t m N t' N' hb ht h => by
      have := rsU_good f t m N t' N' (by omega) hb.ok ht h
      omega) (fun t m N t' N' hb ht z h => rsU_sem (θ := θ) f t m N t' N' hb ht z h) [a, c] 0 N ys N1 hb hxw (fun x hx => by
      simp at hx
      rcases hx with rfl | rfl
      · exact za
      · exact zc) h1
    obtain ⟨y0, y1, rfl⟩ := two_len (hLs fun _ => .v 0).1
    rw [← hR]
    refine SemR.same (hb.mono g1) fun ho θ hs => ?_
    have e : samB y0 y1 = true := by simpa using ho
    have e2 := sam_eqU y0 y1 e
    have a1 := (hLs θ).2.2.2 hs 0 a y0 rfl rfl
    have a2 := (hLs θ).2.2.2 hs 1 c y1 rfl rfl
    rw [bdn_none (by omega), Nat.add_zero] at a1 a2
    rw [e2] at a1
    exact a1.trans a2.symm
theorem SemR.outside {sz : List Int} {bs : List BT} {f : Nat} {h : Int} {xs : List T} {t : T} {m : Int} {N : Nat} {bs' : List BT} {N' : Nat} (e : svU sz bs f h xs t m N = .ok (true, bs', N')) : bs' = bs := by
  rw [svU] at e
  split at e
  · cases e
  · split at e
    · cases e
    · split at e
      · cases e
      · split at e
        · cases e; rfl
        · split at e
          · cases e; rfl
          · split at e
            · cases e
            · split at e
              · split at e
                · cases e
                · cases e; rfl
              · cases e
theorem th_of {bs : List BT} {g : Int} {xs : List T} (h : som bs (.node 6 g xs) = false) : thI bs g = false := by simpa [som] using h
theorem me_sem {sz : List Int} {bs : List BT} {f : Nat} {k h : Int} {xs : List T} {k' h' : Int} {ys : List T} {m N : Nat} (hN : N ≤ 40000) (hb : SU sz bs N) (ha : WT (kN N + m) (.node k h xs)) (hc : WT (kN N + m) (.node k' h' ys)) (za : zd sz (.node k h xs)) (zc : zd sz (.node k' h' ys)) (h6 : k = 6 ∨ k' = 6)
    (sa : som bs (.node k h xs) = false) (sc : som bs (.node k' h' ys) = false) :
    SemR sz bs (meU sz bs f (.node k h xs) (.node k' h' ys) m N) fun θ => Cv (trM θ (.node k h xs) m) (trM θ (.node k' h' ys) m) := by
  by_cases hk : k = 6
  · subst hk
    obtain ⟨j, rfl⟩ : ∃ j : Nat, h = j := ⟨h.toNat, by have := ha.pos rfl; omega⟩
    by_cases hcc : k' = 6 ∧ h' = j
    · obtain ⟨rfl, rfl⟩ := hcc
      rw [meU_2]
      exact cm_sem hN hb ha hc za zc
    · rw [meU_3 hcc]
      have S1 := sv_sem (f := f) hb ha hc za zc (th_of sa)
      cases hS : svU sz bs f j xs (.node k' h' ys) m N with
      | error e =>
        rw [hS] at S1
        exact S1
      | ok p =>
        obtain ⟨o, bs1, N1⟩ := p
        by_cases ho : o = true ∧ k' = 6
        · obtain ⟨rfl, rfl⟩ := ho
          rw [mtT_yes rfl]
          obtain rfl := SemR.outside hS
          obtain ⟨s1, s2, s3⟩ := svU_good (by omega) hb.ok ha hc hS
          obtain ⟨j', rfl⟩ : ∃ j' : Nat, h' = j' := ⟨h'.toNat, by have := hc.pos rfl; omega⟩
          exact (sv_sem (f := f) (hb.mono s2) (hc.mono (by have := kN_mono s2; omega)) (ha.mono (by have := kN_mono s2; omega)) zc za (th_of sc)).iff fun θ _ => ⟨Cv.symm, Cv.symm⟩
        · rw [mtT_no ho, ← hS]
          exact S1
  · obtain rfl : k' = 6 := by omega
    obtain ⟨j, rfl⟩ : ∃ j : Nat, h' = j := ⟨h'.toNat, by have := hc.pos rfl; omega⟩
    rw [meU_1 hk]
    exact (sv_sem (f := f) hb hc ha zc za (th_of sc)).iff fun θ _ => ⟨Cv.symm, Cv.symm⟩
end Go.Proofs.YtelicajhamgibaaGreat

/-
  Unify of two terms, and of these turned. No statement is proved here.
-/
namespace Go.Proofs.YtelicajhamgibaaGreat
open Go.ChangeShapes Go.WideShapes Go.ChangeAt Go.RowKit Cr
set_option linter.unusedVariables false

theorem nds_sem {sz : List Int} {A : T → T → Int → List BT → Nat → Except Int USt} {k : Int} {n : Nat} {m : Nat}
    (hG : ∀ a c (m : Nat) bs N o bs' N', N ≤ 40000 → okU sz bs N → WT (kN N + m) a → WT (kN N + m) c → A a c m bs N = .ok (o, bs', N') → okU sz bs' N' ∧ N ≤ N' ∧ N' ≤ 40000)
    (hA : ∀ a c (m : Nat) bs N, N ≤ 40000 → SU sz bs N → WT (kN N + m) a → WT (kN N + m) c → zd sz a → zd sz c → SemR sz bs (A a c m bs N) fun θ => Cv (trM θ a m) (trM θ c m)) :
    ∀ (xs ys : List T) (i : Nat) (o : Bool) (bs : List BT) (N : Nat), xs.length = ys.length → N ≤ 40000 → SU sz bs N → (∀ j x, xs[j]? = some x → WT (kN N + m + bd k n (i + j)) x) → (∀ j x, ys[j]? = some x → WT (kN N + m + bd k n (i + j)) x) → (∀ x ∈ xs, zd sz x) → (∀ y ∈ ys, zd sz y) →
      (∀ o' bs' N', ndsU A k n m xs ys i o bs N = .ok (o', bs', N') → SU sz bs' N' ∧ (o' = false → o = false) ∧ (InvU sz bs → InvU sz bs') ∧ ∀ θ, (o' = false → sat θ sz bs' → sat θ sz bs ∧ ∀ (j : Nat) (x y : T), xs[j]? = some x → ys[j]? = some y → Cv (trM θ x (m + bdn k n (i + j))) (trM θ y (m + bdn k n (i + j)))) ∧
        (sat θ sz bs → (∀ (j : Nat) (x y : T), xs[j]? = some x → ys[j]? = some y → Cv (trM θ x (m + bdn k n (i + j))) (trM θ y (m + bdn k n (i + j)))) → sat θ sz bs')) ∧
      (ndsU A k n m xs ys i o bs N = .error 6 → ∀ θ, sat θ sz bs → ¬ ∀ (j : Nat) (x y : T), xs[j]? = some x → ys[j]? = some y → Cv (trM θ x (m + bdn k n (i + j))) (trM θ y (m + bdn k n (i + j)))) := by
  intro xs
  induction xs with
  | nil =>
    intro ys i o bs N hl hN hb _ _ _ _
    rw [ndsU_nil]
    exact ⟨(fun o' bs' N' e => by cases e; exact ⟨hb, fun h => h, fun h => h, fun θ => ⟨fun _ h => ⟨h, fun j x y hx => by simp at hx⟩, fun h _ => h⟩⟩), (fun e => by cases e)⟩
  | cons x xs ih =>
    intro ys i o bs N hl hN hb hx hy zx zy
    cases ys with
    | nil => simp at hl
    | cons y ys =>
      have hx0 := hx 0 x rfl
      have hy0 := hy 0 y rfl
      rw [Nat.add_zero, bd_bdn] at hx0 hy0
      have hx1 : WT (kN N + ((m + bdn k n i : Nat) : Int)) x := hx0.mono (by omega)
      have hy1 : WT (kN N + ((m + bdn k n i : Nat) : Int)) y := hy0.mono (by omega)
      have em : (m : Int) + bd k n i = ((m + bdn k n i : Nat) : Int) := by rw [bd_bdn]; omega
      obtain ⟨a1, a2⟩ := hA x y (m + bdn k n i) bs N hN hb hx1 hy1 (zx x (List.mem_cons_self ..)) (zy y (List.mem_cons_self ..))
      rw [ndsU, em]
      cases hr : A x y ((m + bdn k n i : Nat) : Int) bs N with
      | error e =>
        refine ⟨(fun o' bs' N' h => by simp only at h; cases h), (fun h θ hs hp => ?_)⟩
        simp only at h
        cases h
        exact a2 hr θ hs (hp 0 x y rfl rfl)
      | ok q =>
        obtain ⟨o1, bs1, N1⟩ := q
        obtain ⟨b1, b2, b3⟩ := a1 o1 bs1 N1 hr
        obtain ⟨c1, c2, c3⟩ := hG x y (m + bdn k n i) bs N o1 bs1 N1 hN hb.ok hx1 hy1 hr
        have hk := kN_mono c2
        obtain ⟨d1, d2⟩ := ih ys (i + 1) (o || o1) bs1 N1 (by simpa using hl) c3 b1 (fun j x' hj => by
          have := hx (j + 1) x' (by simpa using hj)
          rw [show i + (j + 1) = i + 1 + j by omega] at this
          exact this.mono (by omega)) (fun j x' hj => by
          have := hy (j + 1) x' (by simpa using hj)
          rw [show i + (j + 1) = i + 1 + j by omega] at this
          exact this.mono (by omega)) (fun u hu => zx u (List.mem_cons_of_mem _ hu)) (fun u hu => zy u (List.mem_cons_of_mem _ hu))
        have tail : ∀ θ : Va, (∀ (j : Nat) (x' y' : T), (x :: xs)[j]? = some x' → (y :: ys)[j]? = some y' → Cv (trM θ x' (m + bdn k n (i + j))) (trM θ y' (m + bdn k n (i + j)))) ↔ Cv (trM θ x (m + bdn k n i)) (trM θ y (m + bdn k n i)) ∧ ∀ (j : Nat) (x' y' : T), xs[j]? = some x' → ys[j]? = some y' → Cv (trM θ x' (m + bdn k n (i + 1 + j))) (trM θ y' (m + bdn k n (i + 1 + j))) := fun θ => by
          constructor
          · intro h
            refine ⟨by have := h 0 x y rfl rfl; rwa [Nat.add_zero] at this, fun j x' y' h1 h2 => ?_⟩
            have := h (j + 1) x' y' (by simpa using h1) (by simpa using h2)
            rwa [show i + (j + 1) = i + 1 + j by omega] at this
          · rintro ⟨h0, h⟩ j x' y' h1 h2
            cases j with
            | zero => simp at h1 h2; subst h1; subst h2; exact h0
            | succ j =>
              have := h j x' y' (by simpa using h1) (by simpa using h2)
              rwa [show i + 1 + j = i + (j + 1) by omega] at this
        refine ⟨fun o' bs' N' h => ?_, fun h θ hs hp => ?_⟩
        · obtain ⟨f1, f2, f3, f4⟩ := d1 o' bs' N' h
          refine ⟨f1, fun ho => by have := f2 ho; simp at this; exact this.1, fun hi => f3 (b2 hi), fun θ => ⟨fun ho hs => ?_, fun hs hp => ?_⟩⟩
          · obtain ⟨g1, g2⟩ := (f4 θ).1 ho hs
            have ho1 : o1 = false := by have := f2 ho; simp at this; exact this.2
            obtain ⟨g3, g4⟩ := (b3 θ).1 ho1 g1
            exact ⟨g3, (tail θ).2 ⟨g4, g2⟩⟩
          · obtain ⟨p1, p2⟩ := (tail θ).1 hp
            exact (f4 θ).2 ((b3 θ).2 hs p1) p2
        · obtain ⟨p1, p2⟩ := (tail θ).1 hp
          exact d2 h θ ((b3 θ).2 hs p1) p2
theorem uND_sem {sz : List Int} : ∀ (f : Nat) (a c : T) (m : Nat) (bs : List BT) (N : Nat), N ≤ 40000 → SU sz bs N → WT (kN N + m) a → WT (kN N + m) c → zd sz a → zd sz c → SemR sz bs (uND sz f a c m bs N) fun θ => Cv (trM θ a m) (trM θ c m) := by
  intro f
  induction f with
  | zero => intro a c m bs N _ _ _ _ _ _; rw [uND]; exact SemR.err (by decide)
  | succ f ih =>
    intro a c m bs N hN hb ha hc za zc
    cases h1 : rdU bs m (f + 1) a N with
    | error e => rw [uND_e1 h1]; exact SemR.err (rdU_er _ _ _ _ h1).ne6
    | ok q =>
      obtain ⟨⟨k, g, xs⟩, N1⟩ := q
      cases h2 : rdU bs m (f + 1) c N1 with
      | error e => rw [uND_e2 h1 h2]; exact SemR.err (rdU_er _ _ _ _ h2).ne6
      | ok q =>
        obtain ⟨⟨k', g', ys⟩, N2⟩ := q
        obtain ⟨e1, e2, e3, e4⟩ := rdU_good (by omega) _ _ _ _ _ hb.ok ha h1
        have hc1 : WT (kN N1 + m) c := hc.mono (by have := kN_mono (show N ≤ N1 by omega); omega)
        obtain ⟨f1, f2, f3, f4⟩ := rdU_good (by omega) _ _ _ _ _ (hb.ok.mono (by omega)) hc1 h2
        have s1 := fun θ => rdU_sem (θ := θ) _ _ _ _ _ hb ha za h1
        have s2 := fun θ => rdU_sem (θ := θ) _ _ _ _ _ (hb.mono (by omega)) hc1 zc h2
        have e5 : WT (kN N2 + m) (.node k g xs) := e3.mono (by have := kN_mono (show N1 ≤ N2 by omega); omega)
        have za' := (s1 fun _ => .v 0).2
        have zc' := (s2 fun _ => .v 0).2
        have hb2 := hb.mono (show N ≤ N2 by omega)
        rw [uND_ok h1 h2]
        refine SemR.iff (P := fun θ => Cv (trM θ (.node k g xs) m) (trM θ (.node k' g' ys) m)) ?_ fun θ hs => ⟨fun h => (((s1 θ).1 hs).trans h).trans ((s2 θ).1 hs).symm, fun h => (((s1 θ).1 hs).symm.trans h).trans ((s2 θ).1 hs)⟩
        by_cases h6 : k = 6 ∨ k' = 6
        · rw [if_pos h6]
          exact me_sem f2 hb2 e5 f3 za' zc' h6 e4 f4
        · rw [if_neg h6]
          by_cases hcc : k = k' ∧ g = g' ∧ xs.length = ys.length
          · rw [if_pos hcc]
            obtain ⟨rfl, rfl, hl⟩ := hcc
            obtain ⟨q1, q2⟩ := nds_sem (A := uND sz f) (k := k) (n := xs.length) (m := m) (fun a c m bs N o bs' N' hN hb ha hc h => by
              obtain ⟨i1, i2, i3⟩ := uND_good f a c m bs N o bs' N' (by omega) hb ha hc h
              exact ⟨i1, by omega, i3⟩) (fun a c m bs N hN hb ha hc za zc => ih a c m bs N hN hb ha hc za zc) xs ys 0 false bs N2 hl f2 hb2 (fun j x hj => by rw [Nat.zero_add]; exact e5.arg hj) (fun j x hj => by rw [Nat.zero_add, hl]; exact f3.arg hj) (zd_kids za') (zd_kids zc')
            have eqv : ∀ θ : Va, (∀ (j : Nat) (x y : T), xs[j]? = some x → ys[j]? = some y → Cv (trM θ x (m + bdn k xs.length (0 + j))) (trM θ y (m + bdn k xs.length (0 + j)))) ↔ Cv (trM θ (.node k g xs) m) (trM θ (.node k g ys) m) := fun θ => by
              constructor
              · intro h
                exact node_same hl fun j x y hx hy => by have := h j x y hx hy; rwa [Nat.zero_add] at this
              · intro h j x y hx hy
                rw [Nat.zero_add]
                exact (node_cv e5.nod f3.nod (fun e => h6 (.inl e)) (fun e => h6 (.inl e)) h).2.2.2 j x y hx hy
            refine ⟨fun o bs' N' e => ?_, fun e θ hs hp => q2 e θ hs ((eqv θ).2 hp)⟩
            obtain ⟨r1, _, r3, r4⟩ := q1 o bs' N' e
            exact ⟨r1, r3, fun θ => ⟨fun ho hs => by
              obtain ⟨a1, a2⟩ := (r4 θ).1 ho hs
              exact ⟨a1, (eqv θ).1 a2⟩, fun hs hp => (r4 θ).2 hs ((eqv θ).2 hp)⟩⟩
          · rw [if_neg hcc]
            refine ⟨fun _ _ _ h => (by cases h), fun _ θ hs hp => ?_⟩
            obtain ⟨a1, a2, a3, _⟩ := node_cv e5.nod f3.nod (fun e => h6 (.inl e)) (fun e => h6 (.inr e)) hp
            exact hcc ⟨a1, a2, a3⟩
/-- nothing is something yet -/
theorem su_first {sz : List Int} (h2 : sz.length ≤ 200) (hs : sz.any noC = false) : SU sz (List.replicate sz.length noB) 0 :=
  ⟨okU_first h2 hs, fun i t hi => by
    rw [List.getElem?_replicate] at hi
    split at hi
    · cases hi
    · cases hi⟩
theorem sat_first (θ : Va) (sz : List Int) : sat θ sz (List.replicate sz.length noB) := fun i t hi => by
    rw [List.getElem?_replicate] at hi
    split at hi
    · cases hi
    · cases hi
theorem inv_first (sz : List Int) : InvU sz (List.replicate sz.length noB) := fun θ0 => ⟨θ0, sat_first θ0 sz, fun _ _ => rfl⟩
theorem rvL_er {sz : List Int} : ∀ (r i : Nat) (bs : List BT) (N : Nat) (e : Int), rvL sz r i bs N = .error e → Er4 e
  | 0, i, bs, N, e, h => by rw [rvL] at h; cases h
  | r + 1, i, bs, N, e, h => by
    rw [rvL] at h
    split at h
    · split at h
      · rename_i e' he; cases h; exact rsU_er _ _ _ _ _ he
      · exact rvL_er r _ _ _ _ h
    · exact rvL_er r _ _ _ _ h
/-- what one way is OK is no clash the other way -/
theorem un_turn {a c : T} {m : Nat} {sz : List Int} {bs : List BT} (hA : unA a c m sz = true) (hC : unA c a m sz = true) (hoa : okT 1099511627776 a) (hoc : okT 1099511627776 c) (za : zd sz a) (zc : zd sz c) (h1 : unR a c m sz = .ok bs) (h2 : unR c a m sz = .error 6) : False := by
  have hA2 := hA
  rw [unA] at hA2
  simp only [Bool.and_eq_true, decide_eq_true_eq] at hA2
  obtain ⟨⟨⟨⟨q0, q1⟩, q2⟩, q3⟩, ma, mc⟩ := hA2
  have hs : sz.any noC = false := by
    rw [List.any_eq_false]
    intro x hx
    have := List.all_eq_true.1 q3 x hx
    simp only [Bool.and_eq_true, decide_eq_true_eq] at this
    simp [noC]
    omega
  have hb := su_first q2 hs
  have wa := wt_first (n := m) ma hoa (by omega)
  have wc := wt_first (n := m) mc hoc (by omega)
  have S1 := uND_sem fu a c m _ 0 (by omega) hb wa wc za zc
  have S2 := uND_sem fu c a m _ 0 (by omega) hb wc wa zc za
  cases hu : uND sz fu a c m (List.replicate sz.length noB) 0 with
  | error e => rw [un_err hA hu] at h1; cases h1
  | ok p =>
    obtain ⟨o, bs', N'⟩ := p
    cases o with
    | true => rw [un_out hA hu] at h1; cases h1
    | false =>
      obtain ⟨_, i1, i2⟩ := S1.1 _ _ _ hu
      obtain ⟨θ, j1, _⟩ := i1 (inv_first sz) fun _ => .v 0
      obtain ⟨_, hp⟩ := (i2 θ).1 rfl j1
      cases hw : uND sz fu c a m (List.replicate sz.length noB) 0 with
      | error e =>
        rw [un_err hC hw] at h2
        cases h2
        exact S2.2 hw θ (sat_first θ sz) hp.symm
      | ok p =>
        obtain ⟨o, bs2, N2⟩ := p
        cases o with
        | true => rw [un_out hC hw] at h2; cases h2
        | false =>
          rw [un_ok hC hw] at h2
          cases hr : rvL sz sz.length 0 bs2 N2 with
          | error e => rw [hr] at h2; cases h2; exact (rvL_er _ _ _ _ _ hr).ne6 rfl
          | ok p => rw [hr] at h2; obtain ⟨x, y⟩ := p; cases h2
end Go.Proofs.YtelicajhamgibaaGreat

/-
  Contract of the law's own function sized. No statement is proved here.
-/
namespace Go.Proofs.YtelicajhamgibaaGreat
open Go.ChangeShapes Go.WideShapes Go.ChangeAt Go.RowKit Cr
set_option linter.unusedVariables false

/-- a node with as many Args as it has entries, if it is a meta -/
def zd1 (sz : List Int) (k h : Int) (n : Nat) : Bool := !(decide (k = 6) && (decide (h < 0) || (decide ((sz.length : Int) ≤ h) || decide ((n : Int) ≠ sz.getD h.toNat 0))))
mutual
def zdB (sz : List Int) : T → Bool
  | .node k h xs => zd1 sz k h xs.length && zdBL sz xs
def zdBL (sz : List Int) : List T → Bool
  | [] => true
  | x :: xs => zdB sz x && zdBL sz xs
end
theorem zd1_zd {sz : List Int} {k h : Int} {n : Nat} (e : zd1 sz k h n = true) (hk : k = 6) : 0 ≤ h ∧ h < sz.length ∧ (n : Int) = sz.getD h.toNat 0 := by
  rw [zd1, decide_eq_true hk] at e
  simp only [Bool.true_and, Bool.not_eq_true', Bool.or_eq_false_iff, decide_eq_false_iff_not] at e
  obtain ⟨e1, e2, e3⟩ := e
  exact ⟨by omega, by omega, Decidable.not_not.1 e3⟩
mutual
theorem zdB_zd {sz : List Int} : ∀ t : T, zdB sz t = true → zd sz t
  | .node k h xs, e => by
    rw [zdB, Bool.and_eq_true] at e
    rw [zd]
    exact ⟨zd1_zd e.1, zdBL_zd xs e.2⟩
theorem zdBL_zd {sz : List Int} : ∀ xs : List T, zdBL sz xs = true → zdL sz xs
  | [], _ => by rw [zdL]; trivial
  | x :: xs, e => by
    rw [zdBL, Bool.and_eq_true] at e
    rw [zdL]
    exact ⟨zdB_zd x e.1, zdBL_zd xs e.2⟩
end

set_option maxRecDepth 100000 in
set_option maxHeartbeats 8000000 in
theorem sizedC (sz : List Int) (As : Option Addr) (L cs : Nat) (hl : sz.length = L) (hlc : L ≤ cs) (hcm : cs ≤ maxLen) (t : T) : ∀ (v : Value) (w : World), Rd w t v → Nu w sz As →
    Calls Tryz.prog 11 #[v, .slice As L cs] w fun e w' => e = .returned (.bool (zdB sz t)) ∧ Below w.heap.size w w' := by
  induction t using T.ind with
  | step k h xs ih =>
    intro v w hv hs
    obtain ⟨A, n, c, rfl, hk0, hh0, hn, hc, hm, hx⟩ := Rd_node.1 hv
    clear hv
    have hcm2 := hcm
    unfold maxLen at hm hcm2
    have HX := Lib.hid hx; clear hx
    have IH := Lib.hid ih; clear ih
    have HN := Lib.hid hn
    have HS := Lib.hid hs
    have HLZ := Lib.hid hl
    obtain ⟨W, hW⟩ : ∃ W, w.alloc (.cells #[.int .i64 k, .int .i64 h, .slice A n c] 24) = W := ⟨_, rfl⟩
    have hb : Below w.heap.size w W := by rw [← hW]; exact (Below.refl _ _).alloc (Nat.le_refl _) _
    have x0 : Box W w.heap.size 24 #[.int .i64 k, .int .i64 h, .slice A n c] := by rw [← hW]; exact Box.new _ _ _
    have HW := Lib.hid hW; clear hW
    obtain ⟨R, hR⟩ : ∃ R, zdB sz (.node k h xs) = R := ⟨_, rfl⟩
    rw [hR]
    have hR2 : R = (zd1 sz k h n && zdBL sz xs) := by rw [← hR, zdB, hn]
    clear hR hn
    have HR := Lib.hid hR2; clear hR2
    obtain ⟨a0, a1, a2⟩ := x0.three
    have HB := Lib.hid hb
    have HX0 := Lib.hid x0
    have q0 := Past.cell a0
    have q1 := Past.cell a1
    have q2 := Past.cell a2
    have fin : ∀ W', Below w.heap.size w W' → Nu W' sz As := fun W' h => hs.keep h
    have hloop : zd1 sz k h n = true ∨ zd1 sz k h n = false := by cases zd1 sz k h n <;> simp
    go_enter Tryz.func11, Tryz.ntmps11
    go_wp2_with fail
    rw [HW.out]
    clear HW fin hloop
    by_cases hk : k = 6
    case' pos =>
      have d6 : (k == 6) = true := by simpa using hk
      by_cases h0 : h < 0
      · have d0 : decide (h < 0) = true := decide_eq_true h0
        have HR2 : Hid (R = false) := Lib.hid (by rw [HR.out, zd1, decide_eq_true hk, d0]; rfl)
        clear hk h0 hs hb x0
        refine wp_region_past (by kernel_rfl) (by kernel_rfl) ?_
        repeat (go_big_quiet_step (fail))
        refine wpQuiet_nil ?_
        rintro _ ⟨z1, rfl⟩
        obtain ⟨W4, hb4⟩ := z1
        dsimp only
        clear q0 q1 q2 a0 a1 a2
        have HB4 := Lib.hid (HB.out.trans (hb4.mono HB.out.size)); clear hb4
        go_wp2_with fail
        go_ret
        exact ⟨by rw [HR2.out]; rfl, HB4.out⟩
      have d0 : decide (h < 0) = false := decide_eq_false h0
      by_cases h1 : (L : Int) ≤ h
      · have d1 : decide ((L : Int) ≤ h) = true := decide_eq_true h1
        have HR2 : Hid (R = false) := Lib.hid (by rw [HR.out, zd1, decide_eq_true hk, HLZ.out, d1, d0]; rfl)
        clear hk h0 h1 hs hb x0
        refine wp_region_past (by kernel_rfl) (by kernel_rfl) ?_
        repeat (go_big_quiet_step (fail))
        refine wpQuiet_nil ?_
        rintro _ ⟨z1, rfl⟩
        obtain ⟨W4, hb4⟩ := z1
        dsimp only
        clear q0 q1 q2 a0 a1 a2
        have HB4 := Lib.hid (HB.out.trans (hb4.mono HB.out.size)); clear hb4
        go_wp2_with fail
        go_ret
        exact ⟨by rw [HR2.out]; rfl, HB4.out⟩
      have d1 : decide ((L : Int) ≤ h) = false := decide_eq_false h1
      obtain ⟨j, rfl⟩ : ∃ j : Nat, h = j := ⟨h.toNat, by omega⟩
      obtain ⟨z, hz⟩ : ∃ z, sz[j]? = some z := ⟨_, List.getElem?_eq_getElem (by omega)⟩
      have hzD : sz.getD j 0 = z := by rw [List.getD_eq_getElem?_getD, hz]; rfl
      obtain ⟨bS, oS, rfl, s0⟩ := (hs.keep hb) j z hz
      have r0 := Past.cell s0
      have hj0 : (0 : Int) ≤ j := by omega
      have hjL : (j : Int) < L := by omega
      have d1n : decide (L ≤ j) = false := decide_eq_false (by omega)
      by_cases h2 : (n : Int) ≠ z
      · have d2 : ((n : Int) != z) = true := by simpa using h2
        have HR2 : Hid (R = false) := Lib.hid (by rw [HR.out, zd1, decide_eq_true hk, HLZ.out, d1, d0, Int.toNat_natCast, hzD, decide_eq_true h2]; rfl)
        clear hk h0 h1 h2 hs hb x0 hz hzD
        refine wp_region_past (by kernel_rfl) (by kernel_rfl) ?_
        repeat (go_big_quiet_step (fail))
        refine wpQuiet_nil ?_
        rintro _ ⟨z1, rfl⟩
        obtain ⟨W4, hb4⟩ := z1
        dsimp only
        clear q0 q1 q2 a0 a1 a2 r0 s0
        have HB4 := Lib.hid (HB.out.trans (hb4.mono HB.out.size)); clear hb4
        go_wp2_with fail
        go_ret
        exact ⟨by rw [HR2.out]; rfl, HB4.out⟩
      have d2 : ((n : Int) != z) = false := by simpa using h2
      have HR2 : Hid (R = zdBL sz xs) := Lib.hid (by rw [HR.out, zd1, decide_eq_true hk, HLZ.out, d1, d0, Int.toNat_natCast, hzD, decide_eq_false h2]; rfl)
      clear hk h0 h1 h2 hs hb x0 hz hzD
    case' neg =>
      have d6 : (k == 6) = false := by simpa using hk
      have HR2 : Hid (R = zdBL sz xs) := Lib.hid (by rw [HR.out, zd1, decide_eq_false hk]; rfl)
      clear hk hs hb x0
    all_goals
      refine wp_region_past (by kernel_rfl) (by kernel_rfl) ?_
      repeat (go_big_quiet_step (fail))
      refine wpQuiet_nil ?_
      rintro _ ⟨z1, rfl⟩
      obtain ⟨W4, hb4⟩ := z1
      dsimp only
      clear q0 q1 q2 a0 a1 a2
      try clear r0 s0
      have HB4 := Lib.hid (HB.out.trans (hb4.mono HB.out.size))
      have HX4 := Lib.hid (HX0.out.keep hb4 HX0.out.lt)
      clear hb4
      go_wp2_with fail
      go_loopw [5] (fun i wr => ∃ (j : Nat), j ≤ n ∧ i = .int .i64 j ∧ Hid (zdBL sz (xs.drop j) = zdBL sz xs) ∧ Hid (Box wr w.heap.size 24 #[.int .i64 _, .int .i64 _, .slice A n c]) ∧ Hid (Below w.heap.size w wr)) (fun i _ => n - (Go.RowKit.intOf i).toNat)
      case atStart => exact ⟨0, Nat.zero_le _, rfl, Lib.hid (by rw [List.drop_zero]), HX4, HB4⟩
      case round =>
        obtain ⟨i, hi, rfl, HZ, HXR, HBR⟩ := hrel
        obtain ⟨b0, b1, b2⟩ := HXR.out.three
        by_cases hlt : i < n
        · obtain ⟨t, ht⟩ := at_of HN.out hlt
          obtain ⟨bb, o, k2, h2, A2, n2, c2, rfl, c0, c1, c2', hr⟩ := (RdAt.keep HBR.out (HX.out i t ht)).full
          have HC := Lib.hid (IH.out t (List.mem_of_getElem? ht) _ wr hr (HS.out.keep HBR.out))
          have hz := HZ.out
          rw [drop_at ht, zdBL] at hz
          have HZ2 := Lib.hid hz
          have hi0 : (0 : Int) ≤ i := by omega
          have hi1 : (i : Int) < n := by omega
          clear ht hr hz
          generalize zdB sz t = S at *
          go_wp2_with fail
          refine HC.out.mono ?_
          rintro e w1 ⟨rfl, hb1⟩
          have HXN := Lib.hid (HXR.out.keep hb1 HXR.out.lt)
          have HBN := Lib.hid (HBR.out.trans (hb1.mono HBR.out.size))
          clear hb1 HC b0 b1 b2 c0 c1 c2'
          cases S
          · have HR3 : Hid (R = false) := Lib.hid (by rw [HR2.out, ← HZ2.out]; rfl)
            go_wp2_with fail
            go_ret
            exact ⟨by rw [HR3.out]; rfl, HBN.out⟩
          · go_wp2_with fail
            go_roundw
            case rel => exact ⟨i + 1, by omega, by go_num, Lib.hid (by simpa using HZ2.out), HXN, HBN⟩
            case measure => simp [Go.RowKit.intOf]; omega
        · have hz := HZ.out
          rw [drop_all HN.out (by omega), zdBL] at hz
          have HR3 : Hid (R = true) := Lib.hid (by rw [HR2.out, ← hz])
          clear hz
          go_wp2_with fail
          go_ret
          exact ⟨by rw [HR3.out]; rfl, HBR.out⟩
end Go.Proofs.YtelicajhamgibaaGreat

/-
  What Fill tells, as a lambda term, where metas are what Full tells; two terms that Unify makes the same are the same once they are filled. No statement is proved here.
-/
namespace Go.Proofs.YtelicajhamgibaaGreat
open Go.ChangeShapes Go.WideShapes Go.ChangeAt Go.RowKit Cr
set_option linter.unusedVariables false

/-! ### Metas that are nothing are themselves -/
/-- a meta that is nothing, as Full has it -/
def idM (sz : List Int) : Va := fun h => tr (.node 6 h (vsL (sz.getD h.toNat 0).toNat))
theorem sub_vs {ys : List Lm} {s m : Nat} (hl : ys.length = s) : (vsL s).map (fun x => Cr.sub (sM ys m) (tr x)) = ys := by
  subst hl
  refine List.ext_getElem (by rw [List.length_map, vsL_len]) fun i h1 h2 => ?_
  rw [List.getElem_map]
  unfold vsL
  rw [List.getElem_map, List.getElem_range, tr_app (by omega)]
  simp only [List.map_nil, apps, at0, if_pos, Cr.sub]
  rw [sM, if_neg (by omega), List.getD_eq_getElem?_getD, show ys.length - 1 - ((ys.length : Int) - 1 - (i : Int)).toNat = i by omega, List.getElem?_eq_getElem h2]
  rfl
mutual
theorem trM_id {θ : Va} {sz : List Int} : ∀ (t : T) (m : Nat), zd sz t → (∀ g ∈ mts t, θ g = idM sz g) → trM θ t m = tr t
  | .node k h xs, m, z, hg => by
    rw [zd] at z
    rw [trM, tr, trML_id k xs.length xs 0 m z.2 fun g hx => hg g (by rw [mts]; exact List.mem_append.2 (.inr hx))]
    by_cases h3 : k = 3
    · rw [if_pos h3, if_pos h3]
    · rw [if_neg h3, if_neg h3]
      by_cases h6 : k = 6
      · obtain ⟨z1, z2, z3⟩ := z.1 h6
        rw [if_pos h6, hg h (by rw [mts, if_pos h6]; simp), idM, tr_app (by omega), sub_apps, List.map_map]
        have := sub_vs (ys := trL k xs.length xs 0) (s := (sz.getD h.toNat 0).toNat) (m := m) (by rw [trL_len]; omega)
        rw [show (Cr.sub (sM (trL k xs.length xs 0) m) ∘ tr) = (fun x => Cr.sub (sM (trL k xs.length xs 0) m) (tr x)) from rfl, this]
        subst h6
        simp [at0, Cr.sub]
      · rw [if_neg h6]
theorem trML_id {θ : Va} {sz : List Int} (k : Int) (n : Nat) : ∀ (xs : List T) (i m : Nat), zdL sz xs → (∀ g ∈ mtsL xs, θ g = idM sz g) → trML θ k n xs i m = trL k n xs i
  | [], i, m, _, _ => by rw [trML, trL]
  | x :: xs, i, m, z, hg => by
    rw [zdL] at z
    rw [trML, trL, trM_id x _ z.1 fun g h => hg g (by rw [mtsL]; exact List.mem_append.2 (.inl h)), trML_id k n xs _ _ z.2 fun g h => hg g (by rw [mtsL]; exact List.mem_append.2 (.inr h))]
end

/-! ### Fill -/
theorem sg_sM0 (xs : List T) (m i : Nat) : sg xs m i = sM (xs.map tr) m i := by
  unfold sg sM
  rw [List.length_map]
  split
  · simp
  · rename_i hl
    have : xs.length - 1 - i < xs.length := by omega
    rw [List.getD_eq_getElem?_getD, List.getD_eq_getElem?_getD, List.getElem?_map, List.getElem?_eq_getElem this]
    rfl
theorem nodL_memU : ∀ {xs : List T}, nodL xs = true → ∀ x ∈ xs, nodB x = true
  | x :: xs, w, y, hy => by
    rw [nodL, Bool.and_eq_true] at w
    rcases List.mem_cons.1 hy with rfl | hy
    · exact w.1
    · exact nodL_memU w.2 y hy
/-- terms for metas, as lambda terms -/
def thV (θ : Va) (th : List T) : Prop := ∀ (h : Nat) (t : T), th[h]? = some t → nodB t = true ∧ Cv (θ h) (tr t)
mutual
theorem fl_sem {θ : Va} {th : List T} (hth : thV θ th) : ∀ (t : T) (n : Nat) (t' : T), nodB t = true → flT th t n = .ok t' → nodB t' = true ∧ Cv (trM θ t n) (tr t')
  | .node k h xs, n, t', w, e => by
    have w0 := w
    rw [nodB, Bool.and_eq_true] at w
    rw [flT] at e
    cases hL : flL th k xs.length xs 0 n with
    | error e1 => rw [hL] at e; cases e
    | ok ys =>
      rw [hL] at e
      obtain ⟨a1, a2, a3⟩ := flL_sem hth k xs.length xs 0 n ys w.2 hL
      dsimp only at e
      rw [flN] at e
      by_cases h6 : k = 6
      · rw [if_pos h6] at e
        have hp : 0 ≤ h := by
          have := w.1
          subst h6
          simp [okN] at this
          omega
        split at e
        · cases e
        · rename_i hlt
          split at e
          · split at e
            · rename_i he
              cases e
              obtain ⟨j, rfl⟩ : ∃ j : Nat, h = j := ⟨h.toNat, by omega⟩
              rw [Int.toNat_natCast] at he ⊢
              have hj : j < th.length := by omega
              obtain ⟨b1, b2⟩ := hth j _ (List.getElem?_eq_getElem hj)
              have eg : th.getD j (.node 0 0 []) = th[j] := by rw [List.getD_eq_getElem?_getD, List.getElem?_eq_getElem hj]; rfl
              rw [eg] at he ⊢
              obtain ⟨_, _, q, hq, _⟩ := ap_zero he
              obtain ⟨c1, c2⟩ := ap_red fl ys n 0 th[j] 0 _ _ (nodL_memU a1) (by omega) b1 hq
              refine ⟨c1, ?_⟩
              subst h6
              rw [trM_meta]
              rw [trML_map (by omega), trL_map (by omega)] at a3
              refine Cv.trans (b2.sub fun i => a3.sM n i) (Cv.of ?_)
              rw [upn, sub_ext (sg_sM0 ys n)] at c2
              exact c2
            · cases e
          · cases e
      · rw [if_neg h6] at e
        cases e
        refine ⟨by rw [nodB, a2, w.1, a1]; rfl, ?_⟩
        by_cases h3 : k = 3
        · obtain ⟨rfl, x, rfl⟩ := lam_one' h3 w0
          obtain ⟨y, rfl⟩ : ∃ y, ys = [y] := List.length_eq_one_iff.1 a2
          rw [trM, tr, if_pos h3, if_pos h3]
          have e1 : [y].length = [x].length := rfl
          rw [e1]
          rw [trML, trML, trL, trL] at a3 ⊢
          exact a3.1
        · rw [trM, tr, if_neg h3, if_neg h6, if_neg h3, a2]
          exact CvL.apps (.refl _) a3
theorem flL_sem {θ : Va} {th : List T} (hth : thV θ th) (k : Int) (m : Nat) : ∀ (xs : List T) (i n : Nat) (ys : List T), nodL xs = true → flL th k m xs i n = .ok ys → nodL ys = true ∧ ys.length = xs.length ∧ CvL (trML θ k m xs i n) (trL k m ys i)
  | [], i, n, ys, _, e => by
    rw [flL] at e
    cases e
    exact ⟨by rw [nodL], rfl, by rw [trML, trL]; trivial⟩
  | x :: xs, i, n, ys, w, e => by
    rw [nodL, Bool.and_eq_true] at w
    rw [flL, bd_bdn, show (n : Int) + (bdn k m i : Int) = ((n + bdn k m i : Nat) : Int) by omega] at e
    cases h1 : flT th x ((n + bdn k m i : Nat) : Int) with
    | error e1 => rw [h1] at e; cases e
    | ok y =>
      rw [h1] at e
      dsimp only at e
      cases h2 : flL th k m xs (i + 1) n with
      | error e1 => rw [h2] at e; cases e
      | ok zs =>
        rw [h2] at e
        cases e
        obtain ⟨a1, a2⟩ := fl_sem hth x _ y w.1 h1
        obtain ⟨b1, b2, b3⟩ := flL_sem hth k m xs (i + 1) n zs w.2 h2
        refine ⟨by rw [nodL, a1, b1]; rfl, by rw [List.length_cons, List.length_cons, b2], ?_⟩
        rw [trML, trL]
        exact ⟨Cv.wrap a2, b3⟩
end
end Go.Proofs.YtelicajhamgibaaGreat

/-
  What Unify makes the same is the same, once it is filled. No statement is proved here.
-/
namespace Go.Proofs.YtelicajhamgibaaGreat
open Go.ChangeShapes Go.WideShapes Go.ChangeAt Go.RowKit Cr
set_option linter.unusedVariables false

theorem thI_same {bs : List BT} {i : Nat} {t u : T} (hi : bs[i]? = some (true, t)) (g : Int) : thI (bs.set i (true, u)) g = thI bs g := by
  unfold thI
  rw [List.length_set]
  congr 1
  rw [List.getD_eq_getElem?_getD, List.getD_eq_getElem?_getD, List.getElem?_set]
  split
  · rename_i e
    subst e
    rw [hi]
    split
    · rfl
    · rename_i hn
      rw [List.getElem?_eq_none (by omega)] at hi
      cases hi
  · rfl
theorem noneB.same {bs bs' : List BT} {l : List Int} (h : noneB bs l) (e : ∀ g, thI bs' g = thI bs g) : noneB bs' l := fun x hx => by rw [e]; exact h x hx
/-- all metas that are something, resolved -/
theorem rv_sem {sz : List Int} : ∀ (r i : Nat) (bs : List BT) (N : Nat) (bs' : List BT) (N' : Nat), SU sz bs N → N ≤ 40000 → (∀ j t, j < i → bs[j]? = some (true, t) → noneB bs (mts t)) → rvL sz r i bs N = .ok (bs', N') →
    SU sz bs' N' ∧ (∀ g, thI bs' g = thI bs g) ∧ (∀ θ, sat θ sz bs → sat θ sz bs') ∧ (∀ j t, j < i + r → bs'[j]? = some (true, t) → noneB bs' (mts t)) ∧ N' ≤ 40000
  | 0, i, bs, N, bs', N', hb, hN, hj, h => by
    rw [rvL] at h
    cases h
    exact ⟨hb, fun _ => rfl, fun _ h => h, hj, hN⟩
  | r + 1, i, bs, N, bs', N', hb, hN, hj, h => by
    cases hx : (bs.getD i noB).1 with
    | false =>
      rw [rvL_no1 hx] at h
      have hj' : ∀ j t, j < i + 1 → bs[j]? = some (true, t) → noneB bs (mts t) := fun j t h1 h2 => by
        by_cases e : j = i
        · subst e
          rw [List.getD_eq_getElem?_getD, h2] at hx
          cases hx
        · exact hj j t (by omega) h2
      have := rv_sem r (i + 1) bs N bs' N' hb hN hj' h
      rwa [show i + 1 + r = i + (r + 1) by omega] at this
    | true =>
      obtain ⟨x, hi⟩ : ∃ x, bs[i]? = some x := by
        cases e : bs[i]? with
        | some x => exact ⟨x, rfl⟩
        | none => rw [List.getD_eq_getElem?_getD, e] at hx; cases hx
      have ex : bs.getD i noB = x := by rw [List.getD_eq_getElem?_getD, hi]; rfl
      rw [ex] at hx
      obtain ⟨o, t⟩ := x
      dsimp only at hx
      subst hx
      have hsz := hb.ok.szs i
      obtain ⟨m, hm⟩ : ∃ m : Nat, sz.getD i 0 = m := ⟨(sz.getD i 0).toNat, by omega⟩
      have ht := hb.ok.at_ i _ hi rfl
      rw [hm] at ht
      cases hr : rsU bs fu t (m : Int) N with
      | error e =>
        rw [rvL_err (ec := e) (by rw [ex]) (by rw [ex, hm]; exact hr)] at h
        cases h
      | ok q =>
        obtain ⟨t', N1⟩ := q
        rw [rvL_ok (t := t') (N' := N1) (by rw [ex]) (by rw [ex, hm]; exact hr)] at h
        obtain ⟨g1, g2, g3, g4, g5⟩ := rsU_good fu t m N t' N1 (by omega) hb.ok ht hr
        have sm := fun θ => rsU_sem (θ := θ) fu t m N t' N1 hb ht (hb.zds i t hi) hr
        have hset : ∀ j u, (bs.set i (true, t'))[j]? = some (true, u) → (j = i ∧ u = t') ∨ (j ≠ i ∧ bs[j]? = some (true, u)) := fun j u hu => by
          rw [List.getElem?_set] at hu
          split at hu
          · rename_i e
            split at hu
            · cases hu; exact .inl ⟨e.symm, rfl⟩
            · cases hu
          · rename_i e
            exact .inr ⟨fun e' => e e'.symm, hu⟩
        have hb1 : SU sz (bs.set i (true, t')) N1 := ⟨(hb.ok.mono (by omega)).set (by rw [hm]; exact WT.of g3 g4 (by omega) g5), fun j u hu => by
          rcases hset j u hu with ⟨_, rfl⟩ | ⟨_, hu⟩
          · exact (sm fun _ => .v 0).2.1
          · exact hb.zds j u hu⟩
        have hth := thI_same (u := t') hi
        obtain ⟨a1, a2, a3, a4, a5⟩ := rv_sem r (i + 1) _ N1 bs' N' hb1 g2 (fun j u h1 h2 => by
          rcases hset j u h2 with ⟨_, rfl⟩ | ⟨e, hu⟩
          · exact ((sm fun _ => .v 0).2.2).same hth
          · exact (hj j u (by omega) hu).same hth) h
        refine ⟨a1, fun g => (a2 g).trans (hth g), fun θ hs => a3 θ fun j u hu => ?_, fun j u h1 h2 => a4 j u (by omega) h2, a5⟩
        rcases hset j u hu with ⟨rfl, rfl⟩ | ⟨_, hu⟩
        · have c1 := hs j t hi
          rw [hm, Int.toNat_natCast] at c1 ⊢
          exact c1.trans ((sm θ).1 hs)
        · exact hs j u hu
theorem ful_at {sz : List Int} : ∀ {bs : List BT} {i h : Nat} {t : T}, (fulL sz bs i)[h]? = some t → ∃ x, bs[h]? = some x ∧ t = fulT x (i + h) (sz.getD (i + h) 0)
  | [], i, h, t, e => by simp [fulL] at e
  | x :: xs, i, 0, t, e => by
    rw [fulL] at e
    simp at e
    exact ⟨x, rfl, e.symm⟩
  | x :: xs, i, h + 1, t, e => by
    rw [fulL] at e
    simp only [List.getElem?_cons_succ] at e
    obtain ⟨y, h1, h2⟩ := ful_at e
    rw [show i + 1 + h = i + (h + 1) by omega] at h2
    exact ⟨y, by simpa using h1, h2⟩
theorem nodL_ofU : ∀ {xs : List T}, (∀ x ∈ xs, nodB x = true) → nodL xs = true
  | [], _ => by rw [nodL]
  | x :: xs, h => by
    rw [nodL, h x (List.mem_cons_self ..), nodL_ofU fun y hy => h y (List.mem_cons_of_mem _ hy)]
    rfl
theorem vs_nod (s : Nat) : nodL (vsL s) = true := nodL_ofU fun x hx => by
  obtain ⟨i, hi⟩ := List.mem_iff_getElem?.1 hx
  obtain ⟨h1, rfl⟩ := vsL_at _ _ _ hi
  have : (i : Int) ≤ (s : Int) - 1 := by omega
  simp [nodB, nodL, okN, this]
/-- what Unify tells: no meta that is something, and what is filled is the same -/
theorem un_same {a c : T} {m : Nat} {sz : List Int} {bs : List BT} (hA : unA a c m sz = true) (hoa : okT 1099511627776 a) (hoc : okT 1099511627776 c) (za : zd sz a) (zc : zd sz c) (hcl : ∀ i, sz.getD i 0 ≤ 200) (h1 : unR a c m sz = .ok bs) :
    (∃ N, SU sz bs N ∧ N ≤ 40000) ∧ (∀ (j : Nat) (t : T), bs[j]? = some (true, t) → noneB bs (mts t)) ∧ ∀ x y, flT (fulL sz bs 0) a m = .ok x → flT (fulL sz bs 0) c m = .ok y → x = y := by
  have hA2 := hA
  rw [unA] at hA2
  simp only [Bool.and_eq_true, decide_eq_true_eq] at hA2
  obtain ⟨⟨⟨⟨q0, q1⟩, q2⟩, q3⟩, ma, mc⟩ := hA2
  have hs : sz.any noC = false := by
    rw [List.any_eq_false]
    intro x hx
    have := List.all_eq_true.1 q3 x hx
    simp only [Bool.and_eq_true, decide_eq_true_eq] at this
    simp [noC]
    omega
  have hb := su_first q2 hs
  have wa := wt_first (n := m) ma hoa (by omega)
  have wc := wt_first (n := m) mc hoc (by omega)
  have S1 := uND_sem fu a c m _ 0 (by omega) hb wa wc za zc
  cases hu : uND sz fu a c m (List.replicate sz.length noB) 0 with
  | error e => rw [un_err hA hu] at h1; cases h1
  | ok p =>
    obtain ⟨o, bs1, N1⟩ := p
    cases o with
    | true => rw [un_out hA hu] at h1; cases h1
    | false =>
      obtain ⟨_, _, hN1⟩ := uND_good fu a c m _ 0 _ _ _ (by omega) hb.ok wa wc hu
      obtain ⟨i0, i1, i2⟩ := S1.1 _ _ _ hu
      obtain ⟨θ, j1, j2⟩ := i1 (inv_first sz) (idM sz)
      obtain ⟨_, hp⟩ := (i2 θ).1 rfl j1
      rw [un_ok hA hu] at h1
      cases hr : rvL sz sz.length 0 bs1 N1 with
      | error e => rw [hr] at h1; cases h1
      | ok q =>
        obtain ⟨bs2, N2⟩ := q
        rw [hr] at h1
        cases h1
        obtain ⟨a1, a2, a3, a4, a5⟩ := rv_sem sz.length 0 bs1 N1 bs N2 i0 hN1 (fun j t hj => absurd hj (Nat.not_lt_zero _)) hr
        have hlen := a1.ok.len
        have hno : ∀ (j : Nat) (t : T), bs[j]? = some (true, t) → noneB bs (mts t) := fun j t hj => a4 j t (by
          have := (List.getElem?_eq_some_iff.1 hj).1
          omega) hj
        refine ⟨⟨N2, a1, a5⟩, hno, fun x y hx hy => ?_⟩
        have hth : thV θ (fulL sz bs 0) := fun h t ht => by
          obtain ⟨⟨o, u⟩, e1, rfl⟩ := ful_at ht
          rw [Nat.zero_add] at *
          cases o with
          | true =>
            rw [fulT, if_pos rfl]
            refine ⟨(a1.ok.at_ h _ e1 rfl).nod, ?_⟩
            have := a3 θ j1 h u e1
            rwa [trM_id u _ (a1.zds h u e1) fun g hg => j2 g (.inl (by rw [← a2]; exact hno h u e1 g hg))] at this
          | false =>
            have hsz := a1.ok.szs h
            have hc := hcl h
            have ec : clN (sz.getD h 0) = (sz.getD h 0).toNat := by
              unfold clN
              split
              · omega
              · split <;> omega
            rw [fulT, if_neg (by simp), ec]
            refine ⟨by rw [nodB, vs_nod]; simp [okN], ?_⟩
            rw [j2 h (.inl (by
              rw [← a2, thI]
              have e2 : bs.getD h noB = (false, u) := by rw [List.getD_eq_getElem?_getD, e1]; rfl
              rw [Int.toNat_natCast, e2, Bool.and_false])), idM, Int.toNat_natCast]
            exact .refl _
        obtain ⟨b1, b2⟩ := fl_sem hth a m x wa.nod hx
        obtain ⟨d1, d2⟩ := fl_sem hth c m y wc.nod hy
        have e := (b2.symm.trans hp).trans d2
        obtain ⟨z, e1, e2⟩ := e
        have n1 := e1.nf (nf_tr x b1)
        have n2 := e2.nf (nf_tr y d1)
        exact tr_inj x y b1 d1 (n1.symm.trans n2)
end Go.Proofs.YtelicajhamgibaaGreat

/-
  What the law UnifySame asks of what Unify tells. No statement is proved here.
-/
namespace Go.Proofs.YtelicajhamgibaaGreat
open Go.ChangeShapes Go.WideShapes Go.ChangeAt Go.RowKit Cr
set_option linter.unusedVariables false

/-- what is nothing has no term -/
def noU (bs : List BT) : Prop := ∀ x ∈ bs, x.1 = false → x = noB
theorem noU.set {bs : List BT} (h : noU bs) (i : Nat) (u : T) : noU (bs.set i (true, u)) := fun x hx h1 => by
  rcases List.mem_or_eq_of_mem_set hx with hx | rfl
  · exact h x hx h1
  · cases h1
theorem svU_no {sz : List Int} {bs : List BT} {f : Nat} {h : Int} {xs : List T} {t : T} {m : Int} {N : Nat} {o : Bool} {bs' : List BT} {N' : Nat} (hb : noU bs) (e : svU sz bs f h xs t m N = .ok (o, bs', N')) : noU bs' := by
  rw [svU] at e
  split at e
  · cases e
  · split at e
    · cases e
    · split at e
      · cases e
      · split at e
        · cases e; exact hb
        · split at e
          · cases e; exact hb
          · split at e
            · cases e; exact hb.set _ _
            · split at e
              · split at e
                · cases e
                · cases e; exact hb
              · cases e
theorem meU_no {sz : List Int} {bs : List BT} {f : Nat} {a c : T} {m : Int} {N : Nat} {o : Bool} {bs' : List BT} {N' : Nat} (hb : noU bs) (e : meU sz bs f a c m N = .ok (o, bs', N')) : noU bs' := by
  obtain ⟨k, h, xs⟩ := a
  obtain ⟨k', h', ys⟩ := c
  rw [meU] at e
  split at e
  · exact svU_no hb e
  · split at e
    · rw [cmU] at e
      split at e
      · cases e
      · cases e; exact hb
    · split at e
      · cases e
      · rename_i o1 bs1 N1 h1
        split at e
        · exact svU_no (svU_no hb h1) e
        · cases e; exact svU_no hb h1
theorem ndsU_no {A : T → T → Int → List BT → Nat → Except Int USt} {k : Int} {n : Nat} {m : Int} (hA : ∀ a c m bs N o bs' N', noU bs → A a c m bs N = .ok (o, bs', N') → noU bs') :
    ∀ (xs ys : List T) (i : Nat) (o : Bool) (bs : List BT) (N : Nat) (o' : Bool) (bs' : List BT) (N' : Nat), noU bs → ndsU A k n m xs ys i o bs N = .ok (o', bs', N') → noU bs' := by
  intro xs
  induction xs with
  | nil => intro ys i o bs N o' bs' N' hb h; rw [ndsU_nil] at h; cases h; exact hb
  | cons x xs ih =>
    intro ys i o bs N o' bs' N' hb h
    cases ys with
    | nil => rw [ndsU] at h; cases h; exact hb; simp
    | cons y ys =>
      rw [ndsU] at h
      split at h
      · cases h
      · rename_i o1 bs1 N1 h1
        exact ih ys (i + 1) _ bs1 N1 _ _ _ (hA _ _ _ _ _ _ _ _ hb h1) h
theorem uND_no {sz : List Int} : ∀ (f : Nat) (a c : T) (m : Int) (bs : List BT) (N : Nat) (o : Bool) (bs' : List BT) (N' : Nat), noU bs → uND sz f a c m bs N = .ok (o, bs', N') → noU bs' := by
  intro f
  induction f with
  | zero => intro a c m bs N o bs' N' _ h; rw [uND] at h; cases h
  | succ f ih =>
    intro a c m bs N o bs' N' hb h
    rw [uND] at h
    split at h
    · cases h
    · split at h
      · cases h
      · split at h
        · exact meU_no hb h
        · split at h
          · exact ndsU_no ih _ _ _ _ _ _ _ _ _ hb h
          · cases h
theorem rvL_noU {sz : List Int} : ∀ (r i : Nat) (bs : List BT) (N : Nat) (bs' : List BT) (N' : Nat), noU bs → rvL sz r i bs N = .ok (bs', N') → noU bs'
  | 0, i, bs, N, bs', N', hb, h => by rw [rvL] at h; cases h; exact hb
  | r + 1, i, bs, N, bs', N', hb, h => by
    rw [rvL] at h
    split at h
    · split at h
      · cases h
      · exact rvL_noU r _ _ _ _ _ (hb.set _ _) h
    · exact rvL_noU r _ _ _ _ _ hb h
theorem un_noU {a c : T} {m : Int} {sz : List Int} {bs : List BT} (hA : unA a c m sz = true) (h1 : unR a c m sz = .ok bs) : noU bs := by
  cases hu : uND sz fu a c m (List.replicate sz.length noB) 0 with
  | error e => rw [un_err hA hu] at h1; cases h1
  | ok p =>
    obtain ⟨o, bs1, N1⟩ := p
    cases o with
    | true => rw [un_out hA hu] at h1; cases h1
    | false =>
      rw [un_ok hA hu] at h1
      cases hr : rvL sz sz.length 0 bs1 N1 with
      | error e => rw [hr] at h1; cases h1
      | ok q =>
        obtain ⟨bs2, N2⟩ := q
        rw [hr] at h1
        cases h1
        exact rvL_noU _ _ _ _ _ _ (uND_no _ _ _ _ _ _ _ _ _ (fun x hx _ => List.eq_of_mem_replicate hx) hu) hr
mutual
theorem zd_mts {sz : List Int} : ∀ (t : T), zd sz t → ∀ g ∈ mts t, 0 ≤ g ∧ g < sz.length
  | .node k h xs, z, g, hg => by
    rw [zd] at z
    rw [mts, List.mem_append] at hg
    rcases hg with hg | hg
    · split at hg
      · rename_i hk
        rw [List.mem_singleton] at hg
        subst hg
        exact ⟨(z.1 hk).1, (z.1 hk).2.1⟩
      · cases hg
    · exact zdL_mts xs z.2 g hg
theorem zdL_mts {sz : List Int} : ∀ (xs : List T), zdL sz xs → ∀ g ∈ mtsL xs, 0 ≤ g ∧ g < sz.length
  | [], _, g, hg => by rw [mtsL] at hg; cases hg
  | x :: xs, z, g, hg => by
    rw [zdL] at z
    rw [mtsL, List.mem_append] at hg
    rcases hg with hg | hg
    · exact zd_mts x z.1 g hg
    · exact zdL_mts xs z.2 g hg
end
theorem vs_ok (s : Nat) (hs : s ≤ 1000) : okL 2199023255552 (vsL s) := by
  have key : ∀ l : List T, (∀ x ∈ l, okT 2199023255552 x) → okL 2199023255552 l := by
    intro l
    induction l with
    | nil => intro _; rw [okL]; trivial
    | cons x l ih => intro h; rw [okL]; exact ⟨h x (List.mem_cons_self ..), ih fun y hy => h y (List.mem_cons_of_mem _ hy)⟩
  refine key _ fun x hx => ?_
  obtain ⟨i, hi⟩ := List.getElem?_of_mem hx
  obtain ⟨h1, rfl⟩ := vsL_at _ i x hi
  rw [okT, okL]
  exact ⟨fun _ => by omega, trivial⟩
/-- what the law asks -/
theorem same_facts {a c : T} {n : Int} {sz : List Int} {bs : List BT} (hA : unA a c n sz = true) (hoa : okT 1099511627776 a) (hoc : okT 1099511627776 c) (za : zd sz a) (zc : zd sz c) (hcl : ∀ (i : Nat) (x : Int), sz[i]? = some x → 0 ≤ x ∧ x ≤ 100) (h1 : unR a c n sz = .ok bs) :
    bs.length = sz.length ∧ (∀ x ∈ bs, nd x.2 ≤ 50000) ∧ (∀ (i : Nat) (x : BT), bs[i]? = some x → x.1 = true → ∀ g ∈ mtO x.2, 0 ≤ g ∧ ∃ y, bs[g.toNat]? = some y ∧ y.1 = false) ∧
      (∀ y ∈ fulL sz bs 0, okT 2199023255552 y) ∧ ∀ x y, flT (fulL sz bs 0) a n = .ok x → flT (fulL sz bs 0) c n = .ok y → x = y := by
  obtain ⟨m, rfl⟩ : ∃ m : Nat, n = m := ⟨n.toNat, by
    rw [unA] at hA
    simp only [Bool.and_eq_true, decide_eq_true_eq] at hA
    omega⟩
  have hcl2 : ∀ i, sz.getD i 0 ≤ 200 := fun i => by
    rw [List.getD_eq_getElem?_getD]
    cases e : sz[i]? with
    | none => simp
    | some x => have := hcl i x e; simp; omega
  obtain ⟨⟨N, a1, aN⟩, a2, a3⟩ := un_same hA hoa hoc za zc hcl2 h1
  have hno := un_noU hA h1
  have hN : ∀ (i : Nat) (x : BT), bs[i]? = some x → nd x.2 ≤ 50000 := fun i x hx => by
    obtain ⟨o, t⟩ := x
    cases o with
    | true => exact (a1.ok.at_ i _ hx rfl).cnt
    | false => rw [hno _ (List.mem_of_getElem? hx) rfl]; decide
  refine ⟨a1.ok.len, fun x hx => ?_, fun i x hx ho g hg => ?_, fun y hy => ?_, a3⟩
  · obtain ⟨i, hi⟩ := List.getElem?_of_mem hx
    exact hN i x hi
  · obtain ⟨o, t⟩ := x
    dsimp only at ho
    subst ho
    have hg' : g ∈ mts t := mem_rs.1 hg
    obtain ⟨z1, z2⟩ := zd_mts t (a1.zds i t hx) g hg'
    have hlen := a1.ok.len
    obtain ⟨y, hy⟩ : ∃ y, bs[g.toNat]? = some y := ⟨_, List.getElem?_eq_getElem (by omega)⟩
    have := a2 i t hx g hg'
    rw [thI, decide_eq_true (by omega), List.getD_eq_getElem?_getD, hy] at this
    exact ⟨z1, y, hy, by simpa using this⟩
  · obtain ⟨h, hh⟩ := List.getElem?_of_mem hy
    obtain ⟨⟨o, u⟩, e1, rfl⟩ := ful_at hh
    cases o with
    | true =>
      rw [fulT, if_pos rfl]
      have := a1.ok.szs h
      exact okT_mono (by unfold kN; omega) _ (a1.ok.at_ h _ e1 rfl).ok
    | false =>
      rw [fulT, if_neg (by simp), okT]
      exact ⟨fun e => by omega, vs_ok _ (by have := clN_le (sz.getD (0 + h) 0); omega)⟩
end Go.Proofs.YtelicajhamgibaaGreat

/-
  Two terms, filled: what the law UnifySame asks in the end. No statement is proved here.
-/
namespace Go.Proofs.YtelicajhamgibaaGreat
open Go.ChangeShapes Go.WideShapes Go.ChangeAt Go.RowKit
set_option linter.unusedVariables false

theorem fi_ne {th : List T} {n : Int} {t : T} {e : Int} (h : fiR th n t = .error e) : e ≠ 0 := by
  unfold fiR at h
  split at h
  · split at h
    · rename_i e' he
      cases h
      exact fl_err th t n _ he
    · split at h
      · cases h
      · cases h; omega
  · cases h; omega
theorem fi_fl {th : List T} {n : Int} {t x : T} (h : fiR th n t = .ok x) : flT th t n = .ok x := by
  unfold fiR at h
  split at h
  · split at h
    · cases h
    · rename_i t' he
      split at h
      · cases h; exact he
      · cases h
  · cases h
theorem same_end {th : List T} {n : Int} {a c : T} (hs : ∀ x y, flT th a n = .ok x → flT th c n = .ok y → x = y) (h1 : exE (fiR th n a) = 0) (h2 : exE (fiR th n c) = 0) : samB (exT (fiR th n a)) (exT (fiR th n c)) = true := by
  cases ha : fiR th n a with
  | error e => rw [ha] at h1; exact absurd h1 (fi_ne ha)
  | ok x =>
    cases hc : fiR th n c with
    | error e => rw [hc] at h2; exact absurd h2 (fi_ne hc)
    | ok y =>
      rw [hs x y (fi_fl ha) (fi_fl hc)]
      exact samB_refl y
end Go.Proofs.YtelicajhamgibaaGreat
