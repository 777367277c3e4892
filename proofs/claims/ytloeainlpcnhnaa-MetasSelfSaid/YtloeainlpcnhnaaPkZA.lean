/-
  Texts of one proof, put together. No statement is proved here.
-/
import Derived.Test.YtloeainlpcnhnaaPb
import Derived.Test.YtloeainlpcnhnaaQa
import Derived.Test.YtloeainlpcnhnaaPd
import Derived.Test.YtloeainlpcnhnaaPkVA
import Derived.Test.YtloeainlpcnhnaaPkYA
/-
  Lambda terms with constants, reduced in parallel: two ways meet again (Church and Rosser, by Takahashi's complete development). No statement is proved here.
-/
namespace Go.Proofs.Ytloeainlpcnhnaa.Cr
set_option linter.unusedVariables false
inductive Lm where
  | v (i : Nat) : Lm
  | c (k h : Int) : Lm
  | a (f x : Lm) : Lm
  | l (b : Lm) : Lm
def upr (r : Nat → Nat) : Nat → Nat
  | 0 => 0
  | i + 1 => r i + 1
def ren : (Nat → Nat) → Lm → Lm
  | r, .v i => .v (r i)
  | _, .c k h => .c k h
  | r, .a f x => .a (ren r f) (ren r x)
  | r, .l b => .l (ren (upr r) b)
def ups (s : Nat → Lm) : Nat → Lm
  | 0 => .v 0
  | i + 1 => ren (· + 1) (s i)
def sub : (Nat → Lm) → Lm → Lm
  | s, .v i => s i
  | _, .c k h => .c k h
  | s, .a f x => .a (sub s f) (sub s x)
  | s, .l b => .l (sub (ups s) b)
def one (x : Lm) : Nat → Lm
  | 0 => x
  | i + 1 => .v i
theorem ren_ext {r r' : Nat → Nat} (h : ∀ i, r i = r' i) (t : Lm) : ren r t = ren r' t := by
  induction t generalizing r r' with
  | v i => simp only [ren, h]
  | c k h => rfl
  | a f x ihf ihx => simp only [ren, ihf h, ihx h]
  | l b ih => simp only [ren]; rw [ih (r' := upr r')]; intro i; cases i <;> simp [upr, h]
theorem sub_ext {s s' : Nat → Lm} (h : ∀ i, s i = s' i) (t : Lm) : sub s t = sub s' t := by
  induction t generalizing s s' with
  | v i => exact h i
  | c k h => rfl
  | a f x ihf ihx => simp only [sub, ihf h, ihx h]
  | l b ih => simp only [sub]; rw [ih (s' := ups s')]; intro i; cases i <;> simp [ups, h]
theorem ren_ren (r r' : Nat → Nat) (t : Lm) : ren r' (ren r t) = ren (fun i => r' (r i)) t := by
  induction t generalizing r r' with
  | v i => rfl
  | c k h => rfl
  | a f x ihf ihx => simp only [ren, ihf, ihx]
  | l b ih => simp only [ren, ih]; congr 1; apply ren_ext; intro i; cases i <;> rfl
theorem sub_ren (r : Nat → Nat) (s : Nat → Lm) (t : Lm) : sub s (ren r t) = sub (fun i => s (r i)) t := by
  induction t generalizing r s with
  | v i => rfl
  | c k h => rfl
  | a f x ihf ihx => simp only [ren, sub, ihf, ihx]
  | l b ih => simp only [ren, sub, ih]; congr 1; apply sub_ext; intro i; cases i <;> rfl
theorem ren_sub (s : Nat → Lm) (r : Nat → Nat) (t : Lm) : ren r (sub s t) = sub (fun i => ren r (s i)) t := by
  induction t generalizing r s with
  | v i => rfl
  | c k h => rfl
  | a f x ihf ihx => simp only [ren, sub, ihf, ihx]
  | l b ih =>
    simp only [ren, sub, ih]; congr 1; apply sub_ext; intro i
    cases i with
    | zero => rfl
    | succ i => simp only [ups, ren_ren]; apply ren_ext; intro j; rfl
theorem sub_sub (s u : Nat → Lm) (t : Lm) : sub u (sub s t) = sub (fun i => sub u (s i)) t := by
  induction t generalizing s u with
  | v i => rfl
  | c k h => rfl
  | a f x ihf ihx => simp only [sub, ihf, ihx]
  | l b ih =>
    simp only [sub, ih]; congr 1; apply sub_ext; intro i
    cases i with
    | zero => rfl
    | succ i => simp only [ups, sub_ren, ren_sub]
theorem sub_v (t : Lm) : sub .v t = t := by
  induction t with
  | v i => rfl
  | c k h => rfl
  | a f x ihf ihx => simp only [sub, ihf, ihx]
  | l b ih => simp only [sub]; congr 1; rw [sub_ext (s' := .v)]; exact ih; intro i; cases i <;> rfl
theorem ren_eq_sub (r : Nat → Nat) (t : Lm) : ren r t = sub (fun i => .v (r i)) t := by
  have := ren_sub .v r t
  rw [sub_v] at this
  exact this
/-- what is put for 0, behind a substitution -/
theorem sub_one (s : Nat → Lm) (x b : Lm) : sub s (sub (one x) b) = sub (one (sub s x)) (sub (ups s) b) := by
  rw [sub_sub, sub_sub]
  apply sub_ext
  intro i
  cases i with
  | zero => rfl
  | succ i => simp only [one, ups, sub, sub_ren]; rw [sub_v]
inductive Par : Lm → Lm → Prop where
  | v (i : Nat) : Par (.v i) (.v i)
  | c (k h : Int) : Par (.c k h) (.c k h)
  | a {f f' x x' : Lm} : Par f f' → Par x x' → Par (.a f x) (.a f' x')
  | l {b b' : Lm} : Par b b' → Par (.l b) (.l b')
  | beta {b b' x x' : Lm} : Par b b' → Par x x' → Par (.a (.l b) x) (sub (one x') b')
theorem Par.refl : ∀ t : Lm, Par t t
  | .v i => .v i
  | .c k h => .c k h
  | .a f x => .a (Par.refl f) (Par.refl x)
  | .l b => .l (Par.refl b)
theorem Par.ren {t t' : Lm} (h : Par t t') : ∀ r, Par (ren r t) (ren r t') := by
  induction h with
  | v i => intro r; exact .v _
  | c k h => intro r; exact .c _ _
  | a _ _ ihf ihx => intro r; exact .a (ihf r) (ihx r)
  | l _ ih => intro r; exact .l (ih _)
  | @beta b b' x x' _ _ ihb ihx =>
    intro r
    have e : Cr.ren r (sub (one x') b') = sub (one (Cr.ren r x')) (Cr.ren (upr r) b') := by
      rw [ren_sub, sub_ren]; apply sub_ext; intro i; cases i <;> rfl
    rw [e]
    exact .beta (ihb _) (ihx r)
theorem Par.ups {s s' : Nat → Lm} (h : ∀ i, Par (s i) (s' i)) : ∀ i, Par (ups s i) (ups s' i)
  | 0 => .v 0
  | i + 1 => (h i).ren _
theorem Par.sub {t t' : Lm} (h : Par t t') : ∀ {s s' : Nat → Lm}, (∀ i, Par (s i) (s' i)) → Par (sub s t) (sub s' t') := by
  induction h with
  | v i => intro s s' hs; exact hs i
  | c k h => intro s s' hs; exact .c _ _
  | a _ _ ihf ihx => intro s s' hs; exact .a (ihf hs) (ihx hs)
  | l _ ih => intro s s' hs; exact .l (ih (Par.ups hs))
  | @beta b b' x x' _ _ ihb ihx =>
    intro s s' hs
    rw [sub_one]
    exact .beta (ihb (Par.ups hs)) (ihx hs)
theorem Par.one {x x' : Lm} (h : Par x x') : ∀ i, Par (one x i) (one x' i)
  | 0 => h
  | i + 1 => .v i
/-- all that can be reduced at once -/
def dev : Lm → Lm
  | .v i => .v i
  | .c k h => .c k h
  | .a (.l b) x => sub (one (dev x)) (dev b)
  | .a (.v i) x => .a (.v i) (dev x)
  | .a (.c k h) x => .a (.c k h) (dev x)
  | .a (.a f y) x => .a (dev (.a f y)) (dev x)
  | .l b => .l (dev b)
theorem Par.dev {t t' : Lm} (h : Par t t') : Par t' (dev t) := by
  induction h with
  | v i => exact .v i
  | c k h => exact .c k h
  | @a f f' x x' hf hx ihf ihx =>
    cases f with
    | v i => cases hf; exact .a (.v i) ihx
    | c k h => cases hf; exact .a (.c k h) ihx
    | a g y => exact .a ihf ihx
    | l b =>
      cases hf with
      | l hb => 
        simp only [Cr.dev] at ihf ⊢
        cases ihf with
        | l h => exact .beta h ihx
  | l _ ih => exact .l ih
  | beta _ _ ihb ihx => exact ihb.sub (Par.one ihx)
inductive Ps : Lm → Lm → Prop where
  | refl (t : Lm) : Ps t t
  | step {t u x : Lm} : Par t u → Ps u x → Ps t x
theorem Ps.trans {t u x : Lm} (h : Ps t u) (k : Ps u x) : Ps t x := by
  induction h with
  | refl t => exact k
  | step p _ ih => exact .step p (ih k)
theorem Ps.of {t u : Lm} (h : Par t u) : Ps t u := .step h (.refl _)
theorem Ps.strip {t u x : Lm} (h : Ps t u) (p : Par t x) : ∃ y, Par u y ∧ Ps x y := by
  induction h generalizing x with
  | refl t => exact ⟨x, p, .refl _⟩
  | @step t t1 u q _ ih =>
    obtain ⟨y, h1, h2⟩ := ih q.dev
    exact ⟨y, h1, .step p.dev h2⟩
theorem Ps.conf {t u x : Lm} (h : Ps t u) (k : Ps t x) : ∃ y, Ps u y ∧ Ps x y := by
  induction k generalizing u with
  | refl t => exact ⟨u, .refl _, h⟩
  | @step t t1 x p _ ih =>
    obtain ⟨y, h1, h2⟩ := h.strip p
    obtain ⟨z, h3, h4⟩ := ih h2
    exact ⟨z, .step h1 h3, h4⟩
def lamL : Lm → Bool
  | .l _ => true
  | _ => false
def nf : Lm → Bool
  | .v _ => true
  | .c _ _ => true
  | .a f x => !lamL f && nf f && nf x
  | .l b => nf b
theorem Par.nf {t t' : Lm} (h : Par t t') : nf t = true → t' = t := by
  induction h with
  | v i => intro _; rfl
  | c k h => intro _; rfl
  | a _ _ ihf ihx => 
    intro e
    simp only [Cr.nf, Bool.and_eq_true] at e
    rw [ihf e.1.2, ihx e.2]
  | l _ ih => intro e; rw [ih e]
  | beta _ _ _ _ => intro e; simp [Cr.nf, lamL] at e
theorem Ps.nf {t u : Lm} (h : Ps t u) : nf t = true → u = t := by
  induction h with
  | refl t => intro _; rfl
  | step p _ ih => intro e; have := p.nf e; subst this; exact ih e
theorem Ps.same {t u x : Lm} (h : Ps t u) (k : Ps t x) (hu : Cr.nf u = true) (hx : Cr.nf x = true) : u = x := by
  obtain ⟨y, h1, h2⟩ := h.conf k
  rw [← h1.nf hu, h2.nf hx]
theorem Ps.a {f f' x x' : Lm} (h : Ps f f') (k : Ps x x') : Ps (.a f x) (.a f' x') := by
  induction h with
  | refl f =>
    induction k with
    | refl x => exact .refl _
    | step p _ ih => exact .step (.a (.refl _) p) ih
  | step p _ ih => exact .step (.a p (.refl _)) ih
theorem Ps.l {b b' : Lm} (h : Ps b b') : Ps (.l b) (.l b') := by
  induction h with
  | refl f => exact .refl _
  | step p _ ih => exact .step (.l p) ih
theorem Ps.ren {t t' : Lm} (h : Ps t t') (r : Nat → Nat) : Ps (ren r t) (ren r t') := by
  induction h with
  | refl f => exact .refl _
  | step p _ ih => exact .step (p.ren r) ih
theorem Ps.sub {t t' : Lm} (h : Ps t t') (s : Nat → Lm) : Ps (sub s t) (sub s t') := by
  induction h with
  | refl f => exact .refl _
  | step p _ ih => exact .step (p.sub fun i => .refl _) ih
theorem Ps.ups {s s' : Nat → Lm} (h : ∀ i, Ps (s i) (s' i)) : ∀ i, Ps (ups s i) (ups s' i)
  | 0 => .refl _
  | i + 1 => (h i).ren _
theorem Ps.subs (t : Lm) : ∀ {s s' : Nat → Lm}, (∀ i, Ps (s i) (s' i)) → Ps (Cr.sub s t) (Cr.sub s' t) := by
  induction t with
  | v i => intro s s' h; exact h i
  | c k h => intro s s' h; exact .refl _
  | a f x ihf ihx => intro s s' h; exact .a (ihf h) (ihx h)
  | l b ih => intro s s' h; exact .l (ih (Ps.ups h))
end Go.Proofs.Ytloeainlpcnhnaa.Cr
/-
  Terms as lambda terms with constants: what Apply and Spine tell is what they reduce to; what has nothing to reduce is normal; so two ways to it tell the same. No statement is proved here.
-/
namespace Go.Proofs.Ytloeainlpcnhnaa.Cr
open Go.RowKit
set_option linter.unusedVariables false
def apps : Lm → List Lm → Lm
  | f, [] => f
  | f, x :: xs => apps (.a f x) xs
theorem apps_app (f : Lm) (xs ys : List Lm) : apps f (xs ++ ys) = apps (apps f xs) ys := by
  induction xs generalizing f with
  | nil => rfl
  | cons x xs ih => exact ih _
theorem sub_apps (s : Nat → Lm) (f : Lm) (xs : List Lm) : sub s (apps f xs) = apps (sub s f) (xs.map (sub s)) := by
  induction xs generalizing f with
  | nil => rfl
  | cons x xs ih => exact ih _
theorem ren_apps (r : Nat → Nat) (f : Lm) (xs : List Lm) : ren r (apps f xs) = apps (ren r f) (xs.map (ren r)) := by
  induction xs generalizing f with
  | nil => rfl
  | cons x xs ih => exact ih _
def PsL : List Lm → List Lm → Prop
  | [], [] => True
  | x :: xs, y :: ys => Ps x y ∧ PsL xs ys
  | _, _ => False
theorem PsL.apps : ∀ {xs ys : List Lm} {f g : Lm}, Ps f g → PsL xs ys → Ps (Cr.apps f xs) (Cr.apps g ys)
  | [], [], _, _, h, _ => h
  | _ :: _, _ :: _, _, _, h, k => by
    have := PsL.apps (h.a k.1) k.2
    exact this
  | [], _ :: _, _, _, _, k => k.elim
  | _ :: _, [], _, _, _, k => k.elim
theorem PsL.refl : ∀ xs : List Lm, PsL xs xs
  | [] => trivial
  | x :: xs => ⟨.refl x, PsL.refl xs⟩
/-- what stands at the head, and what that is applied to -/
def dh : Lm → Lm
  | .a f _ => dh f
  | t => t
def da : Lm → List Lm → List Lm
  | .a f x, l => da f (x :: l)
  | _, l => l
theorem dh_apps (f : Lm) (xs : List Lm) : dh (apps f xs) = dh f := by
  induction xs generalizing f with
  | nil => rfl
  | cons x xs ih => exact ih _
theorem da_apps (f : Lm) (xs : List Lm) : ∀ l, da (apps f xs) l = da f (xs ++ l) := by
  induction xs generalizing f with
  | nil => intro l; rfl
  | cons x xs ih => intro l; exact ih _ _
/-- the head of a node -/
def at0 (k h : Int) : Lm := if k = 4 then .v h.toNat else .c k h
theorem at0_dh (k h : Int) : dh (at0 k h) = at0 k h := by unfold at0; split <;> rfl
theorem at0_da (k h : Int) (l : List Lm) : da (at0 k h) l = l := by unfold at0; split <;> rfl
theorem at0_lam (k h : Int) (b : Lm) : at0 k h ≠ .l b := by unfold at0; split <;> exact fun e => by cases e
def wrap1 (n : Nat) (x : Lm) : Lm := if n = 1 then .l x else x
mutual
def tr : T → Lm
  | .node k h xs => if k = 3 then (trL k xs.length xs 0).headD (.c 0 0) else apps (at0 k h) (trL k xs.length xs 0)
def trL (k : Int) (m : Nat) : List T → Nat → List Lm
  | [], _ => []
  | x :: xs, i => wrap1 (bdn k m i) (tr x) :: trL k m xs (i + 1)
end
theorem bdn_none {k : Int} (hk : k ≠ 1 ∧ k ≠ 3) (m i : Nat) : bdn k m i = 0 := by unfold bdn; rw [if_neg (by omega)]
theorem trL_map {k : Int} (hk : k ≠ 1 ∧ k ≠ 3) (m : Nat) : ∀ (xs : List T) (i : Nat), trL k m xs i = xs.map tr
  | [], _ => by rw [trL]; rfl
  | x :: xs, i => by rw [trL, bdn_none hk, trL_map hk m xs]; rfl
theorem tr_lam (h : Int) (x : T) : tr (.node 3 h [x]) = .l (tr x) := by
  rw [tr, if_pos rfl]
  simp [trL, bdn, wrap1]
theorem tr_app {k h : Int} (hk : k ≠ 1 ∧ k ≠ 3) (xs : List T) : tr (.node k h xs) = apps (at0 k h) (xs.map tr) := by
  rw [tr, if_neg hk.2, trL_map hk]
theorem lam_one' {k h : Int} {xs : List T} (hk : k = 3) (w : nodB (.node k h xs) = true) : h = 0 ∧ ∃ x, xs = [x] := by
  rw [nodB, Bool.and_eq_true] at w
  have hl : h = 0 ∧ xs.length = 1 := by
    rcases okN_cases w.1 with ⟨e, _⟩ | ⟨e, _⟩ | ⟨e, he⟩ | ⟨e, he⟩ | ⟨e, he⟩ | ⟨e, he⟩ | ⟨e, he⟩ <;> first | exact he | omega
  exact ⟨hl.1, List.length_eq_one_iff.1 hl.2⟩
/-! ### Up -/
def shr (b f : Nat) (i : Nat) : Nat := if f ≤ i then i + b else i
theorem upr_shr (b f : Nat) (i : Nat) : upr (shr b f) i = shr b (f + 1) i := by
  cases i with
  | zero => simp [upr, shr]
  | succ i => simp only [upr, shr]; split <;> split <;> omega
theorem ren_wrap (b f n : Nat) (hn : n ≤ 1) (x : Lm) : ren (shr b f) (wrap1 n x) = wrap1 n (ren (shr b (f + n)) x) := by
  unfold wrap1
  split
  · rename_i e
    subst e
    rw [ren, ren_ext (upr_shr b f)]
  · rw [show n = 0 by omega, Nat.add_zero]
theorem head_head {k h : Int} {xs : List T} (w : nodB (.node k h xs) = true) (hk : k = 4) : 0 ≤ h := by
  rw [nodB, Bool.and_eq_true] at w
  exact okN_head w.1 hk
mutual
theorem tr_up (b : Nat) : ∀ (t : T) (f : Nat), nodB t = true → tr (upT b t f) = ren (shr b f) (tr t)
  | .node k h xs, f, w => by
    have h0 := head_head w
    rw [nodB, Bool.and_eq_true] at w
    rw [upT, tr, tr, upL_len, tr_upL b k xs.length xs 0 f w.2]
    by_cases hk : k = 3
    · rw [if_pos hk, if_pos hk]
      cases trL k xs.length xs 0 with
      | nil => rfl
      | cons x l => rfl
    · rw [if_neg hk, if_neg hk, ren_apps]
      congr 1
      unfold at0
      by_cases hk4 : k = 4
      · have := h0 hk4
        rw [if_pos hk4, if_pos hk4, ren, shr]
        congr 1
        by_cases hf : (f : Int) ≤ h
        · rw [if_pos ⟨hk4, hf⟩, if_pos (by omega)]; omega
        · rw [if_neg (by omega), if_neg (by omega)]
      · rw [if_neg hk4, if_neg hk4, if_neg (by omega), ren]
theorem tr_upL (b : Nat) (k : Int) (m : Nat) : ∀ (xs : List T) (i : Nat) (f : Nat), nodL xs = true → trL k m (upL b k m xs i f) i = (trL k m xs i).map (ren (shr b f))
  | [], i, f, _ => by rw [upL, trL]; rfl
  | x :: xs, i, f, w => by
    rw [nodL, Bool.and_eq_true] at w
    rw [upL, trL, trL, List.map_cons, tr_upL b k m xs (i + 1) f w.2, ren_wrap _ _ _ (bdn_le _ _ _), bd_bdn, show (f : Int) + (bdn k m i : Int) = ((f + bdn k m i : Nat) : Int) by omega, tr_up b x _ w.1]
end
/-! ### Substitutions -/
def upn : Nat → (Nat → Lm) → Nat → Lm
  | 0, s => s
  | u + 1, s => ups (upn u s)
theorem upn_lt (s : Nat → Lm) : ∀ (u i : Nat), i < u → upn u s i = .v i
  | u + 1, 0, _ => rfl
  | u + 1, i + 1, h => by rw [upn, ups, upn_lt s u i (by omega)]; rfl
theorem upn_ge (s : Nat → Lm) : ∀ (u i : Nat), upn u s (i + u) = ren (shr u 0) (s i)
  | 0, i => by
    rw [upn, Nat.add_zero, ren_eq_sub, sub_ext (s' := .v), sub_v]
    intro j
    simp [shr]
  | u + 1, i => by
    rw [upn, ← Nat.add_assoc, ups, upn_ge s u i, ren_ren]
    apply ren_ext
    intro j
    simp [shr]
    omega
theorem sub_wrap (s : Nat → Lm) (u n : Nat) (hn : n ≤ 1) (x : Lm) : sub (upn u s) (wrap1 n x) = wrap1 n (sub (upn (u + n) s) x) := by
  unfold wrap1
  split
  · rename_i e
    subst e
    rw [sub]
    rfl
  · rw [show n = 0 by omega, Nat.add_zero]
/-- what a substitution is -/
def sg (L : List T) (sh : Int) (i : Nat) : Lm := if L.length ≤ i then .v (i - L.length + sh.toNat) else tr (L.getD (L.length - 1 - i) (.node 0 0 []))
theorem sg_one (a : T) (i : Nat) : sg [a] 0 i = one (tr a) i := by
  cases i with
  | zero => rfl
  | succ i => simp [sg, one]
theorem tr_mp {L : List T} {sh : Int} (hL : ∀ x ∈ L, nodB x = true) (h0 : 0 ≤ sh) (fr u : Nat) : tr (mpT L sh fr u) = ren (shr u 0) (sg L sh fr) ∧ nodB (mpT L sh fr u) = true := by
  unfold mpT sg
  by_cases hl : L.length ≤ fr
  · rw [if_pos (by omega), if_pos hl, tr_app (by omega)]
    refine ⟨?_, ?_⟩
    · simp only [List.map_nil, apps, at0, if_pos, ren, shr, Nat.zero_le]
      congr 1
      omega
    · have : 0 ≤ (fr : Int) - (L.length : Int) + sh + u := by omega
      simp [nodB, nodL, okN, this]
  · rw [if_neg (by omega), if_neg hl]
    have hm := getD_mem (.node 0 0 []) (show L.length - 1 - fr < L.length by omega)
    rw [Int.toNat_natCast]
    exact ⟨tr_up u _ 0 (hL _ hm), nodB_up (by omega) _ _ (hL _ hm)⟩
theorem ps_wrap (n : Nat) {x y : Lm} (h : Ps x y) : Ps (wrap1 n x) (wrap1 n y) := by
  unfold wrap1
  split
  · exact h.l
  · exact h
theorem apL_red {A : Nat → T → Nat → Res} {k : Int} {m u : Nat} {s : Nat → Lm} (hA : ∀ (v : Nat) (x : T) (n : Nat) (t' : T) (n' : Nat), nodB x = true → A v x n = .ok (t', n') → nodB t' = true ∧ Ps (sub (upn v s) (tr x)) (tr t')) :
    ∀ (xs : List T) (i n : Nat) (ys : List T) (n' : Nat), nodL xs = true → apL A k m u xs i n = .ok (ys, n') → nodL ys = true ∧ ys.length = xs.length ∧ PsL ((trL k m xs i).map (sub (upn u s))) (trL k m ys i) := by
  intro xs
  induction xs with
  | nil =>
    intro i n ys n' _ h
    rw [apL] at h
    cases h
    exact ⟨by rw [nodL], rfl, by rw [trL]; trivial⟩
  | cons x xs ih =>
    intro i n ys n' hn h
    rw [apL] at h
    rw [nodL, Bool.and_eq_true] at hn
    split at h
    · cases h
    · rename_i y n1 h1
      split at h
      · cases h
      · rename_i zs n2 h2
        cases h
        obtain ⟨g1, g2⟩ := hA _ x n y n1 hn.1 h1
        obtain ⟨e0, e1, e2⟩ := ih (i + 1) n1 zs n' hn.2 h2
        rw [trL, trL, List.map_cons, sub_wrap _ _ _ (bdn_le _ _ _)]
        exact ⟨by rw [nodL, g1, e0]; rfl, by rw [List.length_cons, List.length_cons, e1], ps_wrap _ g2, e2⟩
theorem spL_red {A : T → T → Nat → Res} (hA : ∀ (a x : T) (n : Nat) (t' : T) (n' : Nat), nodB a = true → nodB x = true → A a x n = .ok (t', n') → nodB t' = true ∧ Ps (sub (one (tr a)) (tr x)) (tr t')) :
    ∀ (bs : List T) (t : T) (n : Nat) (t' : T) (n' : Nat), nodB t = true → nodL bs = true → spL A t bs n = .ok (t', n') → nodB t' = true ∧ Ps (apps (tr t) (bs.map tr)) (tr t') := by
  intro bs
  induction bs with
  | nil =>
    intro t n t' n' ht _ h
    rw [spL] at h
    cases h
    exact ⟨ht, .refl _⟩
  | cons a bs ih =>
    rintro ⟨k, h, xs⟩ n t' n' ht hb hr
    rw [nodL, Bool.and_eq_true] at hb
    rw [spL] at hr
    by_cases hk : k = 3
    · rw [if_pos hk] at hr
      by_cases hm : myB a = true
      · rw [if_pos hm] at hr
        obtain ⟨_, x, rfl⟩ := lam_one' hk ht
        subst hk
        rw [nodB, nodL, Bool.and_eq_true, Bool.and_eq_true] at ht
        simp only [List.headD_cons] at hr
        split at hr
        · cases hr
        · rename_i t1 n1 h1
          obtain ⟨g1, g2⟩ := hA a x n t1 n1 hb.1 ht.2.1 h1
          obtain ⟨e1, e2⟩ := ih t1 n1 t' n' g1 hb.2 hr
          refine ⟨e1, ?_⟩
          rw [tr_lam, List.map_cons, apps]
          exact (PsL.apps ((Ps.of (.beta (.refl _) (.refl _))).trans g2) (.refl _)).trans e2
      · rw [if_neg hm] at hr; cases hr
    · rw [if_neg hk] at hr
      split at hr
      · rename_i hk2
        cases hr
        refine ⟨?_, ?_⟩
        · rw [nodB, Bool.and_eq_true] at ht ⊢
          refine ⟨?_, nodL_app ht.2 (by rw [nodL, hb.1, hb.2]; rfl)⟩
          rcases okN_cases ht.1 with ⟨e, _⟩ | ⟨e, _⟩ | ⟨e, _⟩ | ⟨e, he⟩ | ⟨e, he⟩ | ⟨e, he⟩ | ⟨e, he⟩ <;> first | omega | (subst e; simp [okN, he])
        · rw [tr_app (by omega), tr_app (by omega), List.map_append, apps_app]
          exact .refl _
      · cases hr
theorem ap_red : ∀ (f : Nat) (L : List T) (sh : Int) (u : Nat) (t : T) (n : Nat) (t' : T) (n' : Nat), (∀ x ∈ L, nodB x = true) → 0 ≤ sh → nodB t = true → ap f L sh u t n = .ok (t', n') → nodB t' = true ∧ Ps (sub (upn u (sg L sh)) (tr t)) (tr t') := by
  intro f
  induction f with
  | zero => intro L sh u t n t' n' _ _ _ h; rw [ap] at h; cases h
  | succ f ih =>
    rintro L sh u ⟨k, h, xs⟩ n t' n' hL h0 ht hr
    have hh := head_head ht
    rw [ap] at hr
    split at hr
    · cases hr
    · split at hr
      · cases hr
      · rename_i args n1 h1
        have hn := ht
        rw [nodB, Bool.and_eq_true] at hn
        obtain ⟨e0, e1, e2⟩ := apL_red (A := fun u' x m => ap f L sh u' x m) (s := sg L sh) (fun v x m t1 m1 hx he => ih L sh v x m t1 m1 hL h0 hx he) xs 0 (n + 1) args n1 hn.2 h1
        by_cases hc : k = 4 ∧ (u : Int) ≤ h
        · rw [if_pos hc] at hr
          obtain ⟨hk, hu⟩ := hc
          subst hk
          obtain ⟨m1, m2⟩ := tr_mp hL h0 (h.toNat - u) u
          rw [show ((h.toNat - u : Nat) : Int) = h - u by omega] at m1 m2
          obtain ⟨g1, g2⟩ := spL_red (A := fun a x m => ap f [a] 0 0 x m) (fun a x m t1 m1 ha hx he => by
            obtain ⟨q1, q2⟩ := ih [a] 0 0 x m t1 m1 (fun y hy => by rw [List.mem_singleton.1 hy]; exact ha) (by omega) hx he
            rw [upn, sub_ext (sg_one a)] at q2
            exact ⟨q1, q2⟩) args _ n1 t' n' m2 e0 hr
          refine ⟨g1, ?_⟩
          rw [tr_app (by omega), sub_apps]
          rw [trL_map (by omega), trL_map (by omega)] at e2
          have ea : sub (upn u (sg L sh)) (at0 4 h) = tr (mpT L sh (h - u) u) := by
            rw [m1, at0, if_pos rfl, sub, ← upn_ge]
            congr 1
            omega
          rw [ea]
          exact (PsL.apps (.refl _) e2).trans g2
        · rw [if_neg hc] at hr
          cases hr
          refine ⟨by rw [nodB, e1, hn.1, e0]; rfl, ?_⟩
          rw [tr, tr, e1]
          by_cases hk : k = 3
          · obtain ⟨_, x, rfl⟩ := lam_one' hk ht
            rw [if_pos hk, if_pos hk]
            obtain ⟨y, rfl⟩ : ∃ y, args = [y] := List.length_eq_one_iff.1 e1
            simp only [trL, List.map_cons, List.map_nil, PsL] at e2
            simp only [trL, List.headD_cons]
            exact e2.1
          · rw [if_neg hk, if_neg hk, sub_apps]
            refine PsL.apps ?_ e2
            unfold at0
            by_cases hk4 : k = 4
            · have := hh hk4
              rw [if_pos hk4, sub, upn_lt _ _ _ (by omega)]
              exact .refl _
            · rw [if_neg hk4, sub]
              exact .refl _
/-! ### Nothing to reduce; which term it is -/
theorem nf_apps {f : Lm} : ∀ (xs : List Lm) {f : Lm}, lamL f = false → nf f = true → (∀ x ∈ xs, nf x = true) → nf (apps f xs) = true
  | [], _, _, h, _ => h
  | x :: xs, f, hl, h, hx => by
    rw [apps]
    refine nf_apps (f := f) xs rfl ?_ (fun y hy => hx y (List.mem_cons_of_mem _ hy))
    simp [nf, hl, h, hx x (List.mem_cons_self ..)]
theorem nf_wrap (n : Nat) {x : Lm} (h : nf x = true) : nf (wrap1 n x) = true := by
  unfold wrap1
  split
  · exact h
  · exact h
mutual
theorem nf_tr : ∀ t : T, nodB t = true → nf (tr t) = true
  | .node k h xs, w => by
    have w' := w
    rw [nodB, Bool.and_eq_true] at w'
    have hL := nf_trL k xs.length xs 0 w'.2
    rw [tr]
    by_cases hk : k = 3
    · rw [if_pos hk]
      cases hq : trL k xs.length xs 0 with
      | nil => rfl
      | cons x l => exact hL x (by rw [hq]; exact List.mem_cons_self ..)
    · rw [if_neg hk]
      refine nf_apps (f := at0 k h) _ ?_ ?_ hL
      · unfold at0; split <;> rfl
      · unfold at0; split <;> rfl
theorem nf_trL (k : Int) (m : Nat) : ∀ (xs : List T) (i : Nat), nodL xs = true → ∀ y ∈ trL k m xs i, nf y = true
  | [], _, _, y, h => by rw [trL] at h; cases h
  | x :: xs, i, w, y, h => by
    rw [nodL, Bool.and_eq_true] at w
    rw [trL] at h
    rcases List.mem_cons.1 h with rfl | h
    · exact nf_wrap _ (nf_tr x w.1)
    · exact nf_trL k m xs (i + 1) w.2 y h
end
theorem wrap_inj {n : Nat} {x y : Lm} (h : wrap1 n x = wrap1 n y) : x = y := by
  unfold wrap1 at h
  split at h
  · cases h; rfl
  · exact h
theorem trL_len (k : Int) (m : Nat) : ∀ (xs : List T) (i : Nat), (trL k m xs i).length = xs.length
  | [], _ => by rw [trL]; rfl
  | x :: xs, i => by rw [trL, List.length_cons, List.length_cons, trL_len k m xs]
theorem trL_inj (k : Int) (m : Nat) : ∀ (xs ys : List T) (i : Nat), (∀ x ∈ xs, ∀ y, nodB x = true → nodB y = true → tr x = tr y → x = y) → nodL xs = true → nodL ys = true → trL k m xs i = trL k m ys i → xs = ys
  | [], [], _, _, _, _, _ => rfl
  | [], y :: ys, _, _, _, _, h => by rw [trL, trL] at h; cases h
  | x :: xs, [], _, _, _, _, h => by rw [trL, trL] at h; cases h
  | x :: xs, y :: ys, i, ih, hx, hy, h => by
    rw [nodL, Bool.and_eq_true] at hx hy
    rw [trL, trL] at h
    have h1 := wrap_inj (List.cons.inj h).1
    have h2 := (List.cons.inj h).2
    rw [ih x (List.mem_cons_self ..) y hx.1 hy.1 h1, trL_inj k m xs ys (i + 1) (fun x hx => ih x (List.mem_cons_of_mem _ hx)) hx.2 hy.2 h2]
theorem tr_inj : ∀ (t u : T), nodB t = true → nodB u = true → tr t = tr u → t = u := by
  intro t
  induction t using T.ind with
  | step k h xs ih =>
    rintro ⟨k', h', ys⟩ w w' e
    have hh := head_head w
    have hh' := head_head w'
    have n1 := w
    have n2 := w'
    rw [nodB, Bool.and_eq_true] at n1 n2
    by_cases hk : k = 3
    · obtain ⟨rfl, x, rfl⟩ := lam_one' hk w
      subst hk
      by_cases hk' : k' = 3
      · obtain ⟨rfl, y, rfl⟩ := lam_one' hk' w'
        subst hk'
        rw [tr_lam, tr_lam] at e
        simp only [nodL, Bool.and_true] at n1 n2
        rw [ih x (List.mem_cons_self ..) y n1.2 n2.2 (Lm.l.inj e)]
      · have e2 := congrArg dh e
        rw [tr_lam, tr, if_neg hk', dh_apps, at0_dh] at e2
        exact absurd e2.symm (at0_lam _ _ _)
    · by_cases hk' : k' = 3
      · obtain ⟨rfl, y, rfl⟩ := lam_one' hk' w'
        subst hk'
        have e2 := congrArg dh e
        rw [tr_lam, tr, if_neg hk, dh_apps, at0_dh] at e2
        exact absurd e2 (at0_lam _ _ _)
      · have e2 := congrArg dh e
        have e3 := congrArg (fun t => da t []) e
        simp only [tr, if_neg hk, if_neg hk', dh_apps, at0_dh, da_apps, at0_da, List.append_nil] at e2 e3
        have hkk : k = k' ∧ h = h' := by
          unfold at0 at e2
          split at e2
          · split at e2
            · have := Lm.v.inj e2
              rename_i p q
              have := hh p
              have := hh' q
              omega
            · cases e2
          · split at e2
            · cases e2
            · exact Lm.c.inj e2
        obtain ⟨rfl, rfl⟩ := hkk
        have hl : xs.length = ys.length := by
          have := congrArg List.length e3
          rw [trL_len, trL_len] at this
          exact this
        rw [← hl] at e3
        rw [trL_inj k xs.length xs ys 0 (fun x hx y hnx hny => ih x hx y hnx hny) n1.2 n2.2 e3]
end Go.Proofs.Ytloeainlpcnhnaa.Cr
namespace Go.Proofs.Ytloeainlpcnhnaa
open Go.RowKit
end Go.Proofs.Ytloeainlpcnhnaa
/-
  Lambda terms with dependent types up to conversion: what has a type has it renamed, under substitutions, and reduced. No statement is proved here.
-/
namespace Go.Proofs.Ytloeainlpcnhnaa.Cr
open Go.RowKit
set_option linter.unusedVariables false
def Cv (t u : Lm) : Prop := ∃ x, Ps t x ∧ Ps u x
theorem Cv.refl (t : Lm) : Cv t t := ⟨t, .refl _, .refl _⟩
theorem Cv.symm {t u : Lm} (h : Cv t u) : Cv u t := by obtain ⟨x, h1, h2⟩ := h; exact ⟨x, h2, h1⟩
theorem Cv.trans {t u x : Lm} (h : Cv t u) (k : Cv u x) : Cv t x := by
  obtain ⟨y, h1, h2⟩ := h
  obtain ⟨z, h3, h4⟩ := k
  obtain ⟨q, h5, h6⟩ := h2.conf h3
  exact ⟨q, h1.trans h5, h4.trans h6⟩
theorem Cv.of {t u : Lm} (h : Ps t u) : Cv t u := ⟨u, h, .refl _⟩
theorem Cv.a {f f' x x' : Lm} (h : Cv f f') (k : Cv x x') : Cv (.a f x) (.a f' x') := by
  obtain ⟨y, h1, h2⟩ := h
  obtain ⟨z, h3, h4⟩ := k
  exact ⟨_, h1.a h3, h2.a h4⟩
theorem Cv.l {f f' : Lm} (h : Cv f f') : Cv (.l f) (.l f') := by
  obtain ⟨y, h1, h2⟩ := h
  exact ⟨_, h1.l, h2.l⟩
theorem Cv.ren {f f' : Lm} (h : Cv f f') (r : Nat → Nat) : Cv (ren r f) (ren r f') := by
  obtain ⟨y, h1, h2⟩ := h
  exact ⟨_, h1.ren r, h2.ren r⟩
theorem Cv.sub {f f' : Lm} (h : Cv f f') (s : Nat → Lm) : Cv (Cr.sub s f) (Cr.sub s f') := by
  obtain ⟨y, h1, h2⟩ := h
  exact ⟨_, h1.sub s, h2.sub s⟩
theorem Cv.one {x x' : Lm} (h : Cv x x') (t : Lm) : Cv (Cr.sub (Cr.one x) t) (Cr.sub (Cr.one x') t) := by
  obtain ⟨y, h1, h2⟩ := h
  refine ⟨Cr.sub (Cr.one y) t, Ps.subs t fun i => ?_, Ps.subs t fun i => ?_⟩
  · cases i with
    | zero => exact h1
    | succ i => exact .refl _
  · cases i with
    | zero => exact h2
    | succ i => exact .refl _
/-- what asks for A, and then is B -/
def pi (A B : Lm) : Lm := .a (.a (.c 1 0) A) (.l B)
theorem par_pi {A B C : Lm} (h : Par (pi A B) C) : ∃ A' B', C = pi A' B' ∧ Par A A' ∧ Par B B' := by
  unfold pi at h
  cases h with
  | a hf hx =>
    cases hf with
    | a h1 h2 =>
      cases h1
      cases hx with
      | l hb => exact ⟨_, _, rfl, h2, hb⟩
theorem ps_pi {t C : Lm} (h : Ps t C) : ∀ {A B : Lm}, t = pi A B → ∃ A' B', C = pi A' B' ∧ Ps A A' ∧ Ps B B' := by
  induction h with
  | refl t => intro A B e; exact ⟨A, B, e, .refl _, .refl _⟩
  | step p _ ih =>
    intro A B e
    subst e
    obtain ⟨A', B', e, h1, h2⟩ := par_pi p
    obtain ⟨A2, B2, e2, h3, h4⟩ := ih e
    exact ⟨A2, B2, e2, .step h1 h3, .step h2 h4⟩
theorem Cv.pi_inj {A B A' B' : Lm} (h : Cv (pi A B) (pi A' B')) : Cv A A' ∧ Cv B B' := by
  obtain ⟨C, h1, h2⟩ := h
  obtain ⟨A1, B1, rfl, a1, b1⟩ := ps_pi h1 rfl
  obtain ⟨A2, B2, e, a2, b2⟩ := ps_pi h2 rfl
  unfold pi at e
  injection e with e1 e2
  injection e1 with _ e3
  injection e2 with e4
  subst e3; subst e4
  exact ⟨⟨_, a1, a2⟩, ⟨_, b1, b2⟩⟩
theorem Cv.pi {A B A' B' : Lm} (h : Cv A A') (k : Cv B B') : Cv (Cr.pi A B) (Cr.pi A' B') := Cv.a (Cv.a (Cv.refl _) h) k.l
theorem sub_pi (s : Nat → Lm) (A B : Lm) : sub s (pi A B) = pi (sub s A) (sub (ups s) B) := rfl
theorem ren_one (r : Nat → Nat) (x b : Lm) : ren r (sub (one x) b) = sub (one (ren r x)) (ren (upr r) b) := by
  rw [ren_sub, sub_ren]; apply sub_ext; intro i; cases i <;> rfl
theorem ups_ren (s : Nat → Lm) (t : Lm) : sub (ups s) (ren (· + 1) t) = ren (· + 1) (sub s t) := by
  rw [sub_ren, ren_sub]; rfl
/-- what nothing changes -/
def Clo (t : Lm) : Prop := ∀ s, sub s t = t
theorem Clo.ren {t : Lm} (h : Clo t) (r : Nat → Nat) : ren r t = t := by rw [ren_eq_sub]; exact h _
/-- constants have types of their own; types up to conversion; which types are in order is not asked -/
inductive Ty (K : Int → Int → Lm → Prop) : List Lm → Lm → Lm → Prop where
  | v {G : List Lm} {i : Nat} {A : Lm} : G[i]? = some A → Ty K G (.v i) (ren (fun j => j + (i + 1)) A)
  | c {G : List Lm} {k h : Int} {A : Lm} : K k h A → Ty K G (.c k h) A
  | a {G : List Lm} {f x A B : Lm} : Ty K G f (pi A B) → Ty K G x A → Ty K G (.a f x) (sub (one x) B)
  | l {G : List Lm} {b A B : Lm} : Ty K (A :: G) b B → Ty K G (.l b) (pi A B)
  | conv {G : List Lm} {t A A' : Lm} : Ty K G t A → Cv A A' → Ty K G t A'
def Rn (G G' : List Lm) (r : Nat → Nat) : Prop := ∀ i A, G[i]? = some A → ∃ A', G'[r i]? = some A' ∧ ren (fun j => j + (r i + 1)) A' = ren r (ren (fun j => j + (i + 1)) A)
theorem Rn.up {G G' : List Lm} {r : Nat → Nat} (h : Rn G G' r) (A : Lm) : Rn (A :: G) (ren r A :: G') (upr r) := fun i B hB => by
  cases i with
  | zero =>
    simp at hB
    subst hB
    exact ⟨_, rfl, by rw [ren_ren, ren_ren]; exact ren_ext (fun j => rfl) _⟩
  | succ i =>
    obtain ⟨A', h1, h2⟩ := h i B (by simpa using hB)
    refine ⟨A', by simpa [upr] using h1, ?_⟩
    have e := congrArg (ren (· + 1)) h2
    rw [ren_ren, ren_ren, ren_ren] at e
    rw [ren_ren]
    rw [show (fun j => j + (upr r (i + 1) + 1)) = (fun j => j + (r i + 1) + 1) from rfl, e]
    exact ren_ext (fun j => rfl) _
theorem Ty.ren {K : Int → Int → Lm → Prop} (hK : ∀ k h A, K k h A → Clo A) {G : List Lm} {t A : Lm} (h : Ty K G t A) : ∀ {G' : List Lm} {r : Nat → Nat}, Rn G G' r → Ty K G' (ren r t) (ren r A) := by
  induction h with
  | @v G i A hi =>
    intro G' r hr
    obtain ⟨A', h1, h2⟩ := hr i A hi
    rw [← h2]
    exact .v h1
  | c hk => intro G' r hr; rw [(hK _ _ _ hk).ren]; exact .c hk
  | a _ _ ihf ihx =>
    intro G' r hr
    rw [ren_one]
    exact .a (ihf hr) (ihx hr)
  | l _ ih => intro G' r hr; exact .l (ih (hr.up _))
  | conv _ hc ih => intro G' r hr; exact .conv (ih hr) (hc.ren r)
def Sb (K : Int → Int → Lm → Prop) (G G' : List Lm) (s : Nat → Lm) : Prop := ∀ i A, G[i]? = some A → Ty K G' (s i) (sub s (ren (fun j => j + (i + 1)) A))
theorem rn_one (G : List Lm) (A : Lm) : Rn G (A :: G) (· + 1) := fun i B hB => ⟨B, by simpa using hB, by rw [ren_ren]; exact ren_ext (fun j => rfl) _⟩
theorem Sb.up {K : Int → Int → Lm → Prop} (hK : ∀ k h A, K k h A → Clo A) {G G' : List Lm} {s : Nat → Lm} (h : Sb K G G' s) (A : Lm) : Sb K (A :: G) (sub s A :: G') (ups s) := fun i B hB => by
  cases i with
  | zero =>
    simp at hB
    subst hB
    have e : sub (ups s) (ren (fun j => j + (0 + 1)) A) = ren (fun j => j + (0 + 1)) (sub s A) := ups_ren s A
    rw [e]
    exact .v rfl
  | succ i =>
    have h1 := (h i B (by simpa using hB)).ren hK (rn_one G' (sub s A))
    have e : sub (ups s) (ren (fun j => j + (i + 1 + 1)) B) = ren (· + 1) (sub s (ren (fun j => j + (i + 1)) B)) := by
      rw [← ups_ren, ren_ren]
      congr 1
    rw [e]
    exact h1
theorem Ty.sub {K : Int → Int → Lm → Prop} (hK : ∀ k h A, K k h A → Clo A) {G : List Lm} {t A : Lm} (h : Ty K G t A) : ∀ {G' : List Lm} {s : Nat → Lm}, Sb K G G' s → Ty K G' (sub s t) (sub s A) := by
  induction h with
  | v hi => intro G' s hs; exact hs _ _ hi
  | c hk => intro G' s hs; rw [hK _ _ _ hk]; exact .c hk
  | a _ _ ihf ihx =>
    intro G' s hs
    rw [sub_one]
    exact .a (ihf hs) (ihx hs)
  | l _ ih => intro G' s hs; exact .l (ih (hs.up hK _))
  | conv _ hc ih => intro G' s hs; exact .conv (ih hs) (hc.sub s)
theorem sb_one {K : Int → Int → Lm → Prop} {G : List Lm} {x A : Lm} (h : Ty K G x A) : Sb K (A :: G) G (one x) := fun i B hB => by
  cases i with
  | zero =>
    simp at hB
    subst hB
    have e : sub (one x) (ren (fun j => j + (0 + 1)) A) = A := by rw [sub_ren]; exact sub_v A
    rw [e]
    exact h
  | succ i =>
    have e : sub (one x) (ren (fun j => j + (i + 1 + 1)) B) = ren (fun j => j + (i + 1)) B := by rw [sub_ren, ren_eq_sub]; rfl
    rw [e]
    exact .v (by simpa using hB)
/-- contexts up to conversion -/
def CvG : List Lm → List Lm → Prop
  | [], [] => True
  | A :: G, B :: G' => Cv A B ∧ CvG G G'
  | _, _ => False
theorem CvG.refl : ∀ G, CvG G G
  | [] => trivial
  | A :: G => ⟨Cv.refl A, CvG.refl G⟩
theorem CvG.at_ : ∀ {G G' : List Lm} {i : Nat} {A : Lm}, CvG G G' → G[i]? = some A → ∃ A', G'[i]? = some A' ∧ Cv A A'
  | A :: G, B :: G', 0, C, h, e => by simp at e; subst e; exact ⟨B, rfl, h.1⟩
  | A :: G, B :: G', i + 1, C, h, e => by
    obtain ⟨A', h1, h2⟩ := CvG.at_ (i := i) h.2 (by simpa using e)
    exact ⟨A', by simpa using h1, h2⟩
  | [], _, _, _, _, e => by simp at e
  | A :: G, [], _, _, h, _ => h.elim
theorem Ty.ctx {K : Int → Int → Lm → Prop} (hK : ∀ k h A, K k h A → Clo A) {G G' : List Lm} {t A : Lm} (h : Ty K G t A) (hc : CvG G G') : Ty K G' t A := by
  have := h.sub hK (G' := G') (s := .v) fun i B hB => by
    obtain ⟨B', h1, h2⟩ := hc.at_ hB
    rw [sub_v]
    exact .conv (.v h1) (h2.symm.ren _)
  rwa [sub_v, sub_v] at this
/-! ### How something came to its type -/
theorem Ty.gen_a {K : Int → Int → Lm → Prop} {G : List Lm} {t C : Lm} (h : Ty K G t C) : ∀ {f x : Lm}, t = .a f x → ∃ A B, Ty K G f (Cr.pi A B) ∧ Ty K G x A ∧ Cv C (Cr.sub (one x) B) := by
  induction h with
  | v _ => intro f x e; cases e
  | c _ => intro f x e; cases e
  | a hf hx _ _ => intro f x e; cases e; exact ⟨_, _, hf, hx, Cv.refl _⟩
  | l _ _ => intro f x e; cases e
  | conv _ hc ih =>
    intro f x e
    obtain ⟨A, B, h1, h2, h3⟩ := ih e
    exact ⟨A, B, h1, h2, hc.symm.trans h3⟩
theorem Ty.gen_l {K : Int → Int → Lm → Prop} {G : List Lm} {t C : Lm} (h : Ty K G t C) : ∀ {b : Lm}, t = .l b → ∃ A B, Ty K (A :: G) b B ∧ Cv C (Cr.pi A B) := by
  induction h with
  | v _ => intro b e; cases e
  | c _ => intro b e; cases e
  | a _ _ _ _ => intro b e; cases e
  | l hb _ => intro b e; cases e; exact ⟨_, _, hb, Cv.refl _⟩
  | conv _ hc ih =>
    intro b e
    obtain ⟨A, B, h1, h3⟩ := ih e
    exact ⟨A, B, h1, hc.symm.trans h3⟩
theorem Ty.gen_v {K : Int → Int → Lm → Prop} {G : List Lm} {t C : Lm} (h : Ty K G t C) : ∀ {i : Nat}, t = .v i → ∃ A, G[i]? = some A ∧ Cv C (Cr.ren (fun j => j + (i + 1)) A) := by
  induction h with
  | v hi => intro i e; cases e; exact ⟨_, hi, Cv.refl _⟩
  | c _ => intro b e; cases e
  | a _ _ _ _ => intro b e; cases e
  | l hb _ => intro b e; cases e
  | conv _ hc ih =>
    intro b e
    obtain ⟨A, h1, h3⟩ := ih e
    exact ⟨A, h1, hc.symm.trans h3⟩
theorem Ty.gen_c {K : Int → Int → Lm → Prop} {G : List Lm} {t C : Lm} (h : Ty K G t C) : ∀ {k g : Int}, t = .c k g → ∃ A, K k g A ∧ Cv C A := by
  induction h with
  | v hi => intro k g e; cases e
  | c hk => intro k g e; cases e; exact ⟨_, hk, Cv.refl _⟩
  | a _ _ _ _ => intro k g e; cases e
  | l hb _ => intro k g e; cases e
  | conv _ hc ih =>
    intro k g e
    obtain ⟨A, h1, h3⟩ := ih e
    exact ⟨A, h1, hc.symm.trans h3⟩
/-- what is reduced has the type -/
theorem Ty.par {K : Int → Int → Lm → Prop} (hK : ∀ k h A, K k h A → Clo A) {t t' : Lm} (p : Par t t') : ∀ {G : List Lm} {C : Lm}, Ty K G t C → Ty K G t' C := by
  induction p with
  | v i => intro G C h; exact h
  | c k h => intro G C h; exact h
  | @a f f' x x' _ hx ihf ihx =>
    intro G C h
    obtain ⟨A, B, h1, h2, h3⟩ := h.gen_a rfl
    exact .conv (.a (ihf h1) (ihx h2)) ((Cv.one (Cv.of (Ps.of hx)) B).symm.trans h3.symm)
  | l _ ih =>
    intro G C h
    obtain ⟨A, B, h1, h2⟩ := h.gen_l rfl
    exact .conv (.l (ih h1)) h2.symm
  | @beta b b' x x' _ hx ihb ihx =>
    intro G C h
    obtain ⟨A, B, h1, h2, h3⟩ := h.gen_a rfl
    obtain ⟨A1, B1, h4, h5⟩ := h1.gen_l rfl
    obtain ⟨h6, h7⟩ := h5.pi_inj
    have h8 := (ihb h4).sub hK (sb_one (.conv (ihx h2) h6))
    exact .conv h8 (((Cv.one (Cv.of (Ps.of hx)) B1).symm.trans (h7.symm.sub _)).trans h3.symm)
theorem Ty.ps {K : Int → Int → Lm → Prop} (hK : ∀ k h A, K k h A → Clo A) {t t' : Lm} (p : Ps t t') : ∀ {G : List Lm} {C : Lm}, Ty K G t C → Ty K G t' C := by
  induction p with
  | refl t => intro G C h; exact h
  | step p _ ih => intro G C h; exact ih (h.par hK p)
/-- a spine, up to conversion -/
def Spn (K : Int → Int → Lm → Prop) (G : List Lm) : Lm → List Lm → Lm → Prop
  | t, [], C => Cv t C
  | t, x :: xs, C => ∃ A B, Cv t (pi A B) ∧ Ty K G x A ∧ Spn K G (sub (one x) B) xs C
theorem Spn.cv {K : Int → Int → Lm → Prop} {G : List Lm} : ∀ {xs : List Lm} {t t' C : Lm}, Cv t' t → Spn K G t xs C → Spn K G t' xs C
  | [], _, _, _, h, k => h.trans k
  | x :: xs, _, _, _, h, k => by
    obtain ⟨A, B, h1, h2, h3⟩ := k
    exact ⟨A, B, h.trans h1, h2, h3⟩
theorem Spn.of {K : Int → Int → Lm → Prop} {G : List Lm} : ∀ {xs : List Lm} {f C : Lm}, Ty K G (apps f xs) C → ∃ t, Ty K G f t ∧ Spn K G t xs C
  | [], f, C, h => ⟨C, h, Cv.refl _⟩
  | x :: xs, f, C, h => by
    obtain ⟨t, h1, h2⟩ := Spn.of (xs := xs) (f := .a f x) h
    obtain ⟨A, B, h3, h4, h5⟩ := h1.gen_a rfl
    exact ⟨_, h3, A, B, Cv.refl _, h4, h2.cv h5.symm⟩
end Go.Proofs.Ytloeainlpcnhnaa.Cr
/-
  Simple types: what a term's arguments are, functions or not; what is put for variables keeps them, so that nothing but a function is applied. No statement is proved here.
-/
namespace Go.Proofs.Ytloeainlpcnhnaa
open Go.RowKit
set_option linter.unusedVariables false
/-- simple types -/
inductive S0 where
  | o : S0
  | r (a b : S0) : S0
mutual
def er : T → S0
  | .node k _ xs => if k = 1 then erL xs else .o
def erL : List T → S0
  | [] => .o
  | x :: xs => erM (er x) xs
def erM (s : S0) : List T → S0
  | [] => .o
  | y :: _ => .r s (er y)
end
theorem er_pi (h : Int) (a b : T) : er (.node 1 h [a, b]) = .r (er a) (er b) := by rw [er, if_pos rfl, erL, erM]
theorem er_no {k h : Int} {xs : List T} (hk : k ≠ 1) : er (.node k h xs) = .o := by rw [er, if_neg hk]
mutual
inductive StT (C : Int → Int → Option S0) : List S0 → T → S0 → Prop where
  | lam {G : List S0} {h : Int} {x : T} {a b : S0} : StT C (a :: G) x b → StT C G (.node 3 h [x]) (.r a b)
  | var {G : List S0} {h : Int} {xs : List T} {s : S0} : 0 ≤ h → G[h.toNat]? = some s → StS C G xs s → StT C G (.node 4 h xs) .o
  | con {G : List S0} {k h : Int} {xs : List T} {s : S0} : k = 5 ∨ k = 6 → C k h = some s → StS C G xs s → StT C G (.node k h xs) .o
inductive StS (C : Int → Int → Option S0) : List S0 → List T → S0 → Prop where
  | nil {G : List S0} : StS C G [] .o
  | cons {G : List S0} {x : T} {xs : List T} {a b : S0} : StT C G x a → StS C G xs b → StS C G (x :: xs) (.r a b)
end
/-- what is a type (true), or a kind (false), as far as simple types tell -/
inductive Wf (C : Int → Int → Option S0) : Bool → List S0 → T → Prop where
  | sort {G : List S0} {h : Int} : Wf C false G (.node 0 h [])
  | pi {b : Bool} {G : List S0} {h : Int} {x y : T} : Wf C true G x → Wf C b (er x :: G) y → Wf C b G (.node 1 h [x, y])
  | fam {G : List S0} {h : Int} {xs : List T} {s : S0} : C 2 h = some s → StS C G xs s → Wf C true G (.node 2 h xs)
theorem StS.map {C C' : Int → Int → Option S0} {G G' : List S0} {f : T → T} : ∀ {xs : List T} {s : S0}, (∀ x ∈ xs, ∀ a, StT C G x a → StT C' G' (f x) a) → StS C G xs s → StS C' G' (xs.map f) s
  | [], s, _, h => by cases h; exact .nil
  | x :: xs, s, hf, h => by
    cases h with
    | cons h1 h2 => exact .cons (hf x (List.mem_cons_self ..) _ h1) (StS.map (fun y hy => hf y (List.mem_cons_of_mem _ hy)) h2)
/-- more is known of -/
theorem StT.more {C C' : Int → Int → Option S0} (hC : ∀ k h s, C k h = some s → C' k h = some s) (t : T) : ∀ {G G' : List S0} {a : S0}, (∀ (i : Nat) (s : S0), G[i]? = some s → G'[i]? = some s) → StT C G t a → StT C' G' t a := by
  induction t using T.ind with
  | step k h xs ih =>
    intro G G' a hG ht
    have hsp : ∀ {s : S0}, StS C G xs s → StS C' G' xs s := fun hs => by
      have := hs.map (C' := C') (G' := G') (f := id) (fun x hx b hb => ih x hx hG hb)
      simpa using this
    cases ht with
    | lam hb =>
      refine .lam (ih _ (List.mem_cons_self ..) (fun i s hi => ?_) hb)
      cases i with
      | zero => exact hi
      | succ i => exact hG i s hi
    | var h0 hg hs => exact .var h0 (hG _ _ hg) (hsp hs)
    | con hk hc hs => exact .con hk (hC _ _ _ hc) (hsp hs)
theorem StS.more {C C' : Int → Int → Option S0} (hC : ∀ k h s, C k h = some s → C' k h = some s) {G G' : List S0} (hG : ∀ (i : Nat) (s : S0), G[i]? = some s → G'[i]? = some s) {xs : List T} {s : S0} (h : StS C G xs s) : StS C' G' xs s := by
  have := h.map (C' := C') (G' := G') (f := id) (fun x hx b hb => hb.more hC x hG)
  simpa using this
theorem Wf.more {C C' : Int → Int → Option S0} (hC : ∀ k h s, C k h = some s → C' k h = some s) {b : Bool} {G : List S0} {t : T} (h : Wf C b G t) : ∀ {G' : List S0}, (∀ (i : Nat) (s : S0), G[i]? = some s → G'[i]? = some s) → Wf C' b G' t := by
  induction h with
  | sort => intro G' _; exact .sort
  | pi _ _ ih1 ih2 =>
    intro G' hG
    refine .pi (ih1 hG) (ih2 fun i s hi => ?_)
    cases i with
    | zero => exact hi
    | succ i => exact hG i s hi
  | fam hc hs => intro G' hG; exact .fam (hC _ _ _ hc) (hs.more hC hG)
/-! ### Up -/
theorem up_lamS {b h : Int} {x : T} {c : Int} : upT b (.node 3 h [x]) c = .node 3 h [upT b x (c + 1)] := by
  simp [upT, upL, bd]
theorem up_piS {b h : Int} {x y : T} {c : Int} : upT b (.node 1 h [x, y]) c = .node 1 h [upT b x c, upT b y (c + 1)] := by
  simp [upT, upL, bd]
theorem up_flatS {b k h c : Int} {xs : List T} (hk : k ≠ 1 ∧ k ≠ 3) : upT b (.node k h xs) c = .node k (if k = 4 ∧ c ≤ h then h + b else h) (xs.map fun x => upT b x c) := by
  have key : ∀ (n : Nat) (ys : List T) (i : Nat), upL b k n ys i c = ys.map fun x => upT b x c := by
    intro n ys
    induction ys with
    | nil => intro i; rw [upL]; rfl
    | cons y ys ih => intro i; rw [upL, ih, bd_var hk, Int.add_zero]; rfl
  rw [upT, key]
theorem look_mid {D E G : List S0} {i : Nat} {s : S0} (h : (D ++ G)[i]? = some s) : (D ++ (E ++ G))[if D.length ≤ i then i + E.length else i]? = some s := by
  by_cases hi : D.length ≤ i
  · rw [if_pos hi, List.getElem?_append_right (by omega), List.getElem?_append_right (by omega)]
    rw [List.getElem?_append_right hi] at h
    rw [show i + E.length - D.length - E.length = i - D.length by omega]
    exact h
  · rw [if_neg hi, List.getElem?_append_left (by omega)]
    rwa [List.getElem?_append_left (by omega)] at h
theorem StT.up {C : Int → Int → Option S0} {E : List S0} (t : T) : ∀ {D G : List S0} {a : S0}, StT C (D ++ G) t a → StT C (D ++ (E ++ G)) (upT E.length t D.length) a := by
  induction t using T.ind with
  | step k h xs ih =>
    intro D G a ht
    have hsp : ∀ {s : S0}, StS C (D ++ G) xs s → StS C (D ++ (E ++ G)) (xs.map fun x => upT E.length x D.length) s := fun hs => hs.map fun x hx b hb => ih x hx hb
    cases ht with
    | @lam _ _ x a b hb =>
      rw [up_lamS]
      have := ih x (List.mem_cons_self ..) (D := a :: D) hb
      rw [List.length_cons, Int.natCast_add] at this
      exact .lam this
    | var h0 hg hs =>
      rw [up_flatS (by omega)]
      have hl := look_mid (E := E) hg
      refine .var (by split <;> omega) ?_ (hsp hs)
      by_cases hd : (D.length : Int) ≤ h
      · rw [if_pos ⟨rfl, hd⟩]
        rw [if_pos (by omega)] at hl
        rw [show (h + (E.length : Int)).toNat = h.toNat + E.length by omega]
        exact hl
      · rw [if_neg (fun e => hd e.2)]
        rwa [if_neg (by omega)] at hl
    | con hk hc hs =>
      rw [up_flatS (by omega), if_neg (by omega)]
      exact .con hk hc (hsp hs)
theorem StS.up {C : Int → Int → Option S0} {E D G : List S0} {xs : List T} {s : S0} (h : StS C (D ++ G) xs s) : StS C (D ++ (E ++ G)) (xs.map fun x => upT E.length x D.length) s := h.map fun x hx b hb => hb.up x
mutual
theorem er_up {b : Int} : ∀ (t : T) (c : Int), er (upT b t c) = er t
  | .node k h xs, c => by
    rw [upT, er, er]
    by_cases hk : k = 1
    · rw [if_pos hk, if_pos hk]; exact er_upL k xs.length xs 0 c
    · rw [if_neg hk, if_neg hk]
theorem er_upL {b : Int} (k : Int) (n : Nat) : ∀ (xs : List T) (i : Nat) (c : Int), erL (upL b k n xs i c) = erL xs
  | [], _, _ => by rw [upL]
  | x :: xs, i, c => by rw [upL, erL, erL, er_up x, er_upM k n (er x) xs]
theorem er_upM {b : Int} (k : Int) (n : Nat) (s : S0) : ∀ (xs : List T) (i : Nat) (c : Int), erM s (upL b k n xs i c) = erM s xs
  | [], _, _ => by rw [upL]
  | x :: xs, i, c => by rw [upL, erM, erM, er_up x]
end
theorem Wf.up {C : Int → Int → Option S0} {E : List S0} {b : Bool} {H : List S0} {t : T} (h : Wf C b H t) : ∀ {D G : List S0}, H = D ++ G → Wf C b (D ++ (E ++ G)) (upT E.length t D.length) := by
  induction h with
  | sort => intro D G e; rw [up_flatS (by omega), if_neg (by omega)]; exact .sort
  | @pi b H h x y _ _ ih1 ih2 =>
    intro D G e
    subst e
    rw [up_piS]
    have h2 := ih2 (D := er x :: D) (G := G) rfl
    rw [List.length_cons, Int.natCast_add] at h2
    refine .pi (ih1 rfl) ?_
    rw [er_up]
    exact h2
  | fam hc hs =>
    intro D G e
    subst e
    rw [up_flatS (by omega), if_neg (by omega)]
    exact .fam hc hs.up
/-! ### Terms for variables -/
def Sub0 (C : Int → Int → Option S0) (G0 G : List S0) (L : List T) (sh : Int) : Prop :=
  ∀ (i : Nat) (s : S0), G0[i]? = some s → (i < L.length → StT C G (L.getD (L.length - 1 - i) (.node 0 0 [])) s) ∧ (L.length ≤ i → G[i - L.length + sh.toNat]? = some s)
/-- what can be applied -/
def Hd0 (C : Int → Int → Option S0) (G : List S0) (t : T) (s : S0) : Prop := (∃ h, t = .node 4 h [] ∧ 0 ≤ h ∧ G[h.toNat]? = some s) ∨ StT C G t s
theorem sub0_one {C : Int → Int → Option S0} {G : List S0} {x : T} {a : S0} (h : StT C G x a) : Sub0 C (a :: G) G [x] 0 := fun i s hi => by
  cases i with
  | zero => simp at hi; subst hi; exact ⟨fun _ => h, fun e => by simp at e⟩
  | succ i => exact ⟨fun e => by simp at e, fun _ => by simpa using hi⟩
theorem mp_St {C : Int → Int → Option S0} {G0 G D : List S0} {L : List T} {sh : Int} (hS : Sub0 C G0 G L sh) (h0 : 0 ≤ sh) {h : Int} {s : S0} (hu : (D.length : Int) ≤ h) (hg : (D ++ G0)[h.toNat]? = some s) : Hd0 C (D ++ G) (mpT L sh (h - D.length) D.length) s := by
  rw [List.getElem?_append_right (by omega)] at hg
  obtain ⟨h1, h2⟩ := hS _ _ hg
  unfold mpT
  by_cases hl : (L.length : Int) ≤ h - D.length
  · rw [if_pos hl]
    refine .inl ⟨_, rfl, by omega, ?_⟩
    rw [List.getElem?_append_right (by omega)]
    have := h2 (by omega)
    rw [show (h - (D.length : Int) - (L.length : Int) + sh + (D.length : Int)).toNat - D.length = h.toNat - D.length - L.length + sh.toNat by omega]
    exact this
  · rw [if_neg hl]
    have := h1 (by omega)
    rw [show h.toNat - D.length = (h - (D.length : Int)).toNat by omega] at this
    have := StT.up (C := C) (E := D) (D := []) (G := G) _ this
    exact .inr this
/-- an answer: too much, or what is said of it -/
def Okr (P : T → Prop) (r : Res) : Prop := r = .error 4 ∨ ∃ t n, r = .ok (t, n) ∧ P t
theorem spL_St {C : Int → Int → Option S0} {G : List S0} {A : T → T → Nat → Res} (hA : ∀ x b n a s, StT C G x a → StT C (a :: G) b s → Okr (fun t => StT C G t s) (A x b n)) :
    ∀ (bs : List T) (t : T) (n : Nat) (s : S0), Hd0 C G t s → StS C G bs s → Okr (fun t => StT C G t .o) (spL A t bs n)
  | [], t, n, s, ht, hb => by
    cases hb
    refine .inr ⟨t, n, by rw [spL], ?_⟩
    rcases ht with ⟨h, rfl, h0, hg⟩ | ht
    · exact .var h0 hg .nil
    · exact ht
  | x :: bs, t, n, s, ht, hb => by
    cases hb with
    | @cons _ _ _ a b hx hbs =>
      rcases ht with ⟨h, rfl, h0, hg⟩ | ht
      · refine .inr ⟨.node 4 h (x :: bs), n, ?_, .var h0 hg (.cons hx hbs)⟩
        rw [spL, if_neg (by omega), if_pos (by omega), List.nil_append]
      · cases ht with
        | @lam _ h y _ _ hy =>
          rw [spL, if_pos rfl]
          by_cases hm : myB x = true
          · rw [if_pos hm]
            rcases hA x y n a b hx hy with e | ⟨t1, n1, e, h1⟩
            · simp only [List.headD_cons, e]; exact .inl rfl
            · simp only [List.headD_cons, e]
              exact spL_St hA bs t1 n1 b (.inr h1) hbs
          · rw [if_neg hm]; exact .inl rfl
theorem apL_St {C : Int → Int → Option S0} {G G' : List S0} {A : Nat → T → Nat → Res} {k : Int} {m u : Nat} (hk : k ≠ 1 ∧ k ≠ 3) : ∀ (xs : List T) (i n : Nat) (s : S0), (∀ x ∈ xs, ∀ n a, StT C G x a → Okr (fun t => StT C G' t a) (A u x n)) → StS C G xs s →
    apL A k m u xs i n = .error 4 ∨ ∃ ys n', apL A k m u xs i n = .ok (ys, n') ∧ StS C G' ys s
  | [], i, n, s, _, hs => by cases hs; exact .inr ⟨[], n, by rw [apL], .nil⟩
  | x :: xs, i, n, s, hA, hs => by
    cases hs with
    | @cons _ _ _ a b hx hxs =>
      have hb : bdn k m i = 0 := by unfold bdn; rw [if_neg (by omega)]
      rw [apL, hb, Nat.add_zero]
      rcases hA x (List.mem_cons_self ..) n a hx with e | ⟨y, n1, e, h1⟩
      · rw [e]; exact .inl rfl
      · rw [e]
        dsimp only
        rcases apL_St hk xs (i + 1) n1 b (fun y hy => hA y (List.mem_cons_of_mem _ hy)) hxs with e2 | ⟨ys, n2, e2, h2⟩
        · rw [e2]; exact .inl rfl
        · rw [e2]; exact .inr ⟨y :: ys, n2, rfl, .cons h1 h2⟩
theorem ap_St {C : Int → Int → Option S0} : ∀ (f : Nat) {G0 G : List S0} {L : List T} {sh : Int}, Sub0 C G0 G L sh → 0 ≤ sh → ∀ (t : T) (D : List S0) (n : Nat),
    (∀ a, StT C (D ++ G0) t a → Okr (fun t' => StT C (D ++ G) t' a) (ap f L sh D.length t n)) ∧ (∀ b, Wf C b (D ++ G0) t → Okr (fun t' => Wf C b (D ++ G) t' ∧ er t' = er t) (ap f L sh D.length t n)) := by
  intro f
  induction f with
  | zero => intro G0 G L sh _ _ t D n; exact ⟨fun a _ => .inl (by rw [ap]), fun b _ => .inl (by rw [ap])⟩
  | succ f ih =>
    intro G0 G L sh hS h0 t D n
    obtain ⟨k, h, xs⟩ := t
    have hsp : ∀ {k : Int} {s : S0} (m : Nat), k ≠ 1 ∧ k ≠ 3 → StS C (D ++ G0) xs s → apL (fun u' x m => ap f L sh u' x m) k m D.length xs 0 (n + 1) = .error 4 ∨ ∃ ys n', apL (fun u' x m => ap f L sh u' x m) k m D.length xs 0 (n + 1) = .ok (ys, n') ∧ StS C (D ++ G) ys s := fun m hk hs =>
      apL_St hk xs 0 (n + 1) _ (fun x hx n a ha => (ih hS h0 x D n).1 a ha) hs
    constructor
    · intro a ht
      rw [ap]
      by_cases hn : 40000 < n + 1
      · rw [if_pos hn]; exact .inl rfl
      rw [if_neg hn]
      cases ht with
      | @lam _ _ x a b hb =>
        have h1 := (ih hS h0 x (a :: D) (n + 1)).1 b hb
        have hbd : bdn 3 [x].length 0 = 1 := rfl
        rw [apL, hbd]
        rw [List.length_cons] at h1
        rcases h1 with e | ⟨y, n1, e, h1⟩
        · simp only [e]; exact .inl rfl
        · simp only [e, apL]
          rw [if_neg (by omega)]
          exact .inr ⟨_, _, rfl, .lam h1⟩
      | var hh hg hs =>
        rcases hsp (k := 4) xs.length (by omega) hs with e | ⟨ys, n1, e, h1⟩
        · rw [e]; exact .inl rfl
        · rw [e]
          dsimp only
          by_cases hu : (D.length : Int) ≤ h
          · rw [if_pos ⟨rfl, hu⟩]
            exact spL_St (fun x b n a s hx hb => (ih (sub0_one hx) (by omega) b [] n).1 s hb) ys _ n1 _ (mp_St hS h0 hu hg) h1
          · rw [if_neg (fun e => hu e.2)]
            refine .inr ⟨_, _, rfl, .var hh ?_ h1⟩
            rw [List.getElem?_append_left (by omega)] at hg ⊢
            exact hg
      | con hk hc hs =>
        rcases hsp (k := k) xs.length (by omega) hs with e | ⟨ys, n1, e, h1⟩
        · rw [e]; exact .inl rfl
        · rw [e]
          simp only
          rw [if_neg (by omega)]
          exact .inr ⟨_, _, rfl, .con hk hc h1⟩
    · intro b ht
      rw [ap]
      by_cases hn : 40000 < n + 1
      · rw [if_pos hn]; exact .inl rfl
      rw [if_neg hn]
      cases ht with
      | sort =>
        simp only [apL]
        rw [if_neg (by omega)]
        exact .inr ⟨_, _, rfl, .sort, rfl⟩
      | @pi _ _ _ x y hx hy =>
        have h1 := (ih hS h0 x D (n + 1)).2 true hx
        have hbd0 : bdn 1 [x, y].length 0 = 0 := rfl
        have hbd1 : bdn 1 [x, y].length (0 + 1) = 1 := rfl
        rw [apL, hbd0, Nat.add_zero]
        rcases h1 with e | ⟨x', n1, e, hx', ex⟩
        · simp only [e]; exact .inl rfl
        · simp only [e]
          rw [apL, hbd1]
          have h2 := (ih hS h0 y (er x :: D) n1).2 b hy
          rw [List.length_cons] at h2
          rcases h2 with e2 | ⟨y', n2, e2, hy', ey⟩
          · simp only [e2]; exact .inl rfl
          · simp only [e2, apL]
            rw [if_neg (by omega)]
            refine .inr ⟨_, _, rfl, .pi hx' ?_, by rw [er_pi, er_pi, ex, ey]⟩
            rw [ex]; exact hy'
      | fam hc hs =>
        rcases hsp (k := 2) xs.length (by omega) hs with e | ⟨ys, n1, e, h1⟩
        · rw [e]; exact .inl rfl
        · rw [e]
          simp only
          rw [if_neg (by omega)]
          exact .inr ⟨_, _, rfl, .fam hc h1, by rw [er_no (by omega), er_no (by omega)]⟩
/-- what Apply tells: too much, or a term -/
theorem apE_of {t : T} {L : List T} {n : Int} {P : T → Prop} (h : Okr P (ap fl L n 0 t 0)) (h1 : myB t = true) (h2 : sbB L n = true) : (apE t L n = 0 ∧ P (apT t L n)) ∨ apE t L n = 4 := by
  have hc : (myB t && sbB L n) = true := by rw [h1, h2]; rfl
  have e1 : apE t L n = anE (apR t L n) := by unfold apE; rw [if_pos hc]
  have e2 : apT t L n = anT (apR t L n) := by unfold apT; rw [if_pos hc]
  rw [e1, e2]
  have e3 : apR t L n = ap fl L n 0 t 0 := rfl
  rw [e3]
  rcases h with e | ⟨t', n', e, hp⟩
  · rw [e]; exact .inr rfl
  · rw [e, anE, anT]
    by_cases hm : myB t' = true
    · rw [if_pos hm, if_pos hm]; exact .inl ⟨rfl, hp⟩
    · rw [if_neg hm]; exact .inr rfl
end Go.Proofs.Ytloeainlpcnhnaa
/-
  Contract of the laws' own good, with no bound on Heads: what is in order has low ones. No statement is proved here.
-/
namespace Go.Proofs.Ytloeainlpcnhnaa
open Go.ChangeShapes Go.WideShapes Go.ChangeAt Go.RowKit
set_option linter.unusedVariables false
/-- are declarations, and entries, in order, behind those ahead -/
def gdS : List T → List T → Bool
  | _, [] => true
  | dn, x :: xs => (decide (ckTy ⟨dn, []⟩ [] x = 0) || decide (ckKi ⟨dn, []⟩ [] x = 0)) && gdS (dn ++ [x]) xs
theorem ckTy_okZ {W : WV} {cx : List T} {a : T} (h : ckTy W cx a = 0) : mayV W cx [a] = true ∧ tyV W a cx = 0 := by
  unfold ckTy at h
  split at h
  · rename_i h1; exact ⟨h1, h⟩
  · cases h
theorem ckKi_okZ {W : WV} {cx : List T} {a : T} (h : ckKi W cx a = 0) : mayV W cx [a] = true ∧ kiV W a cx = 0 := by
  unfold ckKi at h
  split at h
  · rename_i h1; exact ⟨h1, h⟩
  · cases h
def AllLo (l : List T) : Prop := ∀ t ∈ l, okT loV t
theorem AllLo.snoc {l : List T} {x : T} (h : AllLo l) (hx : okT loV x) : AllLo (l ++ [x]) := fun t ht => by
  rcases List.mem_append.1 ht with ht | ht
  · exact h t ht
  · rw [List.mem_singleton.1 ht]; exact hx
end Go.Proofs.Ytloeainlpcnhnaa
/-
  What is checked has its simple type, and its type up to conversion, where there are no metas. No statement is proved here.
-/
namespace Go.Proofs.Ytloeainlpcnhnaa
open Go.RowKit
set_option linter.unusedVariables false
/-- simple types of constants, and of families -/
def cS (sg : List T) (k h : Int) : Option S0 :=
  if 0 ≤ h then (match sg[h.toNat]? with
    | some t => if (k = 2 ∧ kiB t = true) ∨ (k = 5 ∧ kiB t = false) then some (er t) else none
    | none => none) else none
theorem cS_app {sg s2 : List T} : ∀ (k h : Int) (s : S0), cS sg k h = some s → cS (sg ++ s2) k h = some s := fun k h s e => by
  unfold cS at e ⊢
  by_cases h0 : 0 ≤ h
  · rw [if_pos h0] at e ⊢
    cases hq : sg[h.toNat]? with
    | none => rw [hq] at e; cases e
    | some t =>
      rw [hq] at e
      rw [List.getElem?_append_left (List.getElem?_eq_some_iff.1 hq).1, hq]
      exact e
  · rw [if_neg h0] at e; cases e
theorem cS_of {sg : List T} {k h : Int} {t : T} (h0 : 0 ≤ h) (ht : sg[h.toNat]? = some t) (hk : (k = 2 ∧ kiB t = true) ∨ (k = 5 ∧ kiB t = false)) : cS sg k h = some (er t) := by
  unfold cS
  rw [if_pos h0, ht]
  simp only
  rw [if_pos hk]
def gS (cx : List T) : List S0 := (cx.map er).reverse
theorem gS_snoc (cx : List T) (a : T) : gS (cx ++ [a]) = er a :: gS cx := by simp [gS]
theorem gS_len (cx : List T) : (gS cx).length = cx.length := by simp [gS]
theorem rev_at {α β : Type} (f : α → β) {cx : List α} {i : Nat} {x : α} (hx : cx[i]? = some x) : ((cx.map f).reverse)[cx.length - 1 - i]? = some (f x) := by
  have hi := (List.getElem?_eq_some_iff.1 hx).1
  rw [List.getElem?_reverse (by rw [List.length_map]; omega), List.length_map, show cx.length - 1 - (cx.length - 1 - i) = i by omega, List.getElem?_map, hx]
  rfl
theorem gS_at {cx : List T} {i : Nat} {x : T} (hx : cx[i]? = some x) : (gS cx)[cx.length - 1 - i]? = some (er x) := rev_at er hx
/-- entries that are types, each behind those ahead -/
def WfX (sg cx : List T) : Prop := ∀ i x, cx[i]? = some x → nodB x = true ∧ Wf (cS sg) true (gS (cx.take i)) x
def SgX (sg : List T) : Prop := ∀ t ∈ sg, nodB t = true ∧ (kiB t = true → Wf (cS sg) false [] t) ∧ (kiB t = false → Wf (cS sg) true [] t)
theorem WfX.snoc {sg cx : List T} {a : T} (h : WfX sg cx) (hn : nodB a = true) (ha : Wf (cS sg) true (gS cx) a) : WfX sg (cx ++ [a]) := fun i x hx => by
  by_cases hi : i < cx.length
  · rw [List.getElem?_append_left hi] at hx
    rw [List.take_append_of_le_length (by omega)]
    exact h i x hx
  · have hl := (List.getElem?_eq_some_iff.1 hx).1
    rw [List.length_append, List.length_singleton] at hl
    obtain rfl : i = cx.length := by omega
    rw [List.getElem?_append_right (Nat.le_refl _), Nat.sub_self] at hx
    simp at hx
    subst hx
    rw [List.take_left']
    · exact ⟨hn, ha⟩
    · rfl
/-- an entry, up, in all of the context -/
theorem WfX.up {sg cx : List T} (h : WfX sg cx) {i : Nat} {x : T} (hx : cx[i]? = some x) : Wf (cS sg) true (gS cx) (upT ((cx.length - i : Nat) : Int) x 0) := by
  have hi := (List.getElem?_eq_some_iff.1 hx).1
  have e : gS cx = ((cx.drop i).map er).reverse ++ gS (cx.take i) := by
    unfold gS
    rw [← List.reverse_append, ← List.map_append, List.take_append_drop]
  have := (h i x hx).2.up (E := ((cx.drop i).map er).reverse) (D := []) rfl
  simp only [List.nil_append, List.length_reverse, List.length_map, List.length_drop, List.length_nil] at this
  rw [e]
  exact this
theorem er_end {b : Bool} {C : Int → Int → Option S0} {G : List S0} {t : T} (h : Wf C b G t) (hk : kdQ t ≠ 1) : er t = .o := by
  cases h with
  | sort => exact er_no (by omega)
  | pi _ _ => exact absurd rfl hk
  | fam _ _ => exact er_no (by omega)
theorem wf_pi {b : Bool} {C : Int → Int → Option S0} {G : List S0} {t : T} (h : Wf C b G t) (hn : nodB t = true) (hk : kdQ t = 1) : ∃ p q, t = .node 1 0 [p, q] ∧ nodB p = true ∧ nodB q = true ∧ Wf C true G p ∧ Wf C b (er p :: G) q := by
  cases h with
  | sort => exact absurd hk (by simp [kdQ])
  | @pi _ _ h x y h1 h2 =>
    obtain ⟨rfl, p, q, e, hp, hq⟩ := piV hn
    cases e
    exact ⟨x, y, rfl, hp, hq, h1, h2⟩
  | fam _ _ => exact absurd hk (by simp [kdQ])
theorem apT_ok {t x : T} (h : apE t [x] 0 = 0) (hx : nodB x = true) (ht : nodB t = true) : myB t = true ∧ myB x = true ∧ nodB (apT t [x] 0) = true ∧ myB (apT t [x] 0) = true ∧ Cr.Ps (Cr.sub (Cr.one (Cr.tr x)) (Cr.tr t)) (Cr.tr (apT t [x] 0)) ∧ ∃ n, ap fl [x] 0 0 t 0 = .ok (apT t [x] 0, n) := by
  by_cases hc : (myB t && sbB [x] 0) = true
  · have e1 : apE t [x] 0 = anE (apR t [x] 0) := by unfold apE; rw [if_pos hc]
    have e2 : apT t [x] 0 = anT (apR t [x] 0) := by unfold apT; rw [if_pos hc]
    rw [Bool.and_eq_true] at hc
    rw [e1] at h
    cases hr : apR t [x] 0 with
    | error e =>
      rw [hr] at h
      exact absurd h (ap_err _ _ _ _ _ _ _ (show ap fl [x] 0 0 t 0 = .error e from hr))
    | ok p =>
      obtain ⟨t', n'⟩ := p
      have hr' : ap fl [x] 0 0 t 0 = .ok (t', n') := hr
      rw [hr, anE] at h
      by_cases hm : myB t' = true
      · obtain ⟨g1, g2⟩ := Cr.ap_red fl [x] 0 0 t 0 t' n' (fun y hy => by rw [List.mem_singleton.1 hy]; exact hx) (by omega) ht hr'
        rw [Cr.upn, Cr.sub_ext (Cr.sg_one x)] at g2
        have e3 : apT t [x] 0 = t' := by rw [e2, hr, anT, if_pos hm]
        rw [e3]
        exact ⟨hc.1, (sb_parts hc.2).2.2 x (by simp), g1, hm, g2, n', hr'⟩
      · rw [if_neg hm] at h; cases h
  · have h1 : apE t [x] 0 = 1 := by unfold apE; rw [if_neg hc]
    rw [h1] at h
    cases h
theorem ap_wf {C : Int → Int → Option S0} {b : Bool} {G : List S0} {t x : T} {s : S0} (h : apE t [x] 0 = 0) (hx : nodB x = true) (ht : nodB t = true) (sx : StT C G x s) (wt : Wf C b (s :: G) t) : Wf C b G (apT t [x] 0) ∧ er (apT t [x] 0) = er t := by
  obtain ⟨_, _, _, _, _, n, e⟩ := apT_ok h hx ht
  rcases (ap_St fl (sub0_one sx) (by omega) t [] 0).2 b wt with e' | ⟨t', n', e', h1⟩
  · simp only [List.length_nil] at e'
    rw [e] at e'; cases e'
  · simp only [List.length_nil] at e'
    rw [e] at e'
    cases e'
    exact h1
theorem sam_eqZ : ∀ (t u : T), samB t u = true → t = u := by
  intro t
  induction t using T.ind with
  | step k h xs ih =>
    rintro ⟨k', h', ys⟩ e
    rw [samB] at e
    simp only [Bool.and_eq_true, beq_iff_eq] at e
    obtain ⟨⟨⟨rfl, rfl⟩, hl⟩, hs⟩ := e
    have key : ∀ (xs ys : List T), (∀ x ∈ xs, ∀ u, samB x u = true → x = u) → xs.length = ys.length → samL xs ys = true → xs = ys := by
      intro xs
      induction xs with
      | nil => intro ys _ hl _; cases ys with | nil => rfl | cons y ys => simp at hl
      | cons x xs ih2 =>
        intro ys hx hl hs
        cases ys with
        | nil => simp at hl
        | cons y ys =>
          rw [samL, Bool.and_eq_true] at hs
          rw [hx x (by simp) y hs.1, ih2 ys (fun z hz => hx z (by simp [hz])) (by simpa using hl) hs.2]
    rw [key xs ys ih hl hs]
/-- the head of a term: its type -/
theorem hd_wf {sg cx : List T} (hsg : SgX sg) (hcx : WfX sg cx) {k h : Int} {t : T} (h0 : 0 ≤ h) (hk : k = 4 ∨ k = 5) (hd : hdV ⟨sg, []⟩ k h cx = .ok t) :
    nodB t = true ∧ Wf (cS sg) true (gS cx) t ∧ ∀ {xs : List T}, StS (cS sg) (gS cx) xs (er t) → StT (cS sg) (gS cx) (.node k h xs) .o := by
  unfold hdV at hd
  by_cases hk4 : k = 4
  · rw [if_pos hk4] at hd
    subst hk4
    by_cases hl : h < cx.length
    · rw [if_pos hl] at hd
      cases hd
      obtain ⟨e, he⟩ : ∃ e, cx[cx.length - 1 - h.toNat]? = some e := ⟨_, List.getElem?_eq_getElem (by omega)⟩
      rw [List.getD_eq_getElem?_getD, he, Option.getD_some]
      have hw := hcx.up he
      rw [show ((cx.length - (cx.length - 1 - h.toNat) : Nat) : Int) = h + 1 by omega] at hw
      refine ⟨nodB_up (by omega) _ _ (hcx _ _ he).1, hw, fun hs => .var h0 ?_ hs⟩
      rw [er_up]
      have := gS_at he
      rwa [show cx.length - 1 - (cx.length - 1 - h.toNat) = h.toNat by omega] at this
    · rw [if_neg hl] at hd; cases hd
  · rw [if_neg hk4] at hd
    have hk5 : k = 5 := by omega
    subst hk5
    by_cases hl : h < sg.length
    · rw [if_pos hl] at hd
      obtain ⟨e, he⟩ : ∃ e, sg[h.toNat]? = some e := ⟨_, List.getElem?_eq_getElem (by omega)⟩
      rw [List.getD_eq_getElem?_getD, he, Option.getD_some] at hd
      by_cases hki : kiB e = true
      · rw [if_pos hki] at hd; cases hd
      · rw [if_neg hki] at hd
        have hkf : kiB e = false := by simpa using hki
        obtain ⟨h1, _, h2⟩ := hsg e (List.mem_of_getElem? he)
        injection hd with hd
        rw [← hd]
        exact ⟨h1, (h2 hkf).more (fun _ _ _ h => h) (fun i s hi => by simp at hi), fun hs => .con (.inl rfl) (cS_of h0 he (.inr ⟨rfl, hkf⟩)) hs⟩
    · rw [if_neg hl] at hd; cases hd
theorem sp_wf {sg cx : List T} {b : Bool} : ∀ (xs : List T) (t t' : T), (∀ x ∈ xs, nodB x = true ∧ ∀ a, nodB a = true → Wf (cS sg) true (gS cx) a → tmV ⟨sg, []⟩ x cx a = 0 → StT (cS sg) (gS cx) x (er a)) → nodB t = true → Wf (cS sg) b (gS cx) t →
    spV ⟨sg, []⟩ xs cx t = .ok t' → kdQ t' ≠ 1 → StS (cS sg) (gS cx) xs (er t) ∧ nodB t' = true ∧ Wf (cS sg) b (gS cx) t'
  | [], t, t', _, hn, hw, h, hk => by
    rw [spV] at h
    cases h
    rw [er_end hw hk]
    exact ⟨.nil, hn, hw⟩
  | x :: xs, t, t', ih, hn, hw, h, hk => by
    rw [spV] at h
    by_cases h1 : kdQ t = 1
    · rw [if_pos h1] at h
      obtain ⟨p, q, rfl, np, nq, wp, wq⟩ := wf_pi hw hn h1
      obtain ⟨nx, hx⟩ := ih x (by simp)
      have e0 : ag0 (.node 1 0 [p, q]) = p := rfl
      have e1 : ag1 (.node 1 0 [p, q]) = q := rfl
      rw [e0, e1] at h
      by_cases h2 : tmV ⟨sg, []⟩ x cx p = 0
      · rw [if_pos h2] at h
        by_cases h3 : apE q [x] 0 = 0
        · rw [if_pos h3] at h
          have sx := hx p np wp h2
          obtain ⟨w1, e2⟩ := ap_wf h3 nx nq sx wq
          obtain ⟨r1, r2, r3⟩ := sp_wf xs _ t' (fun y hy => ih y (by simp [hy])) (apT_ok h3 nx nq).2.2.1 w1 h hk
          rw [e2] at r1
          rw [er_pi]
          exact ⟨.cons sx r1, r2, r3⟩
        · rw [if_neg h3] at h; cases h
      · rw [if_neg h2] at h; cases h
    · rw [if_neg h1] at h; cases h
/-- what is checked has its simple type -/
theorem tm_St {sg : List T} (hsg : SgX sg) (m : T) : ∀ (cx : List T) (a : T), nodB m = true → nodB a = true → WfX sg cx → Wf (cS sg) true (gS cx) a → tmV ⟨sg, []⟩ m cx a = 0 → StT (cS sg) (gS cx) m (er a) := by
  induction m using T.ind with
  | step k h xs ih =>
    intro cx a hn ha hcx hw ht
    by_cases hk : k = 3
    · subst hk
      obtain ⟨rfl, x, rfl, hx⟩ := lamV hn
      rw [tm_lam] at ht
      by_cases hq : kdQ a = 1
      · rw [if_pos hq] at ht
        obtain ⟨p, q, rfl, np, nq, wp, wq⟩ := wf_pi hw ha hq
        have e0 : ag0 (.node 1 0 [p, q]) = p := rfl
        have e1 : ag1 (.node 1 0 [p, q]) = q := rfl
        rw [e0, e1] at ht
        have g := ih x (by simp) _ _ hx nq (hcx.snoc np wp) (by rw [gS_snoc]; exact wq) ht
        rw [gS_snoc] at g
        rw [er_pi]
        exact .lam g
      · rw [if_neg hq] at ht; cases ht
    · obtain ⟨hq, t, hc, hs⟩ := tm_neu_ok hk ht
      have hao : er a = .o := by
        obtain ⟨ka, ga, ya⟩ := a
        rw [kdQ] at hq
        exact er_no (by omega)
      rw [hao]
      obtain rfl := sam_eqZ t a hs
      rw [cmV] at hc
      by_cases hk45 : k = 4 ∨ k = 5
      · rw [if_pos hk45] at hc
        cases hh : hdV ⟨sg, []⟩ k h cx with
        | error e => rw [hh] at hc; cases hc
        | ok t0 =>
          rw [hh] at hc
          obtain ⟨n0, w0, fin⟩ := hd_wf hsg hcx (headV hn) hk45 hh
          exact fin (sp_wf xs t0 t (fun x hx => ⟨(nodV hn).2 x hx, fun b nb wb hb => ih x hx cx b ((nodV hn).2 x hx) nb hcx wb hb⟩) n0 w0 hc (by omega)).1
      · rw [if_neg hk45] at hc
        by_cases hk6 : k = 6
        · rw [if_pos hk6] at hc
          rw [if_neg (by simp; exact headV hn)] at hc
          cases hc
        · rw [if_neg hk6] at hc; cases hc
theorem ty_Wf {sg : List T} (hsg : SgX sg) (a : T) : ∀ (cx : List T), nodB a = true → WfX sg cx → tyV ⟨sg, []⟩ a cx = 0 → Wf (cS sg) true (gS cx) a := by
  induction a using T.ind with
  | step k h xs ih =>
    intro cx hn hcx ht
    by_cases h1 : k = 1
    · subst h1
      obtain ⟨rfl, x, y, rfl, hx, hy⟩ := piV hn
      rw [ty_pi] at ht
      by_cases h2 : tyV ⟨sg, []⟩ x cx = 0
      · rw [if_pos h2] at ht
        have wx := ih x (by simp) cx hx hcx h2
        have wy := ih y (by simp) _ hy (hcx.snoc hx wx) ht
        rw [gS_snoc] at wy
        exact .pi wx wy
      · rw [if_neg h2] at ht; exact absurd ht h2
    · by_cases h2 : k = 2
      · subst h2
        rw [ty_fam, faV] at ht
        by_cases hl : h < sg.length
        · rw [if_pos hl] at ht
          have h0 := headV hn
          obtain ⟨e, he⟩ : ∃ e, sg[h.toNat]? = some e := ⟨_, List.getElem?_eq_getElem (by omega)⟩
          rw [List.getD_eq_getElem?_getD, he, Option.getD_some] at ht
          by_cases hki : kiB e = true
          · rw [if_pos hki] at ht
            cases hsp : spV ⟨sg, []⟩ xs cx e with
            | error r => rw [hsp] at ht; exact absurd (show r = 0 from ht) (sp_err _ _ _ _ _ hsp)
            | ok t =>
              rw [hsp] at ht
              have hkt : kdQ t ≠ 1 := fun e1 => by
                unfold knV at ht
                simp only [e1] at ht
                revert ht
                decide
              obtain ⟨n1, w1, _⟩ := hsg e (List.mem_of_getElem? he)
              have := sp_wf (sg := sg) (cx := cx) xs e t (fun x hx => ⟨(nodV hn).2 x hx, fun b nb wb hb => tm_St hsg x cx b ((nodV hn).2 x hx) nb hcx wb hb⟩) n1 ((w1 hki).more (fun _ _ _ h => h) (fun i s hi => by simp at hi)) hsp hkt
              exact .fam (cS_of h0 he (.inl ⟨rfl, hki⟩)) this.1
          · rw [if_neg hki] at ht; cases ht
        · rw [if_neg hl] at ht; cases ht
      · rw [ty_no _ h1 h2] at ht; cases ht
theorem ki_Wf {sg : List T} (hsg : SgX sg) (a : T) : ∀ (cx : List T), nodB a = true → WfX sg cx → kiV ⟨sg, []⟩ a cx = 0 → Wf (cS sg) false (gS cx) a := by
  induction a using T.ind with
  | step k h xs ih =>
    intro cx hn hcx ht
    by_cases h1 : k = 1
    · subst h1
      obtain ⟨rfl, x, y, rfl, hx, hy⟩ := piV hn
      rw [ki_pi] at ht
      by_cases h2 : tyV ⟨sg, []⟩ x cx = 0
      · rw [if_pos h2] at ht
        have wx := ty_Wf hsg x cx hx hcx h2
        have wy := ih y (by simp) _ hy (hcx.snoc hx wx) ht
        rw [gS_snoc] at wy
        exact .pi wx wy
      · rw [if_neg h2] at ht; exact absurd ht h2
    · by_cases h2 : k = 0
      · subst h2
        have hx : xs = [] := by
          rcases okN_cases (nodV hn).1 with ⟨e, e2, he⟩ | ⟨e, e2, he⟩ | ⟨e, e2, he⟩ | ⟨e, he⟩ | ⟨e, he⟩ | ⟨e, he⟩ | ⟨e, he⟩ <;> first | exact List.length_eq_zero_iff.1 (by omega) | omega
        subst hx
        exact .sort
      · rw [ki_no _ h2 h1] at ht; cases ht
/-- kinds come to a Sort, types to a family -/
theorem wf_ki {b : Bool} {C : Int → Int → Option S0} {G : List S0} {t : T} (h : Wf C b G t) : kiB t = !b := by
  induction h with
  | sort => rfl
  | @pi b G h x y _ _ _ ih =>
    rw [← ih]
    unfold kiB
    rw [spR_pi]
  | fam _ _ => simp [kiB, spRq, kdQ]
/-- a signature that is in order -/
theorem sg_ok : ∀ (l dn : List T), SgX dn → gdS dn l = true → SgX (dn ++ l)
  | [], dn, h, _ => by rw [List.append_nil]; exact h
  | x :: l, dn, h, hg => by
    rw [gdS, Bool.and_eq_true, Bool.or_eq_true, decide_eq_true_eq, decide_eq_true_eq] at hg
    have hW : ∃ b, nodB x = true ∧ Wf (cS dn) b [] x := by
      rcases hg.1 with e | e
      · obtain ⟨h1, h2⟩ := ckTy_okZ e
        have hn := ((myB_iff _).1 (((mayV_iff _ _ _).1 h1).2.2.1 x (by simp))).1
        exact ⟨true, hn, ty_Wf h x [] hn (fun i y hy => by simp at hy) h2⟩
      · obtain ⟨h1, h2⟩ := ckKi_okZ e
        have hn := ((myB_iff _).1 (((mayV_iff _ _ _).1 h1).2.2.1 x (by simp))).1
        exact ⟨false, hn, ki_Wf h x [] hn (fun i y hy => by simp at hy) h2⟩
    obtain ⟨b, hn, hw⟩ := hW
    have key : SgX (dn ++ [x]) := fun t ht => by
      have up : ∀ {b : Bool} {t : T}, Wf (cS dn) b [] t → Wf (cS (dn ++ [x])) b [] t := fun h => h.more cS_app (fun _ _ h => h)
      rcases List.mem_append.1 ht with ht | ht
      · exact ⟨(h t ht).1, fun e => up ((h t ht).2.1 e), fun e => up ((h t ht).2.2 e)⟩
      · obtain rfl := List.mem_singleton.1 ht
        have hk := wf_ki hw
        refine ⟨hn, fun e => ?_, fun e => ?_⟩
        · rw [e] at hk
          cases b with
          | true => cases hk
          | false => exact up hw
        · rw [e] at hk
          cases b with
          | true => exact up hw
          | false => cases hk
    have := sg_ok l (dn ++ [x]) key hg.2
    rwa [List.append_assoc] at this
end Go.Proofs.Ytloeainlpcnhnaa
/-
  Contract of check.Term where there are no metas: terms of any Heads. No statement is proved here.
-/
namespace Go.Proofs.Ytloeainlpcnhnaa
open Go.ChangeShapes Go.WideShapes Go.ChangeAt Go.RowKit
set_option linter.unusedVariables false
end Go.Proofs.Ytloeainlpcnhnaa
/-
  With one entry more behind, and all up by one, a term has its type still. No statement is proved here.
-/
namespace Go.Proofs.Ytloeainlpcnhnaa
open Go.RowKit
set_option linter.unusedVariables false
end Go.Proofs.Ytloeainlpcnhnaa
/-
  With one entry more behind, and all up by one, a term has its type still: what is told of types. No statement is proved here.
-/
namespace Go.Proofs.Ytloeainlpcnhnaa
open Go.RowKit
set_option linter.unusedVariables false
theorem pi_of_kd {t : T} (hn : nodB t = true) (hk : kdQ t = 1) : ∃ p q, t = .node 1 0 [p, q] ∧ nodB p = true ∧ nodB q = true := by
  obtain ⟨k, h, xs⟩ := t
  rw [kdQ] at hk
  subst hk
  obtain ⟨rfl, p, q, rfl, h1, h2⟩ := piV hn
  exact ⟨p, q, rfl, h1, h2⟩
end Go.Proofs.Ytloeainlpcnhnaa
/-
  The walk of the law CheckFront.
-/
namespace Go.Proofs.Ytloeainlpcnhnaa
open Go.ChangeShapes Go.WideShapes Go.ChangeAt Go.RowKit
set_option linter.unusedVariables false
end Go.Proofs.Ytloeainlpcnhnaa
/-
  Types up to conversion and simple types together tell of a term that nothing reduces in that it is checked, but for what is too great; so a term put for a variable keeps types. No statement is proved here.
-/
namespace Go.Proofs.Ytloeainlpcnhnaa
open Go.RowKit
set_option linter.unusedVariables false
/-! ### Closed terms -/
def clL : Nat → Cr.Lm → Prop
  | n, .v i => i < n
  | _, .c _ _ => True
  | n, .a f x => clL n f ∧ clL n x
  | n, .l b => clL (n + 1) b
theorem clL_sub {t : Cr.Lm} : ∀ {n : Nat} {s : Nat → Cr.Lm}, clL n t → (∀ i, i < n → s i = .v i) → Cr.sub s t = t := by
  induction t with
  | v i => intro n s h hs; exact hs i h
  | c k h => intro n s _ _; rfl
  | a f x ihf ihx => intro n s h hs; rw [Cr.sub, ihf h.1 hs, ihx h.2 hs]
  | l b ih =>
    intro n s h hs
    rw [Cr.sub, ih (n := n + 1) h fun i hi => ?_]
    cases i with
    | zero => rfl
    | succ i => rw [Cr.ups, hs i (by omega)]; rfl
theorem clL_apps : ∀ {xs : List Cr.Lm} {f : Cr.Lm} {n : Nat}, clL n f → (∀ x ∈ xs, clL n x) → clL n (Cr.apps f xs)
  | [], _, _, h, _ => h
  | x :: xs, f, n, h, hx => clL_apps (xs := xs) (f := .a f x) ⟨h, hx x (by simp)⟩ fun y hy => hx y (by simp [hy])
/-- constants' types -/
def kS (sg : List T) (k h : Int) (A : Cr.Lm) : Prop := k = 5 ∧ 0 ≤ h ∧ ∃ t, sg[h.toNat]? = some t ∧ kiB t = false ∧ A = Cr.tr t
def gT (cx : List T) : List Cr.Lm := (cx.map Cr.tr).reverse
theorem gT_snoc (cx : List T) (a : T) : gT (cx ++ [a]) = Cr.tr a :: gT cx := by simp [gT]
theorem gT_at {cx : List T} {i : Nat} {x : T} (hx : cx[i]? = some x) : (gT cx)[cx.length - 1 - i]? = some (Cr.tr x) := rev_at Cr.tr hx
theorem tr_pi (p q : T) : Cr.tr (.node 1 0 [p, q]) = Cr.pi (Cr.tr p) (Cr.tr q) := by
  simp [Cr.tr, Cr.trL, bdn, Cr.wrap1, Cr.apps, Cr.at0, Cr.pi]
theorem up_ren {e : T} {h : Int} (h0 : 0 ≤ h) (hn : nodB e = true) : Cr.tr (upT (h + 1) e 0) = Cr.ren (fun j => j + (h.toNat + 1)) (Cr.tr e) := by
  have := Cr.tr_up (h.toNat + 1) e 0 hn
  rw [show ((h.toNat + 1 : Nat) : Int) = h + 1 by omega] at this
  rw [show ((0 : Nat) : Int) = 0 from rfl] at this
  rw [this]
  exact Cr.ren_ext (fun j => by simp [Cr.shr]) _
/-! ### What has both is checked -/
theorem my_arg {k h : Int} {xs : List T} (b : myB (.node k h xs) = true) {x : T} (hx : x ∈ xs) : myB x = true := by
  obtain ⟨h1, h2, h3⟩ := (myB_iff _).1 b
  rw [nd] at h2
  rw [dp] at h3
  have := nd_mem hx
  have := dp_memV hx
  exact (myB_iff _).2 ⟨(nodV h1).2 x hx, by omega, by omega⟩
theorem sb_one {x : T} (hx : myB x = true) : sbB [x] 0 = true := sb_of (by simp) (by omega) (fun y hy => by rw [List.mem_singleton.1 hy]; exact hx)
theorem tr_same {t u : T} (ht : nodB t = true) (hu : nodB u = true) (h : Cr.Cv (Cr.tr t) (Cr.tr u)) : t = u := by
  obtain ⟨x, h1, h2⟩ := h
  have e1 := h1.nf (Cr.nf_tr t ht)
  have e2 := h2.nf (Cr.nf_tr u hu)
  exact Cr.tr_inj t u ht hu (e1.symm.trans e2)
/-- OK, or too great -/
def Ok4 (e : Int) : Prop := e = 0 ∨ e = 4
end Go.Proofs.Ytloeainlpcnhnaa
