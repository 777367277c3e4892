/-
  Lambda terms with constants, reduced in parallel: two ways meet again (Church and Rosser, by Takahashi's complete development). No statement is proved here.
-/
import Derived.Test.YtpigmefjcklpkaaPb
namespace Go.Proofs.Ytpigmefjcklpkaa.Cr
set_option linter.unusedVariables false

inductive Lm where
  | v (i : Nat) : Lm
  | c (k h : Int) : Lm
  | a (f x : Lm) : Lm
  | l (b : Lm) : Lm

def upr (r : Nat → Nat) : Nat → Nat
  | 0 => 0
  | i + 1 => r i + 1
def ren : (Nat → Nat) → Lm → Lm
  | r, .v i => .v (r i)
  | _, .c k h => .c k h
  | r, .a f x => .a (ren r f) (ren r x)
  | r, .l b => .l (ren (upr r) b)
def ups (s : Nat → Lm) : Nat → Lm
  | 0 => .v 0
  | i + 1 => ren (· + 1) (s i)
def sub : (Nat → Lm) → Lm → Lm
  | s, .v i => s i
  | _, .c k h => .c k h
  | s, .a f x => .a (sub s f) (sub s x)
  | s, .l b => .l (sub (ups s) b)
def one (x : Lm) : Nat → Lm
  | 0 => x
  | i + 1 => .v i

theorem ren_ext {r r' : Nat → Nat} (h : ∀ i, r i = r' i) (t : Lm) : ren r t = ren r' t := by
  induction t generalizing r r' with
  | v i => simp only [ren, h]
  | c k h => rfl
  | a f x ihf ihx => simp only [ren, ihf h, ihx h]
  | l b ih => simp only [ren]; rw [ih (r' := upr r')]; intro i; cases i <;> simp [upr, h]
theorem sub_ext {s s' : Nat → Lm} (h : ∀ i, s i = s' i) (t : Lm) : sub s t = sub s' t := by
  induction t generalizing s s' with
  | v i => exact h i
  | c k h => rfl
  | a f x ihf ihx => simp only [sub, ihf h, ihx h]
  | l b ih => simp only [sub]; rw [ih (s' := ups s')]; intro i; cases i <;> simp [ups, h]
theorem ren_ren (r r' : Nat → Nat) (t : Lm) : ren r' (ren r t) = ren (fun i => r' (r i)) t := by
  induction t generalizing r r' with
  | v i => rfl
  | c k h => rfl
  | a f x ihf ihx => simp only [ren, ihf, ihx]
  | l b ih => simp only [ren, ih]; congr 1; apply ren_ext; intro i; cases i <;> rfl
theorem sub_ren (r : Nat → Nat) (s : Nat → Lm) (t : Lm) : sub s (ren r t) = sub (fun i => s (r i)) t := by
  induction t generalizing r s with
  | v i => rfl
  | c k h => rfl
  | a f x ihf ihx => simp only [ren, sub, ihf, ihx]
  | l b ih => simp only [ren, sub, ih]; congr 1; apply sub_ext; intro i; cases i <;> rfl
theorem ren_sub (s : Nat → Lm) (r : Nat → Nat) (t : Lm) : ren r (sub s t) = sub (fun i => ren r (s i)) t := by
  induction t generalizing r s with
  | v i => rfl
  | c k h => rfl
  | a f x ihf ihx => simp only [ren, sub, ihf, ihx]
  | l b ih =>
    simp only [ren, sub, ih]; congr 1; apply sub_ext; intro i
    cases i with
    | zero => rfl
    | succ i => simp only [ups, ren_ren]; apply ren_ext; intro j; rfl
theorem sub_sub (s u : Nat → Lm) (t : Lm) : sub u (sub s t) = sub (fun i => sub u (s i)) t := by
  induction t generalizing s u with
  | v i => rfl
  | c k h => rfl
  | a f x ihf ihx => simp only [sub, ihf, ihx]
  | l b ih =>
    simp only [sub, ih]; congr 1; apply sub_ext; intro i
    cases i with
    | zero => rfl
    | succ i => simp only [ups, sub_ren, ren_sub]
theorem sub_v (t : Lm) : sub .v t = t := by
  induction t with
  | v i => rfl
  | c k h => rfl
  | a f x ihf ihx => simp only [sub, ihf, ihx]
  | l b ih => simp only [sub]; congr 1; rw [sub_ext (s' := .v)]; exact ih; intro i; cases i <;> rfl
theorem ren_eq_sub (r : Nat → Nat) (t : Lm) : ren r t = sub (fun i => .v (r i)) t := by
  have := ren_sub .v r t
  rw [sub_v] at this
  exact this

/-- what is put for 0, behind a substitution -/
theorem sub_one (s : Nat → Lm) (x b : Lm) : sub s (sub (one x) b) = sub (one (sub s x)) (sub (ups s) b) := by
  rw [sub_sub, sub_sub]
  apply sub_ext
  intro i
  cases i with
  | zero => rfl
  | succ i => simp only [one, ups, sub, sub_ren]; rw [sub_v]

inductive Par : Lm → Lm → Prop where
  | v (i : Nat) : Par (.v i) (.v i)
  | c (k h : Int) : Par (.c k h) (.c k h)
  | a {f f' x x' : Lm} : Par f f' → Par x x' → Par (.a f x) (.a f' x')
  | l {b b' : Lm} : Par b b' → Par (.l b) (.l b')
  | beta {b b' x x' : Lm} : Par b b' → Par x x' → Par (.a (.l b) x) (sub (one x') b')
theorem Par.refl : ∀ t : Lm, Par t t
  | .v i => .v i
  | .c k h => .c k h
  | .a f x => .a (Par.refl f) (Par.refl x)
  | .l b => .l (Par.refl b)
theorem Par.ren {t t' : Lm} (h : Par t t') : ∀ r, Par (ren r t) (ren r t') := by
  induction h with
  | v i => intro r; exact .v _
  | c k h => intro r; exact .c _ _
  | a _ _ ihf ihx => intro r; exact .a (ihf r) (ihx r)
  | l _ ih => intro r; exact .l (ih _)
  | @beta b b' x x' _ _ ihb ihx =>
    intro r
    have e : Cr.ren r (sub (one x') b') = sub (one (Cr.ren r x')) (Cr.ren (upr r) b') := by
      rw [ren_sub, sub_ren]; apply sub_ext; intro i; cases i <;> rfl
    rw [e]
    exact .beta (ihb _) (ihx r)
theorem Par.ups {s s' : Nat → Lm} (h : ∀ i, Par (s i) (s' i)) : ∀ i, Par (ups s i) (ups s' i)
  | 0 => .v 0
  | i + 1 => (h i).ren _
theorem Par.sub {t t' : Lm} (h : Par t t') : ∀ {s s' : Nat → Lm}, (∀ i, Par (s i) (s' i)) → Par (sub s t) (sub s' t') := by
  induction h with
  | v i => intro s s' hs; exact hs i
  | c k h => intro s s' hs; exact .c _ _
  | a _ _ ihf ihx => intro s s' hs; exact .a (ihf hs) (ihx hs)
  | l _ ih => intro s s' hs; exact .l (ih (Par.ups hs))
  | @beta b b' x x' _ _ ihb ihx =>
    intro s s' hs
    rw [sub_one]
    exact .beta (ihb (Par.ups hs)) (ihx hs)
theorem Par.one {x x' : Lm} (h : Par x x') : ∀ i, Par (one x i) (one x' i)
  | 0 => h
  | i + 1 => .v i
/-- all that can be reduced at once -/
def dev : Lm → Lm
  | .v i => .v i
  | .c k h => .c k h
  | .a (.l b) x => sub (one (dev x)) (dev b)
  | .a (.v i) x => .a (.v i) (dev x)
  | .a (.c k h) x => .a (.c k h) (dev x)
  | .a (.a f y) x => .a (dev (.a f y)) (dev x)
  | .l b => .l (dev b)
theorem Par.dev {t t' : Lm} (h : Par t t') : Par t' (dev t) := by
  induction h with
  | v i => exact .v i
  | c k h => exact .c k h
  | @a f f' x x' hf hx ihf ihx =>
    cases f with
    | v i => cases hf; exact .a (.v i) ihx
    | c k h => cases hf; exact .a (.c k h) ihx
    | a g y => exact .a ihf ihx
    | l b =>
      cases hf with
      | l hb => 
        simp only [Cr.dev] at ihf ⊢
        cases ihf with
        | l h => exact .beta h ihx
  | l _ ih => exact .l ih
  | beta _ _ ihb ihx => exact ihb.sub (Par.one ihx)
inductive Ps : Lm → Lm → Prop where
  | refl (t : Lm) : Ps t t
  | step {t u x : Lm} : Par t u → Ps u x → Ps t x
theorem Ps.trans {t u x : Lm} (h : Ps t u) (k : Ps u x) : Ps t x := by
  induction h with
  | refl t => exact k
  | step p _ ih => exact .step p (ih k)
theorem Ps.of {t u : Lm} (h : Par t u) : Ps t u := .step h (.refl _)
theorem Ps.strip {t u x : Lm} (h : Ps t u) (p : Par t x) : ∃ y, Par u y ∧ Ps x y := by
  induction h generalizing x with
  | refl t => exact ⟨x, p, .refl _⟩
  | @step t t1 u q _ ih =>
    obtain ⟨y, h1, h2⟩ := ih q.dev
    exact ⟨y, h1, .step p.dev h2⟩
theorem Ps.conf {t u x : Lm} (h : Ps t u) (k : Ps t x) : ∃ y, Ps u y ∧ Ps x y := by
  induction k generalizing u with
  | refl t => exact ⟨u, .refl _, h⟩
  | @step t t1 x p _ ih =>
    obtain ⟨y, h1, h2⟩ := h.strip p
    obtain ⟨z, h3, h4⟩ := ih h2
    exact ⟨z, .step h1 h3, h4⟩
def lamL : Lm → Bool
  | .l _ => true
  | _ => false
def nf : Lm → Bool
  | .v _ => true
  | .c _ _ => true
  | .a f x => !lamL f && nf f && nf x
  | .l b => nf b
theorem Par.nf {t t' : Lm} (h : Par t t') : nf t = true → t' = t := by
  induction h with
  | v i => intro _; rfl
  | c k h => intro _; rfl
  | a _ _ ihf ihx => 
    intro e
    simp only [Cr.nf, Bool.and_eq_true] at e
    rw [ihf e.1.2, ihx e.2]
  | l _ ih => intro e; rw [ih e]
  | beta _ _ _ _ => intro e; simp [Cr.nf, lamL] at e
theorem Ps.nf {t u : Lm} (h : Ps t u) : nf t = true → u = t := by
  induction h with
  | refl t => intro _; rfl
  | step p _ ih => intro e; have := p.nf e; subst this; exact ih e
theorem Ps.same {t u x : Lm} (h : Ps t u) (k : Ps t x) (hu : Cr.nf u = true) (hx : Cr.nf x = true) : u = x := by
  obtain ⟨y, h1, h2⟩ := h.conf k
  rw [← h1.nf hu, h2.nf hx]
theorem Ps.a {f f' x x' : Lm} (h : Ps f f') (k : Ps x x') : Ps (.a f x) (.a f' x') := by
  induction h with
  | refl f =>
    induction k with
    | refl x => exact .refl _
    | step p _ ih => exact .step (.a (.refl _) p) ih
  | step p _ ih => exact .step (.a p (.refl _)) ih
theorem Ps.l {b b' : Lm} (h : Ps b b') : Ps (.l b) (.l b') := by
  induction h with
  | refl f => exact .refl _
  | step p _ ih => exact .step (.l p) ih
theorem Ps.ren {t t' : Lm} (h : Ps t t') (r : Nat → Nat) : Ps (ren r t) (ren r t') := by
  induction h with
  | refl f => exact .refl _
  | step p _ ih => exact .step (p.ren r) ih
theorem Ps.sub {t t' : Lm} (h : Ps t t') (s : Nat → Lm) : Ps (sub s t) (sub s t') := by
  induction h with
  | refl f => exact .refl _
  | step p _ ih => exact .step (p.sub fun i => .refl _) ih
theorem Ps.ups {s s' : Nat → Lm} (h : ∀ i, Ps (s i) (s' i)) : ∀ i, Ps (ups s i) (ups s' i)
  | 0 => .refl _
  | i + 1 => (h i).ren _
theorem Ps.subs (t : Lm) : ∀ {s s' : Nat → Lm}, (∀ i, Ps (s i) (s' i)) → Ps (Cr.sub s t) (Cr.sub s' t) := by
  induction t with
  | v i => intro s s' h; exact h i
  | c k h => intro s s' h; exact .refl _
  | a f x ihf ihx => intro s s' h; exact .a (ihf h) (ihx h)
  | l b ih => intro s s' h; exact .l (ih (Ps.ups h))
end Go.Proofs.Ytpigmefjcklpkaa.Cr
