/-
  Texts of one proof, put together. No statement is proved here.
-/
import Derived.Test.YtpigmefjcklpkaaCn
import Derived.Test.YtpigmefjcklpkaaQa
import Derived.Test.YtpigmefjcklpkaaPd
import Derived.Test.YtpigmefjcklpkaaPkV
import Derived.Test.YtpigmefjcklpkaaPkZ1

/-
  Lambda terms with dependent types up to conversion: what has a type has it renamed, under substitutions, and reduced. No statement is proved here.
-/
namespace Go.Proofs.Ytpigmefjcklpkaa.Cr
open Go.RowKit
set_option linter.unusedVariables false

def Cv (t u : Lm) : Prop := ∃ x, Ps t x ∧ Ps u x
theorem Cv.refl (t : Lm) : Cv t t := ⟨t, .refl _, .refl _⟩
theorem Cv.symm {t u : Lm} (h : Cv t u) : Cv u t := by obtain ⟨x, h1, h2⟩ := h; exact ⟨x, h2, h1⟩
theorem Cv.trans {t u x : Lm} (h : Cv t u) (k : Cv u x) : Cv t x := by
  obtain ⟨y, h1, h2⟩ := h
  obtain ⟨z, h3, h4⟩ := k
  obtain ⟨q, h5, h6⟩ := h2.conf h3
  exact ⟨q, h1.trans h5, h4.trans h6⟩
theorem Cv.of {t u : Lm} (h : Ps t u) : Cv t u := ⟨u, h, .refl _⟩
theorem Cv.a {f f' x x' : Lm} (h : Cv f f') (k : Cv x x') : Cv (.a f x) (.a f' x') := by
  obtain ⟨y, h1, h2⟩ := h
  obtain ⟨z, h3, h4⟩ := k
  exact ⟨_, h1.a h3, h2.a h4⟩
theorem Cv.l {f f' : Lm} (h : Cv f f') : Cv (.l f) (.l f') := by
  obtain ⟨y, h1, h2⟩ := h
  exact ⟨_, h1.l, h2.l⟩
theorem Cv.ren {f f' : Lm} (h : Cv f f') (r : Nat → Nat) : Cv (ren r f) (ren r f') := by
  obtain ⟨y, h1, h2⟩ := h
  exact ⟨_, h1.ren r, h2.ren r⟩
theorem Cv.sub {f f' : Lm} (h : Cv f f') (s : Nat → Lm) : Cv (Cr.sub s f) (Cr.sub s f') := by
  obtain ⟨y, h1, h2⟩ := h
  exact ⟨_, h1.sub s, h2.sub s⟩
theorem Cv.one {x x' : Lm} (h : Cv x x') (t : Lm) : Cv (Cr.sub (Cr.one x) t) (Cr.sub (Cr.one x') t) := by
  obtain ⟨y, h1, h2⟩ := h
  refine ⟨Cr.sub (Cr.one y) t, Ps.subs t fun i => ?_, Ps.subs t fun i => ?_⟩
  · cases i with
    | zero => exact h1
    | succ i => exact .refl _
  · cases i with
    | zero => exact h2
    | succ i => exact .refl _
/-- what asks for A, and then is B -/
def pi (A B : Lm) : Lm := .a (.a (.c 1 0) A) (.l B)
theorem par_pi {A B C : Lm} (h : Par (pi A B) C) : ∃ A' B', C = pi A' B' ∧ Par A A' ∧ Par B B' := by
  unfold pi at h
  cases h with
  | a hf hx =>
    cases hf with
    | a h1 h2 =>
      cases h1
      cases hx with
      | l hb => exact ⟨_, _, rfl, h2, hb⟩
theorem ps_pi {t C : Lm} (h : Ps t C) : ∀ {A B : Lm}, t = pi A B → ∃ A' B', C = pi A' B' ∧ Ps A A' ∧ Ps B B' := by
  induction h with
  | refl t => intro A B e; exact ⟨A, B, e, .refl _, .refl _⟩
  | step p _ ih =>
    intro A B e
    subst e
    obtain ⟨A', B', e, h1, h2⟩ := par_pi p
    obtain ⟨A2, B2, e2, h3, h4⟩ := ih e
    exact ⟨A2, B2, e2, .step h1 h3, .step h2 h4⟩
theorem Cv.pi_inj {A B A' B' : Lm} (h : Cv (pi A B) (pi A' B')) : Cv A A' ∧ Cv B B' := by
  obtain ⟨C, h1, h2⟩ := h
  obtain ⟨A1, B1, rfl, a1, b1⟩ := ps_pi h1 rfl
  obtain ⟨A2, B2, e, a2, b2⟩ := ps_pi h2 rfl
  unfold pi at e
  injection e with e1 e2
  injection e1 with _ e3
  injection e2 with e4
  subst e3; subst e4
  exact ⟨⟨_, a1, a2⟩, ⟨_, b1, b2⟩⟩
theorem Cv.pi {A B A' B' : Lm} (h : Cv A A') (k : Cv B B') : Cv (Cr.pi A B) (Cr.pi A' B') := Cv.a (Cv.a (Cv.refl _) h) k.l
theorem ren_pi (r : Nat → Nat) (A B : Lm) : ren r (pi A B) = pi (ren r A) (ren (upr r) B) := rfl
theorem sub_pi (s : Nat → Lm) (A B : Lm) : sub s (pi A B) = pi (sub s A) (sub (ups s) B) := rfl
theorem ren_one (r : Nat → Nat) (x b : Lm) : ren r (sub (one x) b) = sub (one (ren r x)) (ren (upr r) b) := by
  rw [ren_sub, sub_ren]; apply sub_ext; intro i; cases i <;> rfl
theorem ups_ren (s : Nat → Lm) (t : Lm) : sub (ups s) (ren (· + 1) t) = ren (· + 1) (sub s t) := by
  rw [sub_ren, ren_sub]; rfl
/-- what nothing changes -/
def Clo (t : Lm) : Prop := ∀ s, sub s t = t
theorem Clo.ren {t : Lm} (h : Clo t) (r : Nat → Nat) : ren r t = t := by rw [ren_eq_sub]; exact h _

/-- constants have types of their own; types up to conversion; which types are in order is not asked -/
inductive Ty (K : Int → Int → Lm → Prop) : List Lm → Lm → Lm → Prop where
  | v {G : List Lm} {i : Nat} {A : Lm} : G[i]? = some A → Ty K G (.v i) (ren (fun j => j + (i + 1)) A)
  | c {G : List Lm} {k h : Int} {A : Lm} : K k h A → Ty K G (.c k h) A
  | a {G : List Lm} {f x A B : Lm} : Ty K G f (pi A B) → Ty K G x A → Ty K G (.a f x) (sub (one x) B)
  | l {G : List Lm} {b A B : Lm} : Ty K (A :: G) b B → Ty K G (.l b) (pi A B)
  | conv {G : List Lm} {t A A' : Lm} : Ty K G t A → Cv A A' → Ty K G t A'
def Rn (G G' : List Lm) (r : Nat → Nat) : Prop := ∀ i A, G[i]? = some A → ∃ A', G'[r i]? = some A' ∧ ren (fun j => j + (r i + 1)) A' = ren r (ren (fun j => j + (i + 1)) A)
theorem Rn.up {G G' : List Lm} {r : Nat → Nat} (h : Rn G G' r) (A : Lm) : Rn (A :: G) (ren r A :: G') (upr r) := fun i B hB => by
  cases i with
  | zero =>
    simp at hB
    subst hB
    exact ⟨_, rfl, by rw [ren_ren, ren_ren]; exact ren_ext (fun j => rfl) _⟩
  | succ i =>
    obtain ⟨A', h1, h2⟩ := h i B (by simpa using hB)
    refine ⟨A', by simpa [upr] using h1, ?_⟩
    have e := congrArg (ren (· + 1)) h2
    rw [ren_ren, ren_ren, ren_ren] at e
    rw [ren_ren]
    rw [show (fun j => j + (upr r (i + 1) + 1)) = (fun j => j + (r i + 1) + 1) from rfl, e]
    exact ren_ext (fun j => rfl) _
theorem Ty.ren {K : Int → Int → Lm → Prop} (hK : ∀ k h A, K k h A → Clo A) {G : List Lm} {t A : Lm} (h : Ty K G t A) : ∀ {G' : List Lm} {r : Nat → Nat}, Rn G G' r → Ty K G' (ren r t) (ren r A) := by
  induction h with
  | @v G i A hi =>
    intro G' r hr
    obtain ⟨A', h1, h2⟩ := hr i A hi
    rw [← h2]
    exact .v h1
  | c hk => intro G' r hr; rw [(hK _ _ _ hk).ren]; exact .c hk
  | a _ _ ihf ihx =>
    intro G' r hr
    rw [ren_one]
    exact .a (ihf hr) (ihx hr)
  | l _ ih => intro G' r hr; exact .l (ih (hr.up _))
  | conv _ hc ih => intro G' r hr; exact .conv (ih hr) (hc.ren r)
def Sb (K : Int → Int → Lm → Prop) (G G' : List Lm) (s : Nat → Lm) : Prop := ∀ i A, G[i]? = some A → Ty K G' (s i) (sub s (ren (fun j => j + (i + 1)) A))
theorem rn_one (G : List Lm) (A : Lm) : Rn G (A :: G) (· + 1) := fun i B hB => ⟨B, by simpa using hB, by rw [ren_ren]; exact ren_ext (fun j => rfl) _⟩
theorem Sb.up {K : Int → Int → Lm → Prop} (hK : ∀ k h A, K k h A → Clo A) {G G' : List Lm} {s : Nat → Lm} (h : Sb K G G' s) (A : Lm) : Sb K (A :: G) (sub s A :: G') (ups s) := fun i B hB => by
  cases i with
  | zero =>
    simp at hB
    subst hB
    have e : sub (ups s) (ren (fun j => j + (0 + 1)) A) = ren (fun j => j + (0 + 1)) (sub s A) := ups_ren s A
    rw [e]
    exact .v rfl
  | succ i =>
    have h1 := (h i B (by simpa using hB)).ren hK (rn_one G' (sub s A))
    have e : sub (ups s) (ren (fun j => j + (i + 1 + 1)) B) = ren (· + 1) (sub s (ren (fun j => j + (i + 1)) B)) := by
      rw [← ups_ren, ren_ren]
      congr 1
    rw [e]
    exact h1
theorem Ty.sub {K : Int → Int → Lm → Prop} (hK : ∀ k h A, K k h A → Clo A) {G : List Lm} {t A : Lm} (h : Ty K G t A) : ∀ {G' : List Lm} {s : Nat → Lm}, Sb K G G' s → Ty K G' (sub s t) (sub s A) := by
  induction h with
  | v hi => intro G' s hs; exact hs _ _ hi
  | c hk => intro G' s hs; rw [hK _ _ _ hk]; exact .c hk
  | a _ _ ihf ihx =>
    intro G' s hs
    rw [sub_one]
    exact .a (ihf hs) (ihx hs)
  | l _ ih => intro G' s hs; exact .l (ih (hs.up hK _))
  | conv _ hc ih => intro G' s hs; exact .conv (ih hs) (hc.sub s)
theorem sb_one {K : Int → Int → Lm → Prop} {G : List Lm} {x A : Lm} (h : Ty K G x A) : Sb K (A :: G) G (one x) := fun i B hB => by
  cases i with
  | zero =>
    simp at hB
    subst hB
    have e : sub (one x) (ren (fun j => j + (0 + 1)) A) = A := by rw [sub_ren]; exact sub_v A
    rw [e]
    exact h
  | succ i =>
    have e : sub (one x) (ren (fun j => j + (i + 1 + 1)) B) = ren (fun j => j + (i + 1)) B := by rw [sub_ren, ren_eq_sub]; rfl
    rw [e]
    exact .v (by simpa using hB)
/-- contexts up to conversion -/
def CvG : List Lm → List Lm → Prop
  | [], [] => True
  | A :: G, B :: G' => Cv A B ∧ CvG G G'
  | _, _ => False
theorem CvG.refl : ∀ G, CvG G G
  | [] => trivial
  | A :: G => ⟨Cv.refl A, CvG.refl G⟩
theorem CvG.at_ : ∀ {G G' : List Lm} {i : Nat} {A : Lm}, CvG G G' → G[i]? = some A → ∃ A', G'[i]? = some A' ∧ Cv A A'
  | A :: G, B :: G', 0, C, h, e => by simp at e; subst e; exact ⟨B, rfl, h.1⟩
  | A :: G, B :: G', i + 1, C, h, e => by
    obtain ⟨A', h1, h2⟩ := CvG.at_ (i := i) h.2 (by simpa using e)
    exact ⟨A', by simpa using h1, h2⟩
  | [], _, _, _, _, e => by simp at e
  | A :: G, [], _, _, h, _ => h.elim
theorem Ty.ctx {K : Int → Int → Lm → Prop} (hK : ∀ k h A, K k h A → Clo A) {G G' : List Lm} {t A : Lm} (h : Ty K G t A) (hc : CvG G G') : Ty K G' t A := by
  have := h.sub hK (G' := G') (s := .v) fun i B hB => by
    obtain ⟨B', h1, h2⟩ := hc.at_ hB
    rw [sub_v]
    exact .conv (.v h1) (h2.symm.ren _)
  rwa [sub_v, sub_v] at this

/-! ### How something came to its type -/
theorem Ty.gen_a {K : Int → Int → Lm → Prop} {G : List Lm} {t C : Lm} (h : Ty K G t C) : ∀ {f x : Lm}, t = .a f x → ∃ A B, Ty K G f (Cr.pi A B) ∧ Ty K G x A ∧ Cv C (Cr.sub (one x) B) := by
  induction h with
  | v _ => intro f x e; cases e
  | c _ => intro f x e; cases e
  | a hf hx _ _ => intro f x e; cases e; exact ⟨_, _, hf, hx, Cv.refl _⟩
  | l _ _ => intro f x e; cases e
  | conv _ hc ih =>
    intro f x e
    obtain ⟨A, B, h1, h2, h3⟩ := ih e
    exact ⟨A, B, h1, h2, hc.symm.trans h3⟩
theorem Ty.gen_l {K : Int → Int → Lm → Prop} {G : List Lm} {t C : Lm} (h : Ty K G t C) : ∀ {b : Lm}, t = .l b → ∃ A B, Ty K (A :: G) b B ∧ Cv C (Cr.pi A B) := by
  induction h with
  | v _ => intro b e; cases e
  | c _ => intro b e; cases e
  | a _ _ _ _ => intro b e; cases e
  | l hb _ => intro b e; cases e; exact ⟨_, _, hb, Cv.refl _⟩
  | conv _ hc ih =>
    intro b e
    obtain ⟨A, B, h1, h3⟩ := ih e
    exact ⟨A, B, h1, hc.symm.trans h3⟩
theorem Ty.gen_v {K : Int → Int → Lm → Prop} {G : List Lm} {t C : Lm} (h : Ty K G t C) : ∀ {i : Nat}, t = .v i → ∃ A, G[i]? = some A ∧ Cv C (Cr.ren (fun j => j + (i + 1)) A) := by
  induction h with
  | v hi => intro i e; cases e; exact ⟨_, hi, Cv.refl _⟩
  | c _ => intro b e; cases e
  | a _ _ _ _ => intro b e; cases e
  | l hb _ => intro b e; cases e
  | conv _ hc ih =>
    intro b e
    obtain ⟨A, h1, h3⟩ := ih e
    exact ⟨A, h1, hc.symm.trans h3⟩
theorem Ty.gen_c {K : Int → Int → Lm → Prop} {G : List Lm} {t C : Lm} (h : Ty K G t C) : ∀ {k g : Int}, t = .c k g → ∃ A, K k g A ∧ Cv C A := by
  induction h with
  | v hi => intro k g e; cases e
  | c hk => intro k g e; cases e; exact ⟨_, hk, Cv.refl _⟩
  | a _ _ _ _ => intro k g e; cases e
  | l hb _ => intro k g e; cases e
  | conv _ hc ih =>
    intro k g e
    obtain ⟨A, h1, h3⟩ := ih e
    exact ⟨A, h1, hc.symm.trans h3⟩
/-- what is reduced has the type -/
theorem Ty.par {K : Int → Int → Lm → Prop} (hK : ∀ k h A, K k h A → Clo A) {t t' : Lm} (p : Par t t') : ∀ {G : List Lm} {C : Lm}, Ty K G t C → Ty K G t' C := by
  induction p with
  | v i => intro G C h; exact h
  | c k h => intro G C h; exact h
  | @a f f' x x' _ hx ihf ihx =>
    intro G C h
    obtain ⟨A, B, h1, h2, h3⟩ := h.gen_a rfl
    exact .conv (.a (ihf h1) (ihx h2)) ((Cv.one (Cv.of (Ps.of hx)) B).symm.trans h3.symm)
  | l _ ih =>
    intro G C h
    obtain ⟨A, B, h1, h2⟩ := h.gen_l rfl
    exact .conv (.l (ih h1)) h2.symm
  | @beta b b' x x' _ hx ihb ihx =>
    intro G C h
    obtain ⟨A, B, h1, h2, h3⟩ := h.gen_a rfl
    obtain ⟨A1, B1, h4, h5⟩ := h1.gen_l rfl
    obtain ⟨h6, h7⟩ := h5.pi_inj
    have h8 := (ihb h4).sub hK (sb_one (.conv (ihx h2) h6))
    exact .conv h8 (((Cv.one (Cv.of (Ps.of hx)) B1).symm.trans (h7.symm.sub _)).trans h3.symm)
theorem Ty.ps {K : Int → Int → Lm → Prop} (hK : ∀ k h A, K k h A → Clo A) {t t' : Lm} (p : Ps t t') : ∀ {G : List Lm} {C : Lm}, Ty K G t C → Ty K G t' C := by
  induction p with
  | refl t => intro G C h; exact h
  | step p _ ih => intro G C h; exact ih (h.par hK p)
/-- a spine, up to conversion -/
def Spn (K : Int → Int → Lm → Prop) (G : List Lm) : Lm → List Lm → Lm → Prop
  | t, [], C => Cv t C
  | t, x :: xs, C => ∃ A B, Cv t (pi A B) ∧ Ty K G x A ∧ Spn K G (sub (one x) B) xs C
theorem Spn.cv {K : Int → Int → Lm → Prop} {G : List Lm} : ∀ {xs : List Lm} {t t' C : Lm}, Cv t' t → Spn K G t xs C → Spn K G t' xs C
  | [], _, _, _, h, k => h.trans k
  | x :: xs, _, _, _, h, k => by
    obtain ⟨A, B, h1, h2, h3⟩ := k
    exact ⟨A, B, h.trans h1, h2, h3⟩
theorem Spn.of {K : Int → Int → Lm → Prop} {G : List Lm} : ∀ {xs : List Lm} {f C : Lm}, Ty K G (apps f xs) C → ∃ t, Ty K G f t ∧ Spn K G t xs C
  | [], f, C, h => ⟨C, h, Cv.refl _⟩
  | x :: xs, f, C, h => by
    obtain ⟨t, h1, h2⟩ := Spn.of (xs := xs) (f := .a f x) h
    obtain ⟨A, B, h3, h4, h5⟩ := h1.gen_a rfl
    exact ⟨_, h3, A, B, Cv.refl _, h4, h2.cv h5.symm⟩
end Go.Proofs.Ytpigmefjcklpkaa.Cr

/-
  Simple types: what a term's arguments are, functions or not; what is put for variables keeps them, so that nothing but a function is applied. No statement is proved here.
-/
namespace Go.Proofs.Ytpigmefjcklpkaa
open Go.RowKit
set_option linter.unusedVariables false

/-- simple types -/
inductive S0 where
  | o : S0
  | r (a b : S0) : S0
mutual
def er : T → S0
  | .node k _ xs => if k = 1 then erL xs else .o
def erL : List T → S0
  | [] => .o
  | x :: xs => erM (er x) xs
def erM (s : S0) : List T → S0
  | [] => .o
  | y :: _ => .r s (er y)
end
theorem er_pi (h : Int) (a b : T) : er (.node 1 h [a, b]) = .r (er a) (er b) := by rw [er, if_pos rfl, erL, erM]
theorem er_no {k h : Int} {xs : List T} (hk : k ≠ 1) : er (.node k h xs) = .o := by rw [er, if_neg hk]

mutual
inductive StT (C : Int → Int → Option S0) : List S0 → T → S0 → Prop where
  | lam {G : List S0} {h : Int} {x : T} {a b : S0} : StT C (a :: G) x b → StT C G (.node 3 h [x]) (.r a b)
  | var {G : List S0} {h : Int} {xs : List T} {s : S0} : 0 ≤ h → G[h.toNat]? = some s → StS C G xs s → StT C G (.node 4 h xs) .o
  | con {G : List S0} {k h : Int} {xs : List T} {s : S0} : k = 5 ∨ k = 6 → C k h = some s → StS C G xs s → StT C G (.node k h xs) .o
inductive StS (C : Int → Int → Option S0) : List S0 → List T → S0 → Prop where
  | nil {G : List S0} : StS C G [] .o
  | cons {G : List S0} {x : T} {xs : List T} {a b : S0} : StT C G x a → StS C G xs b → StS C G (x :: xs) (.r a b)
end
/-- what is a type (true), or a kind (false), as far as simple types tell -/
inductive Wf (C : Int → Int → Option S0) : Bool → List S0 → T → Prop where
  | sort {G : List S0} {h : Int} : Wf C false G (.node 0 h [])
  | pi {b : Bool} {G : List S0} {h : Int} {x y : T} : Wf C true G x → Wf C b (er x :: G) y → Wf C b G (.node 1 h [x, y])
  | fam {G : List S0} {h : Int} {xs : List T} {s : S0} : C 2 h = some s → StS C G xs s → Wf C true G (.node 2 h xs)
theorem StS.map {C C' : Int → Int → Option S0} {G G' : List S0} {f : T → T} : ∀ {xs : List T} {s : S0}, (∀ x ∈ xs, ∀ a, StT C G x a → StT C' G' (f x) a) → StS C G xs s → StS C' G' (xs.map f) s
  | [], s, _, h => by cases h; exact .nil
  | x :: xs, s, hf, h => by
    cases h with
    | cons h1 h2 => exact .cons (hf x (List.mem_cons_self ..) _ h1) (StS.map (fun y hy => hf y (List.mem_cons_of_mem _ hy)) h2)
/-- more is known of -/
theorem StT.more {C C' : Int → Int → Option S0} (hC : ∀ k h s, C k h = some s → C' k h = some s) (t : T) : ∀ {G G' : List S0} {a : S0}, (∀ (i : Nat) (s : S0), G[i]? = some s → G'[i]? = some s) → StT C G t a → StT C' G' t a := by
  induction t using T.ind with
  | step k h xs ih =>
    intro G G' a hG ht
    have hsp : ∀ {s : S0}, StS C G xs s → StS C' G' xs s := fun hs => by
      have := hs.map (C' := C') (G' := G') (f := id) (fun x hx b hb => ih x hx hG hb)
      simpa using this
    cases ht with
    | lam hb =>
      refine .lam (ih _ (List.mem_cons_self ..) (fun i s hi => ?_) hb)
      cases i with
      | zero => exact hi
      | succ i => exact hG i s hi
    | var h0 hg hs => exact .var h0 (hG _ _ hg) (hsp hs)
    | con hk hc hs => exact .con hk (hC _ _ _ hc) (hsp hs)
theorem StS.more {C C' : Int → Int → Option S0} (hC : ∀ k h s, C k h = some s → C' k h = some s) {G G' : List S0} (hG : ∀ (i : Nat) (s : S0), G[i]? = some s → G'[i]? = some s) {xs : List T} {s : S0} (h : StS C G xs s) : StS C' G' xs s := by
  have := h.map (C' := C') (G' := G') (f := id) (fun x hx b hb => hb.more hC x hG)
  simpa using this
theorem Wf.more {C C' : Int → Int → Option S0} (hC : ∀ k h s, C k h = some s → C' k h = some s) {b : Bool} {G : List S0} {t : T} (h : Wf C b G t) : ∀ {G' : List S0}, (∀ (i : Nat) (s : S0), G[i]? = some s → G'[i]? = some s) → Wf C' b G' t := by
  induction h with
  | sort => intro G' _; exact .sort
  | pi _ _ ih1 ih2 =>
    intro G' hG
    refine .pi (ih1 hG) (ih2 fun i s hi => ?_)
    cases i with
    | zero => exact hi
    | succ i => exact hG i s hi
  | fam hc hs => intro G' hG; exact .fam (hC _ _ _ hc) (hs.more hC hG)

/-! ### Up -/
theorem up_lamS {b h : Int} {x : T} {c : Int} : upT b (.node 3 h [x]) c = .node 3 h [upT b x (c + 1)] := by
  simp [upT, upL, bd]
theorem up_piS {b h : Int} {x y : T} {c : Int} : upT b (.node 1 h [x, y]) c = .node 1 h [upT b x c, upT b y (c + 1)] := by
  simp [upT, upL, bd]
theorem up_flatS {b k h c : Int} {xs : List T} (hk : k ≠ 1 ∧ k ≠ 3) : upT b (.node k h xs) c = .node k (if k = 4 ∧ c ≤ h then h + b else h) (xs.map fun x => upT b x c) := by
  have key : ∀ (n : Nat) (ys : List T) (i : Nat), upL b k n ys i c = ys.map fun x => upT b x c := by
    intro n ys
    induction ys with
    | nil => intro i; rw [upL]; rfl
    | cons y ys ih => intro i; rw [upL, ih, bd_var hk, Int.add_zero]; rfl
  rw [upT, key]
theorem look_mid {D E G : List S0} {i : Nat} {s : S0} (h : (D ++ G)[i]? = some s) : (D ++ (E ++ G))[if D.length ≤ i then i + E.length else i]? = some s := by
  by_cases hi : D.length ≤ i
  · rw [if_pos hi, List.getElem?_append_right (by omega), List.getElem?_append_right (by omega)]
    rw [List.getElem?_append_right hi] at h
    rw [show i + E.length - D.length - E.length = i - D.length by omega]
    exact h
  · rw [if_neg hi, List.getElem?_append_left (by omega)]
    rwa [List.getElem?_append_left (by omega)] at h
theorem StT.up {C : Int → Int → Option S0} {E : List S0} (t : T) : ∀ {D G : List S0} {a : S0}, StT C (D ++ G) t a → StT C (D ++ (E ++ G)) (upT E.length t D.length) a := by
  induction t using T.ind with
  | step k h xs ih =>
    intro D G a ht
    have hsp : ∀ {s : S0}, StS C (D ++ G) xs s → StS C (D ++ (E ++ G)) (xs.map fun x => upT E.length x D.length) s := fun hs => hs.map fun x hx b hb => ih x hx hb
    cases ht with
    | @lam _ _ x a b hb =>
      rw [up_lamS]
      have := ih x (List.mem_cons_self ..) (D := a :: D) hb
      rw [List.length_cons, Int.natCast_add] at this
      exact .lam this
    | var h0 hg hs =>
      rw [up_flatS (by omega)]
      have hl := look_mid (E := E) hg
      refine .var (by split <;> omega) ?_ (hsp hs)
      by_cases hd : (D.length : Int) ≤ h
      · rw [if_pos ⟨rfl, hd⟩]
        rw [if_pos (by omega)] at hl
        rw [show (h + (E.length : Int)).toNat = h.toNat + E.length by omega]
        exact hl
      · rw [if_neg (fun e => hd e.2)]
        rwa [if_neg (by omega)] at hl
    | con hk hc hs =>
      rw [up_flatS (by omega), if_neg (by omega)]
      exact .con hk hc (hsp hs)
theorem StS.up {C : Int → Int → Option S0} {E D G : List S0} {xs : List T} {s : S0} (h : StS C (D ++ G) xs s) : StS C (D ++ (E ++ G)) (xs.map fun x => upT E.length x D.length) s := h.map fun x hx b hb => hb.up x
mutual
theorem er_up {b : Int} : ∀ (t : T) (c : Int), er (upT b t c) = er t
  | .node k h xs, c => by
    rw [upT, er, er]
    by_cases hk : k = 1
    · rw [if_pos hk, if_pos hk]; exact er_upL k xs.length xs 0 c
    · rw [if_neg hk, if_neg hk]
theorem er_upL {b : Int} (k : Int) (n : Nat) : ∀ (xs : List T) (i : Nat) (c : Int), erL (upL b k n xs i c) = erL xs
  | [], _, _ => by rw [upL]
  | x :: xs, i, c => by rw [upL, erL, erL, er_up x, er_upM k n (er x) xs]
theorem er_upM {b : Int} (k : Int) (n : Nat) (s : S0) : ∀ (xs : List T) (i : Nat) (c : Int), erM s (upL b k n xs i c) = erM s xs
  | [], _, _ => by rw [upL]
  | x :: xs, i, c => by rw [upL, erM, erM, er_up x]
end
theorem Wf.up {C : Int → Int → Option S0} {E : List S0} {b : Bool} {H : List S0} {t : T} (h : Wf C b H t) : ∀ {D G : List S0}, H = D ++ G → Wf C b (D ++ (E ++ G)) (upT E.length t D.length) := by
  induction h with
  | sort => intro D G e; rw [up_flatS (by omega), if_neg (by omega)]; exact .sort
  | @pi b H h x y _ _ ih1 ih2 =>
    intro D G e
    subst e
    rw [up_piS]
    have h2 := ih2 (D := er x :: D) (G := G) rfl
    rw [List.length_cons, Int.natCast_add] at h2
    refine .pi (ih1 rfl) ?_
    rw [er_up]
    exact h2
  | fam hc hs =>
    intro D G e
    subst e
    rw [up_flatS (by omega), if_neg (by omega)]
    exact .fam hc hs.up

/-! ### Terms for variables -/
def Sub0 (C : Int → Int → Option S0) (G0 G : List S0) (L : List T) (sh : Int) : Prop :=
  ∀ (i : Nat) (s : S0), G0[i]? = some s → (i < L.length → StT C G (L.getD (L.length - 1 - i) (.node 0 0 [])) s) ∧ (L.length ≤ i → G[i - L.length + sh.toNat]? = some s)
/-- what can be applied -/
def Hd0 (C : Int → Int → Option S0) (G : List S0) (t : T) (s : S0) : Prop := (∃ h, t = .node 4 h [] ∧ 0 ≤ h ∧ G[h.toNat]? = some s) ∨ StT C G t s
theorem sub0_one {C : Int → Int → Option S0} {G : List S0} {x : T} {a : S0} (h : StT C G x a) : Sub0 C (a :: G) G [x] 0 := fun i s hi => by
  cases i with
  | zero => simp at hi; subst hi; exact ⟨fun _ => h, fun e => by simp at e⟩
  | succ i => exact ⟨fun e => by simp at e, fun _ => by simpa using hi⟩
theorem mp_St {C : Int → Int → Option S0} {G0 G D : List S0} {L : List T} {sh : Int} (hS : Sub0 C G0 G L sh) (h0 : 0 ≤ sh) {h : Int} {s : S0} (hu : (D.length : Int) ≤ h) (hg : (D ++ G0)[h.toNat]? = some s) : Hd0 C (D ++ G) (mpT L sh (h - D.length) D.length) s := by
  rw [List.getElem?_append_right (by omega)] at hg
  obtain ⟨h1, h2⟩ := hS _ _ hg
  unfold mpT
  by_cases hl : (L.length : Int) ≤ h - D.length
  · rw [if_pos hl]
    refine .inl ⟨_, rfl, by omega, ?_⟩
    rw [List.getElem?_append_right (by omega)]
    have := h2 (by omega)
    rw [show (h - (D.length : Int) - (L.length : Int) + sh + (D.length : Int)).toNat - D.length = h.toNat - D.length - L.length + sh.toNat by omega]
    exact this
  · rw [if_neg hl]
    have := h1 (by omega)
    rw [show h.toNat - D.length = (h - (D.length : Int)).toNat by omega] at this
    have := StT.up (C := C) (E := D) (D := []) (G := G) _ this
    exact .inr this
/-- an answer: too much, or what is said of it -/
def Okr (P : T → Prop) (r : Res) : Prop := r = .error 4 ∨ ∃ t n, r = .ok (t, n) ∧ P t
theorem spL_St {C : Int → Int → Option S0} {G : List S0} {A : T → T → Nat → Res} (hA : ∀ x b n a s, StT C G x a → StT C (a :: G) b s → Okr (fun t => StT C G t s) (A x b n)) :
    ∀ (bs : List T) (t : T) (n : Nat) (s : S0), Hd0 C G t s → StS C G bs s → Okr (fun t => StT C G t .o) (spL A t bs n)
  | [], t, n, s, ht, hb => by
    cases hb
    refine .inr ⟨t, n, by rw [spL], ?_⟩
    rcases ht with ⟨h, rfl, h0, hg⟩ | ht
    · exact .var h0 hg .nil
    · exact ht
  | x :: bs, t, n, s, ht, hb => by
    cases hb with
    | @cons _ _ _ a b hx hbs =>
      rcases ht with ⟨h, rfl, h0, hg⟩ | ht
      · refine .inr ⟨.node 4 h (x :: bs), n, ?_, .var h0 hg (.cons hx hbs)⟩
        rw [spL, if_neg (by omega), if_pos (by omega), List.nil_append]
      · cases ht with
        | @lam _ h y _ _ hy =>
          rw [spL, if_pos rfl]
          by_cases hm : myB x = true
          · rw [if_pos hm]
            rcases hA x y n a b hx hy with e | ⟨t1, n1, e, h1⟩
            · simp only [List.headD_cons, e]; exact .inl rfl
            · simp only [List.headD_cons, e]
              exact spL_St hA bs t1 n1 b (.inr h1) hbs
          · rw [if_neg hm]; exact .inl rfl
theorem apL_St {C : Int → Int → Option S0} {G G' : List S0} {A : Nat → T → Nat → Res} {k : Int} {m u : Nat} (hk : k ≠ 1 ∧ k ≠ 3) : ∀ (xs : List T) (i n : Nat) (s : S0), (∀ x ∈ xs, ∀ n a, StT C G x a → Okr (fun t => StT C G' t a) (A u x n)) → StS C G xs s →
    apL A k m u xs i n = .error 4 ∨ ∃ ys n', apL A k m u xs i n = .ok (ys, n') ∧ StS C G' ys s
  | [], i, n, s, _, hs => by cases hs; exact .inr ⟨[], n, by rw [apL], .nil⟩
  | x :: xs, i, n, s, hA, hs => by
    cases hs with
    | @cons _ _ _ a b hx hxs =>
      have hb : bdn k m i = 0 := by unfold bdn; rw [if_neg (by omega)]
      rw [apL, hb, Nat.add_zero]
      rcases hA x (List.mem_cons_self ..) n a hx with e | ⟨y, n1, e, h1⟩
      · rw [e]; exact .inl rfl
      · rw [e]
        dsimp only
        rcases apL_St hk xs (i + 1) n1 b (fun y hy => hA y (List.mem_cons_of_mem _ hy)) hxs with e2 | ⟨ys, n2, e2, h2⟩
        · rw [e2]; exact .inl rfl
        · rw [e2]; exact .inr ⟨y :: ys, n2, rfl, .cons h1 h2⟩
theorem ap_St {C : Int → Int → Option S0} : ∀ (f : Nat) {G0 G : List S0} {L : List T} {sh : Int}, Sub0 C G0 G L sh → 0 ≤ sh → ∀ (t : T) (D : List S0) (n : Nat),
    (∀ a, StT C (D ++ G0) t a → Okr (fun t' => StT C (D ++ G) t' a) (ap f L sh D.length t n)) ∧ (∀ b, Wf C b (D ++ G0) t → Okr (fun t' => Wf C b (D ++ G) t' ∧ er t' = er t) (ap f L sh D.length t n)) := by
  intro f
  induction f with
  | zero => intro G0 G L sh _ _ t D n; exact ⟨fun a _ => .inl (by rw [ap]), fun b _ => .inl (by rw [ap])⟩
  | succ f ih =>
    intro G0 G L sh hS h0 t D n
    obtain ⟨k, h, xs⟩ := t
    have hsp : ∀ {k : Int} {s : S0} (m : Nat), k ≠ 1 ∧ k ≠ 3 → StS C (D ++ G0) xs s → apL (fun u' x m => ap f L sh u' x m) k m D.length xs 0 (n + 1) = .error 4 ∨ ∃ ys n', apL (fun u' x m => ap f L sh u' x m) k m D.length xs 0 (n + 1) = .ok (ys, n') ∧ StS C (D ++ G) ys s := fun m hk hs =>
      apL_St hk xs 0 (n + 1) _ (fun x hx n a ha => (ih hS h0 x D n).1 a ha) hs
    constructor
    · intro a ht
      rw [ap]
      by_cases hn : 40000 < n + 1
      · rw [if_pos hn]; exact .inl rfl
      rw [if_neg hn]
      cases ht with
      | @lam _ _ x a b hb =>
        have h1 := (ih hS h0 x (a :: D) (n + 1)).1 b hb
        have hbd : bdn 3 [x].length 0 = 1 := rfl
        rw [apL, hbd]
        rw [List.length_cons] at h1
        rcases h1 with e | ⟨y, n1, e, h1⟩
        · simp only [e]; exact .inl rfl
        · simp only [e, apL]
          rw [if_neg (by omega)]
          exact .inr ⟨_, _, rfl, .lam h1⟩
      | var hh hg hs =>
        rcases hsp (k := 4) xs.length (by omega) hs with e | ⟨ys, n1, e, h1⟩
        · rw [e]; exact .inl rfl
        · rw [e]
          dsimp only
          by_cases hu : (D.length : Int) ≤ h
          · rw [if_pos ⟨rfl, hu⟩]
            exact spL_St (fun x b n a s hx hb => (ih (sub0_one hx) (by omega) b [] n).1 s hb) ys _ n1 _ (mp_St hS h0 hu hg) h1
          · rw [if_neg (fun e => hu e.2)]
            refine .inr ⟨_, _, rfl, .var hh ?_ h1⟩
            rw [List.getElem?_append_left (by omega)] at hg ⊢
            exact hg
      | con hk hc hs =>
        rcases hsp (k := k) xs.length (by omega) hs with e | ⟨ys, n1, e, h1⟩
        · rw [e]; exact .inl rfl
        · rw [e]
          simp only
          rw [if_neg (by omega)]
          exact .inr ⟨_, _, rfl, .con hk hc h1⟩
    · intro b ht
      rw [ap]
      by_cases hn : 40000 < n + 1
      · rw [if_pos hn]; exact .inl rfl
      rw [if_neg hn]
      cases ht with
      | sort =>
        simp only [apL]
        rw [if_neg (by omega)]
        exact .inr ⟨_, _, rfl, .sort, rfl⟩
      | @pi _ _ _ x y hx hy =>
        have h1 := (ih hS h0 x D (n + 1)).2 true hx
        have hbd0 : bdn 1 [x, y].length 0 = 0 := rfl
        have hbd1 : bdn 1 [x, y].length (0 + 1) = 1 := rfl
        rw [apL, hbd0, Nat.add_zero]
        rcases h1 with e | ⟨x', n1, e, hx', ex⟩
        · simp only [e]; exact .inl rfl
        · simp only [e]
          rw [apL, hbd1]
          have h2 := (ih hS h0 y (er x :: D) n1).2 b hy
          rw [List.length_cons] at h2
          rcases h2 with e2 | ⟨y', n2, e2, hy', ey⟩
          · simp only [e2]; exact .inl rfl
          · simp only [e2, apL]
            rw [if_neg (by omega)]
            refine .inr ⟨_, _, rfl, .pi hx' ?_, by rw [er_pi, er_pi, ex, ey]⟩
            rw [ex]; exact hy'
      | fam hc hs =>
        rcases hsp (k := 2) xs.length (by omega) hs with e | ⟨ys, n1, e, h1⟩
        · rw [e]; exact .inl rfl
        · rw [e]
          simp only
          rw [if_neg (by omega)]
          exact .inr ⟨_, _, rfl, .fam hc h1, by rw [er_no (by omega), er_no (by omega)]⟩
/-- what Apply tells: too much, or a term -/
theorem apE_of {t : T} {L : List T} {n : Int} {P : T → Prop} (h : Okr P (ap fl L n 0 t 0)) (h1 : myB t = true) (h2 : sbB L n = true) : (apE t L n = 0 ∧ P (apT t L n)) ∨ apE t L n = 4 := by
  have hc : (myB t && sbB L n) = true := by rw [h1, h2]; rfl
  have e1 : apE t L n = anE (apR t L n) := by unfold apE; rw [if_pos hc]
  have e2 : apT t L n = anT (apR t L n) := by unfold apT; rw [if_pos hc]
  rw [e1, e2]
  have e3 : apR t L n = ap fl L n 0 t 0 := rfl
  rw [e3]
  rcases h with e | ⟨t', n', e, hp⟩
  · rw [e]; exact .inr rfl
  · rw [e, anE, anT]
    by_cases hm : myB t' = true
    · rw [if_pos hm, if_pos hm]; exact .inl ⟨rfl, hp⟩
    · rw [if_neg hm]; exact .inr rfl
end Go.Proofs.Ytpigmefjcklpkaa

/-
  What is checked has its simple type, and its type up to conversion, where there are no metas. No statement is proved here.
-/
namespace Go.Proofs.Ytpigmefjcklpkaa
open Go.RowKit
set_option linter.unusedVariables false

/-- simple types of constants, and of families -/
def cS (sg : List T) (k h : Int) : Option S0 :=
  if 0 ≤ h then (match sg[h.toNat]? with
    | some t => if (k = 2 ∧ kiB t = true) ∨ (k = 5 ∧ kiB t = false) then some (er t) else none
    | none => none) else none
theorem cS_app {sg s2 : List T} : ∀ (k h : Int) (s : S0), cS sg k h = some s → cS (sg ++ s2) k h = some s := fun k h s e => by
  unfold cS at e ⊢
  by_cases h0 : 0 ≤ h
  · rw [if_pos h0] at e ⊢
    cases hq : sg[h.toNat]? with
    | none => rw [hq] at e; cases e
    | some t =>
      rw [hq] at e
      rw [List.getElem?_append_left (List.getElem?_eq_some_iff.1 hq).1, hq]
      exact e
  · rw [if_neg h0] at e; cases e
theorem cS_of {sg : List T} {k h : Int} {t : T} (h0 : 0 ≤ h) (ht : sg[h.toNat]? = some t) (hk : (k = 2 ∧ kiB t = true) ∨ (k = 5 ∧ kiB t = false)) : cS sg k h = some (er t) := by
  unfold cS
  rw [if_pos h0, ht]
  simp only
  rw [if_pos hk]
def gS (cx : List T) : List S0 := (cx.map er).reverse
theorem gS_snoc (cx : List T) (a : T) : gS (cx ++ [a]) = er a :: gS cx := by simp [gS]
theorem gS_len (cx : List T) : (gS cx).length = cx.length := by simp [gS]
theorem rev_at {α β : Type} (f : α → β) {cx : List α} {i : Nat} {x : α} (hx : cx[i]? = some x) : ((cx.map f).reverse)[cx.length - 1 - i]? = some (f x) := by
  have hi := (List.getElem?_eq_some_iff.1 hx).1
  rw [List.getElem?_reverse (by rw [List.length_map]; omega), List.length_map, show cx.length - 1 - (cx.length - 1 - i) = i by omega, List.getElem?_map, hx]
  rfl
theorem gS_at {cx : List T} {i : Nat} {x : T} (hx : cx[i]? = some x) : (gS cx)[cx.length - 1 - i]? = some (er x) := rev_at er hx
/-- entries that are types, each behind those ahead -/
def WfX (sg cx : List T) : Prop := ∀ i x, cx[i]? = some x → nodB x = true ∧ Wf (cS sg) true (gS (cx.take i)) x
def SgX (sg : List T) : Prop := ∀ t ∈ sg, nodB t = true ∧ (kiB t = true → Wf (cS sg) false [] t) ∧ (kiB t = false → Wf (cS sg) true [] t)
theorem WfX.snoc {sg cx : List T} {a : T} (h : WfX sg cx) (hn : nodB a = true) (ha : Wf (cS sg) true (gS cx) a) : WfX sg (cx ++ [a]) := fun i x hx => by
  by_cases hi : i < cx.length
  · rw [List.getElem?_append_left hi] at hx
    rw [List.take_append_of_le_length (by omega)]
    exact h i x hx
  · have hl := (List.getElem?_eq_some_iff.1 hx).1
    rw [List.length_append, List.length_singleton] at hl
    obtain rfl : i = cx.length := by omega
    rw [List.getElem?_append_right (Nat.le_refl _), Nat.sub_self] at hx
    simp at hx
    subst hx
    rw [List.take_left']
    · exact ⟨hn, ha⟩
    · rfl
/-- an entry, up, in all of the context -/
theorem WfX.up {sg cx : List T} (h : WfX sg cx) {i : Nat} {x : T} (hx : cx[i]? = some x) : Wf (cS sg) true (gS cx) (upT ((cx.length - i : Nat) : Int) x 0) := by
  have hi := (List.getElem?_eq_some_iff.1 hx).1
  have e : gS cx = ((cx.drop i).map er).reverse ++ gS (cx.take i) := by
    unfold gS
    rw [← List.reverse_append, ← List.map_append, List.take_append_drop]
  have := (h i x hx).2.up (E := ((cx.drop i).map er).reverse) (D := []) rfl
  simp only [List.nil_append, List.length_reverse, List.length_map, List.length_drop, List.length_nil] at this
  rw [e]
  exact this
theorem er_end {b : Bool} {C : Int → Int → Option S0} {G : List S0} {t : T} (h : Wf C b G t) (hk : kdQ t ≠ 1) : er t = .o := by
  cases h with
  | sort => exact er_no (by omega)
  | pi _ _ => exact absurd rfl hk
  | fam _ _ => exact er_no (by omega)
theorem wf_pi {b : Bool} {C : Int → Int → Option S0} {G : List S0} {t : T} (h : Wf C b G t) (hn : nodB t = true) (hk : kdQ t = 1) : ∃ p q, t = .node 1 0 [p, q] ∧ nodB p = true ∧ nodB q = true ∧ Wf C true G p ∧ Wf C b (er p :: G) q := by
  cases h with
  | sort => exact absurd hk (by simp [kdQ])
  | @pi _ _ h x y h1 h2 =>
    obtain ⟨rfl, p, q, e, hp, hq⟩ := piV hn
    cases e
    exact ⟨x, y, rfl, hp, hq, h1, h2⟩
  | fam _ _ => exact absurd hk (by simp [kdQ])
theorem apT_ok {t x : T} (h : apE t [x] 0 = 0) (hx : nodB x = true) (ht : nodB t = true) : myB t = true ∧ myB x = true ∧ nodB (apT t [x] 0) = true ∧ myB (apT t [x] 0) = true ∧ Cr.Ps (Cr.sub (Cr.one (Cr.tr x)) (Cr.tr t)) (Cr.tr (apT t [x] 0)) ∧ ∃ n, ap fl [x] 0 0 t 0 = .ok (apT t [x] 0, n) := by
  by_cases hc : (myB t && sbB [x] 0) = true
  · have e1 : apE t [x] 0 = anE (apR t [x] 0) := by unfold apE; rw [if_pos hc]
    have e2 : apT t [x] 0 = anT (apR t [x] 0) := by unfold apT; rw [if_pos hc]
    rw [Bool.and_eq_true] at hc
    rw [e1] at h
    cases hr : apR t [x] 0 with
    | error e =>
      rw [hr] at h
      exact absurd h (ap_err _ _ _ _ _ _ _ (show ap fl [x] 0 0 t 0 = .error e from hr))
    | ok p =>
      obtain ⟨t', n'⟩ := p
      have hr' : ap fl [x] 0 0 t 0 = .ok (t', n') := hr
      rw [hr, anE] at h
      by_cases hm : myB t' = true
      · obtain ⟨g1, g2⟩ := Cr.ap_red fl [x] 0 0 t 0 t' n' (fun y hy => by rw [List.mem_singleton.1 hy]; exact hx) (by omega) ht hr'
        rw [Cr.upn, Cr.sub_ext (Cr.sg_one x)] at g2
        have e3 : apT t [x] 0 = t' := by rw [e2, hr, anT, if_pos hm]
        rw [e3]
        exact ⟨hc.1, (sb_parts hc.2).2.2 x (by simp), g1, hm, g2, n', hr'⟩
      · rw [if_neg hm] at h; cases h
  · have h1 : apE t [x] 0 = 1 := by unfold apE; rw [if_neg hc]
    rw [h1] at h
    cases h
theorem ap_wf {C : Int → Int → Option S0} {b : Bool} {G : List S0} {t x : T} {s : S0} (h : apE t [x] 0 = 0) (hx : nodB x = true) (ht : nodB t = true) (sx : StT C G x s) (wt : Wf C b (s :: G) t) : Wf C b G (apT t [x] 0) ∧ er (apT t [x] 0) = er t := by
  obtain ⟨_, _, _, _, _, n, e⟩ := apT_ok h hx ht
  rcases (ap_St fl (sub0_one sx) (by omega) t [] 0).2 b wt with e' | ⟨t', n', e', h1⟩
  · simp only [List.length_nil] at e'
    rw [e] at e'; cases e'
  · simp only [List.length_nil] at e'
    rw [e] at e'
    cases e'
    exact h1
theorem sam_eqZ : ∀ (t u : T), samB t u = true → t = u := by
  intro t
  induction t using T.ind with
  | step k h xs ih =>
    rintro ⟨k', h', ys⟩ e
    rw [samB] at e
    simp only [Bool.and_eq_true, beq_iff_eq] at e
    obtain ⟨⟨⟨rfl, rfl⟩, hl⟩, hs⟩ := e
    have key : ∀ (xs ys : List T), (∀ x ∈ xs, ∀ u, samB x u = true → x = u) → xs.length = ys.length → samL xs ys = true → xs = ys := by
      intro xs
      induction xs with
      | nil => intro ys _ hl _; cases ys with | nil => rfl | cons y ys => simp at hl
      | cons x xs ih2 =>
        intro ys hx hl hs
        cases ys with
        | nil => simp at hl
        | cons y ys =>
          rw [samL, Bool.and_eq_true] at hs
          rw [hx x (by simp) y hs.1, ih2 ys (fun z hz => hx z (by simp [hz])) (by simpa using hl) hs.2]
    rw [key xs ys ih hl hs]
/-- the head of a term: its type -/
theorem hd_wf {sg cx : List T} (hsg : SgX sg) (hcx : WfX sg cx) {k h : Int} {t : T} (h0 : 0 ≤ h) (hk : k = 4 ∨ k = 5) (hd : hdV ⟨sg, []⟩ k h cx = .ok t) :
    nodB t = true ∧ Wf (cS sg) true (gS cx) t ∧ ∀ {xs : List T}, StS (cS sg) (gS cx) xs (er t) → StT (cS sg) (gS cx) (.node k h xs) .o := by
  unfold hdV at hd
  by_cases hk4 : k = 4
  · rw [if_pos hk4] at hd
    subst hk4
    by_cases hl : h < cx.length
    · rw [if_pos hl] at hd
      cases hd
      obtain ⟨e, he⟩ : ∃ e, cx[cx.length - 1 - h.toNat]? = some e := ⟨_, List.getElem?_eq_getElem (by omega)⟩
      rw [List.getD_eq_getElem?_getD, he, Option.getD_some]
      have hw := hcx.up he
      rw [show ((cx.length - (cx.length - 1 - h.toNat) : Nat) : Int) = h + 1 by omega] at hw
      refine ⟨nodB_up (by omega) _ _ (hcx _ _ he).1, hw, fun hs => .var h0 ?_ hs⟩
      rw [er_up]
      have := gS_at he
      rwa [show cx.length - 1 - (cx.length - 1 - h.toNat) = h.toNat by omega] at this
    · rw [if_neg hl] at hd; cases hd
  · rw [if_neg hk4] at hd
    have hk5 : k = 5 := by omega
    subst hk5
    by_cases hl : h < sg.length
    · rw [if_pos hl] at hd
      obtain ⟨e, he⟩ : ∃ e, sg[h.toNat]? = some e := ⟨_, List.getElem?_eq_getElem (by omega)⟩
      rw [List.getD_eq_getElem?_getD, he, Option.getD_some] at hd
      by_cases hki : kiB e = true
      · rw [if_pos hki] at hd; cases hd
      · rw [if_neg hki] at hd
        have hkf : kiB e = false := by simpa using hki
        obtain ⟨h1, _, h2⟩ := hsg e (List.mem_of_getElem? he)
        injection hd with hd
        rw [← hd]
        exact ⟨h1, (h2 hkf).more (fun _ _ _ h => h) (fun i s hi => by simp at hi), fun hs => .con (.inl rfl) (cS_of h0 he (.inr ⟨rfl, hkf⟩)) hs⟩
    · rw [if_neg hl] at hd; cases hd
theorem sp_wf {sg cx : List T} {b : Bool} : ∀ (xs : List T) (t t' : T), (∀ x ∈ xs, nodB x = true ∧ ∀ a, nodB a = true → Wf (cS sg) true (gS cx) a → tmV ⟨sg, []⟩ x cx a = 0 → StT (cS sg) (gS cx) x (er a)) → nodB t = true → Wf (cS sg) b (gS cx) t →
    spV ⟨sg, []⟩ xs cx t = .ok t' → kdQ t' ≠ 1 → StS (cS sg) (gS cx) xs (er t) ∧ nodB t' = true ∧ Wf (cS sg) b (gS cx) t'
  | [], t, t', _, hn, hw, h, hk => by
    rw [spV] at h
    cases h
    rw [er_end hw hk]
    exact ⟨.nil, hn, hw⟩
  | x :: xs, t, t', ih, hn, hw, h, hk => by
    rw [spV] at h
    by_cases h1 : kdQ t = 1
    · rw [if_pos h1] at h
      obtain ⟨p, q, rfl, np, nq, wp, wq⟩ := wf_pi hw hn h1
      obtain ⟨nx, hx⟩ := ih x (by simp)
      have e0 : ag0 (.node 1 0 [p, q]) = p := rfl
      have e1 : ag1 (.node 1 0 [p, q]) = q := rfl
      rw [e0, e1] at h
      by_cases h2 : tmV ⟨sg, []⟩ x cx p = 0
      · rw [if_pos h2] at h
        by_cases h3 : apE q [x] 0 = 0
        · rw [if_pos h3] at h
          have sx := hx p np wp h2
          obtain ⟨w1, e2⟩ := ap_wf h3 nx nq sx wq
          obtain ⟨r1, r2, r3⟩ := sp_wf xs _ t' (fun y hy => ih y (by simp [hy])) (apT_ok h3 nx nq).2.2.1 w1 h hk
          rw [e2] at r1
          rw [er_pi]
          exact ⟨.cons sx r1, r2, r3⟩
        · rw [if_neg h3] at h; cases h
      · rw [if_neg h2] at h; cases h
    · rw [if_neg h1] at h; cases h
/-- what is checked has its simple type -/
theorem tm_St {sg : List T} (hsg : SgX sg) (m : T) : ∀ (cx : List T) (a : T), nodB m = true → nodB a = true → WfX sg cx → Wf (cS sg) true (gS cx) a → tmV ⟨sg, []⟩ m cx a = 0 → StT (cS sg) (gS cx) m (er a) := by
  induction m using T.ind with
  | step k h xs ih =>
    intro cx a hn ha hcx hw ht
    by_cases hk : k = 3
    · subst hk
      obtain ⟨rfl, x, rfl, hx⟩ := lamV hn
      rw [tm_lam] at ht
      by_cases hq : kdQ a = 1
      · rw [if_pos hq] at ht
        obtain ⟨p, q, rfl, np, nq, wp, wq⟩ := wf_pi hw ha hq
        have e0 : ag0 (.node 1 0 [p, q]) = p := rfl
        have e1 : ag1 (.node 1 0 [p, q]) = q := rfl
        rw [e0, e1] at ht
        have g := ih x (by simp) _ _ hx nq (hcx.snoc np wp) (by rw [gS_snoc]; exact wq) ht
        rw [gS_snoc] at g
        rw [er_pi]
        exact .lam g
      · rw [if_neg hq] at ht; cases ht
    · obtain ⟨hq, t, hc, hs⟩ := tm_neu_ok hk ht
      have hao : er a = .o := by
        obtain ⟨ka, ga, ya⟩ := a
        rw [kdQ] at hq
        exact er_no (by omega)
      rw [hao]
      obtain rfl := sam_eqZ t a hs
      rw [cmV] at hc
      by_cases hk45 : k = 4 ∨ k = 5
      · rw [if_pos hk45] at hc
        cases hh : hdV ⟨sg, []⟩ k h cx with
        | error e => rw [hh] at hc; cases hc
        | ok t0 =>
          rw [hh] at hc
          obtain ⟨n0, w0, fin⟩ := hd_wf hsg hcx (headV hn) hk45 hh
          exact fin (sp_wf xs t0 t (fun x hx => ⟨(nodV hn).2 x hx, fun b nb wb hb => ih x hx cx b ((nodV hn).2 x hx) nb hcx wb hb⟩) n0 w0 hc (by omega)).1
      · rw [if_neg hk45] at hc
        by_cases hk6 : k = 6
        · rw [if_pos hk6] at hc
          rw [if_neg (by simp; exact headV hn)] at hc
          cases hc
        · rw [if_neg hk6] at hc; cases hc
theorem ty_Wf {sg : List T} (hsg : SgX sg) (a : T) : ∀ (cx : List T), nodB a = true → WfX sg cx → tyV ⟨sg, []⟩ a cx = 0 → Wf (cS sg) true (gS cx) a := by
  induction a using T.ind with
  | step k h xs ih =>
    intro cx hn hcx ht
    by_cases h1 : k = 1
    · subst h1
      obtain ⟨rfl, x, y, rfl, hx, hy⟩ := piV hn
      rw [ty_pi] at ht
      by_cases h2 : tyV ⟨sg, []⟩ x cx = 0
      · rw [if_pos h2] at ht
        have wx := ih x (by simp) cx hx hcx h2
        have wy := ih y (by simp) _ hy (hcx.snoc hx wx) ht
        rw [gS_snoc] at wy
        exact .pi wx wy
      · rw [if_neg h2] at ht; exact absurd ht h2
    · by_cases h2 : k = 2
      · subst h2
        rw [ty_fam, faV] at ht
        by_cases hl : h < sg.length
        · rw [if_pos hl] at ht
          have h0 := headV hn
          obtain ⟨e, he⟩ : ∃ e, sg[h.toNat]? = some e := ⟨_, List.getElem?_eq_getElem (by omega)⟩
          rw [List.getD_eq_getElem?_getD, he, Option.getD_some] at ht
          by_cases hki : kiB e = true
          · rw [if_pos hki] at ht
            cases hsp : spV ⟨sg, []⟩ xs cx e with
            | error r => rw [hsp] at ht; exact absurd (show r = 0 from ht) (sp_err _ _ _ _ _ hsp)
            | ok t =>
              rw [hsp] at ht
              have hkt : kdQ t ≠ 1 := fun e1 => by
                unfold knV at ht
                simp only [e1] at ht
                revert ht
                decide
              obtain ⟨n1, w1, _⟩ := hsg e (List.mem_of_getElem? he)
              have := sp_wf (sg := sg) (cx := cx) xs e t (fun x hx => ⟨(nodV hn).2 x hx, fun b nb wb hb => tm_St hsg x cx b ((nodV hn).2 x hx) nb hcx wb hb⟩) n1 ((w1 hki).more (fun _ _ _ h => h) (fun i s hi => by simp at hi)) hsp hkt
              exact .fam (cS_of h0 he (.inl ⟨rfl, hki⟩)) this.1
          · rw [if_neg hki] at ht; cases ht
        · rw [if_neg hl] at ht; cases ht
      · rw [ty_no _ h1 h2] at ht; cases ht
theorem ki_Wf {sg : List T} (hsg : SgX sg) (a : T) : ∀ (cx : List T), nodB a = true → WfX sg cx → kiV ⟨sg, []⟩ a cx = 0 → Wf (cS sg) false (gS cx) a := by
  induction a using T.ind with
  | step k h xs ih =>
    intro cx hn hcx ht
    by_cases h1 : k = 1
    · subst h1
      obtain ⟨rfl, x, y, rfl, hx, hy⟩ := piV hn
      rw [ki_pi] at ht
      by_cases h2 : tyV ⟨sg, []⟩ x cx = 0
      · rw [if_pos h2] at ht
        have wx := ty_Wf hsg x cx hx hcx h2
        have wy := ih y (by simp) _ hy (hcx.snoc hx wx) ht
        rw [gS_snoc] at wy
        exact .pi wx wy
      · rw [if_neg h2] at ht; exact absurd ht h2
    · by_cases h2 : k = 0
      · subst h2
        have hx : xs = [] := by
          rcases okN_cases (nodV hn).1 with ⟨e, e2, he⟩ | ⟨e, e2, he⟩ | ⟨e, e2, he⟩ | ⟨e, he⟩ | ⟨e, he⟩ | ⟨e, he⟩ | ⟨e, he⟩ <;> first | exact List.length_eq_zero_iff.1 (by omega) | omega
        subst hx
        exact .sort
      · rw [ki_no _ h2 h1] at ht; cases ht
/-- kinds come to a Sort, types to a family -/
theorem wf_ki {b : Bool} {C : Int → Int → Option S0} {G : List S0} {t : T} (h : Wf C b G t) : kiB t = !b := by
  induction h with
  | sort => rfl
  | @pi b G h x y _ _ _ ih =>
    rw [← ih]
    unfold kiB
    rw [spR_pi]
  | fam _ _ => simp [kiB, spRq, kdQ]
/-- a signature that is in order -/
theorem sg_ok : ∀ (l dn : List T), SgX dn → gdS dn l = true → SgX (dn ++ l)
  | [], dn, h, _ => by rw [List.append_nil]; exact h
  | x :: l, dn, h, hg => by
    rw [gdS, Bool.and_eq_true, Bool.or_eq_true, decide_eq_true_eq, decide_eq_true_eq] at hg
    have hW : ∃ b, nodB x = true ∧ Wf (cS dn) b [] x := by
      rcases hg.1 with e | e
      · obtain ⟨h1, h2⟩ := ckTy_okZ e
        have hn := ((myB_iff _).1 (((mayV_iff _ _ _).1 h1).2.2.1 x (by simp))).1
        exact ⟨true, hn, ty_Wf h x [] hn (fun i y hy => by simp at hy) h2⟩
      · obtain ⟨h1, h2⟩ := ckKi_okZ e
        have hn := ((myB_iff _).1 (((mayV_iff _ _ _).1 h1).2.2.1 x (by simp))).1
        exact ⟨false, hn, ki_Wf h x [] hn (fun i y hy => by simp at hy) h2⟩
    obtain ⟨b, hn, hw⟩ := hW
    have key : SgX (dn ++ [x]) := fun t ht => by
      have up : ∀ {b : Bool} {t : T}, Wf (cS dn) b [] t → Wf (cS (dn ++ [x])) b [] t := fun h => h.more cS_app (fun _ _ h => h)
      rcases List.mem_append.1 ht with ht | ht
      · exact ⟨(h t ht).1, fun e => up ((h t ht).2.1 e), fun e => up ((h t ht).2.2 e)⟩
      · obtain rfl := List.mem_singleton.1 ht
        have hk := wf_ki hw
        refine ⟨hn, fun e => ?_, fun e => ?_⟩
        · rw [e] at hk
          cases b with
          | true => cases hk
          | false => exact up hw
        · rw [e] at hk
          cases b with
          | true => exact up hw
          | false => cases hk
    have := sg_ok l (dn ++ [x]) key hg.2
    rwa [List.append_assoc] at this
theorem cx_ok {sg : List T} (hsg : SgX sg) : ∀ (l dn : List T), WfX sg dn → gdC ⟨sg, []⟩ dn l = true → WfX sg (dn ++ l)
  | [], dn, h, _ => by rw [List.append_nil]; exact h
  | x :: l, dn, h, hg => by
    rw [gdC, Bool.and_eq_true, decide_eq_true_eq] at hg
    obtain ⟨h1, h2⟩ := ckTy_okZ hg.1
    have hn := ((myB_iff _).1 (((mayV_iff _ _ _).1 h1).2.2.1 x (by simp))).1
    have := cx_ok hsg l (dn ++ [x]) (h.snoc hn (ty_Wf hsg x dn hn h h2)) hg.2
    rwa [List.append_assoc] at this
end Go.Proofs.Ytpigmefjcklpkaa

/-
  Types up to conversion and simple types together tell of a term that nothing reduces in that it is checked, but for what is too great; so a term put for a variable keeps types. No statement is proved here.
-/
namespace Go.Proofs.Ytpigmefjcklpkaa
open Go.RowKit
set_option linter.unusedVariables false

/-! ### Closed terms -/
def clL : Nat → Cr.Lm → Prop
  | n, .v i => i < n
  | _, .c _ _ => True
  | n, .a f x => clL n f ∧ clL n x
  | n, .l b => clL (n + 1) b
theorem clL_sub {t : Cr.Lm} : ∀ {n : Nat} {s : Nat → Cr.Lm}, clL n t → (∀ i, i < n → s i = .v i) → Cr.sub s t = t := by
  induction t with
  | v i => intro n s h hs; exact hs i h
  | c k h => intro n s _ _; rfl
  | a f x ihf ihx => intro n s h hs; rw [Cr.sub, ihf h.1 hs, ihx h.2 hs]
  | l b ih =>
    intro n s h hs
    rw [Cr.sub, ih (n := n + 1) h fun i hi => ?_]
    cases i with
    | zero => rfl
    | succ i => rw [Cr.ups, hs i (by omega)]; rfl
theorem clL_apps : ∀ {xs : List Cr.Lm} {f : Cr.Lm} {n : Nat}, clL n f → (∀ x ∈ xs, clL n x) → clL n (Cr.apps f xs)
  | [], _, _, h, _ => h
  | x :: xs, f, n, h, hx => clL_apps (xs := xs) (f := .a f x) ⟨h, hx x (by simp)⟩ fun y hy => hx y (by simp [hy])
theorem clL_wrap {n j : Nat} (hj : j ≤ 1) {x : Cr.Lm} (h : clL (n + j) x) : clL n (Cr.wrap1 j x) := by
  unfold Cr.wrap1
  by_cases e : j = 1
  · subst e; rw [if_pos rfl]; exact h
  · obtain rfl : j = 0 := by omega
    rw [if_neg e]; exact h
mutual
theorem cl_tr {M : Int} : ∀ (t : T) (n : Nat), nodB t = true → scC t n M → clL n (Cr.tr t)
  | .node k h xs, n, w, hs => by
    have h0 := headV w
    have w' := (nodV w).2
    rw [scC] at hs
    have hL := cl_trL k xs.length xs 0 n w' hs.2.2
    rw [Cr.tr]
    by_cases hk : k = 3
    · rw [if_pos hk]
      cases hq : Cr.trL k xs.length xs 0 with
      | nil => exact trivial
      | cons x l => exact hL x (by rw [hq]; simp)
    · rw [if_neg hk]
      refine clL_apps ?_ hL
      unfold Cr.at0
      by_cases hk4 : k = 4
      · rw [if_pos hk4]; have := hs.1 hk4; exact (by omega : h.toNat < n)
      · rw [if_neg hk4]; exact trivial
theorem cl_trL {M : Int} (k : Int) (m : Nat) : ∀ (xs : List T) (i n : Nat), (∀ x ∈ xs, nodB x = true) → scCL k m xs i n M → ∀ y ∈ Cr.trL k m xs i, clL n y
  | [], i, n, _, _, y, hy => by rw [Cr.trL] at hy; cases hy
  | x :: xs, i, n, hn, hs, y, hy => by
    rw [scCL] at hs
    rw [Cr.trL] at hy
    rcases List.mem_cons.1 hy with rfl | hy
    · refine clL_wrap (bdn_le _ _ _) (cl_tr (M := M) x _ (hn x (by simp)) ?_)
      rw [bd_bdn] at hs
      rw [Int.natCast_add]
      exact hs.1
    · exact cl_trL k m xs (i + 1) n (fun z hz => hn z (by simp [hz])) hs.2 y hy
end
/-- constants' types -/
def kS (sg : List T) (k h : Int) (A : Cr.Lm) : Prop := k = 5 ∧ 0 ≤ h ∧ ∃ t, sg[h.toNat]? = some t ∧ kiB t = false ∧ A = Cr.tr t
theorem kS_clo {sg : List T} (hg : gdS [] sg = true) : ∀ k h A, kS sg k h A → Cr.Clo A := fun k h A ⟨_, _, t, ht, _, e⟩ s => by
  subst e
  obtain ⟨h1, h2⟩ := gd_closed hg t (List.mem_of_getElem? ht)
  exact clL_sub (n := 0) (cl_tr t 0 ((myB_iff t).1 h1).1 h2) fun i hi => by omega
def gT (cx : List T) : List Cr.Lm := (cx.map Cr.tr).reverse
theorem gT_snoc (cx : List T) (a : T) : gT (cx ++ [a]) = Cr.tr a :: gT cx := by simp [gT]
theorem gT_at {cx : List T} {i : Nat} {x : T} (hx : cx[i]? = some x) : (gT cx)[cx.length - 1 - i]? = some (Cr.tr x) := rev_at Cr.tr hx
theorem tr_pi (p q : T) : Cr.tr (.node 1 0 [p, q]) = Cr.pi (Cr.tr p) (Cr.tr q) := by
  simp [Cr.tr, Cr.trL, bdn, Cr.wrap1, Cr.apps, Cr.at0, Cr.pi]
theorem up_ren {e : T} {h : Int} (h0 : 0 ≤ h) (hn : nodB e = true) : Cr.tr (upT (h + 1) e 0) = Cr.ren (fun j => j + (h.toNat + 1)) (Cr.tr e) := by
  have := Cr.tr_up (h.toNat + 1) e 0 hn
  rw [show ((h.toNat + 1 : Nat) : Int) = h + 1 by omega] at this
  rw [show ((0 : Nat) : Int) = 0 from rfl] at this
  rw [this]
  exact Cr.ren_ext (fun j => by simp [Cr.shr]) _
/-- the head's type -/
theorem hd_Ty {sg cx : List T} (hcn : ∀ e ∈ cx, nodB e = true) {k h : Int} {t : T} (h0 : 0 ≤ h) (hk : k = 4 ∨ k = 5) (hd : hdV ⟨sg, []⟩ k h cx = .ok t) : Cr.Ty (kS sg) (gT cx) (Cr.at0 k h) (Cr.tr t) ∧
    ∀ {A : Cr.Lm}, Cr.Ty (kS sg) (gT cx) (Cr.at0 k h) A → Cr.Cv A (Cr.tr t) := by
  unfold hdV at hd
  by_cases hk4 : k = 4
  · rw [if_pos hk4] at hd
    subst hk4
    by_cases hl : h < cx.length
    · rw [if_pos hl] at hd
      obtain ⟨e, he⟩ : ∃ e, cx[cx.length - 1 - h.toNat]? = some e := ⟨_, List.getElem?_eq_getElem (by omega)⟩
      rw [List.getD_eq_getElem?_getD, he, Option.getD_some] at hd
      injection hd with hd
      have hl2 := gT_at he
      rw [show cx.length - 1 - (cx.length - 1 - h.toNat) = h.toNat by omega] at hl2
      rw [← hd, up_ren h0 (hcn e (List.mem_of_getElem? he))]
      unfold Cr.at0
      rw [if_pos rfl]
      refine ⟨.v hl2, fun hA => ?_⟩
      obtain ⟨B, hB, hc⟩ := hA.gen_v rfl
      rw [hl2] at hB
      cases hB
      exact hc
    · rw [if_neg hl] at hd; cases hd
  · rw [if_neg hk4] at hd
    have hk5 : k = 5 := by omega
    subst hk5
    by_cases hl : h < sg.length
    · rw [if_pos hl] at hd
      obtain ⟨e, he⟩ : ∃ e, sg[h.toNat]? = some e := ⟨_, List.getElem?_eq_getElem (by omega)⟩
      rw [List.getD_eq_getElem?_getD, he, Option.getD_some] at hd
      by_cases hki : kiB e = true
      · rw [if_pos hki] at hd; cases hd
      · rw [if_neg hki] at hd
        injection hd with hd
        rw [← hd]
        unfold Cr.at0
        rw [if_neg (by omega)]
        refine ⟨.c ⟨rfl, h0, e, he, by simpa using hki, rfl⟩, fun hA => ?_⟩
        obtain ⟨B, ⟨_, _, t', ht', _, rfl⟩, hc⟩ := hA.gen_c rfl
        rw [he] at ht'
        cases ht'
        exact hc
    · rw [if_neg hl] at hd; cases hd
theorem sp_Ty {sg cx : List T} : ∀ (xs : List T) (t t' : T) (f : Cr.Lm), (∀ x ∈ xs, nodB x = true ∧ ∀ a, nodB a = true → tmV ⟨sg, []⟩ x cx a = 0 → Cr.Ty (kS sg) (gT cx) (Cr.tr x) (Cr.tr a)) → nodB t = true →
    spV ⟨sg, []⟩ xs cx t = .ok t' → Cr.Ty (kS sg) (gT cx) f (Cr.tr t) → Cr.Ty (kS sg) (gT cx) (Cr.apps f (xs.map Cr.tr)) (Cr.tr t') ∧ nodB t' = true
  | [], t, t', f, _, hn, h, hf => by
    rw [spV] at h
    cases h
    exact ⟨hf, hn⟩
  | x :: xs, t, t', f, ih, hn, h, hf => by
    rw [spV] at h
    by_cases h1 : kdQ t = 1
    · rw [if_pos h1] at h
      obtain ⟨p, q, rfl, np, nq⟩ := pi_of_kd hn h1
      obtain ⟨nx, hx⟩ := ih x (by simp)
      have e0 : ag0 (.node 1 0 [p, q]) = p := rfl
      have e1 : ag1 (.node 1 0 [p, q]) = q := rfl
      rw [e0, e1] at h
      by_cases h2 : tmV ⟨sg, []⟩ x cx p = 0
      · rw [if_pos h2] at h
        by_cases h3 : apE q [x] 0 = 0
        · rw [if_pos h3] at h
          obtain ⟨_, _, n1, _, hps, _⟩ := apT_ok h3 nx nq
          rw [tr_pi] at hf
          exact sp_Ty xs _ t' _ (fun y hy => ih y (by simp [hy])) n1 h (.conv (.a hf (hx p np h2)) (Cr.Cv.of hps))
        · rw [if_neg h3] at h; cases h
      · rw [if_neg h2] at h; cases h
    · rw [if_neg h1] at h; cases h
/-- what is checked has its type, up to conversion -/
theorem tm_Ty {sg : List T} (hsn : ∀ t ∈ sg, nodB t = true) (m : T) : ∀ (cx : List T) (a : T), nodB m = true → nodB a = true → (∀ e ∈ cx, nodB e = true) → tmV ⟨sg, []⟩ m cx a = 0 → Cr.Ty (kS sg) (gT cx) (Cr.tr m) (Cr.tr a) := by
  induction m using T.ind with
  | step k h xs ih =>
    intro cx a hn ha hcx ht
    by_cases hk : k = 3
    · subst hk
      obtain ⟨rfl, x, rfl, hx⟩ := lamV hn
      rw [tm_lam] at ht
      by_cases hq : kdQ a = 1
      · rw [if_pos hq] at ht
        obtain ⟨p, q, rfl, np, nq⟩ := pi_of_kd ha hq
        have e0 : ag0 (.node 1 0 [p, q]) = p := rfl
        have e1 : ag1 (.node 1 0 [p, q]) = q := rfl
        rw [e0, e1] at ht
        have g := ih x (by simp) _ _ hx nq (fun e he => by
          rcases List.mem_append.1 he with he | he
          · exact hcx e he
          · rw [List.mem_singleton.1 he]; exact np) ht
        rw [gT_snoc] at g
        rw [tr_pi, Cr.tr_lam]
        exact .l g
      · rw [if_neg hq] at ht; cases ht
    · obtain ⟨hq, t, hc, hs⟩ := tm_neu_ok hk ht
      obtain rfl := sam_eqZ t a hs
      rw [cmV] at hc
      by_cases hk45 : k = 4 ∨ k = 5
      · rw [if_pos hk45] at hc
        cases hh : hdV ⟨sg, []⟩ k h cx with
        | error e => rw [hh] at hc; cases hc
        | ok t0 =>
          rw [hh] at hc
          have n0 : nodB t0 = true := by
            unfold hdV at hh
            split at hh
            · split at hh
              · injection hh with hh
                rw [← hh]
                exact nodB_up (by have := headV hn; omega) _ _ (hcx _ (getD_memV _ (by have := headV hn; omega)))
              · cases hh
            · split at hh
              · rename_i hl
                split at hh
                · cases hh
                · injection hh with hh
                  rw [← hh]
                  exact hsn _ (getD_memV _ (by have := headV hn; simp only at hl; omega))
              · cases hh
          rw [Cr.tr_app (by omega)]
          exact (sp_Ty xs t0 t _ (fun x hx => ⟨(nodV hn).2 x hx, fun b nb hb => ih x hx cx b ((nodV hn).2 x hx) nb hcx hb⟩) n0 hc (hd_Ty hcx (headV hn) hk45 hh).1).1
      · rw [if_neg hk45] at hc
        by_cases hk6 : k = 6
        · rw [if_pos hk6] at hc
          rw [if_neg (by simp; exact headV hn)] at hc
          cases hc
        · rw [if_neg hk6] at hc; cases hc

/-! ### What has both is checked -/
theorem my_arg {k h : Int} {xs : List T} (b : myB (.node k h xs) = true) {x : T} (hx : x ∈ xs) : myB x = true := by
  obtain ⟨h1, h2, h3⟩ := (myB_iff _).1 b
  rw [nd] at h2
  rw [dp] at h3
  have := nd_mem hx
  have := dp_memV hx
  exact (myB_iff _).2 ⟨(nodV h1).2 x hx, by omega, by omega⟩
theorem sb_one {x : T} (hx : myB x = true) : sbB [x] 0 = true := sb_of (by simp) (by omega) (fun y hy => by rw [List.mem_singleton.1 hy]; exact hx)
theorem tr_same {t u : T} (ht : nodB t = true) (hu : nodB u = true) (h : Cr.Cv (Cr.tr t) (Cr.tr u)) : t = u := by
  obtain ⟨x, h1, h2⟩ := h
  have e1 := h1.nf (Cr.nf_tr t ht)
  have e2 := h2.nf (Cr.nf_tr u hu)
  exact Cr.tr_inj t u ht hu (e1.symm.trans e2)
/-- OK, or too great -/
def Ok4 (e : Int) : Prop := e = 0 ∨ e = 4
theorem sp_cmp {sg cx : List T} {b : Bool} : ∀ (xs : List T) (t : T) (A : Cr.Lm),
    (∀ x ∈ xs, myB x = true ∧ ∀ a B, myB a = true → Wf (cS sg) true (gS cx) a → StT (cS sg) (gS cx) x (er a) → Cr.Ty (kS sg) (gT cx) (Cr.tr x) B → Cr.Cv B (Cr.tr a) → Ok4 (tmV ⟨sg, []⟩ x cx a)) → myB t = true → Wf (cS sg) b (gS cx) t →
    StS (cS sg) (gS cx) xs (er t) → Cr.Spn (kS sg) (gT cx) (Cr.tr t) (xs.map Cr.tr) A → spV ⟨sg, []⟩ xs cx t = .error 4 ∨ ∃ t', spV ⟨sg, []⟩ xs cx t = .ok t' ∧ nodB t' = true ∧ Cr.Cv (Cr.tr t') A
  | [], t, A, _, ht, _, _, hsp => .inr ⟨t, by rw [spV], ((myB_iff t).1 ht).1, hsp⟩
  | x :: xs, t, A, ih, ht, hw, hs, hsp => by
    have hn := ((myB_iff t).1 ht).1
    have h1 : kdQ t = 1 := by
      refine Decidable.byContradiction fun e => ?_
      rw [er_end hw e] at hs
      cases hs
    obtain ⟨p, q, rfl, np, nq, wp, wq⟩ := wf_pi hw hn h1
    rw [er_pi] at hs
    obtain ⟨mx, hx⟩ := ih x (by simp)
    have mp : myB p = true := my_arg ht (by simp)
    have mq : myB q = true := my_arg ht (by simp)
    have nx := ((myB_iff x).1 mx).1
    cases hs with
    | cons sx sxs =>
      obtain ⟨P, Q, hc, hxP, hrest⟩ := hsp
      rw [tr_pi] at hc
      obtain ⟨hcP, hcQ⟩ := hc.pi_inj
      have e0 : ag0 (.node 1 0 [p, q]) = p := rfl
      have e1 : ag1 (.node 1 0 [p, q]) = q := rfl
      rw [spV, if_pos h1, e0, e1]
      rcases hx p P mp wp sx hxP hcP.symm with h2 | h2
      · rw [if_pos h2]
        rcases apE_of ((ap_St fl (sub0_one sx) (by omega) q [] 0).2 b wq) mq (sb_one mx) with ⟨h3, w1, e2⟩ | h3
        · rw [if_pos h3]
          obtain ⟨_, _, n1, m1, hps, _⟩ := apT_ok h3 nx nq
          refine sp_cmp xs _ A (fun y hy => ih y (by simp [hy])) m1 w1 (by rw [e2]; exact sxs) (hrest.cv ?_)
          exact (Cr.Cv.of hps).symm.trans (hcQ.sub _)
        · rw [if_neg (by omega), h3]; exact .inl rfl
      · rw [if_neg (by omega), h2]; exact .inl rfl
theorem tm_cmp {sg : List T} (hsg : SgX sg) (hK : ∀ k h A, kS sg k h A → Cr.Clo A) (hsm : ∀ t ∈ sg, myB t = true) (m : T) : ∀ (cx : List T) (a : T) (A : Cr.Lm), myB m = true → myB a = true → (∀ e ∈ cx, myB e = true) → WfX sg cx → Wf (cS sg) true (gS cx) a →
    StT (cS sg) (gS cx) m (er a) → Cr.Ty (kS sg) (gT cx) (Cr.tr m) A → Cr.Cv A (Cr.tr a) → Ok4 (tmV ⟨sg, []⟩ m cx a) := by
  induction m using T.ind with
  | step k h xs ih =>
    intro cx a A hm ha hcm hcx hw hst hty hcv
    have hn := ((myB_iff _).1 hm).1
    have hna := ((myB_iff _).1 ha).1
    by_cases hk : k = 3
    · subst hk
      obtain ⟨rfl, x, rfl, hx⟩ := lamV hn
      rw [tm_lam]
      have hq : kdQ a = 1 := by
        refine Decidable.byContradiction fun e => ?_
        rw [er_end hw e] at hst
        cases hst with
        | con h5 _ _ => omega
      obtain ⟨p, q, rfl, np, nq, wp, wq⟩ := wf_pi hw hna hq
      rw [er_pi] at hst
      rw [if_pos hq]
      have e0 : ag0 (.node 1 0 [p, q]) = p := rfl
      have e1 : ag1 (.node 1 0 [p, q]) = q := rfl
      rw [e0, e1]
      rw [Cr.tr_lam] at hty
      obtain ⟨P, Q, hb, hc⟩ := hty.gen_l rfl
      have hcp := hc.symm.trans hcv
      rw [tr_pi] at hcp
      obtain ⟨hcP, hcQ⟩ := hcp.pi_inj
      have mp : myB p = true := my_arg ha (by simp)
      have mq : myB q = true := my_arg ha (by simp)
      cases hst with
      | lam hsx =>
        refine ih x (by simp) (cx ++ [p]) q Q (my_arg hm (by simp)) mq (fun e he => ?_) (hcx.snoc np wp) (by rw [gS_snoc]; exact wq) (by rw [gS_snoc]; exact hsx) ?_ hcQ
        · rcases List.mem_append.1 he with he | he
          · exact hcm e he
          · rw [List.mem_singleton.1 he]; exact mp
        · rw [gT_snoc]
          exact hb.ctx hK ⟨hcP, Cr.CvG.refl _⟩
    · rw [tm_neu _ hk]
      have hq : kdQ a = 2 := by
        have hne : kdQ a ≠ 1 := fun e => by
          obtain ⟨p, q, rfl, _, _, _, _⟩ := wf_pi hw hna e
          rw [er_pi] at hst
          cases hst with
          | lam _ => exact hk rfl
        cases hw with
        | pi _ _ => exact absurd rfl hne
        | fam _ _ => rfl
      rw [if_pos hq]
      have hao : er a = .o := er_end hw (by omega)
      rw [hao] at hst
      have hcn : ∀ e ∈ cx, nodB e = true := fun e he => ((myB_iff e).1 (hcm e he)).1
      have key : ∀ (k' : Int), k' = k → k' = 4 ∨ k' = 5 → (∃ t0, hdV ⟨sg, []⟩ k' h cx = .ok t0 ∧ myB t0 = true ∧ StS (cS sg) (gS cx) xs (er t0)) → Ok4 (enV a (cmV ⟨sg, []⟩ cx (.node k' h xs))) := by
        rintro k' rfl hk45 ⟨t0, hh, m0, hs0⟩
        obtain ⟨n0, w0, _⟩ := hd_wf hsg hcx (headV hn) hk45 hh
        rw [Cr.tr_app (by omega)] at hty
        obtain ⟨t1, ht1, hsp⟩ := Cr.Spn.of hty
        have hcv0 := (hd_Ty hcn (headV hn) hk45 hh).2 ht1
        rw [cmV, if_pos hk45, hh]
        rcases sp_cmp xs t0 A (fun x hx => ⟨my_arg hm hx, fun b B mb wb sb tb cb => ih x hx cx b B (my_arg hm hx) mb hcm hcx wb sb tb cb⟩) m0 w0 hs0 (hsp.cv hcv0.symm) with e | ⟨t', e, n', hc'⟩
        · simp only [e]; exact .inr rfl
        · simp only [e]
          obtain rfl := tr_same n' hna (hc'.trans hcv)
          rw [enV, if_pos (sam_refl _)]
          exact .inl rfl
      cases hst with
      | @var _ h xs s h0 hg hs =>
        refine key 4 rfl (.inl rfl) ?_
        have hl : h.toNat < (gS cx).length := (List.getElem?_eq_some_iff.1 hg).1
        rw [gS_len] at hl
        obtain ⟨e, he⟩ : ∃ e, cx[cx.length - 1 - h.toNat]? = some e := ⟨_, List.getElem?_eq_getElem (by omega)⟩
        have hge := gS_at he
        rw [show cx.length - 1 - (cx.length - 1 - h.toNat) = h.toNat by omega, hg] at hge
        injection hge with hge
        refine ⟨upT (h + 1) e 0, ?_, my_up (by omega) (hcm e (List.mem_of_getElem? he)), by rw [er_up, ← hge]; exact hs⟩
        unfold hdV
        rw [if_pos rfl, if_pos (by omega), List.getD_eq_getElem?_getD, he, Option.getD_some]
      | con hk5 hc hs =>
        unfold cS at hc
        by_cases h0 : 0 ≤ h
        · rw [if_pos h0] at hc
          cases he : sg[h.toNat]? with
          | none => rw [he] at hc; cases hc
          | some e =>
            rw [he] at hc
            simp only at hc
            by_cases hcond : (k = 2 ∧ kiB e = true) ∨ (k = 5 ∧ kiB e = false)
            · rw [if_pos hcond] at hc
              injection hc with hc
              have hk55 : k = 5 := by omega
              have hki : kiB e = false := by
                rcases hcond with h | h
                · omega
                · exact h.2
              subst hk55
              refine key 5 rfl (.inr rfl) ⟨e, ?_, hsm e (List.mem_of_getElem? he), by rw [hc]; exact hs⟩
              have hl := (List.getElem?_eq_some_iff.1 he).1
              unfold hdV
              rw [if_neg (by omega), if_pos (by simp only; omega), List.getD_eq_getElem?_getD, he, Option.getD_some, if_neg (by rw [hki]; decide)]
            · rw [if_neg hcond] at hc; cases hc
        · rw [if_neg h0] at hc; cases hc
/-- a term for the last variable keeps types -/
theorem subst_ok {sg dx : List T} {c m a n : T} (hg : gdV sg (dx ++ [c]) = true) (ha : ckTy ⟨sg, []⟩ (dx ++ [c]) a = 0) (hm : ckT ⟨sg, []⟩ (dx ++ [c]) m a = 0) (hn : ckT ⟨sg, []⟩ dx n c = 0) :
    Ok4 (apE m [n] 0) ∧ Ok4 (apE a [n] 0) ∧ (apE m [n] 0 = 0 → apE a [n] 0 = 0 → ckT ⟨sg, []⟩ dx (apT m [n] 0) (apT a [n] 0) = 0 ∨ ckT ⟨sg, []⟩ dx (apT m [n] 0) (apT a [n] 0) = 4 ∨ ckT ⟨sg, []⟩ dx (apT m [n] 0) (apT a [n] 0) = 1) := by
  rw [gdV, Bool.and_eq_true] at hg
  have hsg : SgX sg := by
    have := sg_ok sg [] (fun t ht => by cases ht) hg.1
    rwa [List.nil_append] at this
  have hcx : WfX sg (dx ++ [c]) := by
    have := cx_ok hsg (dx ++ [c]) [] (fun i x hx => by simp at hx) hg.2
    rwa [List.nil_append] at this
  have hdx : WfX sg dx := fun i x hx => by
    have hi := (List.getElem?_eq_some_iff.1 hx).1
    have := hcx i x (by rw [List.getElem?_append_left hi]; exact hx)
    rwa [List.take_append_of_le_length (by omega)] at this
  have hcw : nodB c = true ∧ Wf (cS sg) true (gS dx) c := by
    have := hcx dx.length c (by rw [List.getElem?_append_right (Nat.le_refl _), Nat.sub_self]; rfl)
    rw [List.take_left'] at this
    · exact this
    · rfl
  obtain ⟨a1, a2⟩ := ckTy_okZ ha
  obtain ⟨m1, m2⟩ := ckT_okZ hm
  obtain ⟨n1, n2⟩ := ckT_okZ hn
  obtain ⟨ya1, ya2, ya3, ya4, ya5⟩ := (mayV_iff _ _ _).1 a1
  have mm := ((mayV_iff _ _ _).1 m1).2.2.1 m (by simp)
  have mn := ((mayV_iff _ _ _).1 n1).2.2.1 n (by simp)
  have ma := ya3 a (by simp)
  have nm := ((myB_iff _).1 mm).1
  have nn := ((myB_iff _).1 mn).1
  have na := ((myB_iff _).1 ma).1
  have hwa := ty_Wf hsg a _ na hcx a2
  have hsm := tm_St hsg m _ a nm na hcx hwa m2
  have hsn := tm_St hsg n _ c nn hcw.1 hdx hcw.2 n2
  rw [gS_snoc] at hwa hsm
  have hcn : ∀ e ∈ dx ++ [c], nodB e = true := fun e he => ((myB_iff e).1 (ya2 e he)).1
  have hK := kS_clo hg.1
  have tm := tm_Ty (fun t ht => ((myB_iff t).1 (ya4 t ht)).1) m _ a nm na hcn m2
  have tn := tm_Ty (fun t ht => ((myB_iff t).1 (ya4 t ht)).1) n _ c nn hcw.1 (fun e he => hcn e (by simp [he])) n2
  rw [gT_snoc] at tm
  have ts := tm.sub hK (Cr.sb_one tn)
  have om := apE_of ((ap_St fl (sub0_one hsn) (by omega) m [] 0).1 _ hsm) mm (sb_one mn)
  have oa := apE_of ((ap_St fl (sub0_one hsn) (by omega) a [] 0).2 true hwa) ma (sb_one mn)
  refine ⟨om.imp (·.1) id, oa.imp (·.1) id, fun em ea => ?_⟩
  have sm : StT (cS sg) (gS dx) (apT m [n] 0) (er a) := by
    rcases om with h | h
    · exact h.2
    · rw [em] at h; cases h
  have sa : Wf (cS sg) true (gS dx) (apT a [n] 0) ∧ er (apT a [n] 0) = er a := by
    rcases oa with h | h
    · exact h.2
    · rw [ea] at h; cases h
  obtain ⟨_, _, nx, mx, pm, _⟩ := apT_ok em nn nm
  obtain ⟨_, _, ny, my, pa, _⟩ := apT_ok ea nn na
  have hfin := tm_cmp hsg hK ya4 (apT m [n] 0) dx (apT a [n] 0) _ mx my (fun e he => ya2 e (by simp [he])) hdx sa.1 (by rw [sa.2]; exact sm) (ts.ps hK pm) (Cr.Cv.of pa)
  unfold ckT
  split
  · rcases hfin with h | h
    · exact .inl h
    · exact .inr (.inl h)
  · exact .inr (.inr rfl)
end Go.Proofs.Ytpigmefjcklpkaa

/-
  The walk of the law CheckSubst.
-/
namespace Go.Proofs.Ytpigmefjcklpkaa
open Go.ChangeShapes Go.WideShapes Go.ChangeAt Go.RowKit
set_option linter.unusedVariables false

theorem ap_lowZ {a n : T} (ha : myB a = true) (hn : myB n = true) (la : okT loV a) (ln : okT loV n) (he : apE a [n] 0 = 0) : okT (2 * loV) (apT a [n] 0) :=
  okT_mono (by unfold loV dlV; omega) _ (bd_ap (B := loV) ⟨ha, la⟩ (fun x hx => by rw [List.mem_singleton.1 hx]; exact ⟨hn, ln⟩) he).ok
set_option maxRecDepth 100000 in
set_option maxHeartbeats 16000000 in
theorem checkSubstC (sg cx : List T) (m a n : T) (As : Option Addr) (ns cs : Nat) (Ac : Option Addr) (nc cc : Nat) (vm va vn : Value) (w : World) (hs : DL w sg As ns cs) (hx : CLV w cx Ac nc cc) (hvp : Rd w m vm) (hvq : Rd w a va) (hvn : Rd w n vn) :
    Calls Try.prog 11 #[.slice As ns cs, .slice Ac nc cc, vm, va, vn] w fun e w' => e = .returned (.bool true) ∧ Below w.heap.size w w' := by
  obtain ⟨kp, hp, Ap, np, cp, rfl⟩ := hvp.full
  obtain ⟨kq, hq, Aq, nq, cq, rfl⟩ := hvq.full
  obtain ⟨kn, hn, An, nn, cn, rfl⟩ := hvn.full
  have hcl := hx.len
  have hcle := hx.le
  have hccap := hx.cap
  unfold maxLen at hccap
  have HS := Lib.hid hs; clear hs
  have HX := Lib.hid hx; clear hx
  have HVP := Lib.hid hvp; clear hvp
  have HVQ := Lib.hid hvq; clear hvq
  have HVN := Lib.hid hvn; clear hvn
  obtain ⟨w0, hW⟩ : ∃ w0, ((w.alloc (.cells #[.int .i64 kp, .int .i64 hp, .slice Ap np cp] 32)).alloc (.cells #[.int .i64 kq, .int .i64 hq, .slice Aq nq cq] 32)).alloc (.cells #[.int .i64 kn, .int .i64 hn, .slice An nn cn] 32) = w0 := ⟨_, rfl⟩
  have hb0 : Below w.heap.size w w0 := by rw [← hW]; exact (((Below.refl _ _).alloc (Nat.le_refl _) _).alloc (by simp) _).alloc (by simp; omega) _
  have XP := Lib.hid (show Box w0 w.heap.size 32 #[.int .i64 kp, .int .i64 hp, .slice Ap np cp] by rw [← hW]; exact ((Box.new w _ _).alloc _).alloc _)
  have XQ := Lib.hid (show Box w0 (w.heap.size + 1) 32 #[.int .i64 kq, .int .i64 hq, .slice Aq nq cq] by rw [← hW]; exact ((Box.new (w.alloc _) _ _).at (by simp)).alloc _)
  have XN := Lib.hid (show Box w0 (w.heap.size + 1 + 1) 32 #[.int .i64 kn, .int .i64 hn, .slice An nn cn] by rw [← hW]; exact (Box.new ((w.alloc _).alloc _) _ _).at (by simp))
  have HB := Lib.hid hb0; clear hb0
  obtain ⟨rf, hrf⟩ : ∃ r, fwV ⟨sg, []⟩ cx ns 0 = r := ⟨_, rfl⟩
  have HRF := Lib.hid hrf; clear hrf
  obtain ⟨rm, hrm⟩ : ∃ r, ltB m 300 40 = r := ⟨_, rfl⟩
  have HRM := Lib.hid hrm; clear hrm
  obtain ⟨ra, hra⟩ : ∃ r, ltB a 300 40 = r := ⟨_, rfl⟩
  have HRA := Lib.hid hra; clear hra
  obtain ⟨rn, hrn⟩ : ∃ r, ltB n 300 40 = r := ⟨_, rfl⟩
  have HRN := Lib.hid hrn; clear hrn
  obtain ⟨ri, hri⟩ : ∃ r, gdV sg cx = r := ⟨_, rfl⟩
  have HRI := Lib.hid hri; clear hri
  go_enter Try.func11, Try.ntmps11
  go_wp2_with fail
  clear hW
  have HC := Lib.hid (vAwakeC w0)
  refine HC.out.mono ?_
  rintro e w1 ⟨rfl, hb1⟩
  replace XP := Lib.hid (XP.out.keep hb1 XP.out.lt)
  replace XQ := Lib.hid (XQ.out.keep hb1 XQ.out.lt)
  replace XN := Lib.hid (XN.out.keep hb1 XN.out.lt)
  replace HB := Lib.hid (HB.out.trans (hb1.mono HB.out.size))
  clear hb1 HC
  have b0 : w1.cell? ⟨w.heap.size, 0, none⟩ = some (.int .i64 kp) := XP.out.cell 0
  have b1 : w1.cell? ⟨w.heap.size, 1, none⟩ = some (.int .i64 hp) := XP.out.cell 1
  have b2 : w1.cell? ⟨w.heap.size, 2, none⟩ = some (.slice Ap np cp) := XP.out.cell 2
  have e0 : w1.cell? ⟨w.heap.size + 1, 0, none⟩ = some (.int .i64 kq) := XQ.out.cell 0
  have e1 : w1.cell? ⟨w.heap.size + 1, 1, none⟩ = some (.int .i64 hq) := XQ.out.cell 1
  have e2 : w1.cell? ⟨w.heap.size + 1, 2, none⟩ = some (.slice Aq nq cq) := XQ.out.cell 2
  have g0 : w1.cell? ⟨w.heap.size + 1 + 1, 0, none⟩ = some (.int .i64 kn) := XN.out.cell 0
  have g1 : w1.cell? ⟨w.heap.size + 1 + 1, 1, none⟩ = some (.int .i64 hn) := XN.out.cell 1
  have g2 : w1.cell? ⟨w.heap.size + 1 + 1, 2, none⟩ = some (.slice An nn cn) := XN.out.cell 2
  go_wp2_with fail
  clear b0 b1 b2
  clear e0 e1 e2
  clear g0 g1 g2
  have HC := Lib.hid (vFewC ⟨sg, []⟩ cx As none Ac ns cs 0 0 nc cc w1 ⟨HS.out.keep HB.out, ml_nilZ _, HX.out.keep HB.out⟩)
  rw [HRF.out] at HC
  refine HC.out.mono ?_
  rintro e w2 ⟨rfl, hb1⟩
  replace XP := Lib.hid (XP.out.keep hb1 XP.out.lt)
  replace XQ := Lib.hid (XQ.out.keep hb1 XQ.out.lt)
  replace XN := Lib.hid (XN.out.keep hb1 XN.out.lt)
  replace HB := Lib.hid (HB.out.trans (hb1.mono HB.out.size))
  clear hb1 HC
  have b0 : w2.cell? ⟨w.heap.size, 0, none⟩ = some (.int .i64 kp) := XP.out.cell 0
  have b1 : w2.cell? ⟨w.heap.size, 1, none⟩ = some (.int .i64 hp) := XP.out.cell 1
  have b2 : w2.cell? ⟨w.heap.size, 2, none⟩ = some (.slice Ap np cp) := XP.out.cell 2
  have e0 : w2.cell? ⟨w.heap.size + 1, 0, none⟩ = some (.int .i64 kq) := XQ.out.cell 0
  have e1 : w2.cell? ⟨w.heap.size + 1, 1, none⟩ = some (.int .i64 hq) := XQ.out.cell 1
  have e2 : w2.cell? ⟨w.heap.size + 1, 2, none⟩ = some (.slice Aq nq cq) := XQ.out.cell 2
  have g0 : w2.cell? ⟨w.heap.size + 1 + 1, 0, none⟩ = some (.int .i64 kn) := XN.out.cell 0
  have g1 : w2.cell? ⟨w.heap.size + 1 + 1, 1, none⟩ = some (.int .i64 hn) := XN.out.cell 1
  have g2 : w2.cell? ⟨w.heap.size + 1 + 1, 2, none⟩ = some (.slice An nn cn) := XN.out.cell 2
  go_wp2_with fail
  clear b0 b1 b2
  clear e0 e1 e2
  clear g0 g1 g2
  have HC := Lib.hid (refLight m 300 40 _ _ (Rd.keep HB.out _ _ HVP.out))
  rw [HRM.out] at HC
  refine HC.out.mono ?_
  rintro e w3 ⟨rfl, hb1⟩
  replace XP := Lib.hid (XP.out.keep hb1 XP.out.lt)
  replace XQ := Lib.hid (XQ.out.keep hb1 XQ.out.lt)
  replace XN := Lib.hid (XN.out.keep hb1 XN.out.lt)
  replace HB := Lib.hid (HB.out.trans (hb1.mono HB.out.size))
  clear hb1 HC
  have b0 : w3.cell? ⟨w.heap.size, 0, none⟩ = some (.int .i64 kp) := XP.out.cell 0
  have b1 : w3.cell? ⟨w.heap.size, 1, none⟩ = some (.int .i64 hp) := XP.out.cell 1
  have b2 : w3.cell? ⟨w.heap.size, 2, none⟩ = some (.slice Ap np cp) := XP.out.cell 2
  have e0 : w3.cell? ⟨w.heap.size + 1, 0, none⟩ = some (.int .i64 kq) := XQ.out.cell 0
  have e1 : w3.cell? ⟨w.heap.size + 1, 1, none⟩ = some (.int .i64 hq) := XQ.out.cell 1
  have e2 : w3.cell? ⟨w.heap.size + 1, 2, none⟩ = some (.slice Aq nq cq) := XQ.out.cell 2
  have g0 : w3.cell? ⟨w.heap.size + 1 + 1, 0, none⟩ = some (.int .i64 kn) := XN.out.cell 0
  have g1 : w3.cell? ⟨w.heap.size + 1 + 1, 1, none⟩ = some (.int .i64 hn) := XN.out.cell 1
  have g2 : w3.cell? ⟨w.heap.size + 1 + 1, 2, none⟩ = some (.slice An nn cn) := XN.out.cell 2
  go_wp2_with fail
  clear b0 b1 b2
  clear e0 e1 e2
  clear g0 g1 g2
  have HC := Lib.hid (refLight a 300 40 _ _ (Rd.keep HB.out _ _ HVQ.out))
  rw [HRA.out] at HC
  refine HC.out.mono ?_
  rintro e w4 ⟨rfl, hb1⟩
  replace XP := Lib.hid (XP.out.keep hb1 XP.out.lt)
  replace XQ := Lib.hid (XQ.out.keep hb1 XQ.out.lt)
  replace XN := Lib.hid (XN.out.keep hb1 XN.out.lt)
  replace HB := Lib.hid (HB.out.trans (hb1.mono HB.out.size))
  clear hb1 HC
  have b0 : w4.cell? ⟨w.heap.size, 0, none⟩ = some (.int .i64 kp) := XP.out.cell 0
  have b1 : w4.cell? ⟨w.heap.size, 1, none⟩ = some (.int .i64 hp) := XP.out.cell 1
  have b2 : w4.cell? ⟨w.heap.size, 2, none⟩ = some (.slice Ap np cp) := XP.out.cell 2
  have e0 : w4.cell? ⟨w.heap.size + 1, 0, none⟩ = some (.int .i64 kq) := XQ.out.cell 0
  have e1 : w4.cell? ⟨w.heap.size + 1, 1, none⟩ = some (.int .i64 hq) := XQ.out.cell 1
  have e2 : w4.cell? ⟨w.heap.size + 1, 2, none⟩ = some (.slice Aq nq cq) := XQ.out.cell 2
  have g0 : w4.cell? ⟨w.heap.size + 1 + 1, 0, none⟩ = some (.int .i64 kn) := XN.out.cell 0
  have g1 : w4.cell? ⟨w.heap.size + 1 + 1, 1, none⟩ = some (.int .i64 hn) := XN.out.cell 1
  have g2 : w4.cell? ⟨w.heap.size + 1 + 1, 2, none⟩ = some (.slice An nn cn) := XN.out.cell 2
  go_wp2_with fail
  clear b0 b1 b2
  clear e0 e1 e2
  clear g0 g1 g2
  have HC := Lib.hid (refLight n 300 40 _ _ (Rd.keep HB.out _ _ HVN.out))
  rw [HRN.out] at HC
  refine HC.out.mono ?_
  rintro e w5 ⟨rfl, hb1⟩
  replace XP := Lib.hid (XP.out.keep hb1 XP.out.lt)
  replace XQ := Lib.hid (XQ.out.keep hb1 XQ.out.lt)
  replace XN := Lib.hid (XN.out.keep hb1 XN.out.lt)
  replace HB := Lib.hid (HB.out.trans (hb1.mono HB.out.size))
  clear hb1 HC
  have b0 : w5.cell? ⟨w.heap.size, 0, none⟩ = some (.int .i64 kp) := XP.out.cell 0
  have b1 : w5.cell? ⟨w.heap.size, 1, none⟩ = some (.int .i64 hp) := XP.out.cell 1
  have b2 : w5.cell? ⟨w.heap.size, 2, none⟩ = some (.slice Ap np cp) := XP.out.cell 2
  have e0 : w5.cell? ⟨w.heap.size + 1, 0, none⟩ = some (.int .i64 kq) := XQ.out.cell 0
  have e1 : w5.cell? ⟨w.heap.size + 1, 1, none⟩ = some (.int .i64 hq) := XQ.out.cell 1
  have e2 : w5.cell? ⟨w.heap.size + 1, 2, none⟩ = some (.slice Aq nq cq) := XQ.out.cell 2
  have g0 : w5.cell? ⟨w.heap.size + 1 + 1, 0, none⟩ = some (.int .i64 kn) := XN.out.cell 0
  have g1 : w5.cell? ⟨w.heap.size + 1 + 1, 1, none⟩ = some (.int .i64 hn) := XN.out.cell 1
  have g2 : w5.cell? ⟨w.heap.size + 1 + 1, 2, none⟩ = some (.slice An nn cn) := XN.out.cell 2
  cases rf
  · go_wp2_with fail
    go_ret
    exact ⟨rfl, HB.out⟩
  clear b0 b1 b2
  clear e0 e1 e2
  clear g0 g1 g2
  have b0 : w5.cell? ⟨w.heap.size, 0, none⟩ = some (.int .i64 kp) := XP.out.cell 0
  have b1 : w5.cell? ⟨w.heap.size, 1, none⟩ = some (.int .i64 hp) := XP.out.cell 1
  have b2 : w5.cell? ⟨w.heap.size, 2, none⟩ = some (.slice Ap np cp) := XP.out.cell 2
  have e0 : w5.cell? ⟨w.heap.size + 1, 0, none⟩ = some (.int .i64 kq) := XQ.out.cell 0
  have e1 : w5.cell? ⟨w.heap.size + 1, 1, none⟩ = some (.int .i64 hq) := XQ.out.cell 1
  have e2 : w5.cell? ⟨w.heap.size + 1, 2, none⟩ = some (.slice Aq nq cq) := XQ.out.cell 2
  have g0 : w5.cell? ⟨w.heap.size + 1 + 1, 0, none⟩ = some (.int .i64 kn) := XN.out.cell 0
  have g1 : w5.cell? ⟨w.heap.size + 1 + 1, 1, none⟩ = some (.int .i64 hn) := XN.out.cell 1
  have g2 : w5.cell? ⟨w.heap.size + 1 + 1, 2, none⟩ = some (.slice An nn cn) := XN.out.cell 2
  cases rm
  · go_wp2_with fail
    go_ret
    exact ⟨rfl, HB.out⟩
  clear b0 b1 b2
  clear e0 e1 e2
  clear g0 g1 g2
  have b0 : w5.cell? ⟨w.heap.size, 0, none⟩ = some (.int .i64 kp) := XP.out.cell 0
  have b1 : w5.cell? ⟨w.heap.size, 1, none⟩ = some (.int .i64 hp) := XP.out.cell 1
  have b2 : w5.cell? ⟨w.heap.size, 2, none⟩ = some (.slice Ap np cp) := XP.out.cell 2
  have e0 : w5.cell? ⟨w.heap.size + 1, 0, none⟩ = some (.int .i64 kq) := XQ.out.cell 0
  have e1 : w5.cell? ⟨w.heap.size + 1, 1, none⟩ = some (.int .i64 hq) := XQ.out.cell 1
  have e2 : w5.cell? ⟨w.heap.size + 1, 2, none⟩ = some (.slice Aq nq cq) := XQ.out.cell 2
  have g0 : w5.cell? ⟨w.heap.size + 1 + 1, 0, none⟩ = some (.int .i64 kn) := XN.out.cell 0
  have g1 : w5.cell? ⟨w.heap.size + 1 + 1, 1, none⟩ = some (.int .i64 hn) := XN.out.cell 1
  have g2 : w5.cell? ⟨w.heap.size + 1 + 1, 2, none⟩ = some (.slice An nn cn) := XN.out.cell 2
  cases ra
  · go_wp2_with fail
    go_ret
    exact ⟨rfl, HB.out⟩
  clear b0 b1 b2
  clear e0 e1 e2
  clear g0 g1 g2
  have b0 : w5.cell? ⟨w.heap.size, 0, none⟩ = some (.int .i64 kp) := XP.out.cell 0
  have b1 : w5.cell? ⟨w.heap.size, 1, none⟩ = some (.int .i64 hp) := XP.out.cell 1
  have b2 : w5.cell? ⟨w.heap.size, 2, none⟩ = some (.slice Ap np cp) := XP.out.cell 2
  have e0 : w5.cell? ⟨w.heap.size + 1, 0, none⟩ = some (.int .i64 kq) := XQ.out.cell 0
  have e1 : w5.cell? ⟨w.heap.size + 1, 1, none⟩ = some (.int .i64 hq) := XQ.out.cell 1
  have e2 : w5.cell? ⟨w.heap.size + 1, 2, none⟩ = some (.slice Aq nq cq) := XQ.out.cell 2
  have g0 : w5.cell? ⟨w.heap.size + 1 + 1, 0, none⟩ = some (.int .i64 kn) := XN.out.cell 0
  have g1 : w5.cell? ⟨w.heap.size + 1 + 1, 1, none⟩ = some (.int .i64 hn) := XN.out.cell 1
  have g2 : w5.cell? ⟨w.heap.size + 1 + 1, 2, none⟩ = some (.slice An nn cn) := XN.out.cell 2
  cases rn
  · go_wp2_with fail
    go_ret
    exact ⟨rfl, HB.out⟩
  clear b0 b1 b2
  clear e0 e1 e2
  clear g0 g1 g2
  have b0 : w5.cell? ⟨w.heap.size, 0, none⟩ = some (.int .i64 kp) := XP.out.cell 0
  have b1 : w5.cell? ⟨w.heap.size, 1, none⟩ = some (.int .i64 hp) := XP.out.cell 1
  have b2 : w5.cell? ⟨w.heap.size, 2, none⟩ = some (.slice Ap np cp) := XP.out.cell 2
  have e0 : w5.cell? ⟨w.heap.size + 1, 0, none⟩ = some (.int .i64 kq) := XQ.out.cell 0
  have e1 : w5.cell? ⟨w.heap.size + 1, 1, none⟩ = some (.int .i64 hq) := XQ.out.cell 1
  have e2 : w5.cell? ⟨w.heap.size + 1, 2, none⟩ = some (.slice Aq nq cq) := XQ.out.cell 2
  have g0 : w5.cell? ⟨w.heap.size + 1 + 1, 0, none⟩ = some (.int .i64 kn) := XN.out.cell 0
  have g1 : w5.cell? ⟨w.heap.size + 1 + 1, 1, none⟩ = some (.int .i64 hn) := XN.out.cell 1
  have g2 : w5.cell? ⟨w.heap.size + 1 + 1, 2, none⟩ = some (.slice An nn cn) := XN.out.cell 2
  by_cases hz : nc = 0
  · have dz : ((nc : Int) == 0) = true := by simpa using hz
    clear hz
    go_wp2_with fail
    go_ret
    exact ⟨rfl, HB.out⟩
  clear b0 b1 b2
  clear e0 e1 e2
  clear g0 g1 g2
  have dz : ((nc : Int) == 0) = false := by simpa using hz
  obtain ⟨q, hq⟩ : ∃ q, nc = q + 1 := ⟨nc - 1, by omega⟩
  have hwq : IntKind.i64.wrap ((nc : Int) - 1) = (q : Int) := by rw [wrapEq, wrap_small (by omega) (by omega)]; omega
  have hq0 : (0 : Int) ≤ (q : Int) := by omega
  have hq1 : (q : Int) < (nc : Int) := by omega
  have hq2 : (q : Int) ≤ (cc : Int) := by omega
  have hqn : q ≤ nc := by omega
  have HQ := Lib.hid hq
  clear hq hz
  have HLO := Lib.hid (loV_of HRF.out)
  have hcn := (few_len HRF.out).2.2
  have b0 : w5.cell? ⟨w.heap.size, 0, none⟩ = some (.int .i64 kp) := XP.out.cell 0
  have b1 : w5.cell? ⟨w.heap.size, 1, none⟩ = some (.int .i64 hp) := XP.out.cell 1
  have b2 : w5.cell? ⟨w.heap.size, 2, none⟩ = some (.slice Ap np cp) := XP.out.cell 2
  have e0 : w5.cell? ⟨w.heap.size + 1, 0, none⟩ = some (.int .i64 kq) := XQ.out.cell 0
  have e1 : w5.cell? ⟨w.heap.size + 1, 1, none⟩ = some (.int .i64 hq) := XQ.out.cell 1
  have e2 : w5.cell? ⟨w.heap.size + 1, 2, none⟩ = some (.slice Aq nq cq) := XQ.out.cell 2
  have g0 : w5.cell? ⟨w.heap.size + 1 + 1, 0, none⟩ = some (.int .i64 kn) := XN.out.cell 0
  have g1 : w5.cell? ⟨w.heap.size + 1 + 1, 1, none⟩ = some (.int .i64 hn) := XN.out.cell 1
  have g2 : w5.cell? ⟨w.heap.size + 1 + 1, 2, none⟩ = some (.slice An nn cn) := XN.out.cell 2
  go_wp2_with fail
  clear b0 b1 b2
  clear e0 e1 e2
  clear g0 g1 g2
  clear dz
  have HC := Lib.hid (goodC sg cx As ns cs Ac nc cc w5 (HS.out.keep HB.out) (HX.out.keep HB.out))
  rw [HRI.out] at HC
  refine HC.out.mono ?_
  rintro e w6 ⟨rfl, hb1⟩
  replace XP := Lib.hid (XP.out.keep hb1 XP.out.lt)
  replace XQ := Lib.hid (XQ.out.keep hb1 XQ.out.lt)
  replace XN := Lib.hid (XN.out.keep hb1 XN.out.lt)
  replace HB := Lib.hid (HB.out.trans (hb1.mono HB.out.size))
  clear hb1 HC
  obtain ⟨c, hc⟩ := at_of HX.out.len (show q < nc by omega)
  obtain ⟨bc, o, kc, hhc, A2, n2, c2, hAc, c0, c1, c3, hrc⟩ := (RdAt.keep HB.out (HX.out.at_ q c hc)).full
  have HCX := Lib.hid (show cx = cx.take q ++ [c] by rw [← take_snocZ hc, List.take_of_length_le (by have := HQ.out; omega)])
  have HCM := Lib.hid (List.mem_of_getElem? hc)
  have HRC := Lib.hid hrc
  subst hAc
  clear hc hrc
  obtain ⟨eT, heT⟩ : ∃ e, ckTy ⟨sg, []⟩ cx a = e := ⟨_, rfl⟩
  obtain ⟨eM, heM⟩ : ∃ e, ckT ⟨sg, []⟩ cx m a = e := ⟨_, rfl⟩
  obtain ⟨eN, heN⟩ : ∃ e, ckT ⟨sg, []⟩ (cx.take q) n c = e := ⟨_, rfl⟩
  have HET := Lib.hid heT
  have HEM := Lib.hid heM
  have HEN := Lib.hid heN
  have HCK : Hid (∀ W' : World, Below w6.heap.size w6 W' → CkV W' ⟨sg, []⟩ cx As ns cs none 0 0 (some ⟨bc, o, none⟩) nc cc) := Lib.hid fun W' h' => ⟨(HS.out.keep HB.out).keep h', ml_nilZ _, (HX.out.keep HB.out).keep h'⟩
  have HCT := Lib.hid (fun (W' : World) (h' : Below w6.heap.size w6 W') => vCheckTypeC ⟨sg, []⟩ cx a As ns cs none 0 0 (some ⟨bc, o, none⟩) nc cc _ W' (HCK.out W' h') (Rd.keep (HB.out.trans (h'.mono HB.out.size)) _ _ HVQ.out) HLO.out (lo_lt HRA.out))
  have HCM2 := Lib.hid (fun (W' : World) (h' : Below w6.heap.size w6 W') => vCheckTermC ⟨sg, []⟩ cx m a As ns cs none 0 0 (some ⟨bc, o, none⟩) nc cc _ _ W' (HCK.out W' h') (Rd.keep (HB.out.trans (h'.mono HB.out.size)) _ _ HVP.out) (Rd.keep (HB.out.trans (h'.mono HB.out.size)) _ _ HVQ.out) HLO.out (lo_lt HRM.out) (lo_lt HRA.out))
  have HCN := Lib.hid (fun (W' : World) (h' : Below w6.heap.size w6 W') => vCheckTermC ⟨sg, []⟩ (cx.take q) n c As ns cs none 0 0 (some ⟨bc, o, none⟩) q cc _ _ W' ⟨(HS.out.keep HB.out).keep h', ml_nilZ _, ((HX.out.keep HB.out).takeZ hqn).keep h'⟩ (Rd.keep (HB.out.trans (h'.mono HB.out.size)) _ _ HVN.out) (Rd.keep h' _ _ HRC.out) ⟨HLO.out.sg, HLO.out.ms, fun t ht => HLO.out.cx t (List.mem_of_mem_take ht)⟩ (lo_lt HRN.out) (HLO.out.cx c HCM.out))
  rw [heT] at HCT
  rw [heM] at HCM2
  rw [heN] at HCN
  clear heT heM heN
  have b0 : w6.cell? ⟨w.heap.size, 0, none⟩ = some (.int .i64 kp) := XP.out.cell 0
  have b1 : w6.cell? ⟨w.heap.size, 1, none⟩ = some (.int .i64 hp) := XP.out.cell 1
  have b2 : w6.cell? ⟨w.heap.size, 2, none⟩ = some (.slice Ap np cp) := XP.out.cell 2
  have e0 : w6.cell? ⟨w.heap.size + 1, 0, none⟩ = some (.int .i64 kq) := XQ.out.cell 0
  have e1 : w6.cell? ⟨w.heap.size + 1, 1, none⟩ = some (.int .i64 hq) := XQ.out.cell 1
  have e2 : w6.cell? ⟨w.heap.size + 1, 2, none⟩ = some (.slice Aq nq cq) := XQ.out.cell 2
  have g0 : w6.cell? ⟨w.heap.size + 1 + 1, 0, none⟩ = some (.int .i64 kn) := XN.out.cell 0
  have g1 : w6.cell? ⟨w.heap.size + 1 + 1, 1, none⟩ = some (.int .i64 hn) := XN.out.cell 1
  have g2 : w6.cell? ⟨w.heap.size + 1 + 1, 2, none⟩ = some (.slice An nn cn) := XN.out.cell 2
  go_wp2_with fail
  clear b0 b1 b2
  clear e0 e1 e2
  clear g0 g1 g2
  have b0 : w6.cell? ⟨w.heap.size, 0, none⟩ = some (.int .i64 kp) := XP.out.cell 0
  have b1 : w6.cell? ⟨w.heap.size, 1, none⟩ = some (.int .i64 hp) := XP.out.cell 1
  have b2 : w6.cell? ⟨w.heap.size, 2, none⟩ = some (.slice Ap np cp) := XP.out.cell 2
  have e0 : w6.cell? ⟨w.heap.size + 1, 0, none⟩ = some (.int .i64 kq) := XQ.out.cell 0
  have e1 : w6.cell? ⟨w.heap.size + 1, 1, none⟩ = some (.int .i64 hq) := XQ.out.cell 1
  have e2 : w6.cell? ⟨w.heap.size + 1, 2, none⟩ = some (.slice Aq nq cq) := XQ.out.cell 2
  have g0 : w6.cell? ⟨w.heap.size + 1 + 1, 0, none⟩ = some (.int .i64 kn) := XN.out.cell 0
  have g1 : w6.cell? ⟨w.heap.size + 1 + 1, 1, none⟩ = some (.int .i64 hn) := XN.out.cell 1
  have g2 : w6.cell? ⟨w.heap.size + 1 + 1, 2, none⟩ = some (.slice An nn cn) := XN.out.cell 2
  have HKS : Hid (∀ w' : World, Below w6.heap.size w6 w' → (fun w' => w'.cell? ⟨w.heap.size, 0, none⟩ = some (.int .i64 kp) ∧ w'.cell? ⟨w.heap.size, 1, none⟩ = some (.int .i64 hp) ∧ w'.cell? ⟨w.heap.size, 2, none⟩ = some (.slice Ap np cp) ∧ w'.cell? ⟨w.heap.size + 1, 0, none⟩ = some (.int .i64 kq) ∧ w'.cell? ⟨w.heap.size + 1, 1, none⟩ = some (.int .i64 hq) ∧ w'.cell? ⟨w.heap.size + 1, 2, none⟩ = some (.slice Aq nq cq) ∧ w'.cell? ⟨w.heap.size + 1 + 1, 0, none⟩ = some (.int .i64 kn) ∧ w'.cell? ⟨w.heap.size + 1 + 1, 1, none⟩ = some (.int .i64 hn) ∧ w'.cell? ⟨w.heap.size + 1 + 1, 2, none⟩ = some (.slice An nn cn) ∧ w'.cell? ⟨bc, o + q * 3, none⟩ = some (.int .i64 kc) ∧ w'.cell? ⟨bc, o + q * 3 + 1, none⟩ = some (.int .i64 hhc) ∧ w'.cell? ⟨bc, o + q * 3 + 2, none⟩ = some (.slice A2 n2 c2)) w') := Lib.hid fun w' h => ⟨(h.cell (cell_lt b0)).trans b0, (h.cell (cell_lt b1)).trans b1, (h.cell (cell_lt b2)).trans b2, (h.cell (cell_lt e0)).trans e0, (h.cell (cell_lt e1)).trans e1, (h.cell (cell_lt e2)).trans e2, (h.cell (cell_lt g0)).trans g0, (h.cell (cell_lt g1)).trans g1, (h.cell (cell_lt g2)).trans g2, (h.cell (cell_lt c0)).trans c0, (h.cell (cell_lt c1)).trans c1, (h.cell (cell_lt c3)).trans c3⟩
  have hbd : Below w6.heap.size w6 w6.drew := (Below.refl _ w6).drew
  refine wp_region_held_drew (S := fun w' => w'.cell? ⟨w.heap.size, 0, none⟩ = some (.int .i64 kp) ∧ w'.cell? ⟨w.heap.size, 1, none⟩ = some (.int .i64 hp) ∧ w'.cell? ⟨w.heap.size, 2, none⟩ = some (.slice Ap np cp) ∧ w'.cell? ⟨w.heap.size + 1, 0, none⟩ = some (.int .i64 kq) ∧ w'.cell? ⟨w.heap.size + 1, 1, none⟩ = some (.int .i64 hq) ∧ w'.cell? ⟨w.heap.size + 1, 2, none⟩ = some (.slice Aq nq cq) ∧ w'.cell? ⟨w.heap.size + 1 + 1, 0, none⟩ = some (.int .i64 kn) ∧ w'.cell? ⟨w.heap.size + 1 + 1, 1, none⟩ = some (.int .i64 hn) ∧ w'.cell? ⟨w.heap.size + 1 + 1, 2, none⟩ = some (.slice An nn cn) ∧ w'.cell? ⟨bc, o + q * 3, none⟩ = some (.int .i64 kc) ∧ w'.cell? ⟨bc, o + q * 3 + 1, none⟩ = some (.int .i64 hhc) ∧ w'.cell? ⟨bc, o + q * 3 + 2, none⟩ = some (.slice A2 n2 c2)) (by kernel_rfl) (HKS.out _ hbd) (fun hS => ?_)
  simp only [List.size_toArray, List.length_cons, List.length_nil, Nat.reduceAdd]
  cases ri
  · refine wpAnyH_take (i := 0) (v := .bool false) rfl (by kernel_rfl) (by kernel_rfl) (by kernel_rfl) (fun _ _ _ h => h) (Or.inl ⟨by kernel_rfl, ?_⟩) hS ?_
    · intro w' hSw
      obtain ⟨s0, s1, s2, s3, s4, s5, s6, s7, s8, s9, s10, s11⟩ := hSw
      go_simp
    try simp only [Act.put, List.getElem_toArray, List.getElem_cons_zero, List.setIfInBounds_toArray, List.set_cons_zero, List.set_cons_succ]
    refine wpAnyH_take (i := 1) (v := .bool true) rfl (by kernel_rfl) (by kernel_rfl) (by kernel_rfl) (fun _ _ _ h => h) (Or.inl ⟨by kernel_rfl, ?_⟩) hS ?_
    · intro w' hSw
      obtain ⟨s0, s1, s2, s3, s4, s5, s6, s7, s8, s9, s10, s11⟩ := hSw
      go_simp
    try simp only [Act.put, List.getElem_toArray, List.getElem_cons_succ, List.getElem_cons_zero, List.setIfInBounds_toArray, List.set_cons_zero, List.set_cons_succ]
    refine wpAnyH_take (i := 2) (v := .bool true) rfl (by kernel_rfl) (by kernel_rfl) (by kernel_rfl) (fun _ _ _ h => h) (Or.inl ⟨by kernel_rfl, ?_⟩) hS ?_
    · intro w' hSw
      obtain ⟨s0, s1, s2, s3, s4, s5, s6, s7, s8, s9, s10, s11⟩ := hSw
      go_simp
    try simp only [Act.put, List.getElem_toArray, List.getElem_cons_succ, List.getElem_cons_zero, List.setIfInBounds_toArray, List.set_cons_zero, List.set_cons_succ]
    refine wpAnyH_take (i := 3) (v := undef) rfl (by kernel_rfl) (by kernel_rfl) (by kernel_rfl) (fun _ _ _ h => h) (Or.inr ⟨by kernel_rfl, rfl⟩) hS ?_
    try simp only [Act.put, List.getElem_toArray, List.getElem_cons_succ, List.getElem_cons_zero, List.setIfInBounds_toArray, List.set_cons_zero, List.set_cons_succ]
    refine wpAnyH_take (i := 4) (v := undef) rfl (by kernel_rfl) (by kernel_rfl) (by kernel_rfl) (fun _ _ _ h => h) (Or.inr ⟨by kernel_rfl, rfl⟩) hS ?_
    try simp only [Act.put, List.getElem_toArray, List.getElem_cons_succ, List.getElem_cons_zero, List.setIfInBounds_toArray, List.set_cons_zero, List.set_cons_succ]
    refine wpAnyH_take (i := 5) (v := undef) rfl (by kernel_rfl) (by kernel_rfl) (by kernel_rfl) (fun _ _ _ h => h) (Or.inr ⟨by kernel_rfl, rfl⟩) hS ?_
    try simp only [Act.put, List.getElem_toArray, List.getElem_cons_succ, List.getElem_cons_zero, List.setIfInBounds_toArray, List.set_cons_zero, List.set_cons_succ]
    refine wpAnyH_take (i := 6) (v := undef) rfl (by kernel_rfl) (by kernel_rfl) (by kernel_rfl) (fun _ _ _ h => h) (Or.inr ⟨by kernel_rfl, rfl⟩) hS ?_
    try simp only [Act.put, List.getElem_toArray, List.getElem_cons_succ, List.getElem_cons_zero, List.setIfInBounds_toArray, List.set_cons_zero, List.set_cons_succ]
    refine wpAnyH_take (i := 7) (v := undef) rfl (by kernel_rfl) (by kernel_rfl) (by kernel_rfl) (fun _ _ _ h => h) (Or.inr ⟨by kernel_rfl, rfl⟩) hS ?_
    try simp only [Act.put, List.getElem_toArray, List.getElem_cons_succ, List.getElem_cons_zero, List.setIfInBounds_toArray, List.set_cons_zero, List.set_cons_succ]
    refine wpAnyH_take (i := 8) (v := .bool true) rfl (by kernel_rfl) (by kernel_rfl) (by kernel_rfl) (fun _ _ _ h => h) (Or.inl ⟨by kernel_rfl, ?_⟩) hS ?_
    · intro w' hSw
      obtain ⟨s0, s1, s2, s3, s4, s5, s6, s7, s8, s9, s10, s11⟩ := hSw
      go_simp
    try simp only [Act.put, List.getElem_toArray, List.getElem_cons_succ, List.getElem_cons_zero, List.setIfInBounds_toArray, List.set_cons_zero, List.set_cons_succ]
    refine wpAnyH_take (i := 9) (v := .bool true) rfl (by kernel_rfl) (by kernel_rfl) (by kernel_rfl) (fun _ _ _ h => h) (Or.inl ⟨by kernel_rfl, ?_⟩) hS ?_
    · intro w' hSw
      obtain ⟨s0, s1, s2, s3, s4, s5, s6, s7, s8, s9, s10, s11⟩ := hSw
      go_simp
    try simp only [Act.put, List.getElem_toArray, List.getElem_cons_succ, List.getElem_cons_zero, List.setIfInBounds_toArray, List.set_cons_zero, List.set_cons_succ]
    refine wpAnyH_take (i := 10) (v := undef) rfl (by kernel_rfl) (by kernel_rfl) (by kernel_rfl) (fun _ _ _ h => h) (Or.inr ⟨by kernel_rfl, rfl⟩) hS ?_
    try simp only [Act.put, List.getElem_toArray, List.getElem_cons_succ, List.getElem_cons_zero, List.setIfInBounds_toArray, List.set_cons_zero, List.set_cons_succ]
    refine wpAnyH_take (i := 11) (v := undef) rfl (by kernel_rfl) (by kernel_rfl) (by kernel_rfl) (fun _ _ _ h => h) (Or.inr ⟨by kernel_rfl, rfl⟩) hS ?_
    try simp only [Act.put, List.getElem_toArray, List.getElem_cons_succ, List.getElem_cons_zero, List.setIfInBounds_toArray, List.set_cons_zero, List.set_cons_succ]
    refine wpAnyH_take (i := 12) (v := undef) rfl (by kernel_rfl) (by kernel_rfl) (by kernel_rfl) (fun _ _ _ h => h) (Or.inr ⟨by kernel_rfl, rfl⟩) hS ?_
    try simp only [Act.put, List.getElem_toArray, List.getElem_cons_succ, List.getElem_cons_zero, List.setIfInBounds_toArray, List.set_cons_zero, List.set_cons_succ]
    refine wpAnyH_take (i := 13) (v := undef) rfl (by kernel_rfl) (by kernel_rfl) (by kernel_rfl) (fun _ _ _ h => h) (Or.inr ⟨by kernel_rfl, rfl⟩) hS ?_
    try simp only [Act.put, List.getElem_toArray, List.getElem_cons_succ, List.getElem_cons_zero, List.setIfInBounds_toArray, List.set_cons_zero, List.set_cons_succ]
    refine wpAnyH_take (i := 14) (v := undef) rfl (by kernel_rfl) (by kernel_rfl) (by kernel_rfl) (fun _ _ _ h => h) (Or.inr ⟨by kernel_rfl, rfl⟩) hS ?_
    try simp only [Act.put, List.getElem_toArray, List.getElem_cons_succ, List.getElem_cons_zero, List.setIfInBounds_toArray, List.set_cons_zero, List.set_cons_succ]
    refine wpAnyH_take (i := 15) (v := undef) rfl (by kernel_rfl) (by kernel_rfl) (by kernel_rfl) (fun _ _ _ h => h) (Or.inr ⟨by kernel_rfl, rfl⟩) hS ?_
    try simp only [Act.put, List.getElem_toArray, List.getElem_cons_succ, List.getElem_cons_zero, List.setIfInBounds_toArray, List.set_cons_zero, List.set_cons_succ]
    refine wpAnyH_take (i := 16) (v := .bool true) rfl (by kernel_rfl) (by kernel_rfl) (by kernel_rfl) (fun _ _ _ h => h) (Or.inl ⟨by kernel_rfl, ?_⟩) hS ?_
    · intro w' hSw
      obtain ⟨s0, s1, s2, s3, s4, s5, s6, s7, s8, s9, s10, s11⟩ := hSw
      go_simp
    try simp only [Act.put, List.getElem_toArray, List.getElem_cons_succ, List.getElem_cons_zero, List.setIfInBounds_toArray, List.set_cons_zero, List.set_cons_succ]
    refine wpAnyH_take (i := 17) (v := .bool true) rfl (by kernel_rfl) (by kernel_rfl) (by kernel_rfl) (fun _ _ _ h => h) (Or.inl ⟨by kernel_rfl, ?_⟩) hS ?_
    · intro w' hSw
      obtain ⟨s0, s1, s2, s3, s4, s5, s6, s7, s8, s9, s10, s11⟩ := hSw
      go_simp
    try simp only [Act.put, List.getElem_toArray, List.getElem_cons_succ, List.getElem_cons_zero, List.setIfInBounds_toArray, List.set_cons_zero, List.set_cons_succ]
    refine wpAnyH_take (i := 18) (v := undef) rfl (by kernel_rfl) (by kernel_rfl) (by kernel_rfl) (fun _ _ _ h => h) (Or.inr ⟨by kernel_rfl, rfl⟩) hS ?_
    try simp only [Act.put, List.getElem_toArray, List.getElem_cons_succ, List.getElem_cons_zero, List.setIfInBounds_toArray, List.set_cons_zero, List.set_cons_succ]
    refine wpAnyH_take (i := 19) (v := undef) rfl (by kernel_rfl) (by kernel_rfl) (by kernel_rfl) (fun _ _ _ h => h) (Or.inr ⟨by kernel_rfl, rfl⟩) hS ?_
    try simp only [Act.put, List.getElem_toArray, List.getElem_cons_succ, List.getElem_cons_zero, List.setIfInBounds_toArray, List.set_cons_zero, List.set_cons_succ]
    refine wpAnyH_take (i := 20) (v := undef) rfl (by kernel_rfl) (by kernel_rfl) (by kernel_rfl) (fun _ _ _ h => h) (Or.inr ⟨by kernel_rfl, rfl⟩) hS ?_
    try simp only [Act.put, List.getElem_toArray, List.getElem_cons_succ, List.getElem_cons_zero, List.setIfInBounds_toArray, List.set_cons_zero, List.set_cons_succ]
    refine wpAnyH_take (i := 21) (v := undef) rfl (by kernel_rfl) (by kernel_rfl) (by kernel_rfl) (fun _ _ _ h => h) (Or.inr ⟨by kernel_rfl, rfl⟩) hS ?_
    try simp only [Act.put, List.getElem_toArray, List.getElem_cons_succ, List.getElem_cons_zero, List.setIfInBounds_toArray, List.set_cons_zero, List.set_cons_succ]
    refine wpAnyH_take (i := 22) (v := undef) rfl (by kernel_rfl) (by kernel_rfl) (by kernel_rfl) (fun _ _ _ h => h) (Or.inr ⟨by kernel_rfl, rfl⟩) hS ?_
    try simp only [Act.put, List.getElem_toArray, List.getElem_cons_succ, List.getElem_cons_zero, List.setIfInBounds_toArray, List.set_cons_zero, List.set_cons_succ]
    refine wpAnyH_take (i := 23) (v := undef) rfl (by kernel_rfl) (by kernel_rfl) (by kernel_rfl) (fun _ _ _ h => h) (Or.inr ⟨by kernel_rfl, rfl⟩) hS ?_
    try simp only [Act.put, List.getElem_toArray, List.getElem_cons_succ, List.getElem_cons_zero, List.setIfInBounds_toArray, List.set_cons_zero, List.set_cons_succ]
    refine wpAnyH_take (i := 24) (v := undef) rfl (by kernel_rfl) (by kernel_rfl) (by kernel_rfl) (fun _ _ _ h => h) (Or.inr ⟨by kernel_rfl, rfl⟩) hS ?_
    try simp only [Act.put, List.getElem_toArray, List.getElem_cons_succ, List.getElem_cons_zero, List.setIfInBounds_toArray, List.set_cons_zero, List.set_cons_succ]
    refine wpAnyH_take (i := 25) (v := undef) rfl (by kernel_rfl) (by kernel_rfl) (by kernel_rfl) (fun _ _ _ h => h) (Or.inr ⟨by kernel_rfl, rfl⟩) hS ?_
    try simp only [Act.put, List.getElem_toArray, List.getElem_cons_succ, List.getElem_cons_zero, List.setIfInBounds_toArray, List.set_cons_zero, List.set_cons_succ]
    refine wpAnyH_take (i := 26) (v := undef) rfl (by kernel_rfl) (by kernel_rfl) (by kernel_rfl) (fun _ _ _ h => h) (Or.inr ⟨by kernel_rfl, rfl⟩) hS ?_
    try simp only [Act.put, List.getElem_toArray, List.getElem_cons_succ, List.getElem_cons_zero, List.setIfInBounds_toArray, List.set_cons_zero, List.set_cons_succ]
    refine wpAnyH_take (i := 27) (v := undef) rfl (by kernel_rfl) (by kernel_rfl) (by kernel_rfl) (fun _ _ _ h => h) (Or.inr ⟨by kernel_rfl, rfl⟩) hS ?_
    try simp only [Act.put, List.getElem_toArray, List.getElem_cons_succ, List.getElem_cons_zero, List.setIfInBounds_toArray, List.set_cons_zero, List.set_cons_succ]
    refine wpAnyH_take (i := 28) (v := undef) rfl (by kernel_rfl) (by kernel_rfl) (by kernel_rfl) (fun _ _ _ h => h) (Or.inr ⟨by kernel_rfl, rfl⟩) hS ?_
    try simp only [Act.put, List.getElem_toArray, List.getElem_cons_succ, List.getElem_cons_zero, List.setIfInBounds_toArray, List.set_cons_zero, List.set_cons_succ]
    refine wpAnyH_take (i := 29) (v := .bool true) rfl (by kernel_rfl) (by kernel_rfl) (by kernel_rfl) (fun _ _ _ h => h) (Or.inl ⟨by kernel_rfl, ?_⟩) hS ?_
    · intro w' hSw
      obtain ⟨s0, s1, s2, s3, s4, s5, s6, s7, s8, s9, s10, s11⟩ := hSw
      go_simp
    try simp only [Act.put, List.getElem_toArray, List.getElem_cons_succ, List.getElem_cons_zero, List.setIfInBounds_toArray, List.set_cons_zero, List.set_cons_succ]
    refine wpAnyH_done (by kernel_rfl) ?_ _
    try simp only [List.setIfInBounds_toArray]
    try simp only [List.getElem_toArray, List.getElem_cons_succ, List.getElem_cons_zero, List.setIfInBounds_toArray, List.set_cons_zero, List.set_cons_succ]
    have HBF := Lib.hid (HB.out.trans (hbd.mono HB.out.size))
    clear hS HKS hbd
    go_wp2_with fail
    go_ret
    exact ⟨rfl, HBF.out⟩
  · refine wpAnyH_take (i := 0) (v := .bool true) rfl (by kernel_rfl) (by kernel_rfl) (by kernel_rfl) (fun _ _ _ h => h) (Or.inl ⟨by kernel_rfl, ?_⟩) hS ?_
    · intro w' hSw
      obtain ⟨s0, s1, s2, s3, s4, s5, s6, s7, s8, s9, s10, s11⟩ := hSw
      go_simp
    try simp only [Act.put, List.getElem_toArray, List.getElem_cons_zero, List.setIfInBounds_toArray, List.set_cons_zero, List.set_cons_succ]
    refine wpAnyH_take (i := 1) (v := .bool false) rfl (by kernel_rfl) (by kernel_rfl) (by kernel_rfl) (fun _ _ _ h => h) (Or.inl ⟨by kernel_rfl, ?_⟩) hS ?_
    · intro w' hSw
      obtain ⟨s0, s1, s2, s3, s4, s5, s6, s7, s8, s9, s10, s11⟩ := hSw
      go_simp
    try simp only [Act.put, List.getElem_toArray, List.getElem_cons_succ, List.getElem_cons_zero, List.setIfInBounds_toArray, List.set_cons_zero, List.set_cons_succ]
    refine wpAnyH_take (i := 2) (v := .bool false) rfl (by kernel_rfl) (by kernel_rfl) (by kernel_rfl) (fun _ _ _ h => h) (Or.inl ⟨by kernel_rfl, ?_⟩) hS ?_
    · intro w' hSw
      obtain ⟨s0, s1, s2, s3, s4, s5, s6, s7, s8, s9, s10, s11⟩ := hSw
      go_simp
    try simp only [Act.put, List.getElem_toArray, List.getElem_cons_succ, List.getElem_cons_zero, List.setIfInBounds_toArray, List.set_cons_zero, List.set_cons_succ]
    refine wpAnyH_take (i := 3) (v := .slice As ns cs) rfl (by kernel_rfl) (by kernel_rfl) (by kernel_rfl) (fun _ _ _ h => h) (Or.inl ⟨by kernel_rfl, ?_⟩) hS ?_
    · intro w' hSw
      obtain ⟨s0, s1, s2, s3, s4, s5, s6, s7, s8, s9, s10, s11⟩ := hSw
      go_simp
    try simp only [Act.put, List.getElem_toArray, List.getElem_cons_succ, List.getElem_cons_zero, List.setIfInBounds_toArray, List.set_cons_zero, List.set_cons_succ]
    refine wpAnyH_take (i := 4) (v := .slice (some ⟨bc, o, none⟩) nc cc) rfl (by kernel_rfl) (by kernel_rfl) (by kernel_rfl) (fun _ _ _ h => h) (Or.inl ⟨by kernel_rfl, ?_⟩) hS ?_
    · intro w' hSw
      obtain ⟨s0, s1, s2, s3, s4, s5, s6, s7, s8, s9, s10, s11⟩ := hSw
      go_simp
    try simp only [Act.put, List.getElem_toArray, List.getElem_cons_succ, List.getElem_cons_zero, List.setIfInBounds_toArray, List.set_cons_zero, List.set_cons_succ]
    refine wpAnyH_take (i := 5) (v := .agg #[.int .i64 kq, .int .i64 hq, .slice Aq nq cq]) rfl (by kernel_rfl) (by kernel_rfl) (by kernel_rfl) (fun _ _ _ h => h) (Or.inl ⟨by kernel_rfl, ?_⟩) hS ?_
    · intro w' hSw
      obtain ⟨s0, s1, s2, s3, s4, s5, s6, s7, s8, s9, s10, s11⟩ := hSw
      go_simp
    try simp only [Act.put, List.getElem_toArray, List.getElem_cons_succ, List.getElem_cons_zero, List.setIfInBounds_toArray, List.set_cons_zero, List.set_cons_succ]
    refine wpAnyH_ready (rs := [6]) (by kernel_rfl) (by simp) ?_
    refine AllReadyH.cons rfl (fun KN hK => ?_) AllReadyH.nil
    refine ite_ofZ (by kernel_rfl) ?_
    go_simp
    refine (HCT.out _ hbd).mono ?_
    rintro e v1 ⟨rfl, hb6⟩
    replace hbd : Below w6.heap.size w6 v1 := hbd.trans (hb6.mono hbd.size)
    clear hb6
    refine hK.out _ _ (HKS.out _ hbd) (fun hS => ?_)
    clear hK KN
    try simp only [Act.put, List.getElem_toArray, List.getElem_cons_succ, List.getElem_cons_zero, List.setIfInBounds_toArray, List.set_cons_zero, List.set_cons_succ]
    by_cases hz : eT ≠ 0
    · have dz : (eT != 0) = true := by simpa using hz
      refine wpAnyH_take (i := 7) (v := .bool true) rfl (by kernel_rfl) (by kernel_rfl) (by kernel_rfl) (fun _ _ _ h => h) (Or.inl ⟨by kernel_rfl, ?_⟩) hS ?_
      · intro w' hSw
        obtain ⟨s0, s1, s2, s3, s4, s5, s6, s7, s8, s9, s10, s11⟩ := hSw
        go_simp
      try simp only [Act.put, List.getElem_toArray, List.getElem_cons_succ, List.getElem_cons_zero, List.setIfInBounds_toArray, List.set_cons_zero, List.set_cons_succ]
      clear dz
      refine wpAnyH_take (i := 8) (v := .bool true) rfl (by kernel_rfl) (by kernel_rfl) (by kernel_rfl) (fun _ _ _ h => h) (Or.inl ⟨by kernel_rfl, ?_⟩) hS ?_
      · intro w' hSw
        obtain ⟨s0, s1, s2, s3, s4, s5, s6, s7, s8, s9, s10, s11⟩ := hSw
        go_simp
      try simp only [Act.put, List.getElem_toArray, List.getElem_cons_succ, List.getElem_cons_zero, List.setIfInBounds_toArray, List.set_cons_zero, List.set_cons_succ]
      refine wpAnyH_take (i := 9) (v := .bool true) rfl (by kernel_rfl) (by kernel_rfl) (by kernel_rfl) (fun _ _ _ h => h) (Or.inl ⟨by kernel_rfl, ?_⟩) hS ?_
      · intro w' hSw
        obtain ⟨s0, s1, s2, s3, s4, s5, s6, s7, s8, s9, s10, s11⟩ := hSw
        go_simp
      try simp only [Act.put, List.getElem_toArray, List.getElem_cons_succ, List.getElem_cons_zero, List.setIfInBounds_toArray, List.set_cons_zero, List.set_cons_succ]
      refine wpAnyH_take (i := 10) (v := undef) rfl (by kernel_rfl) (by kernel_rfl) (by kernel_rfl) (fun _ _ _ h => h) (Or.inr ⟨by kernel_rfl, rfl⟩) hS ?_
      try simp only [Act.put, List.getElem_toArray, List.getElem_cons_succ, List.getElem_cons_zero, List.setIfInBounds_toArray, List.set_cons_zero, List.set_cons_succ]
      refine wpAnyH_take (i := 11) (v := undef) rfl (by kernel_rfl) (by kernel_rfl) (by kernel_rfl) (fun _ _ _ h => h) (Or.inr ⟨by kernel_rfl, rfl⟩) hS ?_
      try simp only [Act.put, List.getElem_toArray, List.getElem_cons_succ, List.getElem_cons_zero, List.setIfInBounds_toArray, List.set_cons_zero, List.set_cons_succ]
      refine wpAnyH_take (i := 12) (v := undef) rfl (by kernel_rfl) (by kernel_rfl) (by kernel_rfl) (fun _ _ _ h => h) (Or.inr ⟨by kernel_rfl, rfl⟩) hS ?_
      try simp only [Act.put, List.getElem_toArray, List.getElem_cons_succ, List.getElem_cons_zero, List.setIfInBounds_toArray, List.set_cons_zero, List.set_cons_succ]
      refine wpAnyH_take (i := 13) (v := undef) rfl (by kernel_rfl) (by kernel_rfl) (by kernel_rfl) (fun _ _ _ h => h) (Or.inr ⟨by kernel_rfl, rfl⟩) hS ?_
      try simp only [Act.put, List.getElem_toArray, List.getElem_cons_succ, List.getElem_cons_zero, List.setIfInBounds_toArray, List.set_cons_zero, List.set_cons_succ]
      refine wpAnyH_take (i := 14) (v := undef) rfl (by kernel_rfl) (by kernel_rfl) (by kernel_rfl) (fun _ _ _ h => h) (Or.inr ⟨by kernel_rfl, rfl⟩) hS ?_
      try simp only [Act.put, List.getElem_toArray, List.getElem_cons_succ, List.getElem_cons_zero, List.setIfInBounds_toArray, List.set_cons_zero, List.set_cons_succ]
      refine wpAnyH_take (i := 15) (v := undef) rfl (by kernel_rfl) (by kernel_rfl) (by kernel_rfl) (fun _ _ _ h => h) (Or.inr ⟨by kernel_rfl, rfl⟩) hS ?_
      try simp only [Act.put, List.getElem_toArray, List.getElem_cons_succ, List.getElem_cons_zero, List.setIfInBounds_toArray, List.set_cons_zero, List.set_cons_succ]
      refine wpAnyH_take (i := 16) (v := .bool true) rfl (by kernel_rfl) (by kernel_rfl) (by kernel_rfl) (fun _ _ _ h => h) (Or.inl ⟨by kernel_rfl, ?_⟩) hS ?_
      · intro w' hSw
        obtain ⟨s0, s1, s2, s3, s4, s5, s6, s7, s8, s9, s10, s11⟩ := hSw
        go_simp
      try simp only [Act.put, List.getElem_toArray, List.getElem_cons_succ, List.getElem_cons_zero, List.setIfInBounds_toArray, List.set_cons_zero, List.set_cons_succ]
      refine wpAnyH_take (i := 17) (v := .bool true) rfl (by kernel_rfl) (by kernel_rfl) (by kernel_rfl) (fun _ _ _ h => h) (Or.inl ⟨by kernel_rfl, ?_⟩) hS ?_
      · intro w' hSw
        obtain ⟨s0, s1, s2, s3, s4, s5, s6, s7, s8, s9, s10, s11⟩ := hSw
        go_simp
      try simp only [Act.put, List.getElem_toArray, List.getElem_cons_succ, List.getElem_cons_zero, List.setIfInBounds_toArray, List.set_cons_zero, List.set_cons_succ]
      refine wpAnyH_take (i := 18) (v := undef) rfl (by kernel_rfl) (by kernel_rfl) (by kernel_rfl) (fun _ _ _ h => h) (Or.inr ⟨by kernel_rfl, rfl⟩) hS ?_
      try simp only [Act.put, List.getElem_toArray, List.getElem_cons_succ, List.getElem_cons_zero, List.setIfInBounds_toArray, List.set_cons_zero, List.set_cons_succ]
      refine wpAnyH_take (i := 19) (v := undef) rfl (by kernel_rfl) (by kernel_rfl) (by kernel_rfl) (fun _ _ _ h => h) (Or.inr ⟨by kernel_rfl, rfl⟩) hS ?_
      try simp only [Act.put, List.getElem_toArray, List.getElem_cons_succ, List.getElem_cons_zero, List.setIfInBounds_toArray, List.set_cons_zero, List.set_cons_succ]
      refine wpAnyH_take (i := 20) (v := undef) rfl (by kernel_rfl) (by kernel_rfl) (by kernel_rfl) (fun _ _ _ h => h) (Or.inr ⟨by kernel_rfl, rfl⟩) hS ?_
      try simp only [Act.put, List.getElem_toArray, List.getElem_cons_succ, List.getElem_cons_zero, List.setIfInBounds_toArray, List.set_cons_zero, List.set_cons_succ]
      refine wpAnyH_take (i := 21) (v := undef) rfl (by kernel_rfl) (by kernel_rfl) (by kernel_rfl) (fun _ _ _ h => h) (Or.inr ⟨by kernel_rfl, rfl⟩) hS ?_
      try simp only [Act.put, List.getElem_toArray, List.getElem_cons_succ, List.getElem_cons_zero, List.setIfInBounds_toArray, List.set_cons_zero, List.set_cons_succ]
      refine wpAnyH_take (i := 22) (v := undef) rfl (by kernel_rfl) (by kernel_rfl) (by kernel_rfl) (fun _ _ _ h => h) (Or.inr ⟨by kernel_rfl, rfl⟩) hS ?_
      try simp only [Act.put, List.getElem_toArray, List.getElem_cons_succ, List.getElem_cons_zero, List.setIfInBounds_toArray, List.set_cons_zero, List.set_cons_succ]
      refine wpAnyH_take (i := 23) (v := undef) rfl (by kernel_rfl) (by kernel_rfl) (by kernel_rfl) (fun _ _ _ h => h) (Or.inr ⟨by kernel_rfl, rfl⟩) hS ?_
      try simp only [Act.put, List.getElem_toArray, List.getElem_cons_succ, List.getElem_cons_zero, List.setIfInBounds_toArray, List.set_cons_zero, List.set_cons_succ]
      refine wpAnyH_take (i := 24) (v := undef) rfl (by kernel_rfl) (by kernel_rfl) (by kernel_rfl) (fun _ _ _ h => h) (Or.inr ⟨by kernel_rfl, rfl⟩) hS ?_
      try simp only [Act.put, List.getElem_toArray, List.getElem_cons_succ, List.getElem_cons_zero, List.setIfInBounds_toArray, List.set_cons_zero, List.set_cons_succ]
      refine wpAnyH_take (i := 25) (v := undef) rfl (by kernel_rfl) (by kernel_rfl) (by kernel_rfl) (fun _ _ _ h => h) (Or.inr ⟨by kernel_rfl, rfl⟩) hS ?_
      try simp only [Act.put, List.getElem_toArray, List.getElem_cons_succ, List.getElem_cons_zero, List.setIfInBounds_toArray, List.set_cons_zero, List.set_cons_succ]
      refine wpAnyH_take (i := 26) (v := undef) rfl (by kernel_rfl) (by kernel_rfl) (by kernel_rfl) (fun _ _ _ h => h) (Or.inr ⟨by kernel_rfl, rfl⟩) hS ?_
      try simp only [Act.put, List.getElem_toArray, List.getElem_cons_succ, List.getElem_cons_zero, List.setIfInBounds_toArray, List.set_cons_zero, List.set_cons_succ]
      refine wpAnyH_take (i := 27) (v := undef) rfl (by kernel_rfl) (by kernel_rfl) (by kernel_rfl) (fun _ _ _ h => h) (Or.inr ⟨by kernel_rfl, rfl⟩) hS ?_
      try simp only [Act.put, List.getElem_toArray, List.getElem_cons_succ, List.getElem_cons_zero, List.setIfInBounds_toArray, List.set_cons_zero, List.set_cons_succ]
      refine wpAnyH_take (i := 28) (v := undef) rfl (by kernel_rfl) (by kernel_rfl) (by kernel_rfl) (fun _ _ _ h => h) (Or.inr ⟨by kernel_rfl, rfl⟩) hS ?_
      try simp only [Act.put, List.getElem_toArray, List.getElem_cons_succ, List.getElem_cons_zero, List.setIfInBounds_toArray, List.set_cons_zero, List.set_cons_succ]
      refine wpAnyH_take (i := 29) (v := .bool true) rfl (by kernel_rfl) (by kernel_rfl) (by kernel_rfl) (fun _ _ _ h => h) (Or.inl ⟨by kernel_rfl, ?_⟩) hS ?_
      · intro w' hSw
        obtain ⟨s0, s1, s2, s3, s4, s5, s6, s7, s8, s9, s10, s11⟩ := hSw
        go_simp
      try simp only [Act.put, List.getElem_toArray, List.getElem_cons_succ, List.getElem_cons_zero, List.setIfInBounds_toArray, List.set_cons_zero, List.set_cons_succ]
      refine wpAnyH_done (by kernel_rfl) ?_ _
      try simp only [List.setIfInBounds_toArray]
      try simp only [List.getElem_toArray, List.getElem_cons_succ, List.getElem_cons_zero, List.setIfInBounds_toArray, List.set_cons_zero, List.set_cons_succ]
      have HBF := Lib.hid (HB.out.trans (hbd.mono HB.out.size))
      clear hS HKS hbd
      go_wp2_with fail
      go_ret
      exact ⟨rfl, HBF.out⟩
    · replace hz : eT = 0 := Decidable.not_not.1 hz
      subst hz
      have dz : ((0 : Int) != 0) = false := by decide
      refine wpAnyH_take (i := 7) (v := .bool false) rfl (by kernel_rfl) (by kernel_rfl) (by kernel_rfl) (fun _ _ _ h => h) (Or.inl ⟨by kernel_rfl, ?_⟩) hS ?_
      · intro w' hSw
        obtain ⟨s0, s1, s2, s3, s4, s5, s6, s7, s8, s9, s10, s11⟩ := hSw
        go_simp
      try simp only [Act.put, List.getElem_toArray, List.getElem_cons_succ, List.getElem_cons_zero, List.setIfInBounds_toArray, List.set_cons_zero, List.set_cons_succ]
      clear dz
      refine wpAnyH_take (i := 8) (v := .bool false) rfl (by kernel_rfl) (by kernel_rfl) (by kernel_rfl) (fun _ _ _ h => h) (Or.inl ⟨by kernel_rfl, ?_⟩) hS ?_
      · intro w' hSw
        obtain ⟨s0, s1, s2, s3, s4, s5, s6, s7, s8, s9, s10, s11⟩ := hSw
        go_simp
      try simp only [Act.put, List.getElem_toArray, List.getElem_cons_succ, List.getElem_cons_zero, List.setIfInBounds_toArray, List.set_cons_zero, List.set_cons_succ]
      refine wpAnyH_take (i := 9) (v := .bool false) rfl (by kernel_rfl) (by kernel_rfl) (by kernel_rfl) (fun _ _ _ h => h) (Or.inl ⟨by kernel_rfl, ?_⟩) hS ?_
      · intro w' hSw
        obtain ⟨s0, s1, s2, s3, s4, s5, s6, s7, s8, s9, s10, s11⟩ := hSw
        go_simp
      try simp only [Act.put, List.getElem_toArray, List.getElem_cons_succ, List.getElem_cons_zero, List.setIfInBounds_toArray, List.set_cons_zero, List.set_cons_succ]
      refine wpAnyH_take (i := 10) (v := .slice As ns cs) rfl (by kernel_rfl) (by kernel_rfl) (by kernel_rfl) (fun _ _ _ h => h) (Or.inl ⟨by kernel_rfl, ?_⟩) hS ?_
      · intro w' hSw
        obtain ⟨s0, s1, s2, s3, s4, s5, s6, s7, s8, s9, s10, s11⟩ := hSw
        go_simp
      try simp only [Act.put, List.getElem_toArray, List.getElem_cons_succ, List.getElem_cons_zero, List.setIfInBounds_toArray, List.set_cons_zero, List.set_cons_succ]
      refine wpAnyH_take (i := 11) (v := .slice (some ⟨bc, o, none⟩) nc cc) rfl (by kernel_rfl) (by kernel_rfl) (by kernel_rfl) (fun _ _ _ h => h) (Or.inl ⟨by kernel_rfl, ?_⟩) hS ?_
      · intro w' hSw
        obtain ⟨s0, s1, s2, s3, s4, s5, s6, s7, s8, s9, s10, s11⟩ := hSw
        go_simp
      try simp only [Act.put, List.getElem_toArray, List.getElem_cons_succ, List.getElem_cons_zero, List.setIfInBounds_toArray, List.set_cons_zero, List.set_cons_succ]
      refine wpAnyH_take (i := 12) (v := .agg #[.int .i64 kp, .int .i64 hp, .slice Ap np cp]) rfl (by kernel_rfl) (by kernel_rfl) (by kernel_rfl) (fun _ _ _ h => h) (Or.inl ⟨by kernel_rfl, ?_⟩) hS ?_
      · intro w' hSw
        obtain ⟨s0, s1, s2, s3, s4, s5, s6, s7, s8, s9, s10, s11⟩ := hSw
        go_simp
      try simp only [Act.put, List.getElem_toArray, List.getElem_cons_succ, List.getElem_cons_zero, List.setIfInBounds_toArray, List.set_cons_zero, List.set_cons_succ]
      refine wpAnyH_take (i := 13) (v := .agg #[.int .i64 kq, .int .i64 hq, .slice Aq nq cq]) rfl (by kernel_rfl) (by kernel_rfl) (by kernel_rfl) (fun _ _ _ h => h) (Or.inl ⟨by kernel_rfl, ?_⟩) hS ?_
      · intro w' hSw
        obtain ⟨s0, s1, s2, s3, s4, s5, s6, s7, s8, s9, s10, s11⟩ := hSw
        go_simp
      try simp only [Act.put, List.getElem_toArray, List.getElem_cons_succ, List.getElem_cons_zero, List.setIfInBounds_toArray, List.set_cons_zero, List.set_cons_succ]
      refine wpAnyH_ready (rs := [14]) (by kernel_rfl) (by simp) ?_
      refine AllReadyH.cons rfl (fun KN hK => ?_) AllReadyH.nil
      refine ite_ofZ (by kernel_rfl) ?_
      go_simp
      refine (HCM2.out _ hbd).mono ?_
      rintro e v2 ⟨rfl, hb6⟩
      replace hbd : Below w6.heap.size w6 v2 := hbd.trans (hb6.mono hbd.size)
      clear hb6
      refine hK.out _ _ (HKS.out _ hbd) (fun hS => ?_)
      clear hK KN
      try simp only [Act.put, List.getElem_toArray, List.getElem_cons_succ, List.getElem_cons_zero, List.setIfInBounds_toArray, List.set_cons_zero, List.set_cons_succ]
      by_cases hz : eM ≠ 0
      · have dz : (eM != 0) = true := by simpa using hz
        refine wpAnyH_take (i := 15) (v := .bool true) rfl (by kernel_rfl) (by kernel_rfl) (by kernel_rfl) (fun _ _ _ h => h) (Or.inl ⟨by kernel_rfl, ?_⟩) hS ?_
        · intro w' hSw
          obtain ⟨s0, s1, s2, s3, s4, s5, s6, s7, s8, s9, s10, s11⟩ := hSw
          go_simp
        try simp only [Act.put, List.getElem_toArray, List.getElem_cons_succ, List.getElem_cons_zero, List.setIfInBounds_toArray, List.set_cons_zero, List.set_cons_succ]
        clear dz
        refine wpAnyH_take (i := 16) (v := .bool true) rfl (by kernel_rfl) (by kernel_rfl) (by kernel_rfl) (fun _ _ _ h => h) (Or.inl ⟨by kernel_rfl, ?_⟩) hS ?_
        · intro w' hSw
          obtain ⟨s0, s1, s2, s3, s4, s5, s6, s7, s8, s9, s10, s11⟩ := hSw
          go_simp
        try simp only [Act.put, List.getElem_toArray, List.getElem_cons_succ, List.getElem_cons_zero, List.setIfInBounds_toArray, List.set_cons_zero, List.set_cons_succ]
        refine wpAnyH_take (i := 17) (v := .bool true) rfl (by kernel_rfl) (by kernel_rfl) (by kernel_rfl) (fun _ _ _ h => h) (Or.inl ⟨by kernel_rfl, ?_⟩) hS ?_
        · intro w' hSw
          obtain ⟨s0, s1, s2, s3, s4, s5, s6, s7, s8, s9, s10, s11⟩ := hSw
          go_simp
        try simp only [Act.put, List.getElem_toArray, List.getElem_cons_succ, List.getElem_cons_zero, List.setIfInBounds_toArray, List.set_cons_zero, List.set_cons_succ]
        refine wpAnyH_take (i := 18) (v := undef) rfl (by kernel_rfl) (by kernel_rfl) (by kernel_rfl) (fun _ _ _ h => h) (Or.inr ⟨by kernel_rfl, rfl⟩) hS ?_
        try simp only [Act.put, List.getElem_toArray, List.getElem_cons_succ, List.getElem_cons_zero, List.setIfInBounds_toArray, List.set_cons_zero, List.set_cons_succ]
        refine wpAnyH_take (i := 19) (v := undef) rfl (by kernel_rfl) (by kernel_rfl) (by kernel_rfl) (fun _ _ _ h => h) (Or.inr ⟨by kernel_rfl, rfl⟩) hS ?_
        try simp only [Act.put, List.getElem_toArray, List.getElem_cons_succ, List.getElem_cons_zero, List.setIfInBounds_toArray, List.set_cons_zero, List.set_cons_succ]
        refine wpAnyH_take (i := 20) (v := undef) rfl (by kernel_rfl) (by kernel_rfl) (by kernel_rfl) (fun _ _ _ h => h) (Or.inr ⟨by kernel_rfl, rfl⟩) hS ?_
        try simp only [Act.put, List.getElem_toArray, List.getElem_cons_succ, List.getElem_cons_zero, List.setIfInBounds_toArray, List.set_cons_zero, List.set_cons_succ]
        refine wpAnyH_take (i := 21) (v := undef) rfl (by kernel_rfl) (by kernel_rfl) (by kernel_rfl) (fun _ _ _ h => h) (Or.inr ⟨by kernel_rfl, rfl⟩) hS ?_
        try simp only [Act.put, List.getElem_toArray, List.getElem_cons_succ, List.getElem_cons_zero, List.setIfInBounds_toArray, List.set_cons_zero, List.set_cons_succ]
        refine wpAnyH_take (i := 22) (v := undef) rfl (by kernel_rfl) (by kernel_rfl) (by kernel_rfl) (fun _ _ _ h => h) (Or.inr ⟨by kernel_rfl, rfl⟩) hS ?_
        try simp only [Act.put, List.getElem_toArray, List.getElem_cons_succ, List.getElem_cons_zero, List.setIfInBounds_toArray, List.set_cons_zero, List.set_cons_succ]
        refine wpAnyH_take (i := 23) (v := undef) rfl (by kernel_rfl) (by kernel_rfl) (by kernel_rfl) (fun _ _ _ h => h) (Or.inr ⟨by kernel_rfl, rfl⟩) hS ?_
        try simp only [Act.put, List.getElem_toArray, List.getElem_cons_succ, List.getElem_cons_zero, List.setIfInBounds_toArray, List.set_cons_zero, List.set_cons_succ]
        refine wpAnyH_take (i := 24) (v := undef) rfl (by kernel_rfl) (by kernel_rfl) (by kernel_rfl) (fun _ _ _ h => h) (Or.inr ⟨by kernel_rfl, rfl⟩) hS ?_
        try simp only [Act.put, List.getElem_toArray, List.getElem_cons_succ, List.getElem_cons_zero, List.setIfInBounds_toArray, List.set_cons_zero, List.set_cons_succ]
        refine wpAnyH_take (i := 25) (v := undef) rfl (by kernel_rfl) (by kernel_rfl) (by kernel_rfl) (fun _ _ _ h => h) (Or.inr ⟨by kernel_rfl, rfl⟩) hS ?_
        try simp only [Act.put, List.getElem_toArray, List.getElem_cons_succ, List.getElem_cons_zero, List.setIfInBounds_toArray, List.set_cons_zero, List.set_cons_succ]
        refine wpAnyH_take (i := 26) (v := undef) rfl (by kernel_rfl) (by kernel_rfl) (by kernel_rfl) (fun _ _ _ h => h) (Or.inr ⟨by kernel_rfl, rfl⟩) hS ?_
        try simp only [Act.put, List.getElem_toArray, List.getElem_cons_succ, List.getElem_cons_zero, List.setIfInBounds_toArray, List.set_cons_zero, List.set_cons_succ]
        refine wpAnyH_take (i := 27) (v := undef) rfl (by kernel_rfl) (by kernel_rfl) (by kernel_rfl) (fun _ _ _ h => h) (Or.inr ⟨by kernel_rfl, rfl⟩) hS ?_
        try simp only [Act.put, List.getElem_toArray, List.getElem_cons_succ, List.getElem_cons_zero, List.setIfInBounds_toArray, List.set_cons_zero, List.set_cons_succ]
        refine wpAnyH_take (i := 28) (v := undef) rfl (by kernel_rfl) (by kernel_rfl) (by kernel_rfl) (fun _ _ _ h => h) (Or.inr ⟨by kernel_rfl, rfl⟩) hS ?_
        try simp only [Act.put, List.getElem_toArray, List.getElem_cons_succ, List.getElem_cons_zero, List.setIfInBounds_toArray, List.set_cons_zero, List.set_cons_succ]
        refine wpAnyH_take (i := 29) (v := .bool true) rfl (by kernel_rfl) (by kernel_rfl) (by kernel_rfl) (fun _ _ _ h => h) (Or.inl ⟨by kernel_rfl, ?_⟩) hS ?_
        · intro w' hSw
          obtain ⟨s0, s1, s2, s3, s4, s5, s6, s7, s8, s9, s10, s11⟩ := hSw
          go_simp
        try simp only [Act.put, List.getElem_toArray, List.getElem_cons_succ, List.getElem_cons_zero, List.setIfInBounds_toArray, List.set_cons_zero, List.set_cons_succ]
        refine wpAnyH_done (by kernel_rfl) ?_ _
        try simp only [List.setIfInBounds_toArray]
        try simp only [List.getElem_toArray, List.getElem_cons_succ, List.getElem_cons_zero, List.setIfInBounds_toArray, List.set_cons_zero, List.set_cons_succ]
        have HBF := Lib.hid (HB.out.trans (hbd.mono HB.out.size))
        clear hS HKS hbd
        go_wp2_with fail
        go_ret
        exact ⟨rfl, HBF.out⟩
      · replace hz : eM = 0 := Decidable.not_not.1 hz
        subst hz
        have dz : ((0 : Int) != 0) = false := by decide
        refine wpAnyH_take (i := 15) (v := .bool false) rfl (by kernel_rfl) (by kernel_rfl) (by kernel_rfl) (fun _ _ _ h => h) (Or.inl ⟨by kernel_rfl, ?_⟩) hS ?_
        · intro w' hSw
          obtain ⟨s0, s1, s2, s3, s4, s5, s6, s7, s8, s9, s10, s11⟩ := hSw
          go_simp
        try simp only [Act.put, List.getElem_toArray, List.getElem_cons_succ, List.getElem_cons_zero, List.setIfInBounds_toArray, List.set_cons_zero, List.set_cons_succ]
        clear dz
        refine wpAnyH_take (i := 16) (v := .bool false) rfl (by kernel_rfl) (by kernel_rfl) (by kernel_rfl) (fun _ _ _ h => h) (Or.inl ⟨by kernel_rfl, ?_⟩) hS ?_
        · intro w' hSw
          obtain ⟨s0, s1, s2, s3, s4, s5, s6, s7, s8, s9, s10, s11⟩ := hSw
          go_simp
        try simp only [Act.put, List.getElem_toArray, List.getElem_cons_succ, List.getElem_cons_zero, List.setIfInBounds_toArray, List.set_cons_zero, List.set_cons_succ]
        refine wpAnyH_take (i := 17) (v := .bool false) rfl (by kernel_rfl) (by kernel_rfl) (by kernel_rfl) (fun _ _ _ h => h) (Or.inl ⟨by kernel_rfl, ?_⟩) hS ?_
        · intro w' hSw
          obtain ⟨s0, s1, s2, s3, s4, s5, s6, s7, s8, s9, s10, s11⟩ := hSw
          go_simp
        try simp only [Act.put, List.getElem_toArray, List.getElem_cons_succ, List.getElem_cons_zero, List.setIfInBounds_toArray, List.set_cons_zero, List.set_cons_succ]
        refine wpAnyH_take (i := 18) (v := .slice As ns cs) rfl (by kernel_rfl) (by kernel_rfl) (by kernel_rfl) (fun _ _ _ h => h) (Or.inl ⟨by kernel_rfl, ?_⟩) hS ?_
        · intro w' hSw
          obtain ⟨s0, s1, s2, s3, s4, s5, s6, s7, s8, s9, s10, s11⟩ := hSw
          go_simp
        try simp only [Act.put, List.getElem_toArray, List.getElem_cons_succ, List.getElem_cons_zero, List.setIfInBounds_toArray, List.set_cons_zero, List.set_cons_succ]
        refine wpAnyH_take (i := 19) (v := .slice (some ⟨bc, o, none⟩) nc cc) rfl (by kernel_rfl) (by kernel_rfl) (by kernel_rfl) (fun _ _ _ h => h) (Or.inl ⟨by kernel_rfl, ?_⟩) hS ?_
        · intro w' hSw
          obtain ⟨s0, s1, s2, s3, s4, s5, s6, s7, s8, s9, s10, s11⟩ := hSw
          go_simp
        try simp only [Act.put, List.getElem_toArray, List.getElem_cons_succ, List.getElem_cons_zero, List.setIfInBounds_toArray, List.set_cons_zero, List.set_cons_succ]
        refine wpAnyH_take (i := 20) (v := .int .i64 q) rfl (by kernel_rfl) (by kernel_rfl) (by kernel_rfl) (fun _ _ _ h => h) (Or.inl ⟨by kernel_rfl, ?_⟩) hS ?_
        · intro w' hSw
          obtain ⟨s0, s1, s2, s3, s4, s5, s6, s7, s8, s9, s10, s11⟩ := hSw
          go_simp
        try simp only [Act.put, List.getElem_toArray, List.getElem_cons_succ, List.getElem_cons_zero, List.setIfInBounds_toArray, List.set_cons_zero, List.set_cons_succ]
        refine wpAnyH_take (i := 21) (v := .slice (some ⟨bc, o, none⟩) q cc) rfl (by kernel_rfl) (by kernel_rfl) (by kernel_rfl) (fun _ _ _ h => h) (Or.inl ⟨by kernel_rfl, ?_⟩) hS ?_
        · intro w' hSw
          obtain ⟨s0, s1, s2, s3, s4, s5, s6, s7, s8, s9, s10, s11⟩ := hSw
          go_simp
        try simp only [Act.put, List.getElem_toArray, List.getElem_cons_succ, List.getElem_cons_zero, List.setIfInBounds_toArray, List.set_cons_zero, List.set_cons_succ]
        refine wpAnyH_take (i := 22) (v := .agg #[.int .i64 kn, .int .i64 hn, .slice An nn cn]) rfl (by kernel_rfl) (by kernel_rfl) (by kernel_rfl) (fun _ _ _ h => h) (Or.inl ⟨by kernel_rfl, ?_⟩) hS ?_
        · intro w' hSw
          obtain ⟨s0, s1, s2, s3, s4, s5, s6, s7, s8, s9, s10, s11⟩ := hSw
          go_simp
        try simp only [Act.put, List.getElem_toArray, List.getElem_cons_succ, List.getElem_cons_zero, List.setIfInBounds_toArray, List.set_cons_zero, List.set_cons_succ]
        refine wpAnyH_take (i := 23) (v := .slice (some ⟨bc, o, none⟩) nc cc) rfl (by kernel_rfl) (by kernel_rfl) (by kernel_rfl) (fun _ _ _ h => h) (Or.inl ⟨by kernel_rfl, ?_⟩) hS ?_
        · intro w' hSw
          obtain ⟨s0, s1, s2, s3, s4, s5, s6, s7, s8, s9, s10, s11⟩ := hSw
          go_simp
        try simp only [Act.put, List.getElem_toArray, List.getElem_cons_succ, List.getElem_cons_zero, List.setIfInBounds_toArray, List.set_cons_zero, List.set_cons_succ]
        refine wpAnyH_take (i := 24) (v := .int .i64 q) rfl (by kernel_rfl) (by kernel_rfl) (by kernel_rfl) (fun _ _ _ h => h) (Or.inl ⟨by kernel_rfl, ?_⟩) hS ?_
        · intro w' hSw
          obtain ⟨s0, s1, s2, s3, s4, s5, s6, s7, s8, s9, s10, s11⟩ := hSw
          go_simp
        try simp only [Act.put, List.getElem_toArray, List.getElem_cons_succ, List.getElem_cons_zero, List.setIfInBounds_toArray, List.set_cons_zero, List.set_cons_succ]
        refine wpAnyH_take (i := 25) (v := .pointer (some ⟨bc, o + q * 3, none⟩)) rfl (by kernel_rfl) (by kernel_rfl) (by kernel_rfl) (fun _ _ _ h => h) (Or.inl ⟨by kernel_rfl, ?_⟩) hS ?_
        · intro w' hSw
          obtain ⟨s0, s1, s2, s3, s4, s5, s6, s7, s8, s9, s10, s11⟩ := hSw
          go_simp
        try simp only [Act.put, List.getElem_toArray, List.getElem_cons_succ, List.getElem_cons_zero, List.setIfInBounds_toArray, List.set_cons_zero, List.set_cons_succ]
        refine wpAnyH_take (i := 26) (v := .agg #[.int .i64 kc, .int .i64 hhc, .slice A2 n2 c2]) rfl (by kernel_rfl) (by kernel_rfl) (by kernel_rfl) (fun _ _ _ h => h) (Or.inl ⟨by kernel_rfl, ?_⟩) hS ?_
        · intro w' hSw
          obtain ⟨s0, s1, s2, s3, s4, s5, s6, s7, s8, s9, s10, s11⟩ := hSw
          go_simp
        try simp only [Act.put, List.getElem_toArray, List.getElem_cons_succ, List.getElem_cons_zero, List.setIfInBounds_toArray, List.set_cons_zero, List.set_cons_succ]
        refine wpAnyH_ready (rs := [27]) (by kernel_rfl) (by simp) ?_
        refine AllReadyH.cons rfl (fun KN hK => ?_) AllReadyH.nil
        refine ite_ofZ (by kernel_rfl) ?_
        go_simp
        refine (HCN.out _ hbd).mono ?_
        rintro e v3 ⟨rfl, hb6⟩
        replace hbd : Below w6.heap.size w6 v3 := hbd.trans (hb6.mono hbd.size)
        clear hb6
        refine hK.out _ _ (HKS.out _ hbd) (fun hS => ?_)
        clear hK KN
        try simp only [Act.put, List.getElem_toArray, List.getElem_cons_succ, List.getElem_cons_zero, List.setIfInBounds_toArray, List.set_cons_zero, List.set_cons_succ]
        by_cases hz : eN ≠ 0
        · have dz : (eN != 0) = true := by simpa using hz
          refine wpAnyH_take (i := 28) (v := .bool true) rfl (by kernel_rfl) (by kernel_rfl) (by kernel_rfl) (fun _ _ _ h => h) (Or.inl ⟨by kernel_rfl, ?_⟩) hS ?_
          · intro w' hSw
            obtain ⟨s0, s1, s2, s3, s4, s5, s6, s7, s8, s9, s10, s11⟩ := hSw
            go_simp
          try simp only [Act.put, List.getElem_toArray, List.getElem_cons_succ, List.getElem_cons_zero, List.setIfInBounds_toArray, List.set_cons_zero, List.set_cons_succ]
          clear dz
          refine wpAnyH_take (i := 29) (v := .bool true) rfl (by kernel_rfl) (by kernel_rfl) (by kernel_rfl) (fun _ _ _ h => h) (Or.inl ⟨by kernel_rfl, ?_⟩) hS ?_
          · intro w' hSw
            obtain ⟨s0, s1, s2, s3, s4, s5, s6, s7, s8, s9, s10, s11⟩ := hSw
            go_simp
          try simp only [Act.put, List.getElem_toArray, List.getElem_cons_succ, List.getElem_cons_zero, List.setIfInBounds_toArray, List.set_cons_zero, List.set_cons_succ]
          refine wpAnyH_done (by kernel_rfl) ?_ _
          try simp only [List.setIfInBounds_toArray]
          try simp only [List.getElem_toArray, List.getElem_cons_succ, List.getElem_cons_zero, List.setIfInBounds_toArray, List.set_cons_zero, List.set_cons_succ]
          have HBF := Lib.hid (HB.out.trans (hbd.mono HB.out.size))
          clear hS HKS hbd
          go_wp2_with fail
          go_ret
          exact ⟨rfl, HBF.out⟩
        · replace hz : eN = 0 := Decidable.not_not.1 hz
          subst hz
          have dz : ((0 : Int) != 0) = false := by decide
          refine wpAnyH_take (i := 28) (v := .bool false) rfl (by kernel_rfl) (by kernel_rfl) (by kernel_rfl) (fun _ _ _ h => h) (Or.inl ⟨by kernel_rfl, ?_⟩) hS ?_
          · intro w' hSw
            obtain ⟨s0, s1, s2, s3, s4, s5, s6, s7, s8, s9, s10, s11⟩ := hSw
            go_simp
          try simp only [Act.put, List.getElem_toArray, List.getElem_cons_succ, List.getElem_cons_zero, List.setIfInBounds_toArray, List.set_cons_zero, List.set_cons_succ]
          clear dz
          refine wpAnyH_take (i := 29) (v := .bool false) rfl (by kernel_rfl) (by kernel_rfl) (by kernel_rfl) (fun _ _ _ h => h) (Or.inl ⟨by kernel_rfl, ?_⟩) hS ?_
          · intro w' hSw
            obtain ⟨s0, s1, s2, s3, s4, s5, s6, s7, s8, s9, s10, s11⟩ := hSw
            go_simp
          try simp only [Act.put, List.getElem_toArray, List.getElem_cons_succ, List.getElem_cons_zero, List.setIfInBounds_toArray, List.set_cons_zero, List.set_cons_succ]
          refine wpAnyH_done (by kernel_rfl) ?_ _
          try simp only [List.setIfInBounds_toArray]
          try simp only [List.getElem_toArray, List.getElem_cons_succ, List.getElem_cons_zero, List.setIfInBounds_toArray, List.set_cons_zero, List.set_cons_succ]
          have hw3 := HB.out.trans (hbd.mono HB.out.size)
          have YP := Lib.hid (XP.out.keep hbd XP.out.lt)
          have YQ := Lib.hid (XQ.out.keep hbd XQ.out.lt)
          have YN := Lib.hid (XN.out.keep hbd XN.out.lt)
          have hso := subst_ok (sg := sg) (dx := cx.take q) (c := c) (m := m) (a := a) (n := n) (by rw [← HCX.out]; exact HRI.out) (by rw [← HCX.out]; exact HET.out) (by rw [← HCX.out]; exact HEM.out) HEN.out
          have HSO := Lib.hid hso
          obtain ⟨mm, ma⟩ : myB m = true ∧ myB a = true := by
            have := ((mayV_iff _ _ _).1 (ckT_okZ HEM.out).1).2.2.1
            exact ⟨this m (by simp), this a (by simp)⟩
          have mn : myB n = true := ((mayV_iff _ _ _).1 (ckT_okZ HEN.out).1).2.2.1 n (by simp)
          have HMM := Lib.hid (And.intro mm (And.intro ma mn))
          have HLL := Lib.hid (And.intro (lo_lt HRM.out mm) (And.intro (lo_lt HRA.out ma) (lo_lt HRN.out mn)))
          have HBV := Lib.hid hw3
          clear hso mm ma mn hw3 hS HKS hbd b0 b1 b2 e0 e1 e2 g0 g1 g2 c0 c1 c3 HCT HCM2 HCN HCK HET HEM HEN
          obtain ⟨W1, hW1⟩ : ∃ W1, v3.alloc (.cells #[.int .i64 kn, .int .i64 hn, .slice An nn cn] 32) = W1 := ⟨_, rfl⟩
          have s1 : Below v3.heap.size v3 W1 := by rw [← hW1]; exact (Below.refl _ _).alloc (Nat.le_refl _) _
          have z1 : Box W1 v3.heap.size 32 #[.int .i64 kn, .int .i64 hn, .slice An nn cn] := by rw [← hW1]; exact Box.new _ _ _
          have HB1 := Lib.hid (HBV.out.trans (s1.mono HBV.out.size))
          obtain ⟨em, hem⟩ : ∃ e, apE m [n] 0 = e := ⟨_, rfl⟩
          obtain ⟨ea, hea⟩ : ∃ e, apE a [n] 0 = e := ⟨_, rfl⟩
          have HC1 := Lib.hid (ApplyC (t := m) (L := [n]) (sh := 0) (n := 1) (c := 1) (Rd.keep HB1.out _ _ HVP.out) rfl (Nat.le_refl _) (by unfold maxLen; omega) (rd_one (k := 0) (h := 0) z1 (Rd.keep HB1.out _ _ HVN.out)) (fun _ => okT_mono (by unfold loV; omega) _ HLL.out.1) (fun x hx _ => by rw [List.mem_singleton.1 hx]; exact okT_mono (by unfold loV; omega) _ HLL.out.2.2))
          rw [hem] at HC1
          have HEM := Lib.hid hem
          have HEA := Lib.hid hea
          replace YP := Lib.hid (YP.out.keep s1 YP.out.lt)
          replace YQ := Lib.hid (YQ.out.keep s1 YQ.out.lt)
          have b0 : v3.cell? ⟨w.heap.size, 0, none⟩ = some (.int .i64 kp) := by rw [← s1.cell (p := ⟨w.heap.size, 0, none⟩) (by have := YN.out.lt; dsimp only; omega)]; exact YP.out.cell 0
          have b1 : v3.cell? ⟨w.heap.size, 1, none⟩ = some (.int .i64 hp) := by rw [← s1.cell (p := ⟨w.heap.size, 1, none⟩) (by have := YN.out.lt; dsimp only; omega)]; exact YP.out.cell 1
          have b2 : v3.cell? ⟨w.heap.size, 2, none⟩ = some (.slice Ap np cp) := by rw [← s1.cell (p := ⟨w.heap.size, 2, none⟩) (by have := YN.out.lt; dsimp only; omega)]; exact YP.out.cell 2
          have g0 : v3.cell? ⟨w.heap.size + 1 + 1, 0, none⟩ = some (.int .i64 kn) := YN.out.cell 0
          have g1 : v3.cell? ⟨w.heap.size + 1 + 1, 1, none⟩ = some (.int .i64 hn) := YN.out.cell 1
          have g2 : v3.cell? ⟨w.heap.size + 1 + 1, 2, none⟩ = some (.slice An nn cn) := YN.out.cell 2
          replace YN := Lib.hid (YN.out.keep s1 YN.out.lt)
          clear hem hea s1 z1 HBV
          subst hW1
          go_wp2_with fail
          clear b0 b1 b2 g0 g1 g2
          refine HC1.out.mono ?_
          rintro e v4 ⟨k3, h3, A3, n3, c3, rfl, hrd, hb2⟩
          replace YQ := Lib.hid (YQ.out.keep hb2 YQ.out.lt)
          replace YN := Lib.hid (YN.out.keep hb2 YN.out.lt)
          have HB2 := Lib.hid (HB1.out.trans (hb2.mono HB1.out.size))
          have hr3 := RdF.rd _ _ hrd
          clear hb2 hrd HC1 YP HB1
          obtain ⟨W3, hW3⟩ : ∃ W3, v4.alloc (.cells #[.int .i64 k3, .int .i64 h3, .slice A3 n3 c3] 32) = W3 := ⟨_, rfl⟩
          have s3 : Below v4.heap.size v4 W3 := by rw [← hW3]; exact (Below.refl _ _).alloc (Nat.le_refl _) _
          have z3 : Box W3 v4.heap.size 32 #[.int .i64 k3, .int .i64 h3, .slice A3 n3 c3] := by rw [← hW3]; exact Box.new _ _ _
          have l3 : W3.heap.size = v4.heap.size + 1 := by rw [← hW3, World.size_alloc]
          replace YQ := Lib.hid (YQ.out.keep s3 YQ.out.lt)
          replace YN := Lib.hid (YN.out.keep s3 YN.out.lt)
          have HB3 := Lib.hid (HB2.out.trans (s3.mono HB2.out.size))
          have e0 : W3.cell? ⟨w.heap.size + 1, 0, none⟩ = some (.int .i64 kq) := YQ.out.cell 0
          have e1 : W3.cell? ⟨w.heap.size + 1, 1, none⟩ = some (.int .i64 hq) := YQ.out.cell 1
          have e2 : W3.cell? ⟨w.heap.size + 1, 2, none⟩ = some (.slice Aq nq cq) := YQ.out.cell 2
          have g0 : W3.cell? ⟨w.heap.size + 1 + 1, 0, none⟩ = some (.int .i64 kn) := YN.out.cell 0
          have g1 : W3.cell? ⟨w.heap.size + 1 + 1, 1, none⟩ = some (.int .i64 hn) := YN.out.cell 1
          have g2 : W3.cell? ⟨w.heap.size + 1 + 1, 2, none⟩ = some (.slice An nn cn) := YN.out.cell 2
          obtain ⟨W4, hW4⟩ : ∃ W4, W3.alloc (.cells #[.int .i64 kn, .int .i64 hn, .slice An nn cn] 32) = W4 := ⟨_, rfl⟩
          have s4 : Below W3.heap.size W3 W4 := by rw [← hW4]; exact (Below.refl _ _).alloc (Nat.le_refl _) _
          have z4 : Box W4 (v4.heap.size + 1) 32 #[.int .i64 kn, .int .i64 hn, .slice An nn cn] := by rw [← hW4]; exact (Box.new _ _ _).at l3
          have HB4 := Lib.hid (HB3.out.trans (s4.mono HB3.out.size))
          have HC2 := Lib.hid (ApplyC (t := a) (L := [n]) (sh := 0) (n := 1) (c := 1) (Rd.keep HB4.out _ _ HVQ.out) rfl (Nat.le_refl _) (by unfold maxLen; omega) (rd_one (k := 0) (h := 0) z4 (Rd.keep HB4.out _ _ HVN.out)) (fun _ => okT_mono (by unfold loV; omega) _ HLL.out.2.1) (fun x hx _ => by rw [List.mem_singleton.1 hx]; exact okT_mono (by unfold loV; omega) _ HLL.out.2.2))
          rw [HEA.out] at HC2
          have HX3 := Lib.hid (z3.keep s4 z3.lt)
          have HR3 := Lib.hid (Rd.keep (s3.trans (s4.mono s3.size)) _ _ hr3)
          clear s3 s4 z3 z4 l3 hr3 YQ YN HB2 HB3
          subst hW3
          subst hW4
          go_wp2_with fail
          clear e0 e1 e2 g0 g1 g2
          refine HC2.out.mono ?_
          rintro e v5 ⟨k4, h4, A4, n4, c4, rfl, hrd, hb2⟩
          have HR5 := Lib.hid (Rd.keep hb2 _ _ HR3.out)
          have HX5 := Lib.hid (HX3.out.keep hb2 HX3.out.lt)
          have HB5 := Lib.hid (HB4.out.trans (hb2.mono HB4.out.size))
          have hr4 := RdF.rd _ _ hrd
          clear hb2 hrd HC2 HB4 HX3 HR3
          obtain ⟨W6, hW6⟩ : ∃ W6, v5.alloc (.cells #[.int .i64 k4, .int .i64 h4, .slice A4 n4 c4] 32) = W6 := ⟨_, rfl⟩
          have s6 : Below v5.heap.size v5 W6 := by rw [← hW6]; exact (Below.refl _ _).alloc (Nat.le_refl _) _
          have z6 : Box W6 v5.heap.size 32 #[.int .i64 k4, .int .i64 h4, .slice A4 n4 c4] := by rw [← hW6]; exact Box.new _ _ _
          have HR6 := Lib.hid (Rd.keep s6 _ _ HR5.out)
          have HX6 := Lib.hid (HX5.out.keep s6 HX5.out.lt)
          have HB6 := Lib.hid (HB5.out.trans (s6.mono HB5.out.size))
          have HR7 := Lib.hid (Rd.keep s6 _ _ hr4)
          have HZ6 := Lib.hid z6
          clear s6 z6 hr4 HB5 HX5 HR5
          have hd4 : ∀ e : Int, e ≠ 0 → Ok4 e → e = 4 := fun e h h2 => h2.resolve_left h
          by_cases hzm : em ≠ 0
          · obtain rfl : em = 4 := hd4 em hzm (by rw [← HEM.out]; exact HSO.out.1)
            clear hzm hd4
            go_wp2_with fail
            clear hW6
            go_ret
            exact ⟨rfl, HB6.out⟩
          replace hzm : em = 0 := Decidable.not_not.1 hzm
          subst hzm
          by_cases hza : ea ≠ 0
          · obtain rfl : ea = 4 := hd4 ea hza (by rw [← HEA.out]; exact HSO.out.2.1)
            clear hza hd4
            go_wp2_with fail
            clear hW6
            go_ret
            exact ⟨rfl, HB6.out⟩
          replace hza : ea = 0 := Decidable.not_not.1 hza
          subst hza
          obtain ⟨R, hR⟩ : ∃ R, ckT ⟨sg, []⟩ (cx.take q) (apT m [n] 0) (apT a [n] 0) = R := ⟨_, rfl⟩
          have hR3 : R = 0 ∨ R = 4 ∨ R = 1 := by rw [← hR]; exact HSO.out.2.2 HEM.out HEA.out
          have HR3 := Lib.hid hR3
          have HCF : Hid (∀ W' : World, Below W6.heap.size W6 W' → Calls Try.prog 21 #[.slice As ns cs, .slice none 0 0, .slice (some ⟨bc, o, none⟩) q cc, .agg #[.int .i64 k3, .int .i64 h3, .slice A3 n3 c3], .agg #[.int .i64 k4, .int .i64 h4, .slice A4 n4 c4]] W' fun e w' => e = .returned (.int .i64 R) ∧ Below W'.heap.size W' w') := Lib.hid fun W' h' => by
            have := vCheckTermW ⟨sg, []⟩ (cx.take q) (apT m [n] 0) (apT a [n] 0) As ns cs none 0 0 (some ⟨bc, o, none⟩) q cc _ _ W' ⟨HS.out.keep (HB6.out.trans (h'.mono HB6.out.size)), ml_nilZ _, (HX.out.takeZ hqn).keep (HB6.out.trans (h'.mono HB6.out.size))⟩ (Rd.keep h' _ _ HR6.out) (Rd.keep h' _ _ HR7.out) ⟨HLO.out.sg, HLO.out.ms, fun t ht => HLO.out.cx t (List.mem_of_mem_take ht)⟩ (.inl rfl) (ap_lowZ HMM.out.2.1 HMM.out.2.2 HLL.out.2.1 HLL.out.2.2 HEA.out)
            rw [hR] at this
            exact this
          have x0 : W6.cell? ⟨v4.heap.size, 0, none⟩ = some (.int .i64 k3) := HX6.out.cell 0
          have x1 : W6.cell? ⟨v4.heap.size, 1, none⟩ = some (.int .i64 h3) := HX6.out.cell 1
          have x2 : W6.cell? ⟨v4.heap.size, 2, none⟩ = some (.slice A3 n3 c3) := HX6.out.cell 2
          have y0 : W6.cell? ⟨v5.heap.size, 0, none⟩ = some (.int .i64 k4) := HZ6.out.cell 0
          have y1 : W6.cell? ⟨v5.heap.size, 1, none⟩ = some (.int .i64 h4) := HZ6.out.cell 1
          have y2 : W6.cell? ⟨v5.heap.size, 2, none⟩ = some (.slice A4 n4 c4) := HZ6.out.cell 2
          clear hd4 hR hR3
          have HW6 := Lib.hid hW6; clear hW6
          go_wp2_with fail
          try rw [HW6.out]
          have HKS : Hid (∀ w' : World, Below W6.heap.size W6 w' → (fun w' => w'.cell? ⟨v4.heap.size, 0, none⟩ = some (.int .i64 k3) ∧ w'.cell? ⟨v4.heap.size, 1, none⟩ = some (.int .i64 h3) ∧ w'.cell? ⟨v4.heap.size, 2, none⟩ = some (.slice A3 n3 c3) ∧ w'.cell? ⟨v5.heap.size, 0, none⟩ = some (.int .i64 k4) ∧ w'.cell? ⟨v5.heap.size, 1, none⟩ = some (.int .i64 h4) ∧ w'.cell? ⟨v5.heap.size, 2, none⟩ = some (.slice A4 n4 c4)) w') := Lib.hid fun w' h => ⟨(h.cell (cell_lt x0)).trans x0, (h.cell (cell_lt x1)).trans x1, (h.cell (cell_lt x2)).trans x2, (h.cell (cell_lt y0)).trans y0, (h.cell (cell_lt y1)).trans y1, (h.cell (cell_lt y2)).trans y2⟩
          have hbd : Below W6.heap.size W6 W6.drew := (Below.refl _ W6).drew
          refine wp_region_held_drew (S := fun w' => w'.cell? ⟨v4.heap.size, 0, none⟩ = some (.int .i64 k3) ∧ w'.cell? ⟨v4.heap.size, 1, none⟩ = some (.int .i64 h3) ∧ w'.cell? ⟨v4.heap.size, 2, none⟩ = some (.slice A3 n3 c3) ∧ w'.cell? ⟨v5.heap.size, 0, none⟩ = some (.int .i64 k4) ∧ w'.cell? ⟨v5.heap.size, 1, none⟩ = some (.int .i64 h4) ∧ w'.cell? ⟨v5.heap.size, 2, none⟩ = some (.slice A4 n4 c4)) (by kernel_rfl) (HKS.out _ hbd) (fun hS => ?_)
          simp only [List.size_toArray, List.length_cons, List.length_nil, Nat.reduceAdd]
          refine wpAnyH_take (i := 0) (v := .slice As ns cs) rfl (by kernel_rfl) (by kernel_rfl) (by kernel_rfl) (fun _ _ _ h => h) (Or.inl ⟨by kernel_rfl, ?_⟩) hS ?_
          · intro w' hSw
            obtain ⟨s0, s1, s2, s3, s4, s5⟩ := hSw
            go_simp
          try simp only [Act.put, List.getElem_toArray, List.getElem_cons_zero, List.setIfInBounds_toArray, List.set_cons_zero, List.set_cons_succ]
          refine wpAnyH_take (i := 1) (v := .slice (some ⟨bc, o, none⟩) nc cc) rfl (by kernel_rfl) (by kernel_rfl) (by kernel_rfl) (fun _ _ _ h => h) (Or.inl ⟨by kernel_rfl, ?_⟩) hS ?_
          · intro w' hSw
            obtain ⟨s0, s1, s2, s3, s4, s5⟩ := hSw
            go_simp
          try simp only [Act.put, List.getElem_toArray, List.getElem_cons_succ, List.getElem_cons_zero, List.setIfInBounds_toArray, List.set_cons_zero, List.set_cons_succ]
          refine wpAnyH_take (i := 2) (v := .int .i64 q) rfl (by kernel_rfl) (by kernel_rfl) (by kernel_rfl) (fun _ _ _ h => h) (Or.inl ⟨by kernel_rfl, ?_⟩) hS ?_
          · intro w' hSw
            obtain ⟨s0, s1, s2, s3, s4, s5⟩ := hSw
            go_simp
          try simp only [Act.put, List.getElem_toArray, List.getElem_cons_succ, List.getElem_cons_zero, List.setIfInBounds_toArray, List.set_cons_zero, List.set_cons_succ]
          refine wpAnyH_take (i := 3) (v := .slice (some ⟨bc, o, none⟩) q cc) rfl (by kernel_rfl) (by kernel_rfl) (by kernel_rfl) (fun _ _ _ h => h) (Or.inl ⟨by kernel_rfl, ?_⟩) hS ?_
          · intro w' hSw
            obtain ⟨s0, s1, s2, s3, s4, s5⟩ := hSw
            go_simp
          try simp only [Act.put, List.getElem_toArray, List.getElem_cons_succ, List.getElem_cons_zero, List.setIfInBounds_toArray, List.set_cons_zero, List.set_cons_succ]
          refine wpAnyH_take (i := 4) (v := .agg #[.int .i64 k3, .int .i64 h3, .slice A3 n3 c3]) rfl (by kernel_rfl) (by kernel_rfl) (by kernel_rfl) (fun _ _ _ h => h) (Or.inl ⟨by kernel_rfl, ?_⟩) hS ?_
          · intro w' hSw
            obtain ⟨s0, s1, s2, s3, s4, s5⟩ := hSw
            go_simp
          try simp only [Act.put, List.getElem_toArray, List.getElem_cons_succ, List.getElem_cons_zero, List.setIfInBounds_toArray, List.set_cons_zero, List.set_cons_succ]
          refine wpAnyH_take (i := 5) (v := .agg #[.int .i64 k4, .int .i64 h4, .slice A4 n4 c4]) rfl (by kernel_rfl) (by kernel_rfl) (by kernel_rfl) (fun _ _ _ h => h) (Or.inl ⟨by kernel_rfl, ?_⟩) hS ?_
          · intro w' hSw
            obtain ⟨s0, s1, s2, s3, s4, s5⟩ := hSw
            go_simp
          try simp only [Act.put, List.getElem_toArray, List.getElem_cons_succ, List.getElem_cons_zero, List.setIfInBounds_toArray, List.set_cons_zero, List.set_cons_succ]
          refine wpAnyH_ready (rs := [6]) (by kernel_rfl) (by simp) ?_
          refine AllReadyH.cons rfl (fun KN hK => ?_) AllReadyH.nil
          go_simp
          refine (HCF.out _ hbd).mono ?_
          rintro e v7 ⟨rfl, hb6⟩
          replace hbd : Below W6.heap.size W6 v7 := hbd.trans (hb6.mono hbd.size)
          clear hb6
          refine hK.out _ _ (HKS.out _ hbd) (fun hS => ?_)
          clear hK KN
          try simp only [Act.put, List.getElem_toArray, List.getElem_cons_succ, List.getElem_cons_zero, List.setIfInBounds_toArray, List.set_cons_zero, List.set_cons_succ]
          refine wpAnyH_take (i := 7) (v := .int .i64 R) rfl (by kernel_rfl) (by kernel_rfl) (by kernel_rfl) (fun _ _ _ h => h) (Or.inl ⟨by kernel_rfl, ?_⟩) hS ?_
          · intro w' hSw
            obtain ⟨s0, s1, s2, s3, s4, s5⟩ := hSw
            go_simp
          try simp only [Act.put, List.getElem_toArray, List.getElem_cons_succ, List.getElem_cons_zero, List.setIfInBounds_toArray, List.set_cons_zero, List.set_cons_succ]
          refine wpAnyH_done (by kernel_rfl) ?_ _
          try simp only [List.setIfInBounds_toArray]
          try simp only [List.getElem_toArray, List.getElem_cons_succ, List.getElem_cons_zero, List.setIfInBounds_toArray, List.set_cons_zero, List.set_cons_succ]
          have HBF := Lib.hid (HB6.out.trans (hbd.mono HB6.out.size))
          clear hS HKS hbd x0 x1 x2 y0 y1 y2
          rcases HR3.out with rfl | rfl | rfl
          · go_wp2_with fail
            go_ret
            exact ⟨rfl, HBF.out⟩
          · go_wp2_with fail
            go_ret
            exact ⟨rfl, HBF.out⟩
          · go_wp2_with fail
            go_ret
            exact ⟨rfl, HBF.out⟩
end Go.Proofs.Ytpigmefjcklpkaa
