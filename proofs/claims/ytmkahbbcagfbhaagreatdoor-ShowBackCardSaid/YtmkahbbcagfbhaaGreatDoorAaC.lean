/-
  Texts that are written, as plain functions: the tokens of a term below so many nodes that bind, its text, and that of declarations. No statement is proved here.
-/
import Derived.Test.YtmkahbbcagfbhaaGreatDoorBaC
import Derived.Test.YtmkahbbcagfbhaaGreatDoorSy
import Derived.Test.YtmkahbbcagfbhaaGreatDoorMy
namespace Go.Proofs.YtmkahbbcagfbhaaGreatDoor
open Go.ChangeShapes Go.WideShapes Go.ChangeAt Go.RowKit
set_option linter.unusedVariables false
/-! ### Names -/
def dig (n : Nat) : UInt8 := UInt8.ofNat (48 + n)
/-- a number below 100, in digits -/
def dgL (d : Nat) : List UInt8 := if d < 10 then [dig d] else [dig (d / 10), dig (d % 10)]
/-- the d-th name -/
def bnm (d : Nat) : ByteArray := ⟨(95 :: dgL d).toArray⟩
theorem dig_nat {n : Nat} (h : n < 10) : (dig n).toNat = 48 + n := by
  rw [dig, UInt8.toNat_ofNat']
  omega
theorem dig_inj {a b : Nat} (ha : a < 10) (hb : b < 10) (h : dig a = dig b) : a = b := by
  have := congrArg UInt8.toNat h
  rw [dig_nat ha, dig_nat hb] at this
  omega
theorem bnm_inj {a b : Nat} (ha : a < 100) (hb : b < 100) (h : bnm a = bnm b) : a = b := by
  have h1 : dgL a = dgL b := by
    have := congrArg (fun s : ByteArray => s.data.toList) h
    simpa [bnm] using this
  unfold dgL at h1
  split at h1 <;> split at h1
  · exact dig_inj (by omega) (by omega) (List.cons.inj h1).1
  · simp at h1
  · simp at h1
  · simp only [List.cons.injEq, and_true] at h1
    have e1 := dig_inj (by omega) (by omega) h1.1
    have e2 := dig_inj (by omega) (by omega) h1.2
    omega
theorem dgL_nm {d : Nat} (h : d < 100) : ∀ c ∈ dgL d, nmI (bI c) = true := by
  have key : ∀ n, n < 10 → nmI (bI (dig n)) = true := by decide
  intro c hc
  unfold dgL at hc
  split at hc
  · rw [List.mem_singleton.1 hc]; exact key _ (by omega)
  · rcases List.mem_cons.1 hc with rfl | hc
    · exact key _ (by omega)
    · rw [List.mem_singleton.1 hc]; exact key _ (by omega)
theorem bnm_nm {d : Nat} (h : d < 100) : ∀ c ∈ (bnm d).data.toList, nmI (bI c) = true := by
  intro c hc
  rcases List.mem_cons.1 (show c ∈ 95 :: dgL d by simpa [bnm] using hc) with rfl | hc
  · decide
  · exact dgL_nm h c hc
theorem bnm_head (d : Nat) : (bnm d).data.toList.head? = some 95 := rfl
theorem bnm_ty (d : Nat) : bnm d ≠ tyN := fun e => by
  have := congrArg (fun s : ByteArray => s.data.toList.head?) e
  simp [bnm_head, tyN] at this
theorem bnm_size (d : Nat) : (bnm d).size ≤ 3 := by
  show (95 :: dgL d).toArray.size ≤ 3
  unfold dgL
  split <;> simp
/-! ### Tokens -/
/-- a name without others stands alone -/
def aloB : T → Bool
  | .node k _ xs => xs.isEmpty && !(k == 0)
/-- the name of a head -/
def hdS (nm : Int → ByteArray) (k h : Int) (d : Nat) : ByteArray := if k = 4 then bnm (d - 1 - h.toNat) else nm h
def gtF (fs : List (Bool × (Nat → List Tk))) (i d : Nat) : List Tk := match fs[i]? with | some p => p.2 d | none => []
/-- what a node is written as, of what its Args are -/
def nodS (nm : Int → ByteArray) (k h : Int) (fs : List (Bool × (Nat → List Tk))) (d : Nat) : List Tk :=
  if k = 0 then [(0, tyN)]
  else if k = 1 then mP :: (0, bnm d) :: mK :: (gtF fs 0 d ++ mQ :: gtF fs 1 (d + 1))
  else if k = 3 then mL :: (0, bnm d) :: mR :: gtF fs 0 (d + 1)
  else (0, hdS nm k h d) :: fs.flatMap fun p => if p.1 = true then p.2 d else mO :: (p.2 d ++ [mC])
mutual
/-- the tokens of a term, below so many nodes that bind -/
def shT (nm : Int → ByteArray) : T → Nat → List Tk
  | .node k h xs => nodS nm k h (shL nm xs)
def shL (nm : Int → ByteArray) : List T → List (Bool × (Nat → List Tk))
  | [] => []
  | x :: xs => (aloB x, shT nm x) :: shL nm xs
end
/-- the tokens of an Arg of a Var, Fam or Const -/
def argS (nm : Int → ByteArray) (d : Nat) (x : T) : List Tk := if aloB x = true then shT nm x d else mO :: (shT nm x d ++ [mC])
theorem sh_sort (nm : Int → ByteArray) (h : Int) (xs : List T) (d : Nat) : shT nm (.node 0 h xs) d = [(0, tyN)] := by rw [shT, nodS, if_pos rfl]
theorem sh_pi (nm : Int → ByteArray) (h : Int) (a b : T) (d : Nat) : shT nm (.node 1 h [a, b]) d = mP :: (0, bnm d) :: mK :: (shT nm a d ++ mQ :: shT nm b (d + 1)) := by
  rw [shT, nodS, if_neg (by decide), if_pos rfl]
  simp only [shL]
  rfl
theorem sh_lam (nm : Int → ByteArray) (h : Int) (a : T) (d : Nat) : shT nm (.node 3 h [a]) d = mL :: (0, bnm d) :: mR :: shT nm a (d + 1) := by
  rw [shT, nodS, if_neg (by decide), if_neg (by decide), if_pos rfl]
  simp only [shL]
  rfl
theorem shL_flat (nm : Int → ByteArray) (d : Nat) : ∀ xs : List T, ((shL nm xs).flatMap fun p => if p.1 = true then p.2 d else mO :: (p.2 d ++ [mC])) = xs.flatMap (argS nm d)
  | [] => rfl
  | x :: xs => by
    rw [shL, List.flatMap_cons, List.flatMap_cons, shL_flat nm d xs]
    rfl
theorem sh_head (nm : Int → ByteArray) {k : Int} (h : Int) (xs : List T) (d : Nat) (h0 : k ≠ 0) (h1 : k ≠ 1) (h3 : k ≠ 3) : shT nm (.node k h xs) d = (0, hdS nm k h d) :: xs.flatMap (argS nm d) := by
  rw [shT, nodS, if_neg h0, if_neg h1, if_neg h3, shL_flat]
theorem sh_bare (nm : Int → ByteArray) {k : Int} (h : Int) (d : Nat) (h0 : k ≠ 0) (h1 : k ≠ 1) (h3 : k ≠ 3) : shT nm (.node k h []) d = [(0, hdS nm k h d)] := by
  rw [sh_head nm h [] d h0 h1 h3]; rfl
/-! ### Heads -/
mutual
/-- have so many declarations all Heads? -/
def hasB (n : Int) : T → Bool
  | .node k h xs => !((k == 2 || k == 5) && decide (n ≤ h)) && hasL n xs
def hasL (n : Int) : List T → Bool
  | [] => true
  | x :: xs => hasB n x && hasL n xs
end
theorem hasL_all (n : Int) : ∀ xs : List T, hasL n xs = xs.all (hasB n)
  | [] => rfl
  | x :: xs => by rw [hasL, hasL_all n xs, List.all_cons]
theorem nodL_all : ∀ xs : List T, nodL xs = xs.all nodB
  | [] => rfl
  | x :: xs => by rw [nodL, nodL_all xs, List.all_cons]
/-! ### What may be written: shapes, scopes, Heads -/
/-- a term that is written below d nodes that bind, over n declarations -/
structure Wr_ (n d : Nat) (t : T) : Prop where
  nod : nodB t = true
  sc : scC t d 0
  has : hasB n t = true
  deep : d + dp t ≤ 60
theorem scCL_at {k : Int} {n : Nat} {vars metas : Int} : ∀ (xs : List T) (i : Nat), scCL k n xs i vars metas → ∀ (j : Nat) (x : T), xs[j]? = some x → scC x (vars + bd k n (i + j)) metas
  | [], _, _, j, x, h => by simp at h
  | y :: ys, i, h, 0, x, hx => by
    rw [scCL] at h
    simp only [List.getElem?_cons_zero, Option.some.injEq] at hx
    subst hx
    exact h.1
  | y :: ys, i, h, j + 1, x, hx => by
    rw [scCL] at h
    have := scCL_at ys (i + 1) h.2 j x (by simpa using hx)
    rwa [show i + 1 + j = i + (j + 1) by omega] at this
theorem dp_part {x : T} : ∀ {xs : List T}, x ∈ xs → dp x ≤ dpL xs
  | y :: ys, h => by
    rw [dpL]
    rcases List.mem_cons.1 h with rfl | h
    · omega
    · have := dp_part h; omega
/-- how many a node binds in an Arg -/
def bdN (k : Int) (n i : Nat) : Nat := if (k = 1 ∨ k = 3) ∧ i + 1 = n then 1 else 0
theorem bd_N (k : Int) (n i : Nat) : bd k n i = (bdN k n i : Nat) := by
  unfold bd bdN
  split <;> rfl
theorem Wr_.at_ {n d : Nat} {k h : Int} {xs : List T} (hw : Wr_ n d (.node k h xs)) {j : Nat} {x : T} (hx : xs[j]? = some x) : Wr_ n (d + bdN k xs.length j) x := by
  obtain ⟨h1, h2, h3, h4⟩ := hw
  have hm := List.mem_of_getElem? hx
  rw [nodB, Bool.and_eq_true, nodL_all, List.all_eq_true] at h1
  rw [scC] at h2
  rw [hasB, Bool.and_eq_true, hasL_all, List.all_eq_true] at h3
  rw [dp] at h4
  have h5 := dp_part hm
  refine ⟨h1.2 x hm, ?_, h3.2 x hm, by unfold bdN; split <;> omega⟩
  have h6 := scCL_at xs 0 h2.2.2 j x hx
  rwa [Nat.zero_add, bd_N, show ((d : Nat) : Int) + (bdN k xs.length j : Nat) = ((d + bdN k xs.length j : Nat) : Int) by omega] at h6
theorem Wr_.pi {n d : Nat} {h : Int} {a b : T} (hw : Wr_ n d (.node 1 h [a, b])) : Wr_ n d a ∧ Wr_ n (d + 1) b := ⟨hw.at_ (j := 0) rfl, hw.at_ (j := 1) rfl⟩
theorem Wr_.lam {n d : Nat} {h : Int} {a : T} (hw : Wr_ n d (.node 3 h [a])) : Wr_ n (d + 1) a := hw.at_ (j := 0) rfl
theorem Wr_.args {n d : Nat} {k h : Int} {xs : List T} (hw : Wr_ n d (.node k h xs)) (h1 : k ≠ 1) (h3 : k ≠ 3) : ∀ x ∈ xs, Wr_ n d x := by
  intro x hx
  obtain ⟨j, hj⟩ := List.getElem?_of_mem hx
  have := hw.at_ hj
  rwa [bdN, if_neg (by rintro ⟨e | e, _⟩ <;> contradiction), Nat.add_zero] at this
/-- what a node is that is written -/
theorem Wr_.cases {n d : Nat} {k h : Int} {xs : List T} (hw : Wr_ n d (.node k h xs)) :
    (k = 0 ∧ h = 0 ∧ xs = []) ∨ (k = 1 ∧ h = 0 ∧ ∃ a b, xs = [a, b]) ∨ (k = 3 ∧ h = 0 ∧ ∃ a, xs = [a]) ∨ (k = 4 ∧ 0 ≤ h ∧ h < d) ∨ ((k = 2 ∨ k = 5) ∧ 0 ≤ h ∧ h < n) := by
  obtain ⟨h1, h2, h3, _⟩ := hw
  rw [nodB, Bool.and_eq_true] at h1
  rw [scC] at h2
  rw [hasB, Bool.and_eq_true, Bool.not_eq_true', Bool.and_eq_false_iff] at h3
  have ho := h1.1
  simp only [okN, Bool.or_eq_true, Bool.and_eq_true, beq_iff_eq, decide_eq_true_eq] at ho
  rcases ho with ((⟨⟨e1, e2⟩, e3⟩ | ⟨⟨e1, e2⟩, e3⟩) | ⟨⟨e1, e2⟩, e3⟩) | ⟨e1, e2⟩
  · exact .inl ⟨e1, e2, List.length_eq_zero_iff.1 e3⟩
  · match xs, e3 with
    | [a, b], _ => exact .inr (.inl ⟨e1, e2, a, b, rfl⟩)
  · match xs, e3 with
    | [a], _ => exact .inr (.inr (.inl ⟨e1, e2, a, rfl⟩))
  · rcases e1 with ((e1 | e1) | e1) | e1
    · refine .inr (.inr (.inr (.inr ⟨.inl e1, e2, ?_⟩)))
      rcases h3.1 with h | h
      · simp [e1] at h
      · simpa using h
    · exact .inr (.inr (.inr (.inl ⟨e1, e2, h2.1 e1⟩)))
    · refine .inr (.inr (.inr (.inr ⟨.inr e1, e2, ?_⟩)))
      rcases h3.1 with h | h
      · simp [e1] at h
      · simpa using h
    · have := h2.2.1 e1; omega
/-! ### Texts -/
/-- the name of a declaration -/
def nmD (ds : List (ByteArray × T)) (h : Int) : ByteArray := (ds.getD h.toNat (⟨#[]⟩, .node 0 0 [])).1
/-- what Term tells -/
def showT (ds : List (ByteArray × T)) (t : T) : Except Int (List UInt8) :=
  if myB t = true then if scB t 0 0 = true ∧ hasB ds.length t = true then .ok (txtL false (shT (nmD ds) t 0)) else .error 2 else .error 1
/-- how often a name is declared -/
def cntD (s : ByteArray) (ds : List (ByteArray × T)) : Nat := ds.countP fun d => decide (d.1 = s)
/-- one declaration's text -/
def lineD (s : ByteArray) (l : List UInt8) : List UInt8 := s.data.toList ++ ([32, 58, 32] ++ (l ++ [46, 10]))
/-- what Decls tells of the declarations that are left -/
def showL (ds : List (ByteArray × T)) : List (ByteArray × T) → List UInt8 → (ByteArray → Bool) → Except Int (List UInt8)
  | [], b, _ => .ok b
  | d :: r, b, nm => if nm d.1 = true ∧ cntD d.1 ds ≤ 1 then match showT ds d.2 with
    | .error e => .error e
    | .ok l => showL ds r (b ++ lineD d.1 l) nm
    else .error 1
theorem wr_of {ds : List (ByteArray × T)} {t : T} {l : List UInt8} (h : showT ds t = .ok l) : Wr_ ds.length 0 t ∧ l = txtL false (shT (nmD ds) t 0) ∧ nd t ≤ 4000 := by
  unfold showT at h
  split at h
  · rename_i hm
    split at h
    · rename_i hh
      cases h
      obtain ⟨h1, h2, h3⟩ := (myB_iff t).1 hm
      refine ⟨⟨h1, ?_, hh.2, by omega⟩, rfl, h2⟩
      exact (scB_iff 0 t 0 (by omega) (by omega)).1 hh.1
    · cases h
  · cases h
end Go.Proofs.YtmkahbbcagfbhaaGreatDoor
