/-
  Plain data of layer 5: the nodes of a term and what is collected of them, numbers that rise, numbers in memory, a set of numbers in a map. No statement is proved here.
-/
import Derived.Test.YtelicajhamgibaaGreatOw
import Derived.Maps.RangeWalk
import Derived.Maps.AppendAt
import Derived.Lib.SlKeysI
namespace Go.Proofs.YtelicajhamgibaaGreat
open Go.ChangeShapes Go.WideShapes Go.ChangeAt Go.RowKit Go.Maps
set_option linter.unusedVariables false

/-! ### Nodes, each with how many nodes bind around it -/
mutual
def nds : T → Int → List (Int × T)
  | .node k h xs, b => (b, .node k h xs) :: ndsL k xs.length xs 0 b
def ndsL (k : Int) (n : Nat) : List T → Nat → Int → List (Int × T)
  | [], _, _ => []
  | t :: ts, i, b => nds t (wrap64 (b + bd k n i)) ++ ndsL k n ts (i + 1) b
end

mutual
theorem nds_len : ∀ (t : T) (b : Int), (nds t b).length = nd t
  | .node k h xs, b => by rw [nds, nd, List.length_cons, ndsL_len k xs.length xs 0 b]; omega
theorem ndsL_len (k : Int) (n : Nat) : ∀ (xs : List T) (i : Nat) (b : Int), (ndsL k n xs i b).length = ndL xs
  | [], _, _ => by simp [ndsL, ndL]
  | t :: ts, i, b => by rw [ndsL, ndL, List.length_append, nds_len t, ndsL_len k n ts]
end

/-- what a node tells of free variables -/
def fv1 (x : Int × T) : List Int := match x.2 with | .node k h _ => if k = 4 ∧ x.1 ≤ h then [wrap64 (h - x.1)] else []
/-- .. and of metas -/
def mt1 (x : Int × T) : List Int := match x.2 with | .node k h _ => if k = 6 then [h] else []

/-- may one more term be the next one of a pattern? -/
def pt1 (seen : List Int) (below : Int) : T → Bool
  | .node k h xs => k == 4 && xs.length == 0 && decide (0 ≤ h) && decide (h < below) && !seen.contains h
def hd : T → Int
  | .node _ h _ => h
def ptn (below : Int) : List Int → List T → Option (List Int)
  | seen, [] => some seen
  | seen, t :: ts => if pt1 seen below t then ptn below (seen ++ [hd t]) ts else none
/-- is a node no meta, or one of a pattern? -/
def pa1 (n : Int) (x : Int × T) : Bool := match x.2 with | .node k _ xs => !(k == 6) || (ptn (wrap64 (n + x.1)) [] xs).isSome

/-! ### Numbers that rise, each once -/
def ins (n : Int) : List Int → List Int
  | [] => [n]
  | x :: xs => if n < x then n :: x :: xs else if n = x then x :: xs else x :: ins n xs
def rs (l : List Int) : List Int := l.foldl (fun s n => ins n s) []
abbrev Asc (l : List Int) : Prop := l.Pairwise (· < ·)

theorem mem_ins {n m : Int} : ∀ {l : List Int}, m ∈ ins n l ↔ m = n ∨ m ∈ l
  | [] => by simp [ins]
  | x :: xs => by
    unfold ins
    split
    · simp
    · split
      · rename_i h; subst h; simp
      · simp only [List.mem_cons, mem_ins (l := xs)]
        constructor
        · rintro (h | h | h) <;> simp [h]
        · rintro (h | h | h) <;> simp [h]
theorem asc_ins {n : Int} : ∀ {l : List Int}, Asc l → Asc (ins n l)
  | [], _ => by simp [ins]
  | x :: xs, h => by
    obtain ⟨h1, h2⟩ := List.pairwise_cons.1 h
    unfold ins
    split
    · rename_i hlt
      exact List.pairwise_cons.2 ⟨fun y hy => by rcases List.mem_cons.1 hy with rfl | hy; exact hlt; exact Int.lt_trans hlt (h1 y hy), h⟩
    · split
      · exact h
      · refine List.pairwise_cons.2 ⟨fun y hy => ?_, asc_ins h2⟩
        rcases mem_ins.1 hy with rfl | hy
        · omega
        · exact h1 y hy
theorem asc_ext : ∀ {l m : List Int}, Asc l → Asc m → (∀ x, x ∈ l ↔ x ∈ m) → l = m
  | [], [], _, _, _ => rfl
  | [], y :: ys, _, _, h => absurd ((h y).2 (List.mem_cons_self ..)) (by simp)
  | x :: xs, [], _, _, h => absurd ((h x).1 (List.mem_cons_self ..)) (by simp)
  | x :: xs, y :: ys, hl, hm, h => by
    obtain ⟨h1, h2⟩ := List.pairwise_cons.1 hl
    obtain ⟨g1, g2⟩ := List.pairwise_cons.1 hm
    have e : x = y := by
      rcases List.mem_cons.1 ((h x).1 (List.mem_cons_self ..)) with e | e
      · exact e
      · rcases List.mem_cons.1 ((h y).2 (List.mem_cons_self ..)) with e' | e'
        · exact e'.symm
        · have := h1 y e'; have := g1 x e; omega
    subst e
    rw [asc_ext h2 g2 fun z => ?_]
    constructor
    · intro hz
      rcases List.mem_cons.1 ((h z).1 (List.mem_cons_of_mem _ hz)) with e | e
      · have := h1 z hz; omega
      · exact e
    · intro hz
      rcases List.mem_cons.1 ((h z).2 (List.mem_cons_of_mem _ hz)) with e | e
      · have := g1 z hz; omega
      · exact e
theorem fold_ins : ∀ (l s : List Int), Asc s → Asc (l.foldl (fun s n => ins n s) s) ∧ ∀ x, x ∈ l.foldl (fun s n => ins n s) s ↔ x ∈ s ∨ x ∈ l
  | [], s, h => ⟨h, fun x => by simp⟩
  | n :: l, s, h => by
    obtain ⟨h1, h2⟩ := fold_ins l (ins n s) (asc_ins h)
    refine ⟨h1, fun x => ?_⟩
    show x ∈ l.foldl (fun s n => ins n s) (ins n s) ↔ _
    rw [h2 x, mem_ins, List.mem_cons]
    constructor
    · rintro ((h | h) | h) <;> simp [h]
    · rintro (h | h | h) <;> simp [h]
theorem rs_asc (l : List Int) : Asc (rs l) := (fold_ins l [] List.Pairwise.nil).1
theorem mem_rs {l : List Int} {x : Int} : x ∈ rs l ↔ x ∈ l := ((fold_ins l [] List.Pairwise.nil).2 x).trans (by simp)
theorem rs_eq {l m : List Int} (h : Asc m) (hm : ∀ x, x ∈ m ↔ x ∈ l) : m = rs l := asc_ext h (rs_asc l) fun x => (hm x).trans mem_rs.symm
/-- sorted and each once: they rise -/
theorem asc_sorted {l : List Int} (h : l.Nodup) : Asc (l.mergeSort leI) := by
  have tr : ∀ a b c : Int, leI a b = true → leI b c = true → leI a c = true := fun a b c h1 h2 => by simp only [leI, decide_eq_true_eq] at *; omega
  have tot : ∀ a b : Int, (leI a b || leI b a) = true := fun a b => by simp only [leI, Bool.or_eq_true, decide_eq_true_eq]; omega
  have h1 := List.pairwise_mergeSort tr tot l
  have h2 : (l.mergeSort leI).Nodup := (List.mergeSort_perm l leI).nodup_iff.2 h
  refine (List.Pairwise.and h1 h2).imp fun {a b} ⟨h3, h4⟩ => ?_
  simp only [leI, decide_eq_true_eq] at h3
  have : a ≠ b := h4
  omega
theorem rs_sorted {l ss : List Int} (h : ss.Nodup) (hm : ∀ x, x ∈ ss ↔ x ∈ l) : ss.mergeSort leI = rs l :=
  rs_eq (asc_sorted h) fun x => ((List.mergeSort_perm ss leI).mem_iff).trans (hm x)

/-! ### Numbers in memory -/
def Ns (w : World) (v : Value) (zs : List Int) : Prop :=
  ∃ A c, v = .slice A zs.length c ∧ zs.length ≤ c ∧ c ≤ maxLen ∧ ∀ i z, zs[i]? = some z → ∃ b o, A = some ⟨b, o, none⟩ ∧ w.cell? ⟨b, o + i, none⟩ = some (.int .i64 z)
theorem Ns.keep {w w' : World} {v : Value} {zs : List Int} (h : Ns w v zs) (hk : Below w.heap.size w w') : Ns w' v zs := by
  obtain ⟨A, c, h1, h2, h3, h4⟩ := h
  refine ⟨A, c, h1, h2, h3, fun i z hz => ?_⟩
  obtain ⟨b, o, e, hc⟩ := h4 i z hz
  exact ⟨b, o, e, (hk.cell (cell_lt hc)).trans hc⟩
theorem Ns.nil (w : World) : Ns w (.slice none 0 0) [] := ⟨none, 0, rfl, Nat.le_refl _, Nat.zero_le _, fun i z h => by simp at h⟩
theorem Ns.of_row {w : World} {base : Nat} {e : TypeId} {v : Value} {zs : List Int} (h : w.ownsRow base e 1 v zs.length (zs.map (Value.int .i64))) : Ns w v zs := by
  rcases h.2 with ⟨rfl, h0⟩ | ⟨g, cap, cur, rfl, _, hb, h1, h2, h3, h4⟩
  · rw [List.length_eq_zero_iff.1 h0]; exact Ns.nil w
  · refine ⟨_, cap, rfl, h1, h2, fun i z hz => ⟨g, 0, rfl, ?_⟩⟩
    have hi : i < zs.length := (List.getElem?_eq_some_iff.1 hz).1
    have e1 : (cur.toList.take (zs.length * 1))[i]? = (zs.map (Value.int .i64))[i]? := by rw [h4]
    rw [List.getElem?_take_of_lt (by omega), List.getElem?_map, hz, Array.getElem?_toList] at e1
    simp only [World.cell?, hb, Nat.zero_add]
    simpa using e1

/-! ### A set of numbers in a map -/
def Sn (w : World) (b : Nat) (l : List Int) : Prop :=
  ∃ (n : Nat) (D : DataW Unit), w.ownsMap Tryz.prog 3 (unitElem (H := Unit)) b n D ∧ n ≤ l.length ∧ ∀ x, Maps.has D (.int .i64 x) = true ↔ x ∈ l
theorem lawI : Keyed Tryz.prog 3 := int_keyed Tryz.underlying3
theorem zeroU (w : World) : (zeroValue 89).run Tryz.prog w = .ok (.agg #[]) w := by kernel_rfl
theorem infoI : (Tryz.prog.info? 3).map (fun i => (i.zero, i.size, i.bytes)) = some (some (.int .i64 0), 1, 8) := by kernel_rfl
theorem Sn.lt {w : World} {b : Nat} {l : List Int} (h : Sn w b l) : b < w.heap.size := by
  obtain ⟨n, D, h1, _⟩ := h
  exact h1.lt
theorem Sn.kept {w w' : World} {b : Nat} {l : List Int} {row : Option Nat} (h : Sn w b l) (hg : w.grownBy w' row) (hb : some b ≠ row) : Sn w' b l := by
  obtain ⟨n, D, h1, h2, h3⟩ := h
  exact ⟨n, D, h1.kept hg hb, h2, h3⟩
theorem Sn.keep {w w' : World} {b : Nat} {l : List Int} (h : Sn w b l) (hk : Below w.heap.size w w') : Sn w' b l := h.kept (row := none) ⟨hk.os, hk.tape, hk.output, hk.size, fun k hk' _ => hk.block k hk'⟩ (by simp)
theorem Sn.new (w : World) : Sn (w.alloc (.map #[] 0)) w.heap.size [] :=
  ⟨0, _, World.ownsMap_made _ _ _ _, Nat.le_refl _, fun x => by simp [Maps.has]⟩
theorem has_lit {D : DataW Unit} (hD : IsMap D) (x y : Int) (d : DataW Unit) : Maps.has (D.put (.int .i64 x) d) (.int .i64 y) = true ↔ y = x ∨ Maps.has D (.int .i64 y) = true := by
  by_cases e : y = x
  · subst e
    rw [has_put_same hD (by simp [WideAt.IsKeyLit])]
    simp
  · rw [has_put_other (by intro h; exact e (by simpa using h))]
    simp [e]
end Go.Proofs.YtelicajhamgibaaGreat
