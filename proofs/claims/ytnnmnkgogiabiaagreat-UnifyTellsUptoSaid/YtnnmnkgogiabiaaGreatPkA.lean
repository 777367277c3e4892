/-
  Texts of one proof, put together. No statement is proved here.
-/
import Derived.Test.YtnnmnkgogiabiaaGreatOw
import Derived.Maps.RangeWalk
import Derived.Maps.AppendAt
import Derived.Lib.SlKeysI
import Derived.Test.YtnnmnkgogiabiaaGreatChecked
import Derived.Shelf.Sort.Plain
import Derived.Shelf.Bits.Mul64
import Derived.Test.YtnnmnkgogiabiaaGreatCs
import Derived.Laws.CopyRow
import Derived.Lib.SlBuf
import Derived.Test.YtnnmnkgogiabiaaGreatSm
import Derived.Test.YtnnmnkgogiabiaaGreatSu
import Derived.Test.YtnnmnkgogiabiaaGreatPd

/-
  Plain data of layer 5: the nodes of a term and what is collected of them, numbers that rise, numbers in memory, a set of numbers in a map. No statement is proved here.
-/
namespace Go.Proofs.YtnnmnkgogiabiaaGreat
open Go.ChangeShapes Go.WideShapes Go.ChangeAt Go.RowKit Go.Maps
set_option linter.unusedVariables false

/-! ### Nodes, each with how many nodes bind around it -/
mutual
def nds : T → Int → List (Int × T)
  | .node k h xs, b => (b, .node k h xs) :: ndsL k xs.length xs 0 b
def ndsL (k : Int) (n : Nat) : List T → Nat → Int → List (Int × T)
  | [], _, _ => []
  | t :: ts, i, b => nds t (wrap64 (b + bd k n i)) ++ ndsL k n ts (i + 1) b
end

mutual
theorem nds_len : ∀ (t : T) (b : Int), (nds t b).length = nd t
  | .node k h xs, b => by rw [nds, nd, List.length_cons, ndsL_len k xs.length xs 0 b]; omega
theorem ndsL_len (k : Int) (n : Nat) : ∀ (xs : List T) (i : Nat) (b : Int), (ndsL k n xs i b).length = ndL xs
  | [], _, _ => by simp [ndsL, ndL]
  | t :: ts, i, b => by rw [ndsL, ndL, List.length_append, nds_len t, ndsL_len k n ts]
end

/-- what a node tells of free variables -/
def fv1 (x : Int × T) : List Int := match x.2 with | .node k h _ => if k = 4 ∧ x.1 ≤ h then [wrap64 (h - x.1)] else []
/-- .. and of metas -/
def mt1 (x : Int × T) : List Int := match x.2 with | .node k h _ => if k = 6 then [h] else []

/-- may one more term be the next one of a pattern? -/
def pt1 (seen : List Int) (below : Int) : T → Bool
  | .node k h xs => k == 4 && xs.length == 0 && decide (0 ≤ h) && decide (h < below) && !seen.contains h
def hd : T → Int
  | .node _ h _ => h
def ptn (below : Int) : List Int → List T → Option (List Int)
  | seen, [] => some seen
  | seen, t :: ts => if pt1 seen below t then ptn below (seen ++ [hd t]) ts else none
/-- is a node no meta, or one of a pattern? -/
def pa1 (n : Int) (x : Int × T) : Bool := match x.2 with | .node k _ xs => !(k == 6) || (ptn (wrap64 (n + x.1)) [] xs).isSome

/-! ### Numbers that rise, each once -/
def ins (n : Int) : List Int → List Int
  | [] => [n]
  | x :: xs => if n < x then n :: x :: xs else if n = x then x :: xs else x :: ins n xs
def rs (l : List Int) : List Int := l.foldl (fun s n => ins n s) []
abbrev Asc (l : List Int) : Prop := l.Pairwise (· < ·)

theorem mem_ins {n m : Int} : ∀ {l : List Int}, m ∈ ins n l ↔ m = n ∨ m ∈ l
  | [] => by simp [ins]
  | x :: xs => by
    unfold ins
    split
    · simp
    · split
      · rename_i h; subst h; simp
      · simp only [List.mem_cons, mem_ins (l := xs)]
        constructor
        · rintro (h | h | h) <;> simp [h]
        · rintro (h | h | h) <;> simp [h]
theorem asc_ins {n : Int} : ∀ {l : List Int}, Asc l → Asc (ins n l)
  | [], _ => by simp [ins]
  | x :: xs, h => by
    obtain ⟨h1, h2⟩ := List.pairwise_cons.1 h
    unfold ins
    split
    · rename_i hlt
      exact List.pairwise_cons.2 ⟨fun y hy => by rcases List.mem_cons.1 hy with rfl | hy; exact hlt; exact Int.lt_trans hlt (h1 y hy), h⟩
    · split
      · exact h
      · refine List.pairwise_cons.2 ⟨fun y hy => ?_, asc_ins h2⟩
        rcases mem_ins.1 hy with rfl | hy
        · omega
        · exact h1 y hy
theorem asc_ext : ∀ {l m : List Int}, Asc l → Asc m → (∀ x, x ∈ l ↔ x ∈ m) → l = m
  | [], [], _, _, _ => rfl
  | [], y :: ys, _, _, h => absurd ((h y).2 (List.mem_cons_self ..)) (by simp)
  | x :: xs, [], _, _, h => absurd ((h x).1 (List.mem_cons_self ..)) (by simp)
  | x :: xs, y :: ys, hl, hm, h => by
    obtain ⟨h1, h2⟩ := List.pairwise_cons.1 hl
    obtain ⟨g1, g2⟩ := List.pairwise_cons.1 hm
    have e : x = y := by
      rcases List.mem_cons.1 ((h x).1 (List.mem_cons_self ..)) with e | e
      · exact e
      · rcases List.mem_cons.1 ((h y).2 (List.mem_cons_self ..)) with e' | e'
        · exact e'.symm
        · have := h1 y e'; have := g1 x e; omega
    subst e
    rw [asc_ext h2 g2 fun z => ?_]
    constructor
    · intro hz
      rcases List.mem_cons.1 ((h z).1 (List.mem_cons_of_mem _ hz)) with e | e
      · have := h1 z hz; omega
      · exact e
    · intro hz
      rcases List.mem_cons.1 ((h z).2 (List.mem_cons_of_mem _ hz)) with e | e
      · have := g1 z hz; omega
      · exact e
theorem fold_ins : ∀ (l s : List Int), Asc s → Asc (l.foldl (fun s n => ins n s) s) ∧ ∀ x, x ∈ l.foldl (fun s n => ins n s) s ↔ x ∈ s ∨ x ∈ l
  | [], s, h => ⟨h, fun x => by simp⟩
  | n :: l, s, h => by
    obtain ⟨h1, h2⟩ := fold_ins l (ins n s) (asc_ins h)
    refine ⟨h1, fun x => ?_⟩
    show x ∈ l.foldl (fun s n => ins n s) (ins n s) ↔ _
    rw [h2 x, mem_ins, List.mem_cons]
    constructor
    · rintro ((h | h) | h) <;> simp [h]
    · rintro (h | h | h) <;> simp [h]
theorem rs_asc (l : List Int) : Asc (rs l) := (fold_ins l [] List.Pairwise.nil).1
theorem mem_rs {l : List Int} {x : Int} : x ∈ rs l ↔ x ∈ l := ((fold_ins l [] List.Pairwise.nil).2 x).trans (by simp)
theorem rs_eq {l m : List Int} (h : Asc m) (hm : ∀ x, x ∈ m ↔ x ∈ l) : m = rs l := asc_ext h (rs_asc l) fun x => (hm x).trans mem_rs.symm
/-- sorted and each once: they rise -/
theorem asc_sorted {l : List Int} (h : l.Nodup) : Asc (l.mergeSort leI) := by
  have tr : ∀ a b c : Int, leI a b = true → leI b c = true → leI a c = true := fun a b c h1 h2 => by simp only [leI, decide_eq_true_eq] at *; omega
  have tot : ∀ a b : Int, (leI a b || leI b a) = true := fun a b => by simp only [leI, Bool.or_eq_true, decide_eq_true_eq]; omega
  have h1 := List.pairwise_mergeSort tr tot l
  have h2 : (l.mergeSort leI).Nodup := (List.mergeSort_perm l leI).nodup_iff.2 h
  refine (List.Pairwise.and h1 h2).imp fun {a b} ⟨h3, h4⟩ => ?_
  simp only [leI, decide_eq_true_eq] at h3
  have : a ≠ b := h4
  omega
theorem rs_sorted {l ss : List Int} (h : ss.Nodup) (hm : ∀ x, x ∈ ss ↔ x ∈ l) : ss.mergeSort leI = rs l :=
  rs_eq (asc_sorted h) fun x => ((List.mergeSort_perm ss leI).mem_iff).trans (hm x)

/-! ### Numbers in memory -/
def Ns (w : World) (v : Value) (zs : List Int) : Prop :=
  ∃ A c, v = .slice A zs.length c ∧ zs.length ≤ c ∧ c ≤ maxLen ∧ ∀ i z, zs[i]? = some z → ∃ b o, A = some ⟨b, o, none⟩ ∧ w.cell? ⟨b, o + i, none⟩ = some (.int .i64 z)
theorem Ns.keep {w w' : World} {v : Value} {zs : List Int} (h : Ns w v zs) (hk : Below w.heap.size w w') : Ns w' v zs := by
  obtain ⟨A, c, h1, h2, h3, h4⟩ := h
  refine ⟨A, c, h1, h2, h3, fun i z hz => ?_⟩
  obtain ⟨b, o, e, hc⟩ := h4 i z hz
  exact ⟨b, o, e, (hk.cell (cell_lt hc)).trans hc⟩
theorem Ns.nil (w : World) : Ns w (.slice none 0 0) [] := ⟨none, 0, rfl, Nat.le_refl _, Nat.zero_le _, fun i z h => by simp at h⟩
theorem Ns.of_row {w : World} {base : Nat} {e : TypeId} {v : Value} {zs : List Int} (h : w.ownsRow base e 1 v zs.length (zs.map (Value.int .i64))) : Ns w v zs := by
  rcases h.2 with ⟨rfl, h0⟩ | ⟨g, cap, cur, rfl, _, hb, h1, h2, h3, h4⟩
  · rw [List.length_eq_zero_iff.1 h0]; exact Ns.nil w
  · refine ⟨_, cap, rfl, h1, h2, fun i z hz => ⟨g, 0, rfl, ?_⟩⟩
    have hi : i < zs.length := (List.getElem?_eq_some_iff.1 hz).1
    have e1 : (cur.toList.take (zs.length * 1))[i]? = (zs.map (Value.int .i64))[i]? := by rw [h4]
    rw [List.getElem?_take_of_lt (by omega), List.getElem?_map, hz, Array.getElem?_toList] at e1
    simp only [World.cell?, hb, Nat.zero_add]
    simpa using e1

/-! ### A set of numbers in a map -/
def Sn (w : World) (b : Nat) (l : List Int) : Prop :=
  ∃ (n : Nat) (D : DataW Unit), w.ownsMap Tryz.prog 3 (unitElem (H := Unit)) b n D ∧ n ≤ l.length ∧ ∀ x, Maps.has D (.int .i64 x) = true ↔ x ∈ l
theorem lawI : Keyed Tryz.prog 3 := int_keyed Tryz.underlying3
theorem zeroU (w : World) : (zeroValue 124).run Tryz.prog w = .ok (.agg #[]) w := by kernel_rfl
theorem infoI : (Tryz.prog.info? 3).map (fun i => (i.zero, i.size, i.bytes)) = some (some (.int .i64 0), 1, 8) := by kernel_rfl
theorem Sn.lt {w : World} {b : Nat} {l : List Int} (h : Sn w b l) : b < w.heap.size := by
  obtain ⟨n, D, h1, _⟩ := h
  exact h1.lt
theorem Sn.kept {w w' : World} {b : Nat} {l : List Int} {row : Option Nat} (h : Sn w b l) (hg : w.grownBy w' row) (hb : some b ≠ row) : Sn w' b l := by
  obtain ⟨n, D, h1, h2, h3⟩ := h
  exact ⟨n, D, h1.kept hg hb, h2, h3⟩
theorem Sn.keep {w w' : World} {b : Nat} {l : List Int} (h : Sn w b l) (hk : Below w.heap.size w w') : Sn w' b l := h.kept (row := none) ⟨hk.os, hk.tape, hk.output, hk.size, fun k hk' _ => hk.block k hk'⟩ (by simp)
theorem Sn.new (w : World) : Sn (w.alloc (.map #[] 0)) w.heap.size [] :=
  ⟨0, _, World.ownsMap_made _ _ _ _, Nat.le_refl _, fun x => by simp [Maps.has]⟩
theorem has_lit {D : DataW Unit} (hD : IsMap D) (x y : Int) (d : DataW Unit) : Maps.has (D.put (.int .i64 x) d) (.int .i64 y) = true ↔ y = x ∨ Maps.has D (.int .i64 y) = true := by
  by_cases e : y = x
  · subst e
    rw [has_put_same hD (by simp [WideAt.IsKeyLit])]
    simp
  · rw [has_put_other (by intro h; exact e (by simpa using h))]
    simp [e]
end Go.Proofs.YtnnmnkgogiabiaaGreat

/-
  The library's sort of numbers: its contract, laid at this program. No statement is proved here.
-/
namespace Go.Proofs.YtnnmnkgogiabiaaGreat
open Go.Shelf Go.Sort Go.RowKit
set_option linter.unusedVariables false

def sortRen : Ren := ⟨fun | 189 => 91 | 125 => 99 | 257 => 98 | 128 => 114 | 129 => 115 | 294 => 105 | 295 => 106 | 296 => 107 | 297 => 108 | 298 => 109 | 299 => 110 | 216 => 111 | 300 => 112 | 301 => 113 | 328 => 118 | 329 => 119 | 330 => 120 | 331 => 121 | 332 => 122 | 215 => 123 | 343 => 124 | n => n, fun | 28 => 25 | 3 => 3 | 46 => 136 | 0 => 0 | 51 => 152 | 53 => 154 | 4 => 4 | 183 => 145 | 182 => 144 | 131 => 139 | 5 => 5 | 9 => 9 | 218 => 159 | 222 => 163 | 228 => 165 | 229 => 166 | n => n, fun n => n⟩
theorem sortLays : Lays.n189 Tryz.prog sortRen := {
  mixed := by kernel_rfl
  f125 := Tryz.func99.trans (congrArg some (by kernel_rfl))
  f128 := Tryz.func114.trans (congrArg some (by kernel_rfl))
  f129 := Tryz.func115.trans (congrArg some (by kernel_rfl))
  f189 := Tryz.func91.trans (congrArg some (by kernel_rfl))
  f215 := Tryz.func123.trans (congrArg some (by kernel_rfl))
  f216 := Tryz.func111.trans (congrArg some (by kernel_rfl))
  f257 := Tryz.func98.trans (congrArg some (by kernel_rfl))
  f294 := Tryz.func105.trans (congrArg some (by kernel_rfl))
  f295 := Tryz.func106.trans (congrArg some (by kernel_rfl))
  f296 := Tryz.func107.trans (congrArg some (by kernel_rfl))
  f297 := Tryz.func108.trans (congrArg some (by kernel_rfl))
  f298 := Tryz.func109.trans (congrArg some (by kernel_rfl))
  f299 := Tryz.func110.trans (congrArg some (by kernel_rfl))
  f300 := Tryz.func112.trans (congrArg some (by kernel_rfl))
  f301 := Tryz.func113.trans (congrArg some (by kernel_rfl))
  f328 := Tryz.func118.trans (congrArg some (by kernel_rfl))
  f329 := Tryz.func119.trans (congrArg some (by kernel_rfl))
  f330 := Tryz.func120.trans (congrArg some (by kernel_rfl))
  f331 := Tryz.func121.trans (congrArg some (by kernel_rfl))
  f332 := Tryz.func122.trans (congrArg some (by kernel_rfl))
  f343 := Tryz.func124.trans (congrArg some (by kernel_rfl))
  t0 := Tryz.underlying0
  a0 := Tryz.isAgg0
  z0 := Tryz.sizeOf0
  v0 := Tryz.zeroValue0
  t3 := Tryz.underlying3
  a3 := Tryz.isAgg3
  z3 := Tryz.sizeOf3
  v3 := Tryz.zeroValue3
  t4 := Tryz.underlying4
  a4 := Tryz.isAgg4
  z4 := Tryz.sizeOf4
  v4 := Tryz.zeroValue4
  t5 := Tryz.underlying5
  a5 := Tryz.isAgg5
  z5 := Tryz.sizeOf5
  v5 := Tryz.zeroValue5
  t9 := Tryz.underlying9
  a9 := Tryz.isAgg9
  z9 := Tryz.sizeOf9
  v9 := Tryz.zeroValue9
  t28 := Tryz.underlying25
  a28 := Tryz.isAgg25
  z28 := Tryz.sizeOf25
  v28 := Tryz.zeroValue25
  t46 := Tryz.underlying136
  a46 := Tryz.isAgg136
  z46 := Tryz.sizeOf136
  v46 := Tryz.zeroValue136
  t51 := Tryz.underlying152
  a51 := Tryz.isAgg152
  z51 := Tryz.sizeOf152
  v51 := Tryz.zeroValue152
  t53 := Tryz.underlying154
  a53 := Tryz.isAgg154
  z53 := Tryz.sizeOf154
  v53 := Tryz.zeroValue154
  t131 := Tryz.underlying139
  a131 := Tryz.isAgg139
  z131 := Tryz.sizeOf139
  v131 := Tryz.zeroValue139
  t182 := Tryz.underlying144
  a182 := Tryz.isAgg144
  z182 := Tryz.sizeOf144
  v182 := Tryz.zeroValue144
  t183 := Tryz.underlying145
  a183 := Tryz.isAgg145
  z183 := Tryz.sizeOf145
  v183 := Tryz.zeroValue145
  t218 := Tryz.underlying159
  a218 := Tryz.isAgg159
  z218 := Tryz.sizeOf159
  v218 := Tryz.zeroValue159
  t222 := Tryz.underlying163
  a222 := Tryz.isAgg163
  z222 := Tryz.sizeOf163
  v222 := Tryz.zeroValue163
  t228 := Tryz.underlying165
  a228 := Tryz.isAgg165
  z228 := Tryz.sizeOf165
  v228 := Tryz.zeroValue165
  t229 := Tryz.underlying166
  a229 := Tryz.isAgg166
  z229 := Tryz.sizeOf166
  v229 := Tryz.zeroValue166 }
theorem sortC (blk off cap : Nat) (zs : List Int) (w : World) (hH : Holds (Value.int .i64) w blk off zs.toArray) (hblk : blk < w.heap.size) (hsz : zs.length < 4611686018427387904) :
    Calls Tryz.prog 91 #[.slice (some ⟨blk, off, none⟩) zs.length cap] w fun e w' =>
      e = .returned (.tuple #[]) ∧ ∃ n os, w' = grow (putRow (Value.int .i64) (Sort.ahead w n) blk off (zs.mergeSort fun x y => decide (x ≤ y)).toArray) os :=
  Any.slices_Sort_int sortLays blk off cap zs w hH hblk hsz
end Go.Proofs.YtnnmnkgogiabiaaGreat

/-
  Contracts of package occur's set of numbers: add, has, rising; and of nodes. No statement is proved here.
-/
namespace Go.Proofs.YtnnmnkgogiabiaaGreat
open Go.ChangeShapes Go.WideShapes Go.ChangeAt Go.RowKit Go.Maps Go.Sort
set_option linter.unusedVariables false

theorem wf_key {x : Int} (h : (Lit.int .i64 x).wf = true) : keyOf Tryz.prog 3 (.int .i64 x) = some (.int .i64 x) := keyOf_int_mk Tryz.underlying3 h

set_option maxHeartbeats 800000 in
theorem addC (b : Nat) (l : List Int) (x : Int) (w : World) (hs : Sn w b l) (hx : (Lit.int .i64 x).wf = true) (hl : l.length < maxLen) :
    Calls Tryz.prog 72 #[.map (some b), .int .i64 x] w fun e w' => e = .returned (.tuple #[]) ∧ Sn w' b (l ++ [x]) ∧ w.grownBy w' (some b) := by
  obtain ⟨n, D, hown, hn, hD⟩ := hs
  have hkey := wf_key hx
  have hL : n < maxLen := by omega
  have HD := Lib.hid hD; clear hD
  have HL := Lib.hid hL; clear hL
  have HN := Lib.hid hn; clear hn
  clear hl hx
  go_enter Tryz.func72, Tryz.ntmps72
  go_wp2_with (first
    | (at_mapUpdate; refine wpList_mapUpdate_own _ rfl _ _ _ 100 rfl 3 124 lawI Tryz.underlying100 (unitElem (H := Unit)) b n D rfl hown HL.out _ _ _ rfl rfl hkey _ [] unitElem_mk ?_; intro w1 hown1 hgrow1)
    | go_in)
  go_end0
  refine ⟨rfl, ⟨n + 1, _, hown1, by have := HN.out; simp; omega, fun y => ?_⟩, hgrow1⟩
  rw [has_lit hown.isMap, HD.out y]
  simp [or_comm]

set_option maxHeartbeats 800000 in
theorem hasC (b : Nat) (l : List Int) (x : Int) (w : World) (hs : Sn w b l) (hx : (Lit.int .i64 x).wf = true) :
    Calls Tryz.prog 71 #[.map (some b), .int .i64 x] w fun e w' => e = .returned (.bool (l.contains x)) ∧ Below w.heap.size w w' := by
  obtain ⟨n, D, hown, hn, hD⟩ := hs
  have hkey := wf_key hx
  have hE : Maps.has D (.int .i64 x) = l.contains x := by
    rw [Bool.eq_iff_iff, hD x]; simp
  have hb : Below w.heap.size w (w.alloc (.cells #[] 124)) := (Below.refl _ _).alloc (Nat.le_refl _) _
  have HE := Lib.hid hE; clear hE
  clear hx hn hD
  go_enter Tryz.func71, Tryz.ntmps71
  go_wp2_with (first
    | (at_lookup; refine wpList_lookup_own_unit _ rfl _ _ 100 rfl 3 124 lawI Tryz.underlying100 (zeroU _) b n D rfl hown _ _ rfl hkey ?_)
    | go_in)
  go_ret
  exact ⟨ret_bool HE.out, hb⟩

theorem grown_back {B : Nat} {w w' : World} (h : w.grownBy w' none) (hB : B ≤ w.heap.size) : Below B w w' := (Below.refl _ w).grown h hB (fun j hj => by cases hj)

set_option maxRecDepth 100000 in
set_option maxHeartbeats 2000000 in
theorem risingC (b : Nat) (l : List Int) (w : World) (hs : Sn w b l) (hl : l.length ≤ 1048576) :
    Calls Tryz.prog 74 #[.map (some b)] w fun e w' => ∃ v, e = .returned v ∧ Ns w' v (rs l) ∧ Below w.heap.size w w' := by
  obtain ⟨n, D0, hown, hn, hD⟩ := hs
  have hsz : Maps.size D0 ≤ 1048576 := Nat.le_trans hown.size_le (by omega)
  obtain ⟨i0, hi, hz0, hz1, hz2⟩ := info_parts infoI
  have hbl := hown.lt
  have HD := Lib.hid hD; clear hD
  clear hl hn
  go_enter Tryz.func74, Tryz.ntmps74
  go_wp2_with (first
    | (at_len; refine wpList_len_own _ rfl _ 100 rfl 3 124 Tryz.underlying100 _ b n _ rfl hown ?_)
    | (at_make; refine wpList_make_own _ rfl _ _ 25 rfl w.heap.size 3 i0 (.int .i64 0) 1 Tryz.underlying25 hi hz0 hz1 _ _ _ (Maps.size D0) rfl rfl rfl (by rw [hz2]; omega) (by unfold maxLen; omega) (Nat.le_refl _) ?_; intro w1 hrow1 hg1)
    | (at_range; refine wpList_range_own _ rfl _ 100 rfl 3 124 lawI Tryz.underlying100 _ b n _ rfl (hown.kept hg1 (by simp)) ?_; intro w0 hrg0 hg0 hs0)
    | go_in)
  go_frame
  go_loopw [3] (fun v wr => ∃ (left : Lit → Bool) (cnt : Nat) (ss : List Int), wr.ranges Tryz.prog 3 (unitElem (H := Unit)) b w1.heap.size n D0 left cnt ∧ ss.length + cnt ≤ Maps.size D0 ∧
      wr.ownsRow w.heap.size 3 1 v ss.length (ss.map (Value.int .i64)) ∧ v ≠ .slice none 0 0 ∧ CollectedI D0 left ss ∧ Below w.heap.size w wr)
    (fun _ wr => wr.rangeLeft b w1.heap.size)
  case atStart =>
    exact ⟨_, _, [], hrg0, by simp, hrow1.kept hg0 (Or.inr (by simp [Value.ownBlock])), by simp, CollectedI.start D0,
      ((Below.refl _ _).grown hg1 (Nat.le_refl _) (fun j hj => by cases hj)).grown hg0 hg1.size (fun j hj => by cases hj)⟩
  case round =>
    obtain ⟨left, cnt, ss, hrg, hcs, hrow, hnn, hC, hnx⟩ := hrel
    go_wp2_with (first
      | (at_next; refine wpList_next_ranges _ rfl _ rfl 3 lawI (unitElem (H := Unit)) encZ (fun (_ : Unit) => Value.agg #[]) (fun key kl hk => by obtain ⟨x, hx, _⟩ := Maps.keyOf_i64 Tryz.underlying3 hk; exact ⟨x, hx⟩) (fun v y hv => ⟨(), (unitElem_inv hv).1⟩) b w1.heap.size n _ _ _ rfl hrg ?_ ?_)
      | go_in)
    · -- nothing is left: sorted, and handed back
      intro hc0 hl0
      rcases hrow.2 with ⟨hnil, _⟩ | ⟨g, cap, cur, rfl, hbase, hb, h1, h2, h3, h4⟩
      · exact absurd hnil hnn
      have hH : Holds encZ wr g 0 ss.toArray := holds_of_block_i hb (by simpa using h4)
      have hgl : g < wr.heap.size := (Array.getElem?_eq_some_iff.1 hb).1
      have hc := sortC g 0 cap ss wr hH hgl (by omega)
      go_wp2_with (go_at_call 91; refine hc.mono ?_; rintro e w' ⟨rfl, nn, os, rfl⟩)
      go_ret
      refine ⟨_, rfl, ?_, hnx.grown (grownBy_sorted_i _) hnx.size (fun j hj => by cases hj; exact hbase)⟩
      have e1 : ss.mergeSort leI = rs l := rs_sorted hC.1 fun x => by rw [hC.2 x, hl0, ← HD.out x]; simp
      have := ownsRow_sorted_i (n := nn) (os := os) (ts := ss.mergeSort leI) (by simp) hbase hb h1 h2 h3
      rw [← e1]
      exact Ns.of_row (base := w.heap.size) (e := 3) (by simpa using this)
    · -- an entry has come
      intro x kl yd yp w2 cnt2 hkey hlk hv hat hrg2 hlt hg2 hs2 hen
      obtain ⟨x', ex, rfl, _⟩ := Maps.keyOf_i64 Tryz.underlying3 hkey
      obtain rfl : x = x' := encZ_inj ex
      have hrow2 := hrow.kept hg2 (Or.inr (row_ne_iter hrow hrg).symm)
      clear hs2
      go_wp2_with (first
        | (at_builtin; refine wpList_append_own _ rfl _ _ 25 rfl w.heap.size 3 i0 (.int .i64 0) 1 8 Tryz.underlying25 hi hz0 hz1 hz2 rfl (by decide) _ _ _ rfl (hrow2.alloc _) ⟨w2.heap.size, 0, none⟩ 1 1 [encZ x] rfl rfl (cell_one_new _ _ _) (by simp [Value.oneCell', encZ]) (by unfold maxLen at *; omega) (by omega) (by have := hnx.size; have := hg2.size; simp; omega) ?_; intro v' w3 hown' hg3 hnil3; go_frame)
        | go_in)
      have hrg3 := (hrg2.alloc _).kept hg3 (row_ne_low hrow2 hbl) (row_ne_iter hrow2 hrg2)
      go_roundw
      case rel =>
        refine ⟨_, cnt2, ss ++ [x], hrg3, by simp; omega, by simpa using hown', fun hv' => by have := (hnil3.1 hv').2; omega, hC.step hlk hat, ?_⟩
        exact ((hnx.grown hg2 hnx.size (fun j hj => by cases hj; exact hg1.size)).alloc (by have := hnx.size; have := hg2.size; omega) _).grown hg3 (by have := hnx.size; have := hg2.size; simp; omega) (fun j hj => (hrow2.lt j hj).1)
      case measure => rw [hrg3.left_eq, hrg.left_eq]; exact hlt

set_option maxHeartbeats 400000 in
theorem onodesC (k h : Int) (s : Value) (hs : ∃ A n c, s = .slice A n c) (w : World) :
    Calls Tryz.prog 73 #[.agg #[.int .i64 k, .int .i64 h, s]] w fun e w' => e = .returned (.func (.func 89) #[] #[.pointer (some ⟨w.heap.size, 0, none⟩)]) ∧ w' = w.alloc (.cells #[.int .i64 k, .int .i64 h, s] 24) := by
  obtain ⟨A, n, c, rfl⟩ := hs
  go_enter Tryz.func73, Tryz.ntmps73
  go_wp2_with fail
  go_ret
  exact ⟨rfl, rfl⟩
end Go.Proofs.YtnnmnkgogiabiaaGreat

/-
  The walk through a term, node by node, as package occur has it: a function to range over.
-/
namespace Go.Proofs.YtnnmnkgogiabiaaGreat
open Go.ChangeShapes Go.WideShapes Go.ChangeAt Go.RowKit Go.Shelf
set_option linter.unusedVariables false

attribute [local go_sem] Oper.semAt_some

/-- a node as it is handed over: how many nodes bind around it, and what it is -/
structure No (w0 : World) where
  b : Int
  k : Int
  h : Int
  A : Option Addr
  n : Nat
  c : Nat
  t : T
  hr : Rd w0 t (.agg #[.int .i64 k, .int .i64 h, .slice A n c])
  hn : n ≤ 3518437208780

def No.key {w0 : World} (x : No w0) : Int × T := (x.b, x.t)
def encO {w0 : World} (x : No w0) : Array Value := #[.int .i64 x.b, .agg #[.int .i64 x.k, .int .i64 x.h, .slice x.A x.n x.c]]

/-- how a visit may end -/
def OVEnd (w0 : World) (n₁ : Nat) (J Jx : List (No w0) → World → Prop) (pre : List (No w0)) (ks : List (Int × T)) (W : World) (e : Ending) (W' : World) : Prop :=
  (∃ ys, e = .returned (.bool true) ∧ ys.map No.key = ks ∧ J (pre ++ ys) W' ∧ KB w0.heap.size n₁ W W') ∨
  (e = .returned (.bool false) ∧ ∃ q, q.map No.key <+: ks ∧ Jx (pre ++ q) W')

theorem OVEnd.bool {w0 : World} {n₁ : Nat} {J Jx : List (No w0) → World → Prop} {pre : List (No w0)} {ks : List (Int × T)} {W W' : World} {e : Ending} (h : OVEnd w0 n₁ J Jx pre ks W e W') :
    ∃ R : Bool, e = .returned (.bool R) ∧ OVEnd w0 n₁ J Jx pre ks W (.returned (.bool R)) W' := by
  rcases h with ⟨ys, rfl, h⟩ | ⟨rfl, h⟩
  · exact ⟨true, rfl, .inl ⟨ys, rfl, h⟩⟩
  · exact ⟨false, rfl, .inr ⟨rfl, h⟩⟩
theorem OVEnd.from {w0 : World} {n₁ : Nat} {J Jx : List (No w0) → World → Prop} {pre : List (No w0)} {ks : List (Int × T)} {W0 W W' : World} {e : Ending} (hk : KB w0.heap.size n₁ W0 W) (h : OVEnd w0 n₁ J Jx pre ks W e W') :
    OVEnd w0 n₁ J Jx pre ks W0 e W' := by
  rcases h with ⟨ys, rfl, h1, h2, h3⟩ | h
  · exact .inl ⟨ys, rfl, h1, h2, hk.trans h3⟩
  · exact .inr h

set_option maxRecDepth 100000 in
set_option maxHeartbeats 4000000 in
theorem ovisitC (w0 : World) (n₁ l N : Nat) (h01 : w0.heap.size ≤ n₁) (J Jx : List (No w0) → World → Prop) (hJ : ∀ s W W', J s W → Below W.heap.size W W' → J s W')
    (hY : ∀ m pre x W, J pre W → pre.length < N → YieldAt Fence.wide m Tryz.prog l (encO x) W fun e W' =>
      (e = .returned (.bool true) ∧ J (pre ++ [x]) W' ∧ KB w0.heap.size n₁ W W') ∨ (e = .returned (.bool false) ∧ Jx (pre ++ [x]) W')) (t : T) :
    ∀ (b : Int) (v : Value) (pre : List (No w0)) (W : World), wd t ≤ 3518437208780 → Rd w0 t v → CK w0.heap.size w0 W → n₁ ≤ W.heap.size → wrap64 b = b → J pre W → pre.length + (nds t b).length ≤ N →
      Calls Tryz.prog 90 #[v, .int .i64 b, .func (.yield l) #[] #[]] W (OVEnd w0 n₁ J Jx pre (nds t b) W) := by
  induction t using T.ind with
  | step k h xs ih =>
    intro b v pre W hsz hv hck hn1 hwb hj hN
    obtain ⟨A, n, c, rfl, hk, hh, hn, hc, hm, hx⟩ := Rd_node.1 hv
    have hnn : n ≤ 3518437208780 := by rw [wd] at hsz; omega
    have hsx : ∀ t ∈ xs, wd t ≤ 3518437208780 := fun t ht => by rw [wd] at hsz; have := wd_mem ht; omega
    have HSX := Lib.hid hsx; clear hsx hsz
    have hm' := hm
    unfold maxLen at hm
    have hN' := hN
    rw [nds, List.length_cons] at hN
    have hbW : Below W.heap.size W (W.alloc (.cells #[.int .i64 k, .int .i64 h, .slice A n c] 24)) := (Below.refl _ _).alloc (Nat.le_refl _) _
    obtain ⟨x, hxk, hxe⟩ : ∃ x : No w0, x.key = (b, .node k h xs) ∧ encO x = #[.int .i64 b, .agg #[.int .i64 k, .int .i64 h, .slice A n c]] := ⟨⟨b, k, h, A, n, c, _, hv, hnn⟩, rfl, rfl⟩
    clear hnn
    obtain ⟨fn, tmps, assign, body, hy, hR⟩ := hY 0 pre x _ (hJ _ _ _ hj hbW) (by omega)
    rw [hxe] at hy
    clear hv
    have HXK := Lib.hid hxk; clear hxk hxe
    have HN := Lib.hid hn; clear hn
    have HX := Lib.hid hx; clear hx
    have IH := Lib.hid ih; clear ih
    have HJ := Lib.hid hJ; clear hJ
    have HY := Lib.hid hY; clear hY
    have HC := Lib.hid hck; clear hck
    have HW := Lib.hid hwb; clear hwb
    have HM := Lib.hid hm'; clear hm'
    have HJ0 := Lib.hid hj; clear hj
    refine (callsIn_wide (n := 1)).1 (callsIn_of_wp Tryz.func90 rfl trivial ?_ rfl)
    simp only [Tryz.ntmps90, List.size_toArray, List.length_cons, List.length_nil, Nat.reduceAdd, Nat.reduceSub, Array.replicate_succ, Array.replicate_zero, List.push_toArray, List.append_toArray, List.nil_append, List.cons_append]
    gi_wp2_with fail
    refine hR.mono ?_
    clear hR hy
    rintro e W3 (⟨rfl, hJ3, hk3⟩ | ⟨rfl, hJx3⟩)
    · have bx3 := hk3.box (Box.new W _ _) hn1
      have hk3 := (KB.of_below hbW).trans hk3
      clear hbW
      obtain ⟨q0, q1, q2⟩ := bx3.three
      have HJ3 := Lib.hid hJ3; clear hJ3
      gi_wp2_with fail
      gi_loopw [17] (fun i wr => ∃ (j : Nat) (ys : List (No w0)), j ≤ n ∧ i = .int .i64 j ∧ Hid (ys.map No.key ++ ndsL k n (xs.drop j) j b = nds (.node k h xs) b) ∧ J (pre ++ ys) wr ∧ KB w0.heap.size n₁ W wr ∧
        Box wr W.heap.size 24 #[.int .i64 k, .int .i64 h, .slice A n c]) (fun i _ => n - (intOf i).toNat)
      case atStart => exact ⟨0, [x], Nat.zero_le _, rfl, Lib.hid (by rw [nds]; simp [HXK.out, HN.out]), HJ3.out, hk3, bx3⟩
      case round =>
        obtain ⟨j, ys, hj, rfl, HS, hJr, hkr, by3⟩ := hrel
        clear q0 q1 q2
        obtain ⟨q0, q1, q2⟩ := by3.three
        by_cases hlt : j < n
        · obtain ⟨t, ht⟩ := at_of HN.out hlt
          obtain ⟨b', o, k2, h2, A2, n2, c2', rfl, c0, c1, c2, hr⟩ := (HX.out j t ht).full
          have HC' := Lib.hid (HC.out.kb hkr)
          have c0 := HC'.out.cell (cell_lt c0) c0
          have c1 := HC'.out.cell (cell_lt c1) c1
          have c2 := HC'.out.cell (cell_lt c2) c2
          have HT := Lib.hid ht; clear ht
          refine wpIn_wide.2 ?_
          go_wp2_with fail
          have hlt3 := by3.lt
          have HS' := HS.out
          rw [drop_at HT.out, ndsL] at HS'
          have HS := Lib.hid HS'; clear HS'
          have hlen : (pre ++ ys).length + (nds t (wrap64 (b + bd k n j))).length ≤ N := by
            have := congrArg List.length HS.out
            simp only [List.length_append, List.length_map] at this
            simp only [List.length_append]
            omega
          have hz1 : n₁ ≤ wr.heap.size := Nat.le_trans hn1 hkr.size
          have HV : Hid (∀ w1, Below wr.heap.size wr w1 → Calls Tryz.prog 90 #[.agg #[.int .i64 k2, .int .i64 h2, .slice A2 n2 c2'], .int .i64 (wrap64 (b + bd k n j)), .func (.yield l) #[] #[]] w1
              fun e w2 => ∃ R : Bool, e = .returned (.bool R) ∧ OVEnd w0 n₁ J Jx (pre ++ ys) (nds t (wrap64 (b + bd k n j))) wr (.returned (.bool R)) w2) :=
            Lib.hid fun w1 hbw => (IH.out t (List.mem_of_getElem? HT.out) _ _ (pre ++ ys) w1 (HSX.out t (List.mem_of_getElem? HT.out)) hr (HC'.out.kb (KB.of_below (n₁ := n₁) hbw)) (Nat.le_trans hz1 hbw.size) (wrapTwice _) (HJ.out _ _ _ hJr hbw) hlen).mono
              fun e w2 hv => (hv.from (KB.of_below hbw)).bool
          clear hlen
          have HBD := Lib.hid fun W => boundC k h (some ⟨b', o, none⟩) n c hc HM.out j (by unfold maxLen; omega) W
          have e3 := by3.alloc (.cells #[.int .i64 k2, .int .i64 h2, .slice A2 n2 c2'] 24)
          have e8 := Box.new wr 24 #[.int .i64 k2, .int .i64 h2, .slice A2 n2 c2']
          have hbA : Below wr.heap.size wr (wr.alloc (.cells #[.int .i64 k2, .int .i64 h2, .slice A2 n2 c2'] 24)) := (Below.refl _ wr).alloc (Nat.le_refl _) _
          generalize wr.alloc (.cells #[.int .i64 k2, .int .i64 h2, .slice A2 n2 c2'] 24) = Wa at *
          clear q0 q1 q2 c0 c1 c2
          obtain ⟨q0, q1, q2⟩ := e3.three
          obtain ⟨c0, c1, c2⟩ := e8.three
          have l3 := e3.lt
          have l8 := e8.lt
          have p0 := Past.cell c0
          have p1 := Past.cell c1
          have p2 := Past.cell c2
          have p3 := Past.cell q0
          have p4 := Past.cell q1
          have p5 := Past.cell q2
          have hwr : IntKind.i64.wrap (b + bd k n j) = wrap64 (b + bd k n j) := wrapEq _
          refine wp_region_class_tail (C := fun w' => ∃ z : Past Wa, w' = z.wd) 7 (by kernel_rfl) (by kernel_rfl) ⟨⟨Wa.drew, (Below.refl _ _).drew⟩, rfl⟩ ?_
          simp only [List.take_succ_cons, List.take_zero, List.drop_succ_cons, List.drop_zero]
          repeat (go_big_quiet_step ((go_at_call 37; exact calls_past (HBD.out _))))
          refine wpQuiet_nil ?_
          rintro _ ⟨z, rfl⟩
          clear p0 p1 p2 p3 p4 p5
          obtain ⟨w1, hb1⟩ := z
          have hbw : Below wr.heap.size wr w1 := hbA.trans (hb1.mono hbA.size)
          have f3 := e3.keep hb1 l3
          dsimp only
          clear hb1
          go_wp2_with fail
          refine (HV.out _ hbw).mono ?_
          rintro e w2 ⟨R, rfl, hv⟩
          rcases hv with ⟨zs, hR, hks, hj2, hk2⟩ | ⟨hR, q, hq, hx2⟩
          · obtain rfl : R = true := by simpa using hR
            go_wp2_with fail
            go_roundw
            case rel =>
              refine ⟨j + 1, ys ++ zs, by omega, by go_num, Lib.hid ?_, by rw [← List.append_assoc]; exact hj2, hkr.trans hk2, hk2.box by3 (by omega)⟩
              rw [← HS.out, List.map_append, hks, List.append_assoc]
            case measure => simp [intOf]; omega
          · obtain rfl : R = false := by simpa using hR
            go_wp2_with fail
            go_ret
            refine .inr ⟨rfl, ys ++ q, ?_, by rw [← List.append_assoc]; exact hx2⟩
            rw [← HS.out, List.map_append]
            obtain ⟨r, hr'⟩ := hq
            exact ⟨r ++ ndsL k n (xs.drop (j + 1)) (j + 1) b, by rw [← hr']; simp⟩
        · gi_wp2_with fail
          go_ret
          have HS' := HS.out
          rw [drop_all HN.out (by omega), ndsL, List.append_nil] at HS'
          exact .inl ⟨ys, rfl, HS', hJr, hkr⟩
    · gi_wp2_with fail
      go_ret
      exact .inr ⟨rfl, [x], ⟨ndsL k n xs 0 b, by rw [nds]; simp [HXK.out, HN.out]⟩, hJx3⟩

set_option maxHeartbeats 1000000 in
/-- what nodes hands back gives all nodes of the term, in order -/
theorem onodesStops (m : Nat) (w0 w : World) (t : T) (k h : Int) (s : Value) (n₁ Bt : Nat) (hs : wd t ≤ 3518437208780) (hv : Rd w0 t (.agg #[.int .i64 k, .int .i64 h, s])) (hb : Below w0.heap.size w0 w) (h01 : w0.heap.size ≤ n₁) (hn : n₁ ≤ w.heap.size)
    (hB : Box w Bt 24 #[.int .i64 k, .int .i64 h, s]) :
    SeqStopsK Fence.wide m Tryz.prog 89 #[.pointer (some ⟨Bt, 0, none⟩)] (encO (w0 := w0)) (KB w0.heap.size n₁) (fun ys => ys.map No.key = nds t 0) (fun q => q.map No.key <+: nds t 0) (nds t 0).length w := by
  intro l J Jx W hW hJ hJx hY h0
  refine callsIn_wide.2 ?_
  obtain ⟨b0, b1, b2⟩ := (hB.keep hW hB.lt).three
  have hV := ovisitC w0 n₁ l (nds t 0).length h01 J Jx (fun s W W' hs hb => hJ s W W' none hs (grown_of_below hb) (fun r e => by cases e)) (fun m' pre x W1 hj hl => yieldAny m' (hY pre x W1 hj hl)) t 0 _ [] W hs hv
    (CK.of_below (hb.trans (hW.mono hb.size))) (Nat.le_trans hn hW.size) (by unfold wrap64; omega) h0 (by simp)
  have HV := Lib.hid hV; clear hV
  clear hY h0 hJ hJx hv hs
  go_enter Tryz.func89, Tryz.ntmps89
  go_wp2_with fail
  refine HV.out.mono ?_
  rintro e w1 (⟨ys, rfl, h1, h2, h3⟩ | ⟨rfl, q, h1, h2⟩)
  · go_wp2_with fail
    go_end0
    exact ⟨⟨_, rfl⟩, .inl ⟨ys, h1, by simpa using h2⟩⟩
  · go_wp2_with fail
    go_end0
    exact ⟨⟨_, rfl⟩, .inr ⟨q, h1, by simpa using h2⟩⟩
end Go.Proofs.YtnnmnkgogiabiaaGreat

/-
  Contracts of package occur's Vars and Metas. No statement is proved here.
-/
namespace Go.Proofs.YtnnmnkgogiabiaaGreat
open Go.ChangeShapes Go.WideShapes Go.ChangeAt Go.RowKit Go.Shelf
set_option linter.unusedVariables false

attribute [local go_sem] Oper.semAt_some

theorem No.full {w0 : World} (x : No w0) : ∃ xs, x.t = .node x.k x.h xs ∧ (Lit.int .i64 x.h).wf = true ∧ (Lit.int .i64 x.k).wf = true ∧ xs.length = x.n ∧ x.n ≤ x.c ∧ x.c ≤ maxLen ∧ ∀ i t, xs[i]? = some t → RdAt w0 x.A i t := by
  obtain ⟨b, k, h, A, n, c, ⟨k', h', xs⟩, hr, hs⟩ := x
  obtain ⟨A', n', c', e, hk, hh, hl, hc, hm, hx⟩ := Rd_node.1 hr
  have e' : k = k' ∧ h = h' ∧ A = A' ∧ n = n' ∧ c = c' := by simpa using e
  obtain ⟨rfl, rfl, rfl, rfl, rfl⟩ := e'
  exact ⟨xs, rfl, hh, hk, hl, hc, hm, hx⟩
theorem No.fv {w0 : World} (x : No w0) : fv1 x.key = if x.k = 4 ∧ x.b ≤ x.h then [wrap64 (x.h - x.b)] else [] := by
  obtain ⟨xs, e, _⟩ := x.full
  unfold No.key
  rw [e]
  rfl
theorem No.mt {w0 : World} (x : No w0) : mt1 x.key = if x.k = 6 then [x.h] else [] := by
  obtain ⟨xs, e, _⟩ := x.full
  unfold No.key
  rw [e]
  rfl
theorem flat1_le {α : Type} (f : α → List Int) (hf : ∀ x, (f x).length ≤ 1) : ∀ l : List α, (l.flatMap f).length ≤ l.length
  | [] => by simp
  | x :: l => by rw [List.flatMap_cons, List.length_append, List.length_cons]; have := hf x; have := flat1_le f hf l; omega
theorem fv1_le (x : Int × T) : (fv1 x).length ≤ 1 := by obtain ⟨b, k, h, xs⟩ := x; unfold fv1; dsimp only; split <;> simp
theorem mt1_le (x : Int × T) : (mt1 x).length ≤ 1 := by obtain ⟨b, k, h, xs⟩ := x; unfold mt1; dsimp only; split <;> simp
/-- what has been seen -/
def fvP {w0 : World} (pre : List (No w0)) : List Int := (pre.map No.key).flatMap fv1
def mtP {w0 : World} (pre : List (No w0)) : List Int := (pre.map No.key).flatMap mt1
theorem fvP_snoc {w0 : World} (pre : List (No w0)) (x : No w0) : fvP (pre ++ [x]) = fvP pre ++ fv1 x.key := by simp [fvP]
theorem mtP_snoc {w0 : World} (pre : List (No w0)) (x : No w0) : mtP (pre ++ [x]) = mtP pre ++ mt1 x.key := by simp [mtP]
theorem fvP_le {w0 : World} (pre : List (No w0)) : (fvP pre).length ≤ pre.length := by have := flat1_le fv1 fv1_le (pre.map No.key); simpa [fvP] using this
theorem mtP_le {w0 : World} (pre : List (No w0)) : (mtP pre).length ≤ pre.length := by have := flat1_le mt1 mt1_le (pre.map No.key); simpa [mtP] using this
theorem Sn.keptR {w w' : World} {b B : Nat} {l : List Int} {row : Option Nat} (h : Sn w b l) (hg : w.grownBy w' row) (hr : ∀ r, row = some r → B ≤ r ∧ ∃ o : Obj, w.heap[r]? = some o ∧ o.isCells = false) (hb : b < B) : Sn w' b l :=
  h.kept hg fun e => by have := (hr b e.symm).1; omega
theorem Sn.isMap {w : World} {b : Nat} {l : List Int} (h : Sn w b l) : ∃ es cl, w.heap[b]? = some (.map es cl) := by
  obtain ⟨n, D, ⟨es, cl, hb, _⟩, _⟩ := h
  exact ⟨es, cl, hb⟩
theorem KB.of_map {n₀ n₁ b : Nat} {w w' : World} {l : List Int} (h : Sn w b l) (hg : w.grownBy w' (some b)) : KB n₀ n₁ w w' :=
  ⟨hg.size, fun k o _ hk hc => (hg.block k (Array.getElem?_eq_some_iff.1 hk).1 (fun e => by
    cases e
    obtain ⟨es, cl, hm⟩ := h.isMap
    rw [hm] at hk
    cases hk
    cases hc)).trans hk⟩
theorem Sn.boxed {w w' : World} {b B : Nat} {ty : TypeId} {cs : Array Value} {l : List Int} (h : Sn w b l) (hg : w.grownBy w' (some b)) (hx : Box w B ty cs) : Box w' B ty cs :=
  (KB.of_map (n₀ := w.heap.size) (n₁ := 0) h hg).box hx (Nat.zero_le _)
theorem below_map {w0 w w' : World} {b B : Nat} (h : Below B w0 w) (hg : w.grownBy w' (some b)) (hb : B ≤ b) (hB : B ≤ w.heap.size) : Below B w0 w' := h.grown hg hB fun j e => by cases e; exact hb
theorem snR {w : World} {b : Nat} {l m : List Int} (h : Sn w b l) (e : l = m) : Sn w b m := e ▸ h

theorem Ns.put {w : World} {v : Value} {zs : List Int} {D : Nat} {o' : Obj} (h : Ns w v zs) (hD : w.heap[D]? = some (.deferred (some []))) : Ns (w.putObj D o') v zs := by
  obtain ⟨A, c, h1, h2, h3, h4⟩ := h
  refine ⟨A, c, h1, h2, h3, fun i z hz => ?_⟩
  obtain ⟨b, o, e, hc⟩ := h4 i z hz
  refine ⟨b, o, e, ?_⟩
  have hne : D ≠ b := by
    rintro rfl
    unfold World.cell? at hc
    rw [hD] at hc
    cases hc
  rw [← hc]
  exact World.cell?_of_block (by simp only [World.putObj]; rw [Array.getElem?_setIfInBounds_ne hne])


set_option maxRecDepth 100000 in
set_option maxHeartbeats 4000000 in
theorem oMetasC (t : T) (v : Value) (w : World) (hv : Rd w t v) (hs : nd t ≤ 1048576) :
    Calls Tryz.prog 54 #[v] w fun e w' => ∃ u, e = .returned u ∧ Ns w' u (rs ((nds t 0).flatMap mt1)) ∧ Below w.heap.size w w' := by
  obtain ⟨k, h, A, n, c, rfl⟩ := hv.full
  have HV := Lib.hid hv; clear hv
  have HS := Lib.hid hs; clear hs
  have hmm := @run_makeMap Tryz.prog
  refine (callsIn_wide (n := 8)).1 (callsIn_of_wp_marks Tryz.func54 rfl trivial ?_ rfl)
  simp only [Tryz.ntmps54, List.size_toArray, List.length_cons, List.length_nil, Nat.reduceAdd, Nat.reduceSub, Array.replicate_succ, Array.replicate_zero, List.push_toArray, List.append_toArray, List.nil_append, List.cons_append]
  gi_wp2_with (refine ⟨trivial, ?_⟩; gi_at_call 73; refine (callsIn_wide.2 (onodesC k h _ ⟨A, n, c, rfl⟩ _)).mono ?_; rintro e w' ⟨rfl, rfl⟩)
  clear hmm
  obtain ⟨W0, hW0⟩ : ∃ W0, ((((w.alloc (.cells #[.int .i64 k, .int .i64 h, .slice A n c] 24)).alloc (.map #[] 0)).alloc (.cells #[.map (some (w.heap.size + 1))] 100)).alloc (.cells #[.int .i64 k, .int .i64 h, .slice A n c] 24)) = W0 := ⟨_, rfl⟩
  rw [hW0]
  have hbW : Below w.heap.size w W0 := by
    rw [← hW0]; exact ((((Below.refl _ w).alloc (Nat.le_refl _) _).alloc (by simp) _).alloc (by simp; omega) _).alloc (by simp; omega) _
  have sn0 : Sn W0 (w.heap.size + 1) [] := by
    rw [← hW0]
    have := Sn.new (w.alloc (.cells #[.int .i64 k, .int .i64 h, .slice A n c] 24))
    simp only [World.size_alloc] at this
    exact (this.kept (World.grownBy_alloc _ _ none) (by simp)).kept (World.grownBy_alloc _ _ none) (by simp)
  have bx2 : Box W0 (w.heap.size + 1 + 1) 100 #[.map (some (w.heap.size + 1))] := by
    rw [← hW0]; exact ((Box.new ((w.alloc _).alloc _) _ _).at (b' := w.heap.size + 1 + 1) (by simp)).alloc _
  have bx3 : Box W0 (w.heap.size + 1 + 1 + 1) 24 #[.int .i64 k, .int .i64 h, .slice A n c] := by
    rw [← hW0]; exact (Box.new (((w.alloc _).alloc _).alloc _) _ _).at (b' := w.heap.size + 1 + 1 + 1) (by simp)
  clear hW0
  have hl := bx3.lt
  refine wpIn_rangeFunc_ownH rfl (by omega) (gf := 89) (lb := #[.pointer (some ⟨w.heap.size + 1 + 1 + 1, 0, none⟩)]) rfl trivial (enters_of Tryz.func89 (by kernel_rfl) rfl)
    (onodesStops 7 w W0 t k h _ (w.heap.size + 1 + 1 + 1) (w.heap.size + 1 + 1 + 1) (by have h1 := wd_nd t; have h2 := HS.out; omega) HV.out hbW (by omega) (by omega) bx3) KB.trans (fun W l o o' _ h1 h2 _ => KB.putObj W l o o' h1 h2) (Below.refl _ _) (fun _ => rfl)
    (fun pre W => Sn W (w.heap.size + 1) (mtP pre) ∧ Box W (w.heap.size + 1 + 1) 100 #[.map (some (w.heap.size + 1))] ∧ Below w.heap.size w W)
    (fun cd pre W => False)
    (fun s A B row hs hg hr => ⟨hs.1.keptR hg hr (by omega), hs.2.1.kept hg hr, below_kept hs.2.2 hg hr (by omega) hs.2.2.size⟩)
    (fun _ s A B row hs hg hr => hs) ⟨sn0, bx2, hbW⟩
    (fun x a' W => ∃ By, w.heap.size + 1 + 1 + 1 ≤ By ∧ Box W By 24 #[.int .i64 x.k, .int .i64 x.h, .slice x.A x.n x.c] ∧
      a' = { tmps := #[.agg #[.int .i64 k, .int .i64 h, .slice A n c], .pointer (some ⟨w.heap.size, 0, none⟩), .slice none 0 0, .pointer (some ⟨w.heap.size + 1 + 1, 0, none⟩), undef, .pointer (some ⟨By, 0, none⟩), .map (some (w.heap.size + 1)), .agg #[.int .i64 k, .int .i64 h, .slice A n c],
        .func (.func 89) #[] #[.pointer (some ⟨w.heap.size + 1 + 1 + 1, 0, none⟩)], .int .i64 x.b, .agg #[.int .i64 x.k, .int .i64 x.h, .slice x.A x.n x.c], undef, undef, undef, undef, undef, undef, undef, undef, undef], defers := [] })
    (fun _ _ _ A B row hs hg hr => by obtain ⟨By, h2, h4, h5⟩ := hs; exact ⟨By, h2, h4.kept hg hr, h5⟩) ?assign ?body ?done ?stop
  case assign =>
    rintro l pre x W K ⟨hb1, hb2, hB⟩ hK
    have hz := hb2.lt
    have e := hB.size
    simp only [encO, List.zip_toArray, List.zip_cons_cons, List.zip_nil_right, List.foldl_toArray, List.foldl_cons, List.foldl_nil, List.setIfInBounds_toArray, List.set_cons_succ, List.set_cons_zero]
    gi_wp2
    have hbA : Below W.heap.size W (W.alloc (.cells #[.int .i64 x.k, .int .i64 x.h, .slice x.A x.n x.c] 24)) := (Below.refl _ _).alloc (Nat.le_refl _) _
    exact hK _ _ (keepsFrom_of_below hbA) (KB.of_below hbA) ⟨hb1.keep hbA, hb2.alloc _, hB.trans (hbA.mono hB.size)⟩ ⟨W.heap.size, by omega, Box.new _ _ _, rfl⟩
  case body =>
    rintro l pre x a' W hl ⟨r, hr⟩ ⟨hb1, hb2, hB⟩ ⟨By, hBy, hbn, rfl⟩ hlen
    have hsn := mtP_snoc pre x
    rw [x.mt] at hsn
    have HSN := Lib.hid hsn; clear hsn
    generalize pre ++ [x] = px at *
    have hpl : (mtP pre).length < maxLen := by
      have h1 := mtP_le pre
      have h2 := HS.out
      rw [nds_len] at hlen
      unfold maxLen
      omega
    have hxw : (Lit.int .i64 x.h).wf = true := by obtain ⟨xs, _, h1, _⟩ := x.full; exact h1
    obtain ⟨c2, f2⟩ := hb2.one
    obtain ⟨q0, q1, q2⟩ := hbn.three
    have HB1 := Lib.hid hb1
    have HPL := Lib.hid hpl
    have HXW := Lib.hid hxw
    clear hb1 hpl hxw hlen
    obtain ⟨xb, xk, xh, xA, xn, xc, xt, xr, xs⟩ := x
    dsimp only at *
    by_cases k6 : xk = 6
    · subst k6
      by_cases triv : True
      · have hadd := addC (w.heap.size + 1) (mtP pre) xh W HB1.out HXW.out HPL.out
        have HAD := Lib.hid hadd; clear hadd
        gi_wp2_with (refine ⟨trivial, ?_⟩; gi_at_call 72; refine (CallsIn.inRound l (callsIn_wide.2 HAD.out)).mono ?_; rintro e w1 ⟨rfl, hsn1, hg1⟩)
        exact ⟨KeepsFrom.of_grownBy hg1 (fun j hj => by cases hj; omega), KB.of_map HB1.out hg1, snR hsn1 (by rw [HSN.out, if_pos (by simp)]), HB1.out.boxed hg1 hb2, below_map hB hg1 (by omega) hB.size⟩
      · exact absurd trivial triv
    · have e6 : (xk == 6) = false := by simpa using k6
      have HH := Lib.hid k6; clear k6
      gi_wp2_with fail
      exact ⟨KeepsFrom.refl _ _, KB.refl _ _ _, snR HB1.out (by rw [HSN.out, if_neg (by have := HH.out; simp; omega)]; simp), hb2, hB⟩
  case done =>
    rintro D ys W hD hS ⟨hb1, hb2, hB⟩ hK
    obtain ⟨c2, f2⟩ := hb2.one
    have hle : (mtP ys).length ≤ 1048576 := by
      have h1 := mtP_le ys
      have h2 := HS.out
      have h3 := congrArg List.length hS
      rw [List.length_map, nds_len] at h3
      omega
    have HRC := Lib.hid (risingC (w.heap.size + 1) (mtP ys) W hb1 hle)
    have e9 : mtP ys = (nds t 0).flatMap mt1 := by rw [← hS]; rfl
    have HE := Lib.hid e9
    clear e9 hS hle
    gi_wp2_with (refine ⟨trivial, ?_⟩; gi_at_call 74; refine (callsIn_wide.2 HRC.out).mono ?_; rintro e w1 ⟨u, rfl, hn, hb9⟩)
    have hK' : w1.heap[D]? = some (.deferred (some [])) := (hb9.block D (Array.getElem?_eq_some_iff.1 hK).1).trans hK
    have hB' := below_putObj (hB.trans (hb9.mono hB.size)) (show w.heap.size ≤ D by omega) (.deferred none)
    refine ⟨by simp, .inl ⟨_, _, rfl, run_takeDeferred hK', ?_⟩⟩
    refine ⟨_, results_tmp rfl _ _ _, ⟨_, rfl, ?_, hB'⟩⟩
    rw [← HE.out]
    exact hn.put hK'
  case stop =>
    rintro D cd pre W _ _ h _
    exact h.elim

end Go.Proofs.YtnnmnkgogiabiaaGreat

/-
  Contract of package occur's Pattern. No statement is proved here.
-/
namespace Go.Proofs.YtnnmnkgogiabiaaGreat
open Go.ChangeShapes Go.WideShapes Go.ChangeAt Go.RowKit Go.Shelf Go.Maps
set_option linter.unusedVariables false

/-- what Pattern answers -/
def PtEnd (o : Option (List Int)) (w : World) (e : Ending) (w' : World) : Prop :=
  (∃ zs v, o = some zs ∧ e = .returned (.tuple #[v, .bool true]) ∧ Ns w' v zs ∧ Below w.heap.size w w') ∨ (o = none ∧ e = .returned (.tuple #[.slice none 0 0, .bool false]) ∧ Below w.heap.size w w')

theorem ptn_step {below : Int} {seen : List Int} {k h : Int} {ys ts : List T} (hp : pt1 seen below (.node k h ys) = true) : ptn below seen (.node k h ys :: ts) = ptn below (seen ++ [h]) ts := by
  rw [ptn, if_pos hp]; rfl
theorem ptn_stop {below : Int} {seen : List Int} {t : T} {ts : List T} (hp : pt1 seen below t = false) : ptn below seen (t :: ts) = none := by
  rw [ptn, hp]; rfl

theorem row_still {w w' : World} {base : Nat} {e : TypeId} {size : Nat} {v : Value} {n : Nat} {xs : List Value} (h : w.ownsRow base e size v n xs) (hb : Below w.heap.size w w') : w'.ownsRow base e size v n xs :=
  h.kept (grown_of_below hb) (by cases v.ownBlock <;> simp)

set_option maxRecDepth 100000 in
set_option maxHeartbeats 4000000 in
theorem oPatternC (xs : List T) (A : Option Addr) (n c : Nat) (below : Int) (w : World) (hn : xs.length = n) (hc : n ≤ c) (hm : c ≤ maxLen) (hb : n ≤ 3518437208780) (hx : ∀ i t, xs[i]? = some t → RdAt w A i t) :
    Calls Tryz.prog 53 #[.slice A n c, .int .i64 below] w (PtEnd (ptn below [] xs) w) := by
  obtain ⟨i0, hi, hz0, hz1, hz2⟩ := info_parts infoI
  have hmm := @run_makeMap Tryz.prog
  have HX := Lib.hid hx; clear hx
  have HN := Lib.hid hn; clear hn
  have HM := Lib.hid hm; clear hm
  have HNB := Lib.hid hb
  have hb8 : 8 * n ≤ 281474976710656 := by omega
  have hnm : n ≤ maxLen := by unfold maxLen; omega
  have HNM := Lib.hid hnm; clear hnm
  go_enter Tryz.func53, Tryz.ntmps53
  go_wp2_with (first
    | (at_make; refine wpList_make_own _ rfl _ _ 25 rfl (w.heap.size + 1) 3 i0 (.int .i64 0) 1 Tryz.underlying25 hi hz0 hz1 _ _ _ n rfl rfl rfl (by rw [hz2]; exact hb8) HNM.out (by simp) ?_; intro w1 hrow1 hg1)
    | go_in)
  clear hmm
  have sn1 : Sn w1 w.heap.size [] := (Sn.new w).kept hg1 (by simp)
  have hb1 : Below w.heap.size w w1 := ((Below.refl _ w).alloc (Nat.le_refl _) _).grown hg1 (by simp) (fun j hj => by cases hj)
  have hsz1 : w.heap.size + 1 ≤ w1.heap.size := by have := hg1.size; simpa using this
  clear hg1
  go_loopw [7, 16] (fun v i wr => ∃ (j : Nat) (seen : List Int), j ≤ n ∧ i = .int .i64 j ∧ Sn wr w.heap.size seen ∧ wr.ownsRow (w.heap.size + 1) 3 1 v seen.length (seen.map (Value.int .i64)) ∧ seen.length ≤ j ∧ Below w.heap.size w wr ∧ w.heap.size + 1 ≤ wr.heap.size ∧
      Hid (ptn below seen (xs.drop j) = ptn below [] xs)) (fun _ i _ => n - (intOf i).toNat)
  case atStart => exact ⟨0, [], Nat.zero_le _, rfl, sn1, by simpa using hrow1, Nat.le_refl _, hb1, hsz1, Lib.hid rfl⟩
  case round =>
    obtain ⟨j, seen, hj, rfl, hsn, hrow, hsl, hbw, hws, HP⟩ := hrel
    clear hrow1 sn1 hb1 hsz1
    by_cases hlt : j < n
    · obtain ⟨t, ht⟩ := at_of HN.out hlt
      obtain ⟨b', o, k2, h2, A2, n2, c2', rfl, c0, c1, c2, hr⟩ := (HX.out j t ht).full
      have c0 := (hbw.cell (cell_lt c0)).trans c0
      have c1 := (hbw.cell (cell_lt c1)).trans c1
      have c2 := (hbw.cell (cell_lt c2)).trans c2
      obtain ⟨k3, h3, ys⟩ := t
      obtain ⟨A3, n3, c3, e3, hk3, hh3, hl3, hc3, hm3, _⟩ := Rd_node.1 hr
      have e3' : k2 = k3 ∧ h2 = h3 ∧ A2 = A3 ∧ n2 = n3 ∧ c2' = c3 := by simpa using e3
      obtain ⟨rfl, rfl, rfl, rfl, rfl⟩ := e3'
      clear e3 hr hk3 hc3 hm3
      have HP' := HP.out
      rw [drop_at ht] at HP'
      have HL3 := Lib.hid hl3; clear hl3
      have HT := Lib.hid ht; clear ht
      by_cases p1 : pt1 seen below (.node k2 h2 ys) = true
      · rw [ptn_step p1] at HP'
        have HP := Lib.hid HP'; clear HP'
        have hq : k2 = 4 ∧ n2 = 0 ∧ 0 ≤ h2 ∧ h2 < below ∧ seen.contains h2 = false := by
          have hy := HL3.out
          simp only [pt1, Bool.and_eq_true, beq_iff_eq, decide_eq_true_eq, Bool.not_eq_true'] at p1
          exact ⟨p1.1.1.1.1, by omega, p1.1.1.2, p1.1.2, p1.2⟩
        obtain ⟨rfl, rfl, h0, h9, hcn⟩ := hq
        clear p1
        have d0 : decide (h2 < 0) = false := by simpa using h0
        have d9 : decide (below ≤ h2) = false := by simpa using h9
        have HH := Lib.hid h0; clear h0
        have HH9 := Lib.hid h9; clear h9
        have HHC := Lib.hid (hasC w.heap.size seen h2 _ (hsn.keep ((Below.refl _ _).alloc (Nat.le_refl _) (.cells #[.int .i64 4, .int .i64 h2, .slice A2 0 c2'] 24))) hh3)
        rw [hcn] at HHC
        clear hcn
        have bx := Box.new wr 24 #[.int .i64 4, .int .i64 h2, .slice A2 0 c2']
        have hba : Below wr.heap.size wr (wr.alloc (.cells #[.int .i64 4, .int .i64 h2, .slice A2 0 c2'] 24)) := (Below.refl _ _).alloc (Nat.le_refl _) _
        have hsm : seen.length < maxLen := by unfold maxLen; omega
        have HSM := Lib.hid hsm; clear hsm
        go_wp2_with (first
          | (go_at_call 71; refine HHC.out.mono ?_; rintro e w2 ⟨rfl, hb2⟩
             have bx2 := bx.keep hb2 bx.lt
             obtain ⟨q0, q1, q2⟩ := bx2.three
             have hb02 : Below wr.heap.size wr w2 := hba.trans (hb2.mono hba.size)
             have hsn2 := hsn.keep hb02
             have hl2 := bx2.lt
             clear hb2 HHC)
          | (go_at_call 72; refine (addC w.heap.size seen h2 w2 hsn2 hh3 HSM.out).mono ?_; rintro e w3 ⟨rfl, hsn3, hg3⟩
             have bx3 := hsn2.boxed hg3 bx2
             have hrow3 := (row_still hrow hb02).kept hg3 (Or.inr (row_ne_low (row_still hrow hb02) (Nat.lt_succ_self _)).symm)
             have hs3 : w.heap.size + 1 ≤ w3.heap.size := Nat.le_trans hws (Nat.le_trans hb02.size hg3.size)
             have hgl : (seen.length + 1) * 8 ≤ 140737488355328 := by omega
             have hgm : seen.length + 1 ≤ maxLen := by unfold maxLen; omega
             clear q0 q1 q2
             obtain ⟨q0, q1, q2⟩ := bx3.three)
          | (at_builtin; refine wpList_append_own _ rfl _ _ 25 rfl (w.heap.size + 1) 3 i0 (.int .i64 0) 1 8 Tryz.underlying25 hi hz0 hz1 hz2 rfl (by decide) _ _ _ rfl (hrow3.alloc _) ⟨w3.heap.size, 0, none⟩ 1 1 [.int .i64 h2] rfl rfl (cell_one_new _ _ _) (ints_oneCell .i64 [h2]) hgm hgl (by simp; omega) ?_; intro v' w4 hown' hg4 hnil4; go_frame))
        have hr4 := hrow3.alloc (.cells #[.int .i64 h2] 3)
        have hs4 := hg4.size
        simp only [World.size_alloc] at hs4
        have hB3 : Below w.heap.size w w3 := below_map (hbw.trans (hb02.mono hbw.size)) hg3 (Nat.le_refl _) (by have := hb02.size; omega)
        refine ⟨⟨j + 1, seen ++ [h2], by omega, by go_num, (hsn3.kept (World.grownBy_alloc _ _ none) (by simp)).kept hg4 (row_ne_low hr4 (Nat.lt_succ_self _)), by simpa using hown', by simp; omega, ?_, by omega, HP⟩, by simp [intOf]; omega⟩
        exact (hB3.alloc (by omega) _).grown hg4 (by simp; omega) (fun i hi => Nat.le_trans (Nat.le_succ _) (hr4.lt i hi).1)
      · have p1 : pt1 seen below (.node k2 h2 ys) = false := by simpa using p1
        rw [ptn_stop p1] at HP'
        have HP := Lib.hid HP'.symm; clear HP'
        by_cases k4 : k2 = 4
        · subst k4
          by_cases hz : n2 = 0
          · subst hz
            by_cases h0 : h2 < 0
            · have d0 : decide (h2 < 0) = true := by simpa using h0
              have HH := Lib.hid h0; clear h0
              go_wp2_with fail
              refine bodyPost_ret (v := .tuple #[.slice none 0 0, .bool false]) (by simp [results, Tryz.results53, go_sem]) rfl (.inr ⟨HP.out, rfl, hbw.alloc hbw.size _⟩)
            · have d0 : decide (h2 < 0) = false := by simpa using h0
              by_cases h9 : below ≤ h2
              · have d9 : decide (below ≤ h2) = true := by simpa using h9
                have HH := Lib.hid h0; clear h0
                have HH9 := Lib.hid h9; clear h9
                go_wp2_with fail
                refine bodyPost_ret (v := .tuple #[.slice none 0 0, .bool false]) (by simp [results, Tryz.results53, go_sem]) rfl (.inr ⟨HP.out, rfl, hbw.alloc hbw.size _⟩)
              · have d9 : decide (below ≤ h2) = false := by simpa using h9
                have hcn : seen.contains h2 = true := by
                  have h0' : (0 : Int) ≤ h2 := by omega
                  have h9' : h2 < below := by omega
                  have hy : ys.length = 0 := HL3.out
                  simp only [pt1, hy, decide_eq_true h0', decide_eq_true h9', Bool.and_eq_false_iff] at p1
                  simpa using p1
                have HH := Lib.hid h0; clear h0
                have HH9 := Lib.hid h9; clear h9
                have hbw' : Below w.heap.size w (wr.alloc (.cells #[.int .i64 4, .int .i64 h2, .slice A2 0 c2'] 24)) := hbw.alloc hbw.size _
                have HHC := Lib.hid (hasC w.heap.size seen h2 _ (hsn.keep ((Below.refl _ _).alloc (Nat.le_refl _) (.cells #[.int .i64 4, .int .i64 h2, .slice A2 0 c2'] 24))) hh3)
                rw [hcn] at HHC
                clear hcn p1
                go_wp2_with (go_at_call 71; refine HHC.out.mono ?_; rintro e w2 ⟨rfl, hb2⟩)
                refine bodyPost_ret (v := .tuple #[.slice none 0 0, .bool false]) (by simp [results, Tryz.results53, go_sem]) rfl (.inr ⟨HP.out, rfl, hbw'.trans (hb2.mono hbw'.size)⟩)
          · have d1 : decide ((0 : Int) < (n2 : Int)) = true := by simp; omega
            go_wp2_with fail
            refine bodyPost_ret (v := .tuple #[.slice none 0 0, .bool false]) (by simp [results, Tryz.results53, go_sem]) rfl (.inr ⟨HP.out, rfl, hbw.alloc hbw.size _⟩)
        · have e4 : (k2 == 4) = false := by simpa using k4
          have HH := Lib.hid k4; clear k4
          go_wp2_with fail
          refine bodyPost_ret (v := .tuple #[.slice none 0 0, .bool false]) (by simp [results, Tryz.results53, go_sem]) rfl (.inr ⟨HP.out, rfl, hbw.alloc hbw.size _⟩)
    · have HP' := HP.out
      rw [drop_all HN.out (by omega), ptn] at HP'
      have HP := Lib.hid HP'.symm; clear HP'
      go_wp2_with fail
      refine bodyPost_ret (v := .tuple #[u7, .bool true]) (by simp [results, Tryz.results53, go_sem]) rfl (.inl ⟨seen, _, HP.out, rfl, Ns.of_row hrow, hbw⟩)
end Go.Proofs.YtnnmnkgogiabiaaGreat

/-
  The library's product of two numbers: its contract, laid at this program. No statement is proved here.
-/
namespace Go.Proofs.YtnnmnkgogiabiaaGreat
open Go.Shelf Go.RowKit
set_option linter.unusedVariables false

def mulRen : Ren := ⟨fun | 212 => 100 | 263 => 116 | 264 => 117 | n => n, fun | 46 => 136 | 51 => 152 | 53 => 154 | 146 => 155 | 148 => 157 | n => n, fun n => n⟩
theorem mulLays : Lays.n212 Tryz.prog mulRen := {
  mixed := by kernel_rfl
  f212 := Tryz.func100.trans (congrArg some (by kernel_rfl))
  f263 := Tryz.func116.trans (congrArg some (by kernel_rfl))
  f264 := Tryz.func117.trans (congrArg some (by kernel_rfl))
  t46 := Tryz.underlying136
  a46 := Tryz.isAgg136
  z46 := Tryz.sizeOf136
  v46 := Tryz.zeroValue136
  t51 := Tryz.underlying152
  a51 := Tryz.isAgg152
  z51 := Tryz.sizeOf152
  v51 := Tryz.zeroValue152
  t53 := Tryz.underlying154
  a53 := Tryz.isAgg154
  z53 := Tryz.sizeOf154
  v53 := Tryz.zeroValue154
  t146 := Tryz.underlying155
  a146 := Tryz.isAgg155
  z146 := Tryz.sizeOf155
  v146 := Tryz.zeroValue155
  t148 := Tryz.underlying157
  a148 := Tryz.isAgg157
  z148 := Tryz.sizeOf157
  v148 := Tryz.zeroValue157 }
theorem mulC (x y : Nat) (hx : x < 18446744073709551616) (hy : y < 18446744073709551616) (w : World) :
    Calls Tryz.prog 100 #[.int .u64 x, .int .u64 y] w fun e w' => e = .returned (.tuple #[.int .u64 ((x * y / 18446744073709551616 : Nat) : Int), .int .u64 ((x * y % 18446744073709551616 : Nat) : Int)]) ∧ w' = w :=
  Any.bits_Mul mulLays x y hx hy w
end Go.Proofs.YtnnmnkgogiabiaaGreat

/-
  Contract of the library's Repeat at a list of one number. No statement is proved here.
-/
namespace Go.Proofs.YtnnmnkgogiabiaaGreat
open Go.ChangeShapes Go.WideShapes Go.ChangeAt Go.RowKit
set_option linter.unusedVariables false

theorem mulOne (N : Nat) (hN : N ≤ 1000) (w : World) : Calls Tryz.prog 100 #[.int .u64 1, .int .u64 N] w fun e w' => e = .returned (.tuple #[.int .u64 0, .int .u64 N]) ∧ w' = w := by
  have h := mulC 1 N (by omega) (by omega) w
  rw [show 1 * N / 18446744073709551616 = 0 by omega, show 1 * N % 18446744073709551616 = N by omega] at h
  exact h
theorem infoInt : (Tryz.prog.info? 3).map (fun i => (i.zero, i.size, i.bytes)) = some (some (.int .i64 0), 1, 8) := by kernel_rfl
theorem sizeInt : (Tryz.prog.info? 3).map (·.size) = some 1 := by kernel_rfl
/-- one number copied m times into a block -/
theorem copy_box {w : World} {b : Nat} {cs : Array Value} (h : Box w b 3 cs) (o dLen dCap : Nat) (a : Addr) (sLen sCap m : Nat) (x : Int) (ty : TypeId) (hn : m = Nat.min sLen dLen) (hsrc : ∀ j, j < m → w.cell? (a.add j) = some (.int .i64 x)) (hfit : o + m ≤ cs.size) :
    ∃ w' cs', (Builtin.copy_ #[25, 25] ty #[.slice (some ⟨b, o, none⟩) dLen dCap, .slice (some a) sLen sCap]).run Tryz.prog w = .ok (.int .i64 (m : Int)) w' ∧ Box w' b 3 cs' ∧ cs'.size = cs.size ∧
      (∀ i, i < o → cs'[i]? = cs[i]?) ∧ (∀ i, i < m → cs'[o + i]? = some (.int .i64 x)) ∧ (∀ B, B ≤ b → Below B w w') := by
  have hr := run_copy_row Tryz.prog w 25 25 ty 3 b o dLen dCap a sLen sCap cs 3 (List.replicate m (.int .i64 x)) Tryz.underlying25 sizeInt h (by simpa using hn)
    (fun j v hv => by
      obtain ⟨hj, e⟩ := List.getElem?_eq_some_iff.1 hv
      rw [List.getElem_replicate] at e
      rw [← e]
      exact hsrc j (by simpa using hj)) (by simpa using hfit) (fun v hv => by rw [(List.mem_replicate.1 hv).2]; rfl)
  refine ⟨w.setRow b (cs.toList.take o ++ List.replicate m (Value.int .i64 x) ++ cs.toList.drop (o + (List.replicate m (Value.int .i64 x)).length)).toArray, (cs.toList.take o ++ List.replicate m (Value.int .i64 x) ++ cs.toList.drop (o + (List.replicate m (Value.int .i64 x)).length)).toArray, ?_, setRow_heap w b cs _ _ _ h, ?_, ?_, ?_, ?_⟩
  · rw [hr, List.length_replicate]; rfl
  · simp; omega
  · intro i hi
    simp only [List.getElem?_toArray]
    rw [List.append_assoc, List.getElem?_append_left (by simp; omega), List.getElem?_take_of_lt hi, Array.getElem?_toList]
  · intro i hi
    simp only [List.getElem?_toArray]
    have hl : (cs.toList.take o).length = o := by simp; omega
    rw [List.append_assoc, List.getElem?_append_right (by omega), hl, List.getElem?_append_left (by simp; omega), List.getElem?_replicate, if_pos (by omega)]
  · intro B hB
    exact ⟨rfl, rfl, rfl, by simp [World.setRow], fun k hk => setRow_other w b k _ (by omega)⟩
/-- the number, so far -/
structure RpI (N : Nat) (x : Int) (w : World) (k : Nat) (wr : World) : Prop where
  box : ∃ cs, Box wr w.heap.size 3 cs ∧ cs.size = N ∧ ∀ i, i < k → cs[i]? = some (.int .i64 x)
  below : Below w.heap.size w wr
theorem RpI.step {N : Nat} {x : Int} {w wr : World} {k : Nat} (h : RpI N x w k wr) (k' dCap sCap : Nat) (ty : TypeId) (hk : k ≤ N) (hm : k' = Nat.min k (N - k)) :
    ∃ w', (Builtin.copy_ #[25, 25] ty #[.slice (some ⟨w.heap.size, k, none⟩) (N - k) dCap, .slice (some ⟨w.heap.size, 0, none⟩) k sCap]).run Tryz.prog wr = .ok (.int .i64 (k' : Int)) w' ∧ RpI N x w (k + k') w' := by
  obtain ⟨cs, hb, hs, hc⟩ := h.box
  have h1 : k' ≤ k := by rw [hm]; exact Nat.min_le_left ..
  have h2 : k' ≤ N - k := by rw [hm]; exact Nat.min_le_right ..
  obtain ⟨w', cs', e, b', s', l', c', bl'⟩ := copy_box hb k (N - k) dCap ⟨w.heap.size, 0, none⟩ k sCap k' x ty hm (fun j hj => by
    have : (⟨w.heap.size, 0, none⟩ : Addr).add j = ⟨w.heap.size, 0 + j, none⟩ := by unfold Addr.add; split <;> simp_all
    rw [this, hb.cell, Nat.zero_add]; exact hc j (by omega)) (by omega)
  refine ⟨w', e, ⟨cs', b', by omega, fun i hi => ?_⟩, h.below.trans (bl' _ (Nat.le_refl _))⟩
  by_cases hik : i < k
  · rw [l' i hik]; exact hc i hik
  · have := c' (i - k) (by omega)
    rwa [show k + (i - k) = i by omega] at this

set_option maxRecDepth 100000 in
set_option maxHeartbeats 4000000 in
theorem repeatC (b o N : Nat) (x : Int) (w : World) (hN : N ≤ 1000) (hx : w.cell? ⟨b, o, none⟩ = some (.int .i64 x)) :
    Calls Tryz.prog 92 #[.slice (some ⟨b, o, none⟩) 1 1, .int .i64 N] w fun e w' => e = .returned (.slice (some ⟨w.heap.size, 0, none⟩) N N) ∧ RpI N x w N w' := by
  have hmk : ∀ W : World, (Instr.makeSlice 25 (.int .i64 (N : Int)) (.int .i64 (N : Int))).run Tryz.prog W = .ok (.slice (some ⟨W.heap.size, 0, none⟩) N N) (W.alloc (.cells (madeCells #[.int .i64 0] (N * 1)) 3)) := by
    intro W
    obtain ⟨i0, hi, hz0, hz1, hz2⟩ := info_parts infoInt
    have := run_make W 25 3 i0 _ Tryz.underlying25 hi hz0 .i64 .i64 (N : Int) (N : Int) (by omega) (Int.le_refl _) (by rw [hz2]; omega) (by omega)
    rw [hz1] at this
    simpa [Value.cells] using this
  have HM := Lib.hid (mulOne N hN)
  have hw1 : IntKind.u64.wrap (N : Int) = N := by rw [IntKind.wrap_u64]; omega
  have hw2 : IntKind.i64.wrap (N : Int) = N := by rw [wrapEq]; exact wrap_small (by omega) (by omega)
  have d1 : decide ((9223372036854775807 : Int) < N) = false := by simp; omega
  have d2 : decide ((N : Int) < 0) = false := by simp
  go_enter Tryz.func92, Tryz.ntmps92
  have hb : Below w.heap.size w (w.alloc (.cells (madeCells #[.int .i64 0] N) 3)) := (Below.refl _ w).alloc (Nat.le_refl _) _
  have x3 := Box.new w 3 (madeCells #[.int .i64 0] N)
  have hcs := size_madeCells #[.int .i64 0] N
  have hN0 : 0 < N ∨ N = 0 := by omega
  obtain ⟨w1, cs1, hr1, y1, s1, _, c1, bl1⟩ := copy_box x3 0 N N ⟨b, o, none⟩ 1 1 (Nat.min 1 N) x 3 rfl (fun j hj => by
    have h0 : j = 0 := by have := Nat.min_le_left 1 N; have : Nat.min 1 N ≤ 1 := this; omega
    subst h0
    have : (⟨b, o, none⟩ : Addr).add 0 = ⟨b, o, none⟩ := by unfold Addr.add; simp
    rw [this, ((Below.refl _ w).alloc (Nat.le_refl _) _).cell (cell_lt hx)]
    exact hx) (by have : Nat.min 1 N ≤ N := Nat.min_le_right 1 N; omega)
  obtain ⟨k, hk⟩ : ∃ k, k = Nat.min 1 N := ⟨_, rfl⟩
  have HI : Hid (RpI N x w k w1) := Lib.hid ⟨⟨cs1, y1, by omega, fun i hi => by have := c1 i (by omega); rwa [Nat.zero_add] at this⟩, hb.trans (bl1 _ (Nat.le_refl _))⟩
  have HK : Hid (k ≤ N ∧ (0 < N → 0 < k)) := Lib.hid (by
    rw [hk]
    rcases hN0 with h | h
    · have : Nat.min 1 N = 1 := Nat.min_eq_left h
      omega
    · subst h; exact ⟨Nat.min_le_right .., fun h => by omega⟩)
  rw [← hk] at hr1
  clear x3 hcs y1 s1 c1 bl1 hb hk
  go_wp2_with (first
    | (go_at_call 100; refine (HM.out _).mono ?_; rintro e w' ⟨rfl, hw⟩; rw [hw]; clear hw w')
    | (at_builtin; refine Lib.wpList_copy_run _ rfl _ _ _ _ rfl _ _ rfl rfl hr1 ?_))
  clear hr1 hN0
  go_loopw [8] (fun i wr => ∃ (k : Nat), i = .int .i64 k ∧ Hid (k ≤ N ∧ (0 < N → 0 < k)) ∧ Hid (RpI N x w k wr)) (fun i _ => N - (intOf i).toNat)
  case atStart => exact ⟨k, rfl, HK, HI⟩
  case round =>
    clear HI HK
    obtain ⟨k, rfl, HK, HI⟩ := hrel
    by_cases hlt : k < N
    · have hk1 : 0 < k := HK.out.2 (by omega)
      have hk2 : (0 : Int) ≤ k := by omega
      have hk3 : (k : Int) ≤ N := by omega
      obtain ⟨k', hk'⟩ : ∃ k', k' = Nat.min k (N - k) := ⟨_, rfl⟩
      have hmin : k' ≤ N - k ∧ 0 < k' := by
        rw [hk']
        exact ⟨Nat.min_le_right .., Nat.lt_min.2 ⟨hk1, by omega⟩⟩
      obtain ⟨w2, hr2, hi2⟩ := (show RpI N x w k wr.drew from ⟨HI.out.box, HI.out.below.drew⟩).step k' (N - k) N 3 (by omega) hk'
      have HI2 := Lib.hid hi2
      clear hi2 hk'
      have hw3 : IntKind.i64.wrap ((k : Int) + k') = ((k + k' : Nat) : Int) := by rw [wrapEq, wrap_small (by omega) (by omega)]; omega
      go_wp2_with fail
      clear HI HK
      have hgt : True := trivial
      go_region_held3 (fun _ => True)
        (first | exact trivial)
        (first
          | (refine Lib.wp_copy_run _ _ _ _ _ rfl _ _ rfl rfl hr2 ?_))
      go_wp2_with fail
      exact ⟨⟨k + k', by go_num, Lib.hid (by omega), HI2⟩, by simp [intOf]; omega⟩
    · obtain rfl : k = N := by have := HK.out.1; omega
      go_wp2_with fail
      go_ret
      exact ⟨rfl, HI.out⟩
end Go.Proofs.YtnnmnkgogiabiaaGreat

/-
  What a meta must be, as a plain function, and what holds of it. No statement is proved here.
-/
namespace Go.Proofs.YtnnmnkgogiabiaaGreat
open Go.RowKit
set_option linter.unusedVariables false

/-- how many stand behind a number in a list -/
def pls (x : Int) : List Int → Option Int
  | [] => none
  | y :: ys => if y = x then some (ys.length : Int) else pls x ys
theorem pls_lt {x : Int} : ∀ {l : List Int} {p : Int}, pls x l = some p → 0 ≤ p ∧ p < l.length
  | y :: ys, p, h => by
    rw [pls] at h
    rw [List.length_cons]
    split at h
    · cases h; omega
    · have := pls_lt h
      omega
theorem pls_none {x : Int} : ∀ {l : List Int}, pls x l = none ↔ x ∉ l
  | [] => by simp [pls]
  | y :: ys => by
    rw [pls]
    split
    · rename_i h; simp [h]
    · rename_i h
      rw [pls_none, List.mem_cons, not_or]
      exact ⟨fun e => ⟨fun e2 => h e2.symm, e⟩, fun e => e.2⟩
theorem pls_snoc {x v : Int} : ∀ {l : List Int}, v ∉ l → pls x (l ++ [v]) = if v = x then some 0 else (pls x l).map (· + 1)
  | [], h => by rw [List.nil_append, pls, pls]; split <;> rfl
  | y :: ys, h => by
    rw [List.mem_cons, not_or] at h
    rw [List.cons_append, pls, pls, pls_snoc h.2]
    by_cases h1 : y = x
    · rw [if_pos h1, if_pos h1, if_neg (fun e => h.1 (e.trans h1.symm))]
      simp
    · rw [if_neg h1, if_neg h1]
theorem pls_at {x : Int} : ∀ {l : List Int} {p : Int}, pls x l = some p → l[l.length - 1 - p.toNat]? = some x
  | y :: ys, p, h => by
    have hlt := pls_lt h
    rw [pls] at h
    split at h
    · rename_i e
      cases h
      rw [show (y :: ys).length - 1 - ((ys.length : Int)).toNat = 0 by simp]
      simp [e]
    · have h1 := pls_lt h
      have := pls_at h
      rw [List.length_cons, show ys.length + 1 - 1 - p.toNat = (ys.length - 1 - p.toNat) + 1 by omega, List.getElem?_cons_succ]
      exact this
theorem at_pls {x : Int} : ∀ {l : List Int} (j : Nat), l.Nodup → l[j]? = some x → pls x l = some ((l.length : Int) - 1 - j)
  | y :: ys, 0, hn, h => by
    simp only [List.getElem?_cons_zero, Option.some.injEq] at h
    rw [pls, if_pos h, List.length_cons]
    congr 1; omega
  | y :: ys, j + 1, hn, h => by
    rw [List.getElem?_cons_succ] at h
    rw [List.nodup_cons] at hn
    rw [pls, if_neg (fun e => hn.1 (by rw [e]; exact List.mem_of_getElem? h)), at_pls j hn.2 h, List.length_cons]
    congr 1; omega

/-- are these all from 0 to below n, each another one? -/
def vB (n : Int) : List Int → List Int → Bool
  | _, [] => true
  | seen, v :: vs => (decide (0 ≤ v) && decide (v < n) && !seen.contains v) && vB n (seen ++ [v]) vs
theorem vB_iff (n : Int) : ∀ (vs seen : List Int), seen.Nodup → (vB n seen vs = true ↔ (∀ v ∈ vs, 0 ≤ v ∧ v < n) ∧ (seen ++ vs).Nodup)
  | [], seen, h => by simp [vB, h]
  | v :: vs, seen, h => by
    rw [vB, Bool.and_eq_true, Bool.and_eq_true, Bool.and_eq_true, decide_eq_true_eq, decide_eq_true_eq]
    by_cases hm : v ∈ seen
    · constructor
      · rintro ⟨⟨_, h2⟩, _⟩; simp [hm] at h2
      · rintro ⟨_, h2⟩
        exact absurd rfl ((List.nodup_append.1 h2).2.2 v hm v (List.mem_cons_self ..))
    · have hs : (seen ++ [v]).Nodup := by
        rw [List.nodup_append]
        exact ⟨h, by simp, fun a ha b hb e => hm (by rw [List.mem_singleton.1 hb] at e; exact e ▸ ha)⟩
      rw [vB_iff n vs (seen ++ [v]) hs, List.append_assoc, List.singleton_append]
      constructor
      · rintro ⟨⟨⟨h0, h1⟩, _⟩, h2, h3⟩
        refine ⟨fun x hx => ?_, h3⟩
        rcases List.mem_cons.1 hx with rfl | hx
        · exact ⟨h0, h1⟩
        · exact h2 x hx
      · rintro ⟨h1, h2⟩
        have := h1 v (List.mem_cons_self ..)
        exact ⟨⟨this, by simp [hm]⟩, fun x hx => h1 x (List.mem_cons_of_mem _ hx), h2⟩
theorem vB_top {n : Int} {vs : List Int} : vB n [] vs = true ↔ (∀ v ∈ vs, 0 ≤ v ∧ v < n) ∧ vs.Nodup := by
  rw [vB_iff n vs [] List.nodup_nil, List.nil_append]

/-- what a free variable becomes -/
def igo (vs : List Int) (n x : Int) : Option Int := if n ≤ x then some (x - n + vs.length) else pls x vs
/-- it, with wrap-round -/
def igW (vs : List Int) (n x : Int) : Option Int := if n ≤ x then some (wrap64 (wrap64 (x - n) + vs.length)) else pls x vs
theorem igo_bd {vs : List Int} {n x y M : Int} (hM : 0 ≤ M) (hx : x ≤ M) (hn : 0 ≤ n) (h : igo vs n x = some y) : 0 ≤ y ∧ y ≤ M + vs.length := by
  unfold igo at h
  split at h
  · cases h; omega
  · have := pls_lt h; omega
theorem igW_eq {vs : List Int} {n x : Int} (h0 : 0 ≤ x) (hx : x ≤ 1125899906842624) (hn : 0 ≤ n ∧ n ≤ 1000) (hl : (vs.length : Int) ≤ 1099511627776) : igW vs n x = igo vs n x := by
  unfold igW igo
  split
  · rw [wrap_small (x := x - n) (by omega) (by omega), wrap_small (by omega) (by omega)]
  · rfl

mutual
/-- a term whose free variables have become others -/
def ivT (g : Int → Option Int) : T → Int → Option T
  | .node k h xs, s => (if k = 4 ∧ s ≤ h then (g (h - s)).map (fun y => y + s) else some h).bind fun h' => (ivL g k xs.length xs 0 s).map (.node k h')
def ivL (g : Int → Option Int) (k : Int) (n : Nat) : List T → Nat → Int → Option (List T)
  | [], _, _ => some []
  | t :: ts, i, s => (ivT g t (s + bd k n i)).bind fun u => (ivL g k n ts (i + 1) s).map (u :: ·)
end
mutual
theorem rn_iv {tf g : Int → Option Int} {M : Int} (hM : M ≤ 1125899906842624) (hg : ∀ x, 0 ≤ x → x ≤ M → tf x = g x ∧ ∀ y, g x = some y → 0 ≤ y ∧ y ≤ 2251799813685248) : ∀ (t : T) (s : Int), okT M t → 0 ≤ s → s + nd t ≤ 1099511627776 → rn tf t s = ivT g t s
  | .node k h xs, s, ho, hs, hn => by
    rw [okT] at ho
    rw [nd] at hn
    have hh : rnH tf k h s = (if k = 4 ∧ s ≤ h then (g (h - s)).map (fun y => y + s) else some h) := by
      rw [rnH]
      by_cases hc : k = 4 ∧ s ≤ h
      · have h1 := ho.1 hc.1
        obtain ⟨e1, e2⟩ := hg (h - s) (by omega) (by omega)
        rw [if_pos hc, if_pos hc, wrap_small (by omega) (by omega), e1]
        cases hy : g (h - s) with
        | none => rfl
        | some y =>
          have := e2 y hy
          rw [Option.map_some, Option.map_some, wrap_small (by omega) (by omega)]
      · rw [if_neg hc, if_neg hc]
    rw [rn, hh, rnL_iv hM hg k _ xs 0 s ho.2 hs (by omega), ivT]
theorem rnL_iv {tf g : Int → Option Int} {M : Int} (hM : M ≤ 1125899906842624) (hg : ∀ x, 0 ≤ x → x ≤ M → tf x = g x ∧ ∀ y, g x = some y → 0 ≤ y ∧ y ≤ 2251799813685248) (k : Int) (n : Nat) : ∀ (xs : List T) (i : Nat) (s : Int), okL M xs → 0 ≤ s → s + 1 + ndL xs ≤ 1099511627776 → rnL tf k n xs i s = ivL g k n xs i s
  | [], i, s, _, _, _ => by rw [rnL, ivL]
  | t :: ts, i, s, ho, hs, hn => by
    rw [okL] at ho
    rw [ndL] at hn
    have hbd := bd_cases k n i
    rw [rnL, wrap_small (by omega) (by omega), rn_iv hM hg t _ ho.1 (by omega) (by omega), rnL_iv hM hg k n ts (i + 1) s ho.2 hs (by omega), ivL]
end
theorem ivL_len (g : Int → Option Int) (k : Int) (n : Nat) : ∀ (xs : List T) (i : Nat) (s : Int) (ys : List T), ivL g k n xs i s = some ys → ys.length = xs.length
  | [], _, _, ys, h => by rw [ivL] at h; cases h; rfl
  | t :: ts, i, s, ys, h => by
    rw [ivL, Option.bind_eq_some_iff] at h
    obtain ⟨u, _, h⟩ := h
    rw [Option.map_eq_some_iff] at h
    obtain ⟨zs, hz, rfl⟩ := h
    rw [List.length_cons, List.length_cons, ivL_len g k n ts (i + 1) s zs hz]
/-- a node, taken apart -/
theorem iv_node {g : Int → Option Int} {k h s : Int} {xs : List T} {u : T} (e : ivT g (.node k h xs) s = some u) : ∃ h' ys, u = .node k h' ys ∧ ivL g k xs.length xs 0 s = some ys ∧ ys.length = xs.length ∧ ((k = 4 ∧ s ≤ h ∧ ∃ y, g (h - s) = some y ∧ h' = y + s) ∨ (¬ (k = 4 ∧ s ≤ h) ∧ h' = h)) := by
  rw [ivT, Option.bind_eq_some_iff] at e
  obtain ⟨h', e1, e2⟩ := e
  rw [Option.map_eq_some_iff] at e2
  obtain ⟨ys, e2, rfl⟩ := e2
  refine ⟨h', ys, rfl, e2, ivL_len _ _ _ _ _ _ _ e2, ?_⟩
  by_cases hc : k = 4 ∧ s ≤ h
  · rw [if_pos hc, Option.map_eq_some_iff] at e1
    obtain ⟨y, e3, rfl⟩ := e1
    exact .inl ⟨hc.1, hc.2, y, e3, rfl⟩
  · rw [if_neg hc] at e1
    cases e1
    exact .inr ⟨hc, rfl⟩
theorem iv_cons {g : Int → Option Int} {k s : Int} {n i : Nat} {t : T} {ts us : List T} (e : ivL g k n (t :: ts) i s = some us) : ∃ u vs, us = u :: vs ∧ ivT g t (s + bd k n i) = some u ∧ ivL g k n ts (i + 1) s = some vs := by
  rw [ivL, Option.bind_eq_some_iff] at e
  obtain ⟨u, e1, e2⟩ := e
  rw [Option.map_eq_some_iff] at e2
  obtain ⟨vs, e2, rfl⟩ := e2
  exact ⟨u, vs, rfl, e1, e2⟩
mutual
theorem nd_iv {g : Int → Option Int} : ∀ (t : T) (s : Int) (u : T), ivT g t s = some u → nd u = nd t ∧ dp u = dp t
  | .node k h xs, s, u, e => by
    obtain ⟨h', ys, rfl, e2, _, _⟩ := iv_node e
    have := ndL_iv k xs.length xs 0 s ys e2
    rw [nd, nd, dp, dp, this.1, this.2]
    exact ⟨rfl, rfl⟩
theorem ndL_iv {g : Int → Option Int} (k : Int) (n : Nat) : ∀ (xs : List T) (i : Nat) (s : Int) (ys : List T), ivL g k n xs i s = some ys → ndL ys = ndL xs ∧ dpL ys = dpL xs
  | [], _, _, ys, e => by rw [ivL] at e; cases e; exact ⟨rfl, rfl⟩
  | t :: ts, i, s, ys, e => by
    obtain ⟨u, vs, rfl, e1, e2⟩ := iv_cons e
    have h1 := nd_iv t _ u e1
    have h2 := ndL_iv k n ts (i + 1) s vs e2
    rw [ndL, ndL, dpL, dpL, h1.1, h1.2, h2.1, h2.2]
    exact ⟨rfl, rfl⟩
end
mutual
theorem ok_iv {g : Int → Option Int} {M B : Int} (hg : ∀ x, 0 ≤ x → x ≤ M → ∀ y, g x = some y → 0 ≤ y ∧ y ≤ x + B) (hB : 0 ≤ B) : ∀ (t : T) (s : Int) (u : T), 0 ≤ s → okT M t → ivT g t s = some u → okT (M + B) u
  | .node k h xs, s, u, hs, ho, e => by
    rw [okT] at ho
    obtain ⟨h', ys, rfl, e2, _, e3⟩ := iv_node e
    rw [okT]
    refine ⟨fun hk => ?_, okL_iv hg hB k xs.length xs 0 s ys hs ho.2 e2⟩
    have h1 := ho.1 hk
    rcases e3 with ⟨_, hle, y, hy, rfl⟩ | ⟨_, rfl⟩
    · have := hg (h - s) (by omega) (by omega) y hy
      omega
    · omega
theorem okL_iv {g : Int → Option Int} {M B : Int} (hg : ∀ x, 0 ≤ x → x ≤ M → ∀ y, g x = some y → 0 ≤ y ∧ y ≤ x + B) (hB : 0 ≤ B) (k : Int) (n : Nat) : ∀ (xs : List T) (i : Nat) (s : Int) (ys : List T), 0 ≤ s → okL M xs → ivL g k n xs i s = some ys → okL (M + B) ys
  | [], _, _, ys, _, _, e => by rw [ivL] at e; cases e; rw [okL]; trivial
  | t :: ts, i, s, ys, hs, ho, e => by
    rw [okL] at ho
    obtain ⟨u, vs, rfl, e1, e2⟩ := iv_cons e
    have hbd := bd_cases k n i
    rw [okL]
    exact ⟨ok_iv hg hB t _ u (by omega) ho.1 e1, okL_iv hg hB k n ts (i + 1) s vs hs ho.2 e2⟩
end
mutual
theorem nodB_iv {g : Int → Option Int} {M : Int} (hg : ∀ x, 0 ≤ x → x ≤ M → ∀ y, g x = some y → 0 ≤ y) : ∀ (t : T) (s : Int) (u : T), 0 ≤ s → okT M t → nodB t = true → ivT g t s = some u → nodB u = true
  | .node k h xs, s, u, hs, ho, hn, e => by
    rw [okT] at ho
    rw [nodB, Bool.and_eq_true] at hn
    obtain ⟨h', ys, rfl, e2, hl, e3⟩ := iv_node e
    rw [nodB, Bool.and_eq_true, hl]
    refine ⟨?_, nodL_iv hg k xs.length xs 0 s ys hs ho.2 hn.2 e2⟩
    rcases e3 with ⟨rfl, hle, y, hy, rfl⟩ | ⟨_, rfl⟩
    · have h1 := ho.1 rfl
      have h2 := hg (h - s) (by omega) (by omega) y hy
      simp [okN]; omega
    · exact hn.1
theorem nodL_iv {g : Int → Option Int} {M : Int} (hg : ∀ x, 0 ≤ x → x ≤ M → ∀ y, g x = some y → 0 ≤ y) (k : Int) (n : Nat) : ∀ (xs : List T) (i : Nat) (s : Int) (ys : List T), 0 ≤ s → okL M xs → nodL xs = true → ivL g k n xs i s = some ys → nodL ys = true
  | [], _, _, ys, _, _, _, e => by rw [ivL] at e; cases e; rw [nodL]
  | t :: ts, i, s, ys, hs, ho, hn, e => by
    rw [okL] at ho
    rw [nodL, Bool.and_eq_true] at hn
    obtain ⟨u, vs, rfl, e1, e2⟩ := iv_cons e
    have hbd := bd_cases k n i
    rw [nodL, nodB_iv hg t _ u (by omega) ho.1 hn.1 e1, nodL_iv hg k n ts (i + 1) s vs hs ho.2 hn.2 e2]
    rfl
end
mutual
/-- back again -/
theorem iv_iv {f g : Int → Option Int} {M : Int} (hg : ∀ x, 0 ≤ x → x ≤ M → ∀ y, g x = some y → 0 ≤ y ∧ f y = some x) : ∀ (t : T) (s : Int) (u : T), 0 ≤ s → okT M t → ivT g t s = some u → ivT f u s = some t
  | .node k h xs, s, u, hs, ho, e => by
    rw [okT] at ho
    obtain ⟨h', ys, rfl, e2, hl, e3⟩ := iv_node e
    rw [ivT, hl, ivL_iv hg k xs.length xs 0 s ys hs ho.2 e2]
    rcases e3 with ⟨rfl, hle, y, hy, rfl⟩ | ⟨hc, rfl⟩
    · have h1 := ho.1 rfl
      obtain ⟨h2, h3⟩ := hg (h - s) (by omega) (by omega) y hy
      rw [if_pos ⟨rfl, by omega⟩, show y + s - s = y by omega, h3, Option.map_some, Option.bind_some, Option.map_some, show h - s + s = h by omega]
    · rw [if_neg hc, Option.bind_some, Option.map_some]
theorem ivL_iv {f g : Int → Option Int} {M : Int} (hg : ∀ x, 0 ≤ x → x ≤ M → ∀ y, g x = some y → 0 ≤ y ∧ f y = some x) (k : Int) (n : Nat) : ∀ (xs : List T) (i : Nat) (s : Int) (ys : List T), 0 ≤ s → okL M xs → ivL g k n xs i s = some ys → ivL f k n ys i s = some xs
  | [], _, _, ys, _, _, e => by rw [ivL] at e; cases e; rw [ivL]
  | t :: ts, i, s, ys, hs, ho, e => by
    rw [okL] at ho
    obtain ⟨u, vs, rfl, e1, e2⟩ := iv_cons e
    have hbd := bd_cases k n i
    rw [ivL, iv_iv hg t _ u (by omega) ho.1 e1, ivL_iv hg k n ts (i + 1) s vs hs ho.2 e2]
    rfl
end
mutual
/-- what changes nothing -/
theorem iv_id {g : Int → Option Int} {M : Int} (hg : ∀ x, 0 ≤ x → x ≤ M → g x = some x) : ∀ (t : T) (s : Int), 0 ≤ s → okT M t → ivT g t s = some t
  | .node k h xs, s, hs, ho => by
    rw [okT] at ho
    rw [ivT, ivL_id hg k xs.length xs 0 s hs ho.2]
    by_cases hc : k = 4 ∧ s ≤ h
    · have h1 := ho.1 hc.1
      rw [if_pos hc, hg (h - s) (by omega) (by omega), Option.map_some, Option.bind_some, Option.map_some, show h - s + s = h by omega]
    · rw [if_neg hc, Option.bind_some, Option.map_some]
theorem ivL_id {g : Int → Option Int} {M : Int} (hg : ∀ x, 0 ≤ x → x ≤ M → g x = some x) (k : Int) (n : Nat) : ∀ (xs : List T) (i : Nat) (s : Int), 0 ≤ s → okL M xs → ivL g k n xs i s = some xs
  | [], _, _, _, _ => by rw [ivL]
  | t :: ts, i, s, hs, ho => by
    rw [okL] at ho
    have hbd := bd_cases k n i
    rw [ivL, iv_id hg t _ (by omega) ho.1, ivL_id hg k n ts (i + 1) s hs ho.2]
    rfl
end
mutual
/-- under no variables -/
theorem iv_dn (n : Int) : ∀ (t : T) (s : Int), ivT (igo [] n) t s = dnT n t s
  | .node k h xs, s => by
    rw [ivT, dnT, ivL_dn n k xs.length xs 0 s]
    by_cases hc : k = 4 ∧ s ≤ h
    · rw [if_pos hc, igo]
      by_cases hd : n ≤ h - s
      · rw [if_pos hd, if_neg (by omega), if_pos hc, Option.map_some, Option.bind_some, List.length_nil, show h - s - n + ((0 : Nat) : Int) + s = h - n by omega]
      · rw [if_neg hd, if_pos ⟨hc.1, hc.2, by omega⟩, pls]
        rfl
    · rw [if_neg hc, if_neg (fun e => hc ⟨e.1, e.2.1⟩), if_neg hc, Option.bind_some]
theorem ivL_dn (n k : Int) (m : Nat) : ∀ (xs : List T) (i : Nat) (s : Int), ivL (igo [] n) k m xs i s = dnL n k m xs i s
  | [], _, _ => by rw [ivL, dnL]
  | t :: ts, i, s => by rw [ivL, dnL, iv_dn n t, ivL_dn n k m ts]
end

/-- what is told of a term that is nothing -/
def ivO : Option T → Except Int T
  | some u => .ok u
  | none => .error 7
/-- what Invert tells: a term, or an error -/
def ivR (t : T) (vs : List Int) (n : Int) : Except Int T :=
  if (decide (0 ≤ n) && decide (n ≤ 1000) && mayB t && vB n [] vs) = true then ivO (rn (igW vs n) t 0) else .error 1
def ivA : Except Int T → T
  | .ok u => u
  | .error _ => .node 0 0 []
def ivE : Except Int T → Int
  | .ok _ => 0
  | .error e => e
end Go.Proofs.YtnnmnkgogiabiaaGreat

/-
  Contracts of package invert: where each entry goes, what a free variable becomes, and Invert. No statement is proved here.
-/
namespace Go.Proofs.YtnnmnkgogiabiaaGreat
open Go.ChangeShapes Go.WideShapes Go.ChangeAt Go.RowKit
set_option linter.unusedVariables false

/-- where entries go, in memory -/
structure Inv (vs : List Int) (N b : Nat) (w : World) : Prop where
  row : ∃ cs, Box w b 3 cs ∧ cs.size = N ∧ ∀ x, x < N → cs[x]? = some (.int .i64 ((pls (x : Int) vs).getD (-1)))
theorem Inv.keep {vs : List Int} {N b : Nat} {w w' : World} (h : Inv vs N b w) (hb : Below w.heap.size w w') : Inv vs N b w' := by
  obtain ⟨cs, h1, h2, h3⟩ := h.row
  exact ⟨cs, h1.keep hb h1.lt, h2, h3⟩
theorem entersGoes (args : Array Value) (W : World) : Sem.run Tryz.prog (callFunc 78 args) W = .ok (.enter 78 args) W := by
  simp [callFunc, go_sem, Tryz.func78, Tryz.f78]

set_option maxRecDepth 100000 in
set_option maxHeartbeats 4000000 in
theorem goesM (vs : List Int) (N b : Nat) (K : Int) (hK : (vs.length : Int) = K) (hN : N ≤ 1000) (w0 : World) (hi : Inv vs N b w0) : ToB 78 (.agg #[.slice (some ⟨b, 0, none⟩) N N, .int .i64 K]) (igW vs N) w0 := by
  intro x w hx hbw
  have hi' := hi.keep hbw
  obtain ⟨cs, h1, h2, h3⟩ := hi'.row
  have hb : Below w.heap.size w (w.alloc (.cells #[.slice (some ⟨b, 0, none⟩) N N, .int .i64 K] 108)) := (Below.refl _ _).alloc (Nat.le_refl _) _
  by_cases hle : (N : Int) ≤ x
  · have d1 : decide ((N : Int) ≤ x) = true := by simpa using hle
    have e : igW vs N x = some (wrap64 (wrap64 (x - N) + K)) := by rw [igW, if_pos hle, hK]
    rw [e]
    clear h3 hle
    go_enter Tryz.func78, Tryz.ntmps78
    go_wp2_with fail
    go_ret2
    exact ⟨_, rfl, (fun f h => by cases h; rfl), hb⟩
  · have d1 : decide ((N : Int) ≤ x) = false := by simpa using hle
    obtain ⟨y, rfl⟩ : ∃ y : Nat, x = y := ⟨x.toNat, by omega⟩
    have hy : y < N := by omega
    have hi1 : (y : Int) < N := by omega
    have e : igW vs N y = pls y vs := by rw [igW, if_neg hle]
    have hc := h1.cell y
    rw [h3 y hy] at hc
    have hneg : ∀ p, pls (y : Int) vs = some p → p ≠ -1 := fun p h => by have := pls_lt h; omega
    rw [e]
    generalize pls (y : Int) vs = P at *
    clear h3 hle e
    cases P with
    | none =>
      simp only [Option.getD_none] at hc
      have hc' := (((Below.refl _ w).alloc (Nat.le_refl _) (.cells #[.slice (some ⟨b, 0, none⟩) N N, .int .i64 K] 108)).cell (cell_lt hc)).trans hc
      go_enter Tryz.func78, Tryz.ntmps78
      go_wp2_with fail
      go_ret2
      exact ⟨_, rfl, (fun f h => by cases h), hb⟩
    | some p =>
      simp only [Option.getD_some] at hc
      have hc' := (((Below.refl _ w).alloc (Nat.le_refl _) (.cells #[.slice (some ⟨b, 0, none⟩) N N, .int .i64 K] 108)).cell (cell_lt hc)).trans hc
      have hp := hneg p rfl
      have e2 : (p != -1) = true := by simpa using hp
      clear hneg
      go_enter Tryz.func78, Tryz.ntmps78
      go_wp2_with fail
      go_ret2
      exact ⟨_, rfl, (fun f h => by cases h; rfl), hb⟩

theorem pls_end {vs : List Int} {j : Nat} {v : Int} (hv : vs[j]? = some v) (hn : v ∉ vs.take j) (x : Int) : ((pls x (vs.take (j + 1))).map (· + ((vs.length : Int) - (j + 1 : Nat)))).getD (-1) = if x = v then (vs.length : Int) - 1 - j else ((pls x (vs.take j)).map (· + ((vs.length : Int) - j))).getD (-1) := by
  have hj := (List.getElem?_eq_some_iff.1 hv).1
  obtain ⟨_, e⟩ := List.getElem?_eq_some_iff.1 hv
  rw [List.take_succ_eq_append_getElem hj, e, pls_snoc hn]
  by_cases h : v = x
  · rw [if_pos h, if_pos h.symm, Option.map_some, Option.getD_some]; omega
  · rw [if_neg h, if_neg (fun e => h e.symm), Option.map_map]
    congr 2
    funext p
    simp only [Function.comp]
    omega
/-- what holds at the head of inverseOf's loop -/
structure IoI (vs : List Int) (N : Nat) (w : World) (b : Nat) (j : Nat) (wr : World) : Prop where
  res : Box wr w.heap.size 108 #[.slice none 0 0, .int .i64 0]
  row : ∃ cs, Box wr b 3 cs ∧ cs.size = N ∧ ∀ x, x < N → cs[x]? = some (.int .i64 (((pls (x : Int) (vs.take j)).map (· + ((vs.length : Int) - j))).getD (-1)))
  below : Below w.heap.size w wr
  good : vB N (vs.take j) (vs.drop j) = vB N [] vs
  dis : (vs.take j).Nodup

/-- how inverseOf ends -/
def OfEnd (vs : List Int) (n : Int) (w : World) (e : Ending) (w' : World) : Prop :=
  Below w.heap.size w w' ∧ ((vB n [] vs = true ∧ ∃ b, e = .returned (.tuple #[.agg #[.slice (some ⟨b, 0, none⟩) n.toNat n.toNat, .int .i64 vs.length], .bool true]) ∧ Inv vs n.toNat b w') ∨
    (vB n [] vs = false ∧ e = .returned (.tuple #[.agg #[.slice none 0 0, .int .i64 0], .bool false])))
set_option maxRecDepth 100000 in
set_option maxHeartbeats 4000000 in
theorem inverseC (vs : List Int) (A : Option Addr) (nv cv N : Nat) (w : World) (hN : N ≤ 1000) (hn : vs.length = nv) (hc : nv ≤ cv) (hm : cv ≤ maxLen) (hx : ∀ i z, vs[i]? = some z → ∃ b o, A = some ⟨b, o, none⟩ ∧ w.cell? ⟨b, o + i, none⟩ = some (.int .i64 z)) :
    Calls Tryz.prog 76 #[.slice A nv cv, .int .i64 N] w (OfEnd vs N w) := by
  have HX := Lib.hid hx; clear hx
  have HN := Lib.hid hn; clear hn
  unfold maxLen at hm
  have hb : Below w.heap.size w ((w.alloc (.cells #[.slice none 0 0, .int .i64 0] 108)).alloc (.cells #[.int .i64 (-1)] 3)) := ((Below.refl _ _).alloc (Nat.le_refl _) _).alloc (by simp) _
  have x1 : Box ((w.alloc (.cells #[.slice none 0 0, .int .i64 0] 108)).alloc (.cells #[.int .i64 (-1)] 3)) w.heap.size 108 #[.slice none 0 0, .int .i64 0] := (Box.new _ _ _).alloc _
  have x2 : Box ((w.alloc (.cells #[.slice none 0 0, .int .i64 0] 108)).alloc (.cells #[.int .i64 (-1)] 3)) (w.heap.size + 1) 3 #[.int .i64 (-1)] := (Box.new (w.alloc _) _ _).at (by simp)
  obtain ⟨W, hW⟩ : ∃ W, (w.alloc (.cells #[.slice none 0 0, .int .i64 0] 108)).alloc (.cells #[.int .i64 (-1)] 3) = W := ⟨_, rfl⟩
  rw [hW] at hb x1 x2
  have HWS : Hid (w.heap.size + 2 ≤ W.heap.size) := Lib.hid (by rw [← hW]; simp)
  have HWW := Lib.hid hW; clear hW
  have HR := Lib.hid (repeatC (w.heap.size + 1) 0 N (-1) W hN (x2.one).1)
  go_enter Tryz.func76, Tryz.ntmps76
  go_wp2_with fail
  rw [HWW.out]
  clear HWW
  refine HR.out.mono ?_
  rintro e w1 ⟨rfl, hrp⟩
  have HI : Hid (IoI vs N w W.heap.size 0 w1) := Lib.hid (by
    obtain ⟨cs, h1, h2, h3⟩ := hrp.box
    exact ⟨x1.keep hrp.below x1.lt, ⟨cs, h1, h2, fun x hx => by rw [h3 x hx, List.take_zero, pls]; rfl⟩, hb.trans (hrp.below.mono hb.size), by simp, by simp⟩)
  clear hrp x1 x2 HR
  clear hb
  go_wp2_with fail
  go_loopw [14] (fun i wr => ∃ (j : Nat), i = .int .i64 j ∧ j ≤ nv ∧ Hid (IoI vs N w W.heap.size j wr)) (fun i _ => nv - (Go.RowKit.intOf i).toNat)
  case atStart => exact ⟨0, rfl, Nat.zero_le _, HI⟩
  case round =>
    clear HI
    obtain ⟨j, rfl, hj, HI⟩ := hrel
    by_cases hlt : j < nv
    · have hi0 : (0 : Int) ≤ j := by omega
      have hi1 : (j : Int) < nv := by omega
      obtain ⟨v, hv⟩ := at_of HN.out hlt
      obtain ⟨b, o, rfl, hc0⟩ := HX.out j v hv
      have hc1 := (HI.out.below.cell (cell_lt hc0)).trans hc0
      clear hc0
      have hL : (vs.length : Int) = nv := by rw [HN.out]
      have hbl : Below w.heap.size w wr := HI.out.below
      have hrs := HI.out.res
      obtain ⟨r0, r1⟩ := hrs.two
      have lr := hrs.lt
      have f0 := hrs.frozen 0
      have f1 := hrs.frozen 1
      by_cases hv0 : v < 0
      · have d0 : decide (v < 0) = true := by simpa using hv0
        have hbad : vB N [] vs = false := by rw [← HI.out.good, drop_at hv, vB]; simp; intro h; omega
        have HBAD := Lib.hid hbad; clear hbad hv0
        go_wp2_with fail
        refine bodyPost_ret (v := .tuple #[.agg #[.slice none 0 0, .int .i64 0], .bool false]) (by simp [results, Tryz.results76, go_sem, r0, r1]) rfl ?_
        exact ⟨(hbl.setCell (by dsimp only; omega) _).setCell (by dsimp only; omega) _, .inr ⟨HBAD.out, rfl⟩⟩
      · have d0 : decide (v < 0) = false := by simpa using hv0
        by_cases hvN : (N : Int) ≤ v
        · have d1 : decide ((N : Int) ≤ v) = true := by simpa using hvN
          have hbad : vB N [] vs = false := by rw [← HI.out.good, drop_at hv, vB]; simp; intro h h'; omega
          have HBAD := Lib.hid hbad; clear hbad hv0 hvN
          go_wp2_with fail
          refine bodyPost_ret (v := .tuple #[.agg #[.slice none 0 0, .int .i64 0], .bool false]) (by simp [results, Tryz.results76, go_sem, r0, r1]) rfl ?_
          exact ⟨(hbl.setCell (by dsimp only; omega) _).setCell (by dsimp only; omega) _, .inr ⟨HBAD.out, rfl⟩⟩
        · have d1 : decide ((N : Int) ≤ v) = false := by simpa using hvN
          obtain ⟨y, rfl⟩ : ∃ y : Nat, v = y := ⟨v.toNat, by omega⟩
          have hyN : y < N := by omega
          have hy0 : (0 : Int) ≤ y := by omega
          have hy1 : (y : Int) < N := by omega
          obtain ⟨cs, h1, h2, h3⟩ := HI.out.row
          have hcy := h1.cell y
          rw [h3 y hyN] at hcy
          have h3y := h3 y hyN
          by_cases hmem : (y : Int) ∈ vs.take j
          · obtain ⟨p, hp⟩ : ∃ p, pls (y : Int) (vs.take j) = some p := by
              cases hq : pls (y : Int) (vs.take j) with
              | none => exact absurd hmem (pls_none.1 hq)
              | some p => exact ⟨p, rfl⟩
            have hpl := pls_lt hp
            rw [hp, Option.map_some, Option.getD_some] at hcy
            have hjl : j ≤ vs.length := by have := HN.out; omega
            obtain ⟨q, hq⟩ : ∃ q, q = p + ((vs.length : Int) - j) := ⟨_, rfl⟩
            rw [← hq] at hcy
            have hq1 : q ≠ -1 := by omega
            have e2 : (q != -1) = true := by simpa using hq1
            have hbad : vB N [] vs = false := by rw [← HI.out.good, drop_at hv, vB]; simp [hmem]
            have HBAD := Lib.hid hbad; clear hbad hv0 hvN h3 h3y hp hpl hq hmem
            go_wp2_with fail
            refine bodyPost_ret (v := .tuple #[.agg #[.slice none 0 0, .int .i64 0], .bool false]) (by simp [results, Tryz.results76, go_sem, r0, r1]) rfl ?_
            exact ⟨(hbl.setCell (by dsimp only; omega) _).setCell (by dsimp only; omega) _, .inr ⟨HBAD.out, rfl⟩⟩
          · rw [pls_none.2 hmem, Option.map_none, Option.getD_none] at hcy
            have hgood : vB N (vs.take (j + 1)) (vs.drop (j + 1)) = vB N [] vs := by
              rw [← HI.out.good, drop_at hv, vB]
              have hjl := (List.getElem?_eq_some_iff.1 hv).1
              have ev := (List.getElem?_eq_some_iff.1 hv).2
              rw [List.take_succ_eq_append_getElem hjl, ev]
              simp [hmem, hyN]
            have hdis : (vs.take (j + 1)).Nodup := by
              have hjl := (List.getElem?_eq_some_iff.1 hv).1
              have ev := (List.getElem?_eq_some_iff.1 hv).2
              rw [List.take_succ_eq_append_getElem hjl, ev, List.nodup_append]
              exact ⟨HI.out.dis, by simp, fun a ha b hb e => hmem (by rw [List.mem_singleton.1 hb] at e; exact e ▸ ha)⟩
            have hrow : ∀ x, x < N → (cs.setIfInBounds y (.int .i64 ((nv : Int) - 1 - j)))[x]? = some (.int .i64 (((pls (x : Int) (vs.take (j + 1))).map (· + ((vs.length : Int) - (j + 1 : Nat)))).getD (-1))) := fun x hx => by
              rw [pls_end hv hmem, Array.getElem?_setIfInBounds]
              by_cases hxy : y = x
              · subst hxy
                rw [if_pos rfl, if_pos (by omega), if_pos rfl, hL]
              · rw [if_neg hxy, if_neg (by omega)]
                exact h3 x hx
            have HG := Lib.hid (And.intro hgood (And.intro hdis hrow))
            have hw1 : IntKind.i64.wrap ((nv : Int) - 1) = (nv : Int) - 1 := by rw [wrapEq]; exact wrap_small (by omega) (by omega)
            have hw2 : IntKind.i64.wrap ((nv : Int) - 1 - j) = (nv : Int) - 1 - j := by rw [wrapEq]; exact wrap_small (by omega) (by omega)
            have lb := h1.lt
            have fy := h1.frozen y
            have HH2 := Lib.hid h2
            clear hgood hdis hrow h3 h3y hmem hv0 hvN h2
            go_wp2_with fail
            go_roundw
            case rel =>
              have hws := HWS.out
              exact ⟨j + 1, by go_num, by omega, Lib.hid ⟨hrs.other (by dsimp only; omega) _, ⟨_, h1.setAt y _, by simp [HH2.out], HG.out.2.2⟩, hbl.setCell (by dsimp only; omega) _, HG.out.1, HG.out.2.1⟩⟩
            case measure => simp [Go.RowKit.intOf]; omega
    · obtain rfl : j = nv := by omega
      have hgood : vB N [] vs = true := by rw [← HI.out.good, drop_all HN.out (Nat.le_refl _), vB]
      have hbl : Below w.heap.size w wr := HI.out.below
      have hrs := HI.out.res
      obtain ⟨r0, r1⟩ := hrs.two
      have lr := hrs.lt
      have f0 := hrs.frozen 0
      have f1 := hrs.frozen 1
      obtain ⟨cs, h1, h2, h3⟩ := HI.out.row
      have HG := Lib.hid hgood; clear hgood
      have hinv : Inv vs N W.heap.size wr := ⟨cs, h1, h2, fun x hx => by
        rw [h3 x hx, List.take_of_length_le (by have := HN.out; omega), HN.out]
        cases pls (x : Int) vs with
        | none => rfl
        | some p => simp⟩
      have HV := Lib.hid hinv; clear hinv h3
      go_wp2_with fail
      refine bodyPost_ret (v := .tuple #[.agg #[.slice (some ⟨W.heap.size, 0, none⟩) N N, .int .i64 j], .bool true]) (by simp [results, Tryz.results76, go_sem, r0, r1]) rfl ?_
      refine ⟨(hbl.setCell (by dsimp only; omega) _).setCell (by dsimp only; omega) _, .inl ⟨HG.out, W.heap.size, by rw [HN.out]; rfl, ?_⟩⟩
      obtain ⟨cs, h1, h2, h3⟩ := HV.out.row
      have hws := HWS.out
      exact ⟨cs, (h1.other (by dsimp only; omega) _).other (by dsimp only; omega) _, h2, h3⟩
end Go.Proofs.YtnnmnkgogiabiaaGreat

/-
  Contract of package invert's Invert. No statement is proved here.
-/
namespace Go.Proofs.YtnnmnkgogiabiaaGreat
open Go.ChangeShapes Go.WideShapes Go.ChangeAt Go.RowKit
set_option linter.unusedVariables false

/-- how Invert ends -/
def IEnd (R : Except Int T) (w : World) (e : Ending) (w' : World) : Prop :=
  ∃ k h A n c, e = .returned (.tuple #[.agg #[.int .i64 k, .int .i64 h, .slice A n c], .int .i64 (ivE R)]) ∧ RdF (fun b => w.heap.size ≤ b) w' (ivA R) (.agg #[.int .i64 k, .int .i64 h, .slice A n c]) ∧ Below w.heap.size w w'
theorem rd_nought {ok : Nat → Prop} {w : World} : RdF ok w (.node 0 0 []) (.agg #[.int .i64 0, .int .i64 0, .slice none 0 0]) := RdF_node.2 ⟨none, 0, 0, rfl, by decide, by decide, rfl, Nat.le_refl _, Nat.zero_le _, fun i t h => by simp at h⟩
theorem ivR_bad {t : T} {vs : List Int} {n : Int} (h : (decide (0 ≤ n) && decide (n ≤ 1000) && mayB t && vB n [] vs) = false) : ivR t vs n = .error 1 := by rw [ivR, if_neg (by rw [h]; exact Bool.false_ne_true)]
theorem IEnd.bad {R : Except Int T} {w w' : World} {x : Int} (h : R = .error x) (hb : Below w.heap.size w w') : IEnd R w (.returned (.tuple #[.agg #[.int .i64 0, .int .i64 0, .slice none 0 0], .int .i64 x])) w' := by
  subst h
  exact ⟨0, 0, none, 0, 0, rfl, rd_nought, hb⟩

set_option maxRecDepth 100000 in
set_option maxHeartbeats 8000000 in
theorem InvertC (t : T) (vs : List Int) (A : Option Addr) (nv cv : Nat) (x : Int) (v : Value) (w : World) (hvt : Rd w t v) (hs : nd t ≤ 1048576) (hn : vs.length = nv) (hc : nv ≤ cv) (hm : cv ≤ maxLen) (hx : ∀ i z, vs[i]? = some z → ∃ b o, A = some ⟨b, o, none⟩ ∧ w.cell? ⟨b, o + i, none⟩ = some (.int .i64 z)) :
    Calls Tryz.prog 56 #[v, .slice A nv cv, .int .i64 x] w (IEnd (ivR t vs x) w) := by
  obtain ⟨k, h, At, nt, ct, rfl⟩ := hvt.full
  have HX := Lib.hid hx; clear hx
  have HN := Lib.hid hn; clear hn
  have HM := Lib.hid hm; clear hm
  have HC := Lib.hid hc; clear hc
  have HV := Lib.hid hvt; clear hvt
  have HS := Lib.hid hs; clear hs
  obtain ⟨W, hW⟩ : ∃ W, (w.alloc (.cells #[.int .i64 k, .int .i64 h, .slice At nt ct] 24)).alloc (.cells #[.int .i64 0, .int .i64 0, .slice none 0 0] 24) = W := ⟨_, rfl⟩
  have hb : Below w.heap.size w W := by rw [← hW]; exact ((Below.refl _ _).alloc (Nat.le_refl _) _).alloc (by simp) _
  have xT : Box W w.heap.size 24 #[.int .i64 k, .int .i64 h, .slice At nt ct] := by rw [← hW]; exact (Box.new _ _ _).alloc _
  have xR : Box W (w.heap.size + 1) 24 #[.int .i64 0, .int .i64 0, .slice none 0 0] := by rw [← hW]; exact (Box.new (w.alloc _) _ _).at (by simp)
  have HWW := Lib.hid hW; clear hW
  have HMY : Hid (∀ W', Below w.heap.size w W' → Calls Tryz.prog 14 #[.agg #[.int .i64 k, .int .i64 h, .slice At nt ct]] W' fun e w' => e = .returned (.bool (mayB t)) ∧ Below W'.heap.size W' w') := Lib.hid fun W' h' => mayC t _ _ (Rd.keep h' _ _ HV.out) HS.out
  obtain ⟨R, hR⟩ : ∃ R, R = ivR t vs x := ⟨_, rfl⟩
  rw [← hR]
  have HR := Lib.hid hR; clear hR
  obtain ⟨c0, c1, c2⟩ := xT.three
  obtain ⟨r0, r1, r2⟩ := xR.three
  have lR := xR.lt
  have f0 := xR.frozen 0
  have f1 := xR.frozen 1
  have f2 := xR.frozen 2
  by_cases h0 : x < 0
  · have d0 : decide (x < 0) = true := by simpa using h0
    have hbad := Lib.hid (HR.out.trans (ivR_bad (by rw [decide_eq_false (by omega)]; rfl)))
    clear h0
    go_enter Tryz.func56, Tryz.ntmps56
    go_wp2_with fail
    rw [HWW.out]
    go_wp2_with fail
    refine bodyPost_ret (v := .tuple #[.agg #[.int .i64 0, .int .i64 0, .slice none 0 0], .int .i64 1]) (by simp [results, Tryz.results56, go_sem, r0, r1, r2]) rfl ?_
    exact .bad hbad.out hb
  have d0 : decide (x < 0) = false := by simpa using h0
  by_cases h1 : 1000 < x
  · have d1 : decide (1000 < x) = true := by simpa using h1
    have hbad := Lib.hid (HR.out.trans (ivR_bad (by rw [decide_eq_false (p := x ≤ 1000) (by omega), Bool.and_false]; rfl)))
    clear h0 h1
    go_enter Tryz.func56, Tryz.ntmps56
    go_wp2_with fail
    rw [HWW.out]
    go_wp2_with fail
    refine bodyPost_ret (v := .tuple #[.agg #[.int .i64 0, .int .i64 0, .slice none 0 0], .int .i64 1]) (by simp [results, Tryz.results56, go_sem, r0, r1, r2]) rfl ?_
    exact .bad hbad.out hb
  have d1 : decide (1000 < x) = false := by simpa using h1
  obtain ⟨N, rfl⟩ : ∃ N : Nat, x = N := ⟨x.toNat, by omega⟩
  have hN : N ≤ 1000 := by omega
  clear h0 h1
  go_enter Tryz.func56, Tryz.ntmps56
  go_wp2_with fail
  rw [HWW.out]
  clear HWW c0 c1 c2 r0 r1 r2 f0 f1 f2
  refine (HMY.out W hb).mono ?_
  generalize hq : mayB t = M at *
  rintro e w1 ⟨rfl, hb1⟩
  have HMB := Lib.hid hq; clear hq
  replace xT := xT.keep hb1 xT.lt
  replace xR := xR.keep hb1 lR
  replace hb := hb.trans (hb1.mono hb.size)
  clear hb1 lR HMY
  have lR := xR.lt
  cases M
  · have hbad := Lib.hid (HR.out.trans (ivR_bad (by rw [HMB.out]; simp)))
    obtain ⟨r0, r1, r2⟩ := xR.three
    have f0 := xR.frozen 0
    have f1 := xR.frozen 1
    have f2 := xR.frozen 2
    go_wp2_with fail
    refine bodyPost_ret (v := .tuple #[.agg #[.int .i64 0, .int .i64 0, .slice none 0 0], .int .i64 1]) (by simp [results, Tryz.results56, go_sem, r0, r1, r2]) rfl ?_
    exact .bad hbad.out (below_set3 hb (by omega) _ _ _)
  go_wp2_with fail
  refine (inverseC vs A nv cv N w1 hN HN.out HC.out HM.out (fun i z hz => by obtain ⟨b, o, e, h⟩ := HX.out i z hz; exact ⟨b, o, e, (hb.cell (cell_lt h)).trans h⟩)).mono ?_
  rintro e w2 ⟨hb1, ⟨hgood, p, rfl, hinv⟩ | ⟨hbd, rfl⟩⟩
  · replace xT := xT.keep hb1 xT.lt
    replace xR := xR.keep hb1 lR
    replace hb := hb.trans (hb1.mono hb.size)
    have lR := xR.lt
    have lT := xT.lt
    rw [Int.toNat_natCast] at hinv ⊢
    have HIV := Lib.hid hinv; clear hinv
    have HGD := Lib.hid hgood; clear hgood hb1
    obtain ⟨c0, c1, c2⟩ := xT.three
    obtain ⟨K, hK⟩ : ∃ K : Int, (vs.length : Int) = K := ⟨_, rfl⟩
    rw [hK]
    have HK := Lib.hid hK; clear hK
    obtain ⟨Wb, hWb⟩ : ∃ Wb, w2.alloc (.cells #[.slice (some ⟨p, 0, none⟩) N N, .int .i64 K] 108) = Wb := ⟨_, rfl⟩
    have hbA : Below w2.heap.size w2 Wb := by rw [← hWb]; exact (Below.refl _ _).alloc (Nat.le_refl _) _
    have xI : Box Wb w2.heap.size 108 #[.slice (some ⟨p, 0, none⟩) N N, .int .i64 K] := by rw [← hWb]; exact Box.new _ _ _
    have HWB := Lib.hid hWb; clear hWb
    have hbb := hb.trans (hbA.mono hb.size)
    have HRN := Lib.hid (RenumC entersGoes t _ Wb (goesM vs N p K HK.out hN Wb (HIV.out.keep hbA)) HS.out (Rd.keep hbb _ _ HV.out))
    go_wp2_with fail
    rw [HWB.out]
    refine HRN.out.mono ?_
    generalize hq : rn (igW vs (N : Int)) t 0 = O at *
    have HO := Lib.hid hq; clear hq
    intro e w3 hE
    obtain ⟨k3, h3, A3, n3, c3, bo, rfl, hout, hb3⟩ := hE.uni
    have hbw3 := hbA.trans (hb3.mono hbA.size)
    have s2 : w.heap.size + 2 ≤ Wb.heap.size := by have := hbA.size; omega
    have s4 := hb3.size
    replace xR := xR.keep hbw3 lR
    replace hb := hb.trans (hbw3.mono hb.size)
    have s3 := hbw3.size
    have HOUT := Lib.hid hout; clear hout hE hb3 hbA hbb xI HRN HWB
    clear c0 c1 c2 lT lR hbw3
    have lR := xR.lt
    have hiv : ivR t vs N = ivO O := by
      rw [ivR, if_pos (by rw [HMB.out, HGD.out, decide_eq_true (p := (0 : Int) ≤ N) (by omega), decide_eq_true (p := (N : Int) ≤ 1000) (by omega)]; rfl), HO.out]
    have HIR := Lib.hid (HR.out.trans hiv); clear hiv
    obtain ⟨r0, r1, r2⟩ := xR.three
    have f0 := xR.frozen 0
    have f1 := xR.frozen 1
    have f2 := xR.frozen 2
    have z3 := Box.new w3 24 #[.int .i64 k3, .int .i64 h3, .slice A3 n3 c3]
    cases bo
    · have hno : O = none := by
        rcases HOUT.out with ⟨_, _, h, _⟩ | ⟨h, _, _⟩
        · cases h
        · exact h
      subst hno
      go_wp2_with fail
      refine bodyPost_ret (v := .tuple #[.agg #[.int .i64 0, .int .i64 0, .slice none 0 0], .int .i64 7]) (by simp [results, Tryz.results56, go_sem, r0, r1, r2, lR]) rfl ?_
      exact .bad HIR.out ((below_set3 hb (by omega) _ _ _).alloc (by simp; omega) _)
    · obtain ⟨u, hu, hown⟩ : ∃ u, O = some u ∧ OwT w3 Wb.heap.size u (.agg #[.int .i64 k3, .int .i64 h3, .slice A3 n3 c3]) := by
        rcases HOUT.out with ⟨u, h1, _, h3⟩ | ⟨_, h, _⟩
        · exact ⟨u, h1, h3⟩
        · cases h
      subst hu
      have HOW := Lib.hid hown; clear hown HOUT
      go_wp2_with fail
      refine bodyPost_ret (v := .tuple #[.agg #[.int .i64 k3, .int .i64 h3, .slice A3 n3 c3], .int .i64 0]) (by simp [results, Tryz.results56, go_sem, r0, r1, r2, lR]) rfl ?_
      have hR : R = .ok u := HIR.out
      refine ⟨k3, h3, A3, n3, c3, by rw [hR]; rfl, ?_, (below_set3 hb (by omega) _ _ _).alloc (by simp; omega) _⟩
      rw [hR]
      have hr := RdF.move (w' := (((w3.setCell ⟨w.heap.size + 1, 0, none⟩ (.int .i64 k3)).setCell ⟨w.heap.size + 1, 1, none⟩ (.int .i64 h3)).setCell ⟨w.heap.size + 1, 2, none⟩ (.slice A3 n3 c3)).alloc (.cells #[.int .i64 k3, .int .i64 h3, .slice A3 n3 c3] 24)) (fun g hg => (show w.heap.size ≤ g by omega)) (fun g hg hg' => (Below.heap_alloc _ _ _ (by simpa using hg')).trans (heap_other3 _ _ _ _ _ _ (by omega))) _ _ HOW.out.rdF
      exact hr
  · replace xT := xT.keep hb1 xT.lt
    replace xR := xR.keep hb1 lR
    replace hb := hb.trans (hb1.mono hb.size)
    have lR := xR.lt
    have hbad := Lib.hid (HR.out.trans (ivR_bad (by rw [hbd]; simp)))
    clear hbd hb1
    obtain ⟨r0, r1, r2⟩ := xR.three
    have f0 := xR.frozen 0
    have f1 := xR.frozen 1
    have f2 := xR.frozen 2
    go_wp2_with fail
    refine bodyPost_ret (v := .tuple #[.agg #[.int .i64 0, .int .i64 0, .slice none 0 0], .int .i64 1]) (by simp [results, Tryz.results56, go_sem, r0, r1, r2, lR]) rfl ?_
    exact .bad hbad.out ((below_set3 hb (by omega) _ _ _).alloc (by simp; omega) _)
end Go.Proofs.YtnnmnkgogiabiaaGreat

/-
  What a meta must be and substitutions: what is told, under the variables, is the term. No statement is proved here.
-/
namespace Go.Proofs.YtnnmnkgogiabiaaGreat
open Go.RowKit
set_option linter.unusedVariables false

/-- variables as terms -/
def vrs (vs : List Int) : List T := vs.map fun v => .node 4 v []
theorem vrs_len (vs : List Int) : (vrs vs).length = vs.length := by simp [vrs]
theorem vrs_at {vs : List Int} {j : Nat} {x : Int} (h : vs[j]? = some x) : (vrs vs)[j]? = some (.node 4 x []) := by simp [vrs, h]
/-- what a variable is mapped to -/
theorem mp_vrs {vs : List Int} {n x y : Int} {u : Nat} (hv : ∀ v ∈ vs, 0 ≤ v ∧ v < n) (h : igo vs n x = some y) : mpT (vrs vs) n y u = .node 4 (x + u) [] := by
  unfold igo at h
  rw [mpT, vrs_len]
  split at h
  · cases h
    rw [if_pos (by omega)]
    congr 1; omega
  · have hl := pls_lt h
    have ha := vrs_at (pls_at h)
    have h0 := hv x (List.mem_of_getElem? (pls_at h))
    rw [if_neg (by omega), List.getD_eq_getElem?_getD, ha, Option.getD_some, upT, upL, if_pos ⟨rfl, h0.1⟩]
mutual
theorem iv_ren {vs : List Int} {n M : Int} (hv : ∀ v ∈ vs, 0 ≤ v ∧ v < n) (hn : 0 ≤ n) : ∀ (t : T) (s : Nat) (u : T), okT M t → ivT (igo vs n) t s = some u → RenT (vrs vs) n u s t
  | .node k h xs, s, u, ho, e => by
    rw [okT] at ho
    obtain ⟨h', ys, rfl, e2, hl, e3⟩ := iv_node e
    rw [RenT]
    refine ⟨rfl, ?_, hl, by have := iv_renL hv hn k xs.length xs 0 s ys ho.2 e2; rwa [← hl] at this⟩
    rcases e3 with ⟨rfl, hle, y, hy, rfl⟩ | ⟨hc, rfl⟩
    · have h1 := ho.1 rfl
      have h2 : 0 ≤ y := by
        unfold igo at hy
        split at hy
        · cases hy; omega
        · exact (pls_lt hy).1
      rw [if_pos ⟨rfl, by omega⟩, show y + (s : Int) - s = y by omega, mp_vrs hv hy, show h - (s : Int) + s = h by omega]
    · rw [if_neg hc]
theorem iv_renL {vs : List Int} {n M : Int} (hv : ∀ v ∈ vs, 0 ≤ v ∧ v < n) (hn : 0 ≤ n) (k : Int) (m : Nat) : ∀ (xs : List T) (i s : Nat) (us : List T), okL M xs → ivL (igo vs n) k m xs i s = some us → RenL (vrs vs) n k m us i s xs
  | [], i, s, us, _, e => by rw [ivL] at e; cases e; rw [RenL]
  | t :: ts, i, s, us, ho, e => by
    rw [okL] at ho
    obtain ⟨u, zs, rfl, e1, e2⟩ := iv_cons e
    rw [RenL]
    rw [bd_bdn, show (s : Int) + (bdn k m i : Int) = ((s + bdn k m i : Nat) : Int) by omega] at e1
    exact ⟨_, _, rfl, iv_ren hv hn t _ u ho.1 e1, iv_renL hv hn k m ts (i + 1) s zs ho.2 e2⟩
end
theorem vrs_my {vs : List Int} (h : ∀ v ∈ vs, 0 ≤ v) : ∀ x ∈ vrs vs, myB x = true := fun x hx => by
  obtain ⟨v, hv, rfl⟩ := List.mem_map.1 hx
  exact my_var (h v hv)
theorem my_iv {g : Int → Option Int} {M : Int} (hg : ∀ x, 0 ≤ x → x ≤ M → ∀ y, g x = some y → 0 ≤ y) {t u : T} (ho : okT M t) (hm : myB t = true) (e : ivT g t 0 = some u) : myB u = true := by
  obtain ⟨h1, h2, h3⟩ := (myB_iff t).1 hm
  have h4 := nd_iv t 0 u e
  exact (myB_iff u).2 ⟨nodB_iv hg t 0 u (Int.le_refl _) ho h1 e, by omega, by omega⟩
theorem igo_pos {vs : List Int} {n x y : Int} (hn : 0 ≤ n) (h : igo vs n x = some y) : 0 ≤ y := by
  unfold igo at h
  split at h
  · cases h; omega
  · exact (pls_lt h).1
/-- what is told, under these variables, is the term -/
theorem iv_apply {vs : List Int} {n M : Int} {t u : T} (hv : vB n [] vs = true) (hn : 0 ≤ n ∧ n ≤ 1000) (hl : vs.length ≤ 200) (ho : okT M t) (hm : myB t = true) (e : ivT (igo vs n) t 0 = some u) :
    apT u (vrs vs) n = t ∧ apE u (vrs vs) n = 0 ∧ myB u = true := by
  have hv' := (vB_top.1 hv).1
  have hmu := my_iv (M := M) (fun x _ _ y h => igo_pos hn.1 h) ho hm e
  have := ren_tells hmu (sb_of (L := vrs vs) (sh := n) (by rw [vrs_len]; exact hl) (by omega) (vrs_my fun v h => (hv' v h).1)) (iv_ren hv' hn.1 t 0 u ho e) hm
  exact ⟨this.1, this.2, hmu⟩
/-- where a variable of what is told comes from -/
def rho (vs : List Int) (n x : Int) : Option Int := some (if (vs.length : Int) ≤ x then x - vs.length + n else vs.getD (vs.length - 1 - x.toNat) 0)
theorem igo_rho {vs : List Int} {n x y : Int} (hv : vB n [] vs = true) (hx : 0 ≤ x) (h : rho vs n x = some y) : (0 ≤ y ∧ y ≤ x + n) ∧ igo vs n y = some x ∨ n < 0 := by
  obtain ⟨h1, h2⟩ := vB_top.1 hv
  by_cases hn : n < 0
  · exact .inr hn
  refine .inl ?_
  unfold rho at h
  cases h
  by_cases hc : (vs.length : Int) ≤ x
  · rw [if_pos hc, igo, if_pos (by omega)]
    exact ⟨by omega, by congr 1; omega⟩
  · have hl : vs.length - 1 - x.toNat < vs.length := by omega
    rw [if_neg hc, List.getD_eq_getElem?_getD, List.getElem?_eq_getElem hl, Option.getD_some]
    have := h1 _ (List.getElem_mem hl)
    refine ⟨by omega, ?_⟩
    rw [igo, if_neg (by omega), at_pls _ h2 (List.getElem?_eq_getElem hl)]
    congr 1; omega
/-- every term comes from one -/
theorem rho_all {vs : List Int} {n : Int} : ∀ (t : T) (s : Int), ∃ u, ivT (rho vs n) t s = some u := by
  intro t
  induction t using T.ind with
  | step k h xs ih =>
    intro s
    have hl : ∀ (l : List T) (i : Nat), (∀ x ∈ l, x ∈ xs) → ∃ us, ivL (rho vs n) k xs.length l i s = some us := by
      intro l
      induction l with
      | nil => intro i _; exact ⟨[], by rw [ivL]⟩
      | cons x l ih2 =>
        intro i hx
        obtain ⟨u, hu⟩ := ih x (hx x (List.mem_cons_self ..)) (s + bd k xs.length i)
        obtain ⟨us, hus⟩ := ih2 (i + 1) fun y hy => hx y (List.mem_cons_of_mem _ hy)
        exact ⟨_, by rw [ivL, hu, hus]; rfl⟩
    obtain ⟨us, hus⟩ := hl xs 0 fun x hx => hx
    rw [ivT, hus]
    by_cases hc : k = 4 ∧ s ≤ h
    · rw [if_pos hc, rho]
      exact ⟨_, rfl⟩
    · rw [if_neg hc]
      exact ⟨_, rfl⟩
end Go.Proofs.YtnnmnkgogiabiaaGreat
