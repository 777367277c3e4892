/- Texts of one proof, put together. No statement is proved here. -/
import Derived.Test.YtbbjjdnnlnabaaaGreatPkA
import Derived.Test.YtbbjjdnnlnabaaaGreatPkB
import Derived.Deep.RegionHeld3
import Derived.Deep.AppendLies
import Derived.Lib.AppendZeros
import Derived.Deep.LoopGhost
namespace Go.Proofs.YtbbjjdnnlnabaaaGreat
open Go.ChangeShapes Go.WideShapes Go.ChangeAt Go.RowKit Go.Deep
set_option linter.unusedVariables false
set_option linter.unusedSimpArgs false
set_option maxRecDepth 100000
mutual
def nd : T → Nat
  | .node _ _ xs => 1 + ndL xs
def ndL : List T → Nat
  | [] => 0
  | t :: ts => nd t + ndL ts
end
mutual
def wd : T → Nat
  | .node _ _ xs => max xs.length (wdL xs)
def wdL : List T → Nat
  | [] => 0
  | t :: ts => max (wd t) (wdL ts)
end
theorem wdL_le {n : Nat} : ∀ {xs : List T}, (∀ t ∈ xs, wd t ≤ n) → wdL xs ≤ n
  | [], _ => Nat.zero_le _
  | t :: ts, h => by
    have h1 := h t (List.mem_cons_self ..)
    have h2 := wdL_le (xs := ts) fun u hu => h u (List.mem_cons_of_mem _ hu)
    rw [wdL]; omega
theorem wd_mem {t : T} : ∀ {xs : List T}, t ∈ xs → wd t ≤ wdL xs
  | x :: xs, h => by
    rw [wdL]
    rcases List.mem_cons.1 h with rfl | h
    · omega
    · have := wd_mem h; omega
mutual
theorem wd_nd : ∀ t : T, wd t ≤ nd t
  | .node k h xs => by have := wdL_nd xs; rw [wd, nd]; omega
theorem wdL_nd : ∀ xs : List T, wdL xs ≤ ndL xs ∧ xs.length ≤ ndL xs
  | [] => by simp [wdL, ndL]
  | t :: ts => by
    have := wd_nd t
    have := wdL_nd ts
    have : 1 ≤ nd t := by obtain ⟨k, h, xs⟩ := t; rw [nd]; omega
    rw [wdL, ndL, List.length_cons]; omega
end
theorem list_of {M : Nat → T → Prop} : ∀ n : Nat, (∀ i, i < n → ∃ t, M i t) → ∃ xs : List T, xs.length = n ∧ ∀ i t, xs[i]? = some t → M i t
  | 0, _ => ⟨[], rfl, fun i t h => by simp at h⟩
  | n + 1, h => by
    obtain ⟨xs, hl, hx⟩ := list_of (M := M) n fun i hi => h i (by omega)
    obtain ⟨t, ht⟩ := h n (by omega)
    refine ⟨xs ++ [t], by simp [hl], fun i u hu => ?_⟩
    rcases Nat.lt_or_ge i n with hi | hi
    · rw [List.getElem?_append_left (by omega)] at hu
      exact hx i u hu
    · rw [List.getElem?_append_right (by omega)] at hu
      rcases Nat.eq_or_lt_of_le hi with rfl | hi
      · rw [hl, Nat.sub_self] at hu
        simp only [List.getElem?_cons_zero, Option.some.injEq] at hu
        subst hu; exact ht
      · rw [List.getElem?_eq_none (by simp; omega)] at hu
        cases hu
theorem cell_spot {w : World} {a : Addr} {v : Value} (h : w.cell? a = some v) : a.spot = none := by
  unfold World.cell? at h
  split at h
  · split at h
    · cases h
    · rename_i hs; simpa using hs
  · cases h
theorem addr_add {b o : Nat} (i : Nat) : (Addr.mk b o none).add i = ⟨b, o + i, none⟩ := by
  unfold Addr.add
  split
  · rename_i h; subst h; rfl
  · rfl
section
variable {H : Type} {enc : TypeId × Value → H} {w : World} {base : Nat} {spare : Nat → Bool} {held : Bool}
theorem bulk_ge {H : Type} : ∀ (xs : List T) (ds : List (DataW H)), (∀ (i : Nat) (t : T), xs[i]? = some t → ∃ d, ds[i]? = some d ∧ nd t ≤ Rows.uptoBulk d) → ndL xs ≤ Rows.uptoBulkAll ds
  | [], ds, _ => by simp [ndL]
  | t :: xs, [], h => by obtain ⟨d, hd, _⟩ := h 0 t rfl; simp at hd
  | t :: xs, d :: ds, h => by
    obtain ⟨d', hd, hle⟩ := h 0 t rfl
    simp only [List.getElem?_cons_zero, Option.some.injEq] at hd
    subst hd
    have := bulk_ge xs ds fun i u hu => by
      obtain ⟨d', hd, hle⟩ := h (i + 1) u (by simpa using hu)
      exact ⟨d', by simpa using hd, hle⟩
    simp only [ndL, Rows.uptoBulkAll]
    omega
theorem bytesTerm : Tryz.prog.bytesOf 39 = 40 := by kernel_rfl
theorem weights_at {e : TypeId} : ∀ {ds : List (DataW H)} {i : Nat} {d : DataW H}, ds[i]? = some d → ∀ n ∈ d.weights Tryz.prog e, n ∈ DataW.weightsAll Tryz.prog e ds
  | [], i, d, h => by simp at h
  | x :: ds, 0, d, h => by
    simp only [List.getElem?_cons_zero, Option.some.injEq] at h
    subst h
    intro n hn
    rw [DataW.weightsAll]; exact List.mem_append_left _ hn
  | x :: ds, i + 1, d, h => by
    intro n hn
    rw [DataW.weightsAll]; exact List.mem_append_right _ (weights_at (by simpa using h) n hn)
theorem trod_term : ∀ (fuel : Nat) (cs : List Value) (x : DataW H × List MemPlace), DataW.trod enc Tryz.prog w base spare held fuel 39 cs = some x →
    ∃ (t : T) (v0 v1 v2 : Value), cs = [v0, v1, v2] ∧ Rd w t (.agg #[v0, v1, v2]) ∧ nd t ≤ Rows.uptoBulk x.1 ∧
      ((∀ n ∈ x.1.weights Tryz.prog 39, n ≤ reachBytes) → wd t ≤ 3518437208780) := by
  intro fuel
  induction fuel using Nat.strongRecOn with
  | _ fuel ih =>
    intro cs x hx
    obtain ⟨ys, n, rfl, hxe, hl, hyl, hf⟩ := DataW.trod_struct Tryz.underlying39 hx
    rw [Tryz.cellsTerm] at hl
    match cs, hl with
    | [v0, v1, v2], _ =>
      match ys, hyl with
      | [y0, y1, y2], _ =>
        have h0 : DataW.trod enc Tryz.prog w base spare held n 3 (([v0, v1, v2].drop 0).take (Tryz.prog.cellsOf 3)) = some y0 := hf 0 _ rfl
        have h1 : DataW.trod enc Tryz.prog w base spare held n 3 (([v0, v1, v2].drop 1).take (Tryz.prog.cellsOf 3)) = some y1 := hf 1 _ rfl
        have h2 : DataW.trod enc Tryz.prog w base spare held n 24 (([v0, v1, v2].drop 2).take (Tryz.prog.cellsOf 24)) = some y2 := hf 2 _ rfl
        simp only [Tryz.cellsInt, Tryz.cellsArgs, List.drop_zero, List.drop_succ_cons, List.take_succ_cons, List.take_zero] at h0 h1 h2
        obtain ⟨k, e0, _, hk⟩ := DataW.trod_int Tryz.underlying3 h0
        obtain ⟨h, e1, _, hh⟩ := DataW.trod_int Tryz.underlying3 h1
        simp only [List.cons.injEq, and_true] at e0 e1
        subst e0 e1
        rcases DataW.trod_slice Tryz.underlying24 h2 with ⟨e2, hy2⟩ | ⟨a, len, cap, elems, rest, m, rfl, e2, hy2, hb, hlc, hm, hel, hat, _, _⟩
        · simp only [List.cons.injEq, and_true] at e2
          subst e2
          refine ⟨.node k h [], _, _, _, rfl, Rd_node.2 ⟨none, 0, 0, rfl, hk, hh, rfl, Nat.le_refl _, Nat.zero_le _, fun i t ht => by simp at ht⟩, ?_, fun _ => by simp [wd, wdL]⟩
          subst hxe
          simp only [List.map_cons, List.map_nil, Rows.uptoBulk, nd, ndL]
          omega
        · simp only [List.cons.injEq, and_true] at e2
          subst e2
          -- each entry is a term
          have each : ∀ i, i < len → ∃ t : T, ∃ d, (elems.map (·.1))[i]? = some d ∧ nd t ≤ Rows.uptoBulk d ∧ ((∀ n ∈ d.weights Tryz.prog 39, n ≤ reachBytes) → wd t ≤ 3518437208780) ∧ RdAt w (some a) i t := by
            intro i hi
            have hi' := hat i hi
            rw [List.getElem?_eq_getElem (by omega), Option.bind_eq_some_iff] at hi'
            obtain ⟨cs', hcs, htr⟩ := hi'
            obtain ⟨t, u0, u1, u2, rfl, hr, hle, hwt⟩ := ih m (by omega) cs' _ htr
            rw [Tryz.cellsTerm] at hcs
            obtain ⟨_, _, hcell⟩ := World.cells?_some hcs
            have c0 := hcell 0 (by omega)
            have c1 := hcell 1 (by omega)
            have c2 := hcell 2 (by omega)
            simp only [List.getElem?_cons_zero, List.getElem?_cons_succ, add_add, Nat.add_zero] at c0 c1 c2
            have hs : a.spot = none := by
              have := cell_spot c0
              unfold Addr.add at this
              split at this
              · exact this
              · rename_i h3
                -- the first entry's address has the same spot
                have h0' := hat 0 (by omega)
                rw [List.getElem?_eq_getElem (by omega), Option.bind_eq_some_iff] at h0'
                obtain ⟨cs0, hcs0, _⟩ := h0'
                rw [Tryz.cellsTerm] at hcs0
                obtain ⟨_, hl0, hcell0⟩ := World.cells?_some hcs0
                have := hcell0 0 (by omega)
                rw [List.getElem?_eq_getElem (by omega)] at this
                have := cell_spot this
                simpa [Addr.add] using this
            obtain ⟨b, o, s⟩ := a
            dsimp only at hs
            subst hs
            rw [addr_add] at c0 c1 c2
            refine ⟨t, _, by rw [List.getElem?_map, List.getElem?_eq_getElem (by omega)]; rfl, hle, hwt, b, o, u0, u1, u2, rfl, c0, ?_, ?_, hr⟩
            · rw [Nat.add_assoc]; exact c1
            · rw [Nat.add_assoc]; exact c2
          obtain ⟨xs, hxl, hxs⟩ := list_of len each
          refine ⟨.node k h xs, _, _, _, rfl, Rd_node.2 ⟨some a, len, cap, rfl, hk, hh, hxl, hlc, hm, fun i t ht => ?_⟩, ?_, fun hwn => ?_⟩
          · obtain ⟨_, _, _, _, hr⟩ := hxs i t ht
            exact hr
          · subst hxe
            have hge := bulk_ge xs (elems.map (·.1)) fun i t ht => by
              obtain ⟨d, hd, hle, _, _⟩ := hxs i t ht
              exact ⟨d, hd, hle⟩
            simp only [List.map_cons, List.map_nil, Rows.uptoBulk, Rows.uptoBulkAll, nd]
            rw [hy2]
            simp only [Rows.uptoBulk]
            omega
          · subst hxe
            have hws : ∀ n ∈ y2.1.weights Tryz.prog 24, n ≤ reachBytes := fun n hn => hwn n (by
              show n ∈ DataW.weights Tryz.prog 39 (.agg [y0.1, y1.1, y2.1])
              rw [DataW.weights, Tryz.underlying39]
              simp [DataW.weightsEach, hn])
            rw [hy2] at hws
            simp only [DataW.weights, Tryz.underlying24, bytesTerm, List.mem_cons, List.mem_append] at hws
            have hw0 := hws _ (Or.inl rfl)
            simp only [List.length_map, reachBytes] at hw0
            rw [wd]
            have : wdL xs ≤ 3518437208780 := wdL_le fun t ht => by
              obtain ⟨i, hi⟩ := List.getElem?_of_mem ht
              obtain ⟨d, hd, _, hwt, _⟩ := hxs i t hi
              exact hwt fun n hn => hws n (Or.inr (Or.inl (weights_at hd n hn)))
            omega
theorem open_term {r : Reach} {b0 : Nat} {v : Value} {d : DataW H} {p : List MemPlace} (hv : Value.okWide Tryz.prog w r b0 39 v) (h : DataW.Trod enc Tryz.prog w base spare held 39 v d p) :
    ∃ t : T, Rd w t v ∧ nd t ≤ Rows.uptoBulk d ∧ ((∀ n ∈ d.weights Tryz.prog 39, n ≤ reachBytes) → wd t ≤ 3518437208780) := by
  obtain ⟨cs, rfl, _⟩ := okWide_struct Tryz.underlying39 hv
  obtain ⟨fuel, hf⟩ := h
  obtain ⟨t, v0, v1, v2, e, hr, hle, hwt⟩ := trod_term fuel _ _ hf
  have : cs = #[v0, v1, v2] := by
    cases cs
    simpa [Value.cells] using e
  subst this
  exact ⟨t, hr, hle, hwt⟩
end
end Go.Proofs.YtbbjjdnnlnabaaaGreat
namespace Go.Proofs.YtbbjjdnnlnabaaaGreat
open Go.RowKit
set_option linter.unusedVariables false
set_option linter.unusedSimpArgs false
theorem wrap_add (x y : Int) : wrap64 (wrap64 x + y) = wrap64 (x + y) := by unfold wrap64; omega
theorem wrap_add' (x y : Int) : wrap64 (x + wrap64 y) = wrap64 (x + y) := by unfold wrap64; omega
theorem wrap_small {x : Int} (h : -9223372036854775808 ≤ x) (h' : x ≤ 9223372036854775807) : wrap64 x = x := by unfold wrap64; omega
theorem wf_wrap {a : Int} (h : (Lit.int .i64 a).wf = true) : wrap64 a = a := by
  have : -9223372036854775808 ≤ a ∧ a ≤ 9223372036854775807 := by simpa [Lit.wf, IntKind.min, IntKind.max, IntKind.signed, IntKind.bits] using h
  exact wrap_small this.1 this.2
theorem nd_mem {t : T} : ∀ {xs : List T}, t ∈ xs → nd t ≤ ndL xs
  | x :: xs, h => by
    rw [ndL]
    rcases List.mem_cons.1 h with rfl | h
    · omega
    · have := nd_mem h; omega
theorem cntW_eq : ∀ n : Nat, cntW n = wrap64 n
  | 0 => by simp [cntW, wrap64]
  | n + 1 => by rw [cntW, cntW_eq n, wrap_add]; simp
/-! ### Sizes -/
mutual
theorem flat_len : ∀ (t : T) (d b : Int), (flat t d b).length = nd t
  | .node k h xs, d, b => by rw [flat, nd, List.length_cons, flatL_len k xs.length xs 0 d b]; omega
theorem flatL_len (k : Int) (n : Nat) : ∀ (xs : List T) (i : Nat) (d b : Int), (flatL k n xs i d b).length = ndL xs
  | [], _, _, _ => by simp [flatL, ndL]
  | t :: ts, i, d, b => by rw [flatL, ndL, List.length_append, flat_len t, flatL_len k n ts]
end
mutual
theorem szW_eq : ∀ t : T, szW t = wrap64 (nd t)
  | .node k h xs => by
    rw [szW, nd, show (1 : Int) = wrap64 1 by unfold wrap64; omega, szWL_eq xs 1]
    congr 1
theorem szWL_eq : ∀ (xs : List T) (m : Int), szWL xs (wrap64 m) = wrap64 (m + ndL xs)
  | [], m => by simp [szWL, ndL]
  | t :: ts, m => by
    rw [szWL, szW_eq t, wrap_add', wrap_add, szWL_eq ts, ndL]
    congr 1
    omega
end
theorem size_eq (t : T) : cntW (flat t 1 0).length = szW t := by rw [cntW_eq, flat_len, szW_eq]
theorem nd_pos : ∀ t : T, 1 ≤ nd t
  | .node k h xs => by rw [nd]; omega
theorem szW_small {t : T} (h : nd t ≤ 1048576) : szW t = nd t := by rw [szW_eq, wrap_small (by omega) (by omega)]
/-! ### Depths -/
mutual
def dp : T → Nat
  | .node _ _ xs => 1 + dpL xs
def dpL : List T → Nat
  | [] => 0
  | t :: ts => max (dp t) (dpL ts)
end
mutual
theorem dp_le : ∀ t : T, dp t ≤ nd t
  | .node k h xs => by have := dpL_le xs; rw [dp, nd]; omega
theorem dpL_le : ∀ xs : List T, dpL xs ≤ ndL xs
  | [] => by simp [dpL]
  | t :: ts => by have := dp_le t; have := dpL_le ts; rw [dpL, ndL]; omega
end
theorem dp_pos : ∀ t : T, 1 ≤ dp t
  | .node k h xs => by rw [dp]; omega
mutual
theorem dpW_eq : ∀ t : T, nd t ≤ 1048576 → dpW t = dp t
  | .node k h xs, hs => by
    rw [nd] at hs
    have := dpL_le xs
    rw [dpW, dpWL_eq xs 0 (by omega) (by omega), dp, wrap_small (by omega) (by omega)]
    omega
theorem dpWL_eq : ∀ (xs : List T) (m : Int), ndL xs ≤ 1048576 → 0 ≤ m → dpWL xs m = max m (dpL xs)
  | [], m, _, hm => by rw [dpWL, dpL]; omega
  | t :: ts, m, hs, hm => by
    rw [ndL] at hs
    rw [dpWL, dpW_eq t (by omega), dpL]
    split
    · rw [dpWL_eq ts _ (by omega) (by omega)]; omega
    · rw [dpWL_eq ts _ (by omega) hm]; omega
end
def maxF (ks : List Key) (m : Int) : Int := ks.foldl (fun m x => if m < x.d then x.d else m) m
theorem maxF_app (ks ls : List Key) (m : Int) : maxF (ks ++ ls) m = maxF ls (maxF ks m) := by simp [maxF]
mutual
theorem flat_dp : ∀ (t : T) (d b m : Int), 0 ≤ d → d + nd t ≤ 1099511627776 → maxF (flat t d b) m = max m (d + dp t - 1)
  | .node k h xs, d, b, m, hd, hs => by
    rw [nd] at hs
    rw [flat, dp, show maxF (⟨d, b, k, h, xs.length⟩ :: flatL k xs.length xs 0 d b) m = maxF (flatL k xs.length xs 0 d b) (if m < d then d else m) from rfl]
    rw [flatL_dp k _ xs 0 d b _ hd (by omega)]
    split <;> split <;> omega
theorem flatL_dp (k : Int) (n : Nat) : ∀ (xs : List T) (i : Nat) (d b m : Int), 0 ≤ d → d + 1 + ndL xs ≤ 1099511627776 → maxF (flatL k n xs i d b) m = if dpL xs = 0 then m else max m (d + dpL xs)
  | [], i, d, b, m, _, _ => by simp [flatL, dpL, maxF]
  | t :: ts, i, d, b, m, hd, hs => by
    rw [ndL] at hs
    have hp := dp_pos t
    have hw : wrap64 (d + 1) = d + 1 := wrap_small (by omega) (by omega)
    rw [flatL, maxF_app, hw, flat_dp t (d + 1) _ m (by omega) (by omega), flatL_dp k n ts (i + 1) d b _ hd (by omega), dpL]
    split <;> split <;> omega
end
theorem depth_eq {t : T} (h : nd t ≤ 1048576) : maxD (flat t 1 0) = dpW t := by
  have := flat_dp t 1 0 0 (by omega) (by omega)
  have e : maxD (flat t 1 0) = maxF (flat t 1 0) 0 := rfl
  have hp := dp_pos t
  rw [e, this, dpW_eq t h]
  omega
/-! ### What may be -/
mutual
theorem flat_ok : ∀ (t : T) (d b : Int), (flat t d b).all (fun x => okN x.k x.h x.n) = nodB t
  | .node k h xs, d, b => by rw [flat, List.all_cons, flatL_ok k _ xs 0 d b, nodB]
theorem flatL_ok (k : Int) (n : Nat) : ∀ (xs : List T) (i : Nat) (d b : Int), (flatL k n xs i d b).all (fun x => okN x.k x.h x.n) = nodL xs
  | [], _, _, _ => by simp [flatL, nodL]
  | t :: ts, i, d, b => by rw [flatL, List.all_append, flat_ok t, flatL_ok k n ts, nodL]
end
mutual
theorem flat_deep : ∀ (t : T) (d b : Int), 0 ≤ d → d + nd t ≤ 1099511627776 → (flat t d b).all (fun x => decide (x.d ≤ 60)) = decide (d + dp t ≤ 61)
  | .node k h xs, d, b, hd, hs => by
    rw [nd] at hs
    rw [flat, List.all_cons, flatL_deep k _ xs 0 d b hd (by omega), dp]
    rw [Bool.eq_iff_iff]
    simp only [Bool.and_eq_true, decide_eq_true_eq]
    omega
theorem flatL_deep (k : Int) (n : Nat) : ∀ (xs : List T) (i : Nat) (d b : Int), 0 ≤ d → d + 1 + ndL xs ≤ 1099511627776 → (flatL k n xs i d b).all (fun x => decide (x.d ≤ 60)) = decide (dpL xs = 0 ∨ d + dpL xs ≤ 60)
  | [], i, d, b, _, _ => by simp [flatL, dpL]
  | t :: ts, i, d, b, hd, hs => by
    rw [ndL] at hs
    have hp := dp_pos t
    have hw : wrap64 (d + 1) = d + 1 := wrap_small (by omega) (by omega)
    rw [flatL, List.all_append, hw, flat_deep t (d + 1) _ (by omega) (by omega), flatL_deep k n ts (i + 1) d b hd (by omega), dpL]
    rw [Bool.eq_iff_iff]
    simp only [Bool.and_eq_true, decide_eq_true_eq]
    omega
end
theorem all_and {α : Type} (p q : α → Bool) (l : List α) : l.all (fun x => p x && q x) = (l.all p && l.all q) := by
  induction l with
  | nil => rfl
  | cons x l ih => simp only [List.all_cons, ih]; cases p x <;> cases q x <;> simp
theorem may_eq {t : T} (h : nd t ≤ 1048576) : mayK (flat t 1 0) = mayB t := by
  have e : (flat t 1 0).all okK = (decide (1 + (dp t : Int) ≤ 61) && nodB t) := by
    rw [show okK = fun x => decide (x.d ≤ 60) && okN x.k x.h x.n from rfl, all_and, flat_deep t 1 0 (by omega) (by omega), flat_ok]
  rw [mayK, mayB, flat_len, e, szW_small h, dpW_eq t h]
  rw [Bool.eq_iff_iff]
  simp only [Bool.and_eq_true, decide_eq_true_eq]
  constructor
  · rintro ⟨h1, h2, h3⟩; exact ⟨⟨h3, by omega⟩, by omega⟩
  · rintro ⟨⟨h3, h1⟩, h2⟩; exact ⟨by omega, by omega, h3⟩
end Go.Proofs.YtbbjjdnnlnabaaaGreat
namespace Go.Proofs.YtbbjjdnnlnabaaaGreat
open Go.ChangeShapes Go.WideShapes Go.ChangeAt Go.RowKit
set_option linter.unusedVariables false
set_option linter.unusedSimpArgs false
set_option maxHeartbeats 1000000
theorem termSame (t : T) : ∀ (u : T) (v v' : Value) (w : World), Rd w t v → Rd w u v' →
    Calls Tryz.prog 73 #[v, v'] w fun e w' => e = .returned (.bool (samB t u)) ∧ Below w.heap.size w w' := by
  induction t using T.ind with
  | step k h xs ih =>
    intro u v v' w hv hv'
    obtain ⟨k', h', ys⟩ := u
    obtain ⟨A, n, c, rfl, hk, hh, hn, hc, hm, hx⟩ := Rd_node.1 hv
    obtain ⟨A', n', c', rfl, hk', hh', hn', hc', hm', hy⟩ := Rd_node.1 hv'
    clear hv hv'
    unfold maxLen at hm hm'
    have HN := Lib.hid hn; clear hn
    have HX := Lib.hid hx; clear hx
    have HN' := Lib.hid hn'; clear hn'
    have HY := Lib.hid hy; clear hy
    have IH := Lib.hid ih; clear ih
    by_cases ek : k = k'
    · subst ek
      by_cases eh : h = h'
      · subst eh
        by_cases en : n = n'
        · subst en
          go_enter Tryz.func73, Tryz.ntmps73
          go_wp2_with fail
          go_loopw [30] (fun i wr => ∃ (j : Nat), j ≤ n ∧ i = .int .i64 j ∧ Hid (samL (xs.drop j) (ys.drop j) = samB (.node k h xs) (.node k h ys)) ∧ Box wr w.heap.size 39 #[.int .i64 k, .int .i64 h, .slice A n c]
             ∧ Box wr (w.heap.size + 1) 39 #[.int .i64 k, .int .i64 h, .slice A' n c'] ∧ Below w.heap.size w wr) (fun i _ => n - (intOf i).toNat)
          case atStart => exact ⟨0, Nat.zero_le _, rfl, Lib.hid (by simp [samB, HN.out, HN'.out]), (Box.new _ _ _).alloc _, by have := Box.new (w.alloc (.cells #[.int .i64 k, .int .i64 h, .slice A n c] 39)) 39 #[.int .i64 k, .int .i64 h, .slice A' n c']; simpa using this, ((Below.refl _ _).alloc (Nat.le_refl _) _).alloc (by simp) _⟩
          case round =>
            obtain ⟨j, hj, rfl, HS, hbox, hbox', hb⟩ := hrel
            obtain ⟨b0, b1, b2⟩ := hbox.three
            obtain ⟨d0, d1, d2⟩ := hbox'.three
            by_cases hlt : j < n
            · obtain ⟨t, ht⟩ := at_of HN.out hlt
              obtain ⟨u, hu⟩ := at_of HN'.out hlt
              obtain ⟨b, o, v0, v1, v2, rfl, c0, c1, c2, hr⟩ := RdAt.keep hb (HX.out j t ht)
              obtain ⟨b', o', v0', v1', v2', rfl, c0', c1', c2', hr'⟩ := RdAt.keep hb (HY.out j u hu)
              have HT := Lib.hid ht; clear ht
              have HU := Lib.hid hu; clear hu
              go_wp2_with fail
              have HS' := HS.out
              rw [drop_at HT.out, drop_at HU.out, samL] at HS'
              have HS := Lib.hid HS'; clear HS'
              have pb2 := Past.cell b2
              have pd2 := Past.cell d2
              have p0 := Past.cell c0
              have p1 := Past.cell c1
              have p2 := Past.cell c2
              have p0' := Past.cell c0'
              have p1' := Past.cell c1'
              have p2' := Past.cell c2'
              have hi0 : (0 : Int) ≤ j := by omega
              have hi1 : (j : Int) < n := by omega
              refine wp_region_past (by kernel_rfl) (by kernel_rfl) ?_
              repeat (go_big_quiet_step ((exact calls_past (IH.out t (List.mem_of_getElem? HT.out) u _ _ _ (Rd.keep (Past.h _) _ _ hr) (Rd.keep (Past.h _) _ _ hr')))))
              refine wpQuiet_nil ?_
              rintro _ ⟨z, rfl⟩
              clear pb2 pd2 p0 p1 p2 p0' p1' p2'
              obtain ⟨w1, hb1⟩ := z
              generalize samB t u = r at *
              cases r
              · go_wp2_with fail
                go_ret
                exact ⟨ret_bool (by simpa using HS.out), hb.trans (hb1.mono hb.size)⟩
              · go_wp2_with fail
                go_roundw
                case rel => exact ⟨j + 1, by omega, by go_num, Lib.hid (by simpa using HS.out), hbox.keep hb1 hbox.lt, hbox'.keep hb1 hbox'.lt, hb.trans (hb1.mono hb.size)⟩
                case measure => simp [intOf]; omega
            · go_wp2_with fail
              go_ret
              exact ⟨ret_bool (by have := HS.out; rw [drop_all HN.out (by omega), samL] at this; exact this; simp), hb⟩
        · have en' : ((n : Int) != n') = true := by rw [bne_iff_ne]; omega
          go_enter Tryz.func73, Tryz.ntmps73
          go_wp2_with fail
          all_goals first | (go_ret; exact ⟨ret_bool (by simp [samB, HN.out, HN'.out, en]), ((Below.refl _ _).alloc (Nat.le_refl _) _).alloc (by simp) _⟩) | (exfalso; omega)
      · have eh' : (h != h') = true := by simpa using eh
        go_enter Tryz.func73, Tryz.ntmps73
        go_wp2_with fail
        go_ret
        exact ⟨ret_bool (by simp [samB, eh]), ((Below.refl _ _).alloc (Nat.le_refl _) _).alloc (by simp) _⟩
    · have ek' : (k != k') = true := by simpa using ek
      go_enter Tryz.func73, Tryz.ntmps73
      go_wp2_with fail
      go_ret
      exact ⟨ret_bool (by simp [samB, ek]), ((Below.refl _ _).alloc (Nat.le_refl _) _).alloc (by simp) _⟩
end Go.Proofs.YtbbjjdnnlnabaaaGreat
namespace Go.Proofs.YtbbjjdnnlnabaaaGreat
open Go.ChangeShapes Go.WideShapes Go.ChangeAt Go.RowKit
set_option linter.unusedVariables false
set_option linter.unusedSimpArgs false
set_option maxRecDepth 100000
set_option maxHeartbeats 4000000
mutual
def RdF (ok : Nat → Prop) (w : World) : T → Value → Prop
  | .node k h xs, v => ∃ (A : Option Addr) (n c : Nat), v = .agg #[.int .i64 k, .int .i64 h, .slice A n c] ∧ (Lit.int .i64 k).wf = true ∧ (Lit.int .i64 h).wf = true ∧
      xs.length = n ∧ n ≤ c ∧ c ≤ maxLen ∧ RdFL ok w xs A 0
def RdFL (ok : Nat → Prop) (w : World) : List T → Option Addr → Nat → Prop
  | [], _, _ => True
  | t :: ts, A, j => (∃ b o v0 v1 v2, A = some ⟨b, o, none⟩ ∧ ok b ∧ w.cell? ⟨b, o + j * 3, none⟩ = some v0 ∧ w.cell? ⟨b, o + j * 3 + 1, none⟩ = some v1 ∧
      w.cell? ⟨b, o + j * 3 + 2, none⟩ = some v2 ∧ RdF ok w t (.agg #[v0, v1, v2])) ∧ RdFL ok w ts A (j + 1)
end
def RdFAt (ok : Nat → Prop) (w : World) (A : Option Addr) (j : Nat) (t : T) : Prop :=
  ∃ b o v0 v1 v2, A = some ⟨b, o, none⟩ ∧ ok b ∧ w.cell? ⟨b, o + j * 3, none⟩ = some v0 ∧ w.cell? ⟨b, o + j * 3 + 1, none⟩ = some v1 ∧
      w.cell? ⟨b, o + j * 3 + 2, none⟩ = some v2 ∧ RdF ok w t (.agg #[v0, v1, v2])
theorem RdFL_iff (ok : Nat → Prop) (w : World) (A : Option Addr) : ∀ (ts : List T) (j : Nat), RdFL ok w ts A j ↔ ∀ i t, ts[i]? = some t → RdFAt ok w A (j + i) t
  | [], j => by simp [RdFL]
  | t :: ts, j => by
    rw [RdFL, RdFL_iff ok w A ts (j + 1)]
    constructor
    · rintro ⟨h0, h1⟩ i u hu
      cases i with
      | zero => simp only [List.getElem?_cons_zero, Option.some.injEq] at hu; subst hu; exact h0
      | succ i => have := h1 i u (by simpa using hu); rw [show j + (i + 1) = j + 1 + i by omega]; exact this
    · intro h
      refine ⟨h 0 t rfl, fun i u hu => ?_⟩
      have := h (i + 1) u (by simpa using hu)
      rw [show j + 1 + i = j + (i + 1) by omega]; exact this
theorem RdF_node {ok : Nat → Prop} {w : World} {k h : Int} {xs : List T} {v : Value} : RdF ok w (.node k h xs) v ↔
    ∃ (A : Option Addr) (n c : Nat), v = .agg #[.int .i64 k, .int .i64 h, .slice A n c] ∧ (Lit.int .i64 k).wf = true ∧ (Lit.int .i64 h).wf = true ∧
      xs.length = n ∧ n ≤ c ∧ c ≤ maxLen ∧ ∀ i t, xs[i]? = some t → RdFAt ok w A i t := by
  rw [RdF]
  simp only [RdFL_iff, Nat.zero_add]
theorem RdF.rd {ok : Nat → Prop} {w : World} : ∀ (t : T) (v : Value), RdF ok w t v → Rd w t v := by
  refine T.ind fun k h xs ih v hv => ?_
  obtain ⟨A, n, c, rfl, h1, h2, h3, h4, h5, h6⟩ := RdF_node.1 hv
  refine Rd_node.2 ⟨A, n, c, rfl, h1, h2, h3, h4, h5, fun i t ht => ?_⟩
  obtain ⟨b, o, v0, v1, v2, rfl, _, c0, c1, c2, hr⟩ := h6 i t ht
  exact ⟨b, o, v0, v1, v2, rfl, c0, c1, c2, ih t (List.mem_of_getElem? ht) _ hr⟩
theorem RdF.move {ok ok' : Nat → Prop} {w w' : World} (hok : ∀ b, ok b → ok' b) (hk : ∀ b, ok b → b < w.heap.size → w'.heap[b]? = w.heap[b]?) : ∀ (t : T) (v : Value), RdF ok w t v → RdF ok' w' t v := by
  refine T.ind fun k h xs ih v hv => ?_
  obtain ⟨A, n, c, rfl, h1, h2, h3, h4, h5, h6⟩ := RdF_node.1 hv
  refine RdF_node.2 ⟨A, n, c, rfl, h1, h2, h3, h4, h5, fun i t ht => ?_⟩
  obtain ⟨b, o, v0, v1, v2, rfl, hb, c0, c1, c2, hr⟩ := h6 i t ht
  have e : ∀ j, w'.cell? ⟨b, j, none⟩ = w.cell? ⟨b, j, none⟩ := fun j => World.cell?_of_block (w := w) (hk b hb (cell_lt c0))
  exact ⟨b, o, v0, v1, v2, rfl, hok b hb, (e _).trans c0, (e _).trans c1, (e _).trans c2, ih t (List.mem_of_getElem? ht) _ hr⟩
def Kids (w : World) (ok : Nat → Prop) (cs : Array Value) (xs : List T) : Prop :=
  ∀ i t, xs[i]? = some t → ∃ k h A n c, cs[i * 3]? = some (.int .i64 k) ∧ cs[i * 3 + 1]? = some (.int .i64 h) ∧ cs[i * 3 + 2]? = some (.slice A n c) ∧ RdF ok w t (.agg #[.int .i64 k, .int .i64 h, .slice A n c])
def OwT (w : World) (lo : Nat) : T → Value → Prop
  | .node k h xs, v => ∃ A n c, v = .agg #[.int .i64 k, .int .i64 h, .slice A n c] ∧ (Lit.int .i64 k).wf = true ∧ (Lit.int .i64 h).wf = true ∧ xs.length = n ∧ n ≤ c ∧ c ≤ maxLen ∧
      (n = 0 ∨ ∃ b cs, A = some ⟨b, 0, none⟩ ∧ lo ≤ b ∧ Box w b 39 cs ∧ cs.size = n * 3 ∧ Kids w (fun g => b < g) cs xs)
theorem OwT.rdF {w : World} {lo : Nat} {t : T} {v : Value} (h : OwT w lo t v) : RdF (fun g => lo ≤ g) w t v := by
  obtain ⟨k, g, xs⟩ := t
  obtain ⟨A, n, c, rfl, h1, h2, h3, h4, h5, h6⟩ := h
  refine RdF_node.2 ⟨A, n, c, rfl, h1, h2, h3, h4, h5, fun i t ht => ?_⟩
  rcases h6 with rfl | ⟨b, cs, rfl, hb, hbox, hsz, hk⟩
  · have := (List.getElem?_eq_some_iff.1 ht).1; omega
  · obtain ⟨k', h', A', n', c', e0, e1, e2, hr⟩ := hk i t ht
    refine ⟨b, 0, _, _, _, rfl, hb, ?_, ?_, ?_, RdF.move (fun g hg => by omega) (fun _ _ _ => rfl) _ _ hr⟩
    · rw [hbox.cell, Nat.zero_add]; exact e0
    · rw [hbox.cell, Nat.zero_add]; exact e1
    · rw [hbox.cell, Nat.zero_add]; exact e2
theorem OwT.full {w : World} {lo : Nat} {t : T} {v : Value} (h : OwT w lo t v) : ∃ k h A n c, v = .agg #[.int .i64 k, .int .i64 h, .slice A n c] := by
  obtain ⟨k, g, xs⟩ := t
  obtain ⟨A, n, c, e, _⟩ := h
  exact ⟨k, g, A, n, c, e⟩
theorem Box.there {w : World} {b : Nat} {ty : TypeId} {cs : Array Value} (h : Box w b ty cs) {i : Nat} (hi : i < cs.size) : ∃ u, w.cell? ⟨b, i, none⟩ = some u := ⟨_, by rw [h.cell]; exact Array.getElem?_eq_getElem hi⟩
theorem Kids.put {w w' : World} {ok : Nat → Prop} {cs : Array Value} {xs : List T} {j : Nat} {t : T} {k h : Int} {A : Option Addr} {n c : Nat} (hk : Kids w ok cs (xs.take j)) (hm : ∀ b, ok b → b < w.heap.size → w'.heap[b]? = w.heap[b]?)
    (hj : xs[j]? = some t) (hr : RdF ok w' t (.agg #[.int .i64 k, .int .i64 h, .slice A n c])) (hsz : j * 3 + 2 < cs.size) :
    Kids w' ok (((cs.setIfInBounds (j * 3) (.int .i64 k)).setIfInBounds (j * 3 + 1) (.int .i64 h)).setIfInBounds (j * 3 + 2) (.slice A n c)) (xs.take (j + 1)) := by
  intro i u hu
  have hi : i < j + 1 := by have := (List.getElem?_eq_some_iff.1 hu).1; simp at this; omega
  rw [List.getElem?_take_of_lt hi] at hu
  rcases Nat.lt_or_ge i j with h1 | h1
  · obtain ⟨k', h', A', n', c', e0, e1, e2, hr'⟩ := hk i u (by rw [List.getElem?_take_of_lt h1]; exact hu)
    refine ⟨k', h', A', n', c', ?_, ?_, ?_, RdF.move (fun _ h => h) hm _ _ hr'⟩
    all_goals simp only [Array.getElem?_setIfInBounds]
    · rw [if_neg (by omega), if_neg (by omega), if_neg (by omega)]; exact e0
    · rw [if_neg (by omega), if_neg (by omega), if_neg (by omega)]; exact e1
    · rw [if_neg (by omega), if_neg (by omega), if_neg (by omega)]; exact e2
  · obtain rfl : i = j := by omega
    rw [hj] at hu
    cases hu
    refine ⟨k, h, A, n, c, ?_, ?_, ?_, hr⟩
    all_goals simp only [Array.getElem?_setIfInBounds, Array.size_setIfInBounds]
    · rw [if_neg (by omega), if_neg (by omega), if_pos trivial, if_pos (by omega)]
    · rw [if_neg (by omega), if_pos trivial, if_pos (by omega)]
    · rw [if_pos trivial, if_pos (by omega)]
theorem infoTerm : (Tryz.prog.info? 39).map (fun i => (i.zero, i.size, i.bytes)) = some (some (.agg #[.int .i64 0, .int .i64 0, .slice none 0 0]), 3, 40) := by kernel_rfl
def OEnd (t : T) (w : World) (e : Ending) (w' : World) : Prop := ∃ v, e = .returned v ∧ OwT w' w.heap.size t v ∧ Below w.heap.size w w'
theorem termOwn (t : T) : ∀ (v : Value) (w : World), Rd w t v → wd t ≤ 3518437208780 → Calls Tryz.prog 120 #[v] w (OEnd t w) := by
  induction t using T.ind with
  | step k h xs ih =>
    intro v w hv hwd
    obtain ⟨A, n, c, rfl, hk, hh, hn, hc, hm, hx⟩ := Rd_node.1 hv
    clear hv
    have HM := Lib.hid hm
    unfold maxLen at hm
    have hwd' : n ≤ 3518437208780 ∧ ∀ t ∈ xs, wd t ≤ 3518437208780 := by
      rw [wd] at hwd
      exact ⟨by omega, fun t ht => by have := wd_mem ht; omega⟩
    obtain ⟨hn40, hwds⟩ := hwd'
    clear hwd
    have HWD := Lib.hid hwds; clear hwds
    have HN := Lib.hid hn; clear hn
    have HX := Lib.hid hx; clear hx
    have IH := Lib.hid ih; clear ih
    obtain ⟨i0, hi, hz0, hz1, hz2⟩ := info_parts infoTerm
    have hmk : ∀ W : World, (Instr.makeSlice 24 (.int .i64 (n : Int)) (.int .i64 (n : Int))).run Tryz.prog W = .ok (.slice (some ⟨W.heap.size, 0, none⟩) n n) (W.alloc (.cells (madeCells #[.int .i64 0, .int .i64 0, .slice none 0 0] (n * 3)) 39)) := by
      intro W
      have := run_make W 24 39 i0 _ Tryz.underlying24 hi hz0 .i64 .i64 (n : Int) (n : Int) (by omega) (Int.le_refl _) (by rw [hz2]; omega) (by omega)
      rw [hz1] at this
      simpa [Value.cells] using this
    clear hi hz0 hz1 hz2
    by_cases h0 : n = 0
    · subst h0
      go_enter Tryz.func120, Tryz.ntmps120
      go_wp2_with fail
      refine bodyPost_ret (v := .agg #[.int .i64 k, .int .i64 h, .slice none 0 0]) (by simp [results, Tryz.results120, go_sem]) rfl ⟨_, rfl, ⟨none, 0, 0, rfl, hk, hh, HN.out, Nat.le_refl _, Nat.zero_le _, .inl rfl⟩, ?_⟩
      exact (((Below.refl _ _).alloc (Nat.le_refl _) _).alloc (by simp) _).alloc (by simp; omega) _
    · have e0 : ((n : Int) == 0) = false := by rw [beq_eq_false_iff_ne]; omega
      go_enter Tryz.func120, Tryz.ntmps120
      go_wp2_with fail
      have hcs := size_madeCells #[.int .i64 0, .int .i64 0, .slice none 0 0] (n * 3)
      generalize madeCells #[.int .i64 0, .int .i64 0, .slice none 0 0] (n * 3) = cs0 at *
      obtain ⟨W0, hW0⟩ : ∃ W0, ((((w.alloc (.cells #[.int .i64 k, .int .i64 h, .slice A n c] 39)).alloc (.cells #[.int .i64 0, .int .i64 0, .slice none 0 0] 39)).alloc (.cells #[.int .i64 k, .int .i64 h, .slice (some ⟨w.heap.size + 1 + 1 + 1, 0, none⟩) n n] 39)).alloc (.cells cs0 39)) = W0 := ⟨_, rfl⟩
      rw [hW0]
      have hb : Below w.heap.size w W0 := by
        rw [← hW0]; exact ((((Below.refl _ w).alloc (Nat.le_refl _) _).alloc (by simp) _).alloc (by simp; omega) _).alloc (by simp; omega) _
      have x1 : Box W0 (w.heap.size + 1) 39 #[.int .i64 0, .int .i64 0, .slice none 0 0] := by
        rw [← hW0]; exact (((Box.new (w.alloc _) _ _).at (b' := w.heap.size + 1) (by simp)).alloc _).alloc _
      have x2 : Box W0 (w.heap.size + 1 + 1) 39 #[.int .i64 k, .int .i64 h, .slice (some ⟨w.heap.size + 1 + 1 + 1, 0, none⟩) n n] := by
        rw [← hW0]; exact ((Box.new ((w.alloc _).alloc _) _ _).at (b' := w.heap.size + 1 + 1) (by simp)).alloc _
      have x3 : Box W0 (w.heap.size + 1 + 1 + 1) 39 cs0 := by
        rw [← hW0]; exact (Box.new (((w.alloc _).alloc _).alloc _) _ _).at (b' := w.heap.size + 1 + 1 + 1) (by simp)
      clear hW0
      have HCS := Lib.hid hcs; clear hcs hmk
      go_loopw [24] (fun i wr => ∃ (j : Nat) (cs : Array Value), j ≤ n ∧ i = .int .i64 j ∧ Box wr (w.heap.size + 1) 39 #[.int .i64 0, .int .i64 0, .slice none 0 0] ∧
        Box wr (w.heap.size + 1 + 1) 39 #[.int .i64 k, .int .i64 h, .slice (some ⟨w.heap.size + 1 + 1 + 1, 0, none⟩) n n] ∧ Box wr (w.heap.size + 1 + 1 + 1) 39 cs ∧ Hid (cs.size = n * 3) ∧
        Kids wr (fun g => w.heap.size + 1 + 1 + 1 < g) cs (xs.take j) ∧ Below w.heap.size w wr) (fun i _ => n - (intOf i).toNat)
      case atStart => exact ⟨0, cs0, Nat.zero_le _, rfl, x1, x2, x3, HCS, fun i t ht => by simp at ht, hb⟩
      case round =>
        obtain ⟨j, cs, hj, rfl, y1, y2, y3, HC, hkids, hbr⟩ := hrel
        have HK := Lib.hid hkids; clear hkids
        clear x1 x2 x3 hb
        by_cases hlt : j < n
        · obtain ⟨t, ht⟩ := at_of HN.out hlt
          obtain ⟨b, o, k2, h2, A2, n2, c2', rfl, c0, c1, c2, hr⟩ := (RdAt.keep hbr (HX.out j t ht)).full
          have HT := Lib.hid ht; clear ht
          go_wp2_with fail
          have z1 := y1.alloc (.cells #[.int .i64 k2, .int .i64 h2, .slice A2 n2 c2'] 39)
          have z2 := y2.alloc (.cells #[.int .i64 k2, .int .i64 h2, .slice A2 n2 c2'] 39)
          have z3 := y3.alloc (.cells #[.int .i64 k2, .int .i64 h2, .slice A2 n2 c2'] 39)
          have z5 := Box.new wr 39 #[.int .i64 k2, .int .i64 h2, .slice A2 n2 c2']
          have hbA : Below wr.heap.size wr (wr.alloc (.cells #[.int .i64 k2, .int .i64 h2, .slice A2 n2 c2'] 39)) := (Below.refl _ wr).alloc (Nat.le_refl _) _
          generalize wr.alloc (.cells #[.int .i64 k2, .int .i64 h2, .slice A2 n2 c2'] 39) = Wa at *
          clear c0 c1 c2
          obtain ⟨q0, q1, q2⟩ := z2.three
          obtain ⟨p0, p1, p2⟩ := z5.three
          have l3 := z3.lt
          have l5 := z5.lt
          have HO := Lib.hid (IH.out t (List.mem_of_getElem? HT.out) (.agg #[.int .i64 k2, .int .i64 h2, .slice A2 n2 c2']) Wa.drew (Rd.keep hbA.drew _ _ hr) (HWD.out t (List.mem_of_getElem? HT.out)))
          have hi0 : (0 : Int) ≤ j := by omega
          have hi1 : (j : Int) < n := by omega
          have ly3 := y3.lt
          go_region_held3 (fun w' => w'.cell? ⟨w.heap.size + 1 + 1, 2, none⟩ = some (.slice (some ⟨w.heap.size + 1 + 1 + 1, 0, none⟩) n n) ∧ w'.cell? ⟨wr.heap.size, 0, none⟩ = some (.int .i64 k2) ∧ w'.cell? ⟨wr.heap.size, 1, none⟩ = some (.int .i64 h2) ∧ w'.cell? ⟨wr.heap.size, 2, none⟩ = some (.slice A2 n2 c2'))
            (first | exact ⟨q2, p0, p1, p2⟩ | exact ⟨s2, r0, r1, r2⟩ | exact ⟨(((g2.other (by dsimp only; omega) _).other (by dsimp only; omega) _).other (by dsimp only; omega) _).three.2.2, (((g5.other (by dsimp only; omega) _).other (by dsimp only; omega) _).other (by dsimp only; omega) _).three.1, (((g5.other (by dsimp only; omega) _).other (by dsimp only; omega) _).other (by dsimp only; omega) _).three.2.1, (((g5.other (by dsimp only; omega) _).other (by dsimp only; omega) _).other (by dsimp only; omega) _).three.2.2⟩)
            (first | (go_at_call 120
                      refine HO.out.mono ?_
                      rintro e w1 ⟨v', rfl, how, hb1⟩
                      have g1 := (show Box Wa.drew _ _ _ from z1).keep hb1 z1.lt
                      have g2 := (show Box Wa.drew _ _ _ from z2).keep hb1 z2.lt
                      have g5 := (show Box Wa.drew _ _ _ from z5).keep hb1 z5.lt
                      have g3 := (show Box Wa.drew _ _ _ from z3).keep hb1 z3.lt
                      obtain ⟨s0, s1, s2⟩ := g2.three
                      obtain ⟨r0, r1, r2⟩ := g5.three
                      obtain ⟨u0, hu0⟩ := g3.there (i := j * 3) (by rw [HC.out]; omega)
                      obtain ⟨u1, hu1⟩ := g3.there (i := j * 3 + 1) (by rw [HC.out]; omega)
                      obtain ⟨u2, hu2⟩ := g3.there (i := j * 3 + 2) (by rw [HC.out]; omega)
                      have f0 := g3.frozen (j * 3)
                      have f1 := g3.frozen (j * 3 + 1)
                      have f2 := g3.frozen (j * 3 + 2)
                      obtain ⟨k3, h3, A3, n3, c3, rfl⟩ := how.full))
          have hbw : Below wr.heap.size wr w1 := hbA.drew.trans (hb1.mono hbA.size)
          have hr3 : RdF (fun g => w.heap.size + 1 + 1 + 1 < g) w1 t (.agg #[.int .i64 k3, .int .i64 h3, .slice A3 n3 c3]) :=
            RdF.move (fun g hg => by have : wr.heap.size ≤ g := Nat.le_trans hbA.size hg; omega) (fun _ _ _ => rfl) _ _ how.rdF
          have hk3 : Kids w1 (fun g => w.heap.size + 1 + 1 + 1 < g) cs (xs.take j) := fun i u hu => by
            obtain ⟨k', h', A', n', c', e0, e1, e2, hr'⟩ := HK.out i u hu
            exact ⟨k', h', A', n', c', e0, e1, e2, RdF.move (fun _ h => h) (fun g _ hg => hbw.block g hg) _ _ hr'⟩
          have hset : ∀ g, w.heap.size + 1 + 1 + 1 < g → (((w1.setCell ⟨w.heap.size + 1 + 1 + 1, j * 3, none⟩ (.int .i64 k3)).setCell ⟨w.heap.size + 1 + 1 + 1, j * 3 + 1, none⟩ (.int .i64 h3)).setCell ⟨w.heap.size + 1 + 1 + 1, j * 3 + 2, none⟩ (.slice A3 n3 c3)).heap[g]? = w1.heap[g]? := fun g hg => by
            rw [Below.heap_setCell _ _ _ _ (by dsimp only; omega), Below.heap_setCell _ _ _ _ (by dsimp only; omega), Below.heap_setCell _ _ _ _ (by dsimp only; omega)]
          have hk4 := hk3.put (fun g hg _ => hset g hg) HT.out (RdF.move (fun _ h => h) (fun g hg _ => hset g hg) _ _ hr3) (by rw [HC.out]; omega)
          have HK4 := Lib.hid hk4; clear hk4 hk3 hset hr3
          have HB := Lib.hid hbw; clear hbw
          clear hb1 how
          go_wp2_with fail
          go_roundw
          case rel =>
            refine ⟨j + 1, _, by omega, by go_num, ((g1.other (by dsimp only; omega) _).other (by dsimp only; omega) _).other (by dsimp only; omega) _, ((g2.other (by dsimp only; omega) _).other (by dsimp only; omega) _).other (by dsimp only; omega) _, ((g3.setAt _ _).setAt _ _).setAt _ _, Lib.hid (by simp [HC.out]), HK4.out, ?_⟩
            exact (((hbr.trans (HB.out.mono hbr.size)).setCell (by dsimp only; omega) _).setCell (by dsimp only; omega) _).setCell (by dsimp only; omega) _
          case measure => simp [intOf]; omega
        · obtain ⟨d0, d1, d2⟩ := y1.three
          have f0 := y1.frozen 0
          have f1 := y1.frozen 1
          have f2 := y1.frozen 2
          obtain ⟨q0, q1, q2⟩ := y2.three
          go_wp2_with fail
          refine bodyPost_ret (v := .agg #[.int .i64 k, .int .i64 h, .slice (some ⟨w.heap.size + 1 + 1 + 1, 0, none⟩) n n]) (by simp [results, Tryz.results120, go_sem, d0, d1, d2]) rfl ?_
          refine ⟨_, rfl, ⟨_, n, n, rfl, hk, hh, HN.out, Nat.le_refl _, by unfold maxLen; omega, .inr ⟨_, cs, rfl, by omega, ?_, HC.out, ?_⟩⟩, ?_⟩
          · exact ((y3.other (by dsimp only; omega) _).other (by dsimp only; omega) _).other (by dsimp only; omega) _
          · have HK' := HK.out
            rw [List.take_of_length_le (by rw [HN.out]; omega)] at HK'
            intro i t ht
            obtain ⟨k', h', A', n', c', e0, e1, e2, hr⟩ := HK' i t ht
            refine ⟨k', h', A', n', c', e0, e1, e2, RdF.move (fun _ h => h) (fun g hg _ => ?_) _ _ hr⟩
            rw [Below.heap_setCell _ _ _ _ (by dsimp only; omega), Below.heap_setCell _ _ _ _ (by dsimp only; omega), Below.heap_setCell _ _ _ _ (by dsimp only; omega)]
          · exact ((hbr.setCell (by dsimp only; omega) _).setCell (by dsimp only; omega) _).setCell (by dsimp only; omega) _
end Go.Proofs.YtbbjjdnnlnabaaaGreat
namespace Go.Proofs.YtbbjjdnnlnabaaaGreat
open Go.ChangeShapes Go.WideShapes Go.ChangeAt Go.RowKit
set_option linter.unusedVariables false
set_option linter.unusedSimpArgs false
theorem RdF.moveQ {ok ok' : Nat → Prop} {w w' : World} (hk : ∀ b, ok b → b < w.heap.size → ok' b ∧ w'.heap[b]? = w.heap[b]?) : ∀ (t : T) (v : Value), RdF ok w t v → RdF ok' w' t v := by
  refine T.ind fun k h xs ih v hv => ?_
  obtain ⟨A, n, c, rfl, h1, h2, h3, h4, h5, h6⟩ := RdF_node.1 hv
  refine RdF_node.2 ⟨A, n, c, rfl, h1, h2, h3, h4, h5, fun i t ht => ?_⟩
  obtain ⟨b, o, v0, v1, v2, rfl, hb, c0, c1, c2, hr⟩ := h6 i t ht
  have e : ∀ j, w'.cell? ⟨b, j, none⟩ = w.cell? ⟨b, j, none⟩ := fun j => World.cell?_of_block (w := w) (hk b hb (cell_lt c0)).2
  exact ⟨b, o, v0, v1, v2, rfl, (hk b hb (cell_lt c0)).1, (e _).trans c0, (e _).trans c1, (e _).trans c2, ih t (List.mem_of_getElem? ht) _ hr⟩
theorem Box.other3Q {w : World} {b : Nat} {ty : TypeId} {cs : Array Value} (h : Box w b ty cs) {a : Nat} (hne : b ≠ a) (u0 u1 u2 : Value) : Box (((w.setCell ⟨a, 0, none⟩ u0).setCell ⟨a, 1, none⟩ u1).setCell ⟨a, 2, none⟩ u2) b ty cs :=
  ((h.other (a := ⟨a, 0, none⟩) hne u0).other (a := ⟨a, 1, none⟩) hne u1).other (a := ⟨a, 2, none⟩) hne u2
theorem heap_other3Q (w : World) (a : Nat) (u0 u1 u2 : Value) (g : Nat) (hne : g ≠ a) : (((w.setCell ⟨a, 0, none⟩ u0).setCell ⟨a, 1, none⟩ u1).setCell ⟨a, 2, none⟩ u2).heap[g]? = w.heap[g]? := by
  rw [Below.heap_setCell _ _ _ _ hne, Below.heap_setCell _ _ _ _ hne, Below.heap_setCell _ _ _ _ hne]
theorem below_set3Q {B : Nat} {w w' : World} (h : Below B w w') {a : Nat} (hl : B ≤ a) (u0 u1 u2 : Value) : Below B w (((w'.setCell ⟨a, 0, none⟩ u0).setCell ⟨a, 1, none⟩ u1).setCell ⟨a, 2, none⟩ u2) :=
  ((h.setCell (by exact hl) u0).setCell (by exact hl) u1).setCell (by exact hl) u2
def KidQ (w : World) (ok : Nat → Prop) (cs : List Value) (ys : List T) : Prop :=
  ∀ i t, ys[i]? = some t → ∃ k h A n c, cs[i * 3]? = some (.int .i64 k) ∧ cs[i * 3 + 1]? = some (.int .i64 h) ∧ cs[i * 3 + 2]? = some (.slice A n c) ∧ RdF ok w t (.agg #[.int .i64 k, .int .i64 h, .slice A n c])
theorem KidQ.snoc {w : World} {ok : Nat → Prop} {cs : List Value} {ys : List T} {t : T} {k h : Int} {A : Option Addr} {n c : Nat} (hk : KidQ w ok cs ys) (hl : cs.length = ys.length * 3)
    (hr : RdF ok w t (.agg #[.int .i64 k, .int .i64 h, .slice A n c])) : KidQ w ok (cs ++ [.int .i64 k, .int .i64 h, .slice A n c]) (ys ++ [t]) := fun i u hu => by
  rcases Nat.lt_or_ge i ys.length with hi | hi
  · rw [List.getElem?_append_left hi] at hu
    obtain ⟨k', h', A', n', c', e0, e1, e2, hr'⟩ := hk i u hu
    refine ⟨k', h', A', n', c', ?_, ?_, ?_, hr'⟩
    · rw [List.getElem?_append_left (by omega)]; exact e0
    · rw [List.getElem?_append_left (by omega)]; exact e1
    · rw [List.getElem?_append_left (by omega)]; exact e2
  · rw [List.getElem?_append_right hi] at hu
    have hi' : i = ys.length := by
      rcases Nat.eq_or_lt_of_le hi with h | h
      · exact h.symm
      · rw [List.getElem?_eq_none (by simp; omega)] at hu; cases hu
    subst hi'
    rw [Nat.sub_self] at hu
    simp only [List.getElem?_cons_zero, Option.some.injEq] at hu
    subst hu
    refine ⟨k, h, A, n, c, ?_, ?_, ?_, hr⟩
    · rw [List.getElem?_append_right (by omega), hl, Nat.sub_self]; rfl
    · rw [List.getElem?_append_right (by omega), hl, show ys.length * 3 + 1 - ys.length * 3 = 1 by omega]; rfl
    · rw [List.getElem?_append_right (by omega), hl, show ys.length * 3 + 2 - ys.length * 3 = 2 by omega]; rfl
theorem own_noneQ (v : Value) : v.ownBlock = none ∨ v.ownBlock ≠ none := by
  cases v.ownBlock <;> simp
theorem below_grownQ {B : Nat} {w a b : World} {row : Option Nat} (h : Below B w a) (hg : a.grownBy b row) (hr : ∀ r, row = some r → B ≤ r) (hB : B ≤ a.heap.size) : Below B w b :=
  h.trans ⟨hg.os, hg.tape, hg.output, hg.size, fun k hk => hg.block k (by omega) (fun e => by have := hr k e.symm; omega)⟩
/-! ### A row that grows -/
structure GRowQ (X : Nat → Prop) (w : World) (base : Nat) (v : Value) (n : Nat) (cs : List Value) (ys : List T) : Prop where
  own : w.ownsRow base 39 3 v n cs
  len : ys.length = n
  kids : KidQ w (fun b => ¬ X b ∧ some b ≠ v.ownBlock) cs ys
theorem GRowQ.nil (X : Nat → Prop) (w : World) (base : Nat) : GRowQ X w base (.slice none 0 0) 0 [] [] :=
  ⟨World.ownsRow_nil _ _ _ _, rfl, fun i t ht => by simp at ht⟩
theorem GRowQ.full {X : Nat → Prop} {w : World} {base : Nat} {v : Value} {n : Nat} {cs : List Value} {ys : List T} (h : GRowQ X w base v n cs ys) : ∃ A c, v = .slice A n c ∧ n ≤ c ∧ c ≤ maxLen := by
  rcases h.own.2 with ⟨rfl, rfl⟩ | ⟨g, cap, cur, rfl, _, _, h1, h2, _⟩
  · exact ⟨none, 0, rfl, Nat.le_refl _, Nat.zero_le _⟩
  · exact ⟨_, _, rfl, h1, h2⟩
theorem GRowQ.lt {X : Nat → Prop} {w : World} {base : Nat} {v : Value} {n : Nat} {cs : List Value} {ys : List T} (h : GRowQ X w base v n cs ys) {g : Nat} (hg : v.ownBlock = some g) : base ≤ g ∧ g < w.heap.size := h.own.lt g hg
theorem KidQ.moveX {w w' : World} {ok ok' : Nat → Prop} {cs : List Value} {ys : List T} (hk : KidQ w ok cs ys) (hm : ∀ b, ok b → b < w.heap.size → ok' b ∧ w'.heap[b]? = w.heap[b]?) : KidQ w' ok' cs ys := fun i t ht => by
  obtain ⟨k, h, A, n, c, e0, e1, e2, hr⟩ := hk i t ht
  exact ⟨k, h, A, n, c, e0, e1, e2, RdF.moveQ hm _ _ hr⟩
theorem GRowQ.move {X : Nat → Prop} {w w' : World} {base : Nat} {v : Value} {n : Nat} {cs : List Value} {ys : List T} (h : GRowQ X w base v n cs ys) (hm : ∀ b, b < w.heap.size → ¬ X b → w'.heap[b]? = w.heap[b]?) (hX : ∀ g, v.ownBlock = some g → ¬ X g) : GRowQ X w' base v n cs ys := by
  refine ⟨⟨h.own.1, ?_⟩, h.len, h.kids.moveX fun b hb hl => ⟨hb, hm b hl hb.1⟩⟩
  rcases h.own.2 with h1 | ⟨g, cap, cur, rfl, hb, hg, h1⟩
  · exact .inl h1
  · have hlt := (h.own.lt g rfl).2
    exact .inr ⟨g, cap, cur, rfl, hb, (hm g hlt (hX g rfl)).trans hg, h1⟩
theorem GRowQ.grow {X : Nat → Prop} {w1 w4 : World} {base : Nat} {v : Value} {n m cap g : Nat} {cs : List Value} {ys : List T} {t : T} {k h : Int} {A : Option Addr} {c : Nat} (hg : GRowQ X w1 base v n cs ys) (hr : RdF (fun b => ¬ X b ∧ some b ≠ v.ownBlock) w1 t (.agg #[.int .i64 k, .int .i64 h, .slice A m c]))
    (how : w4.ownsRow base 39 3 (.slice (some ⟨g, 0, none⟩) (n + 1) cap) (n + 1) (cs ++ [.int .i64 k, .int .i64 h, .slice A m c]))
    (hgr : (w1.alloc (.cells #[.int .i64 k, .int .i64 h, .slice A m c] 39)).grownBy w4 v.ownBlock) (h4 : v.ownBlock = some g ∨ g = w1.heap.size + 1) :
    GRowQ X w4 base (.slice (some ⟨g, 0, none⟩) (n + 1) cap) (n + 1) (cs ++ [.int .i64 k, .int .i64 h, .slice A m c]) (ys ++ [t]) := by
  have hgo : ∀ q, q < w1.heap.size → some q ≠ v.ownBlock → w4.heap[q]? = w1.heap[q]? := fun q hq hne => (hgr.block q (by simp; omega) hne).trans (Below.heap_alloc _ _ _ hq)
  have hne : ∀ q, q < w1.heap.size → some q ≠ v.ownBlock → q ≠ g := fun q hq hv e => by
    rcases h4 with h4 | h4
    · rw [h4, e] at hv; exact hv rfl
    · omega
  have hm : ∀ b, (¬ X b ∧ some b ≠ v.ownBlock) → b < w1.heap.size → (¬ X b ∧ some b ≠ Value.ownBlock (.slice (some ⟨g, 0, none⟩) (n + 1) cap)) ∧ w4.heap[b]? = w1.heap[b]? := fun b hb hl =>
    ⟨⟨hb.1, fun e => hne b hl hb.2 (by simpa [Value.ownBlock] using e)⟩, hgo b hl hb.2⟩
  exact ⟨how, by rw [List.length_append, hg.len]; rfl, KidQ.snoc (hg.kids.moveX hm) (by rw [hg.own.1, hg.len]) (RdF.moveQ hm _ _ hr)⟩
theorem GRowQ.push {X : Nat → Prop} {w1 : World} {base : Nat} {v : Value} {n m : Nat} {cs : List Value} {ys : List T} {t : T} {k h : Int} {A : Option Addr} {c : Nat} (hg : GRowQ X w1 base v n cs ys) (hr : RdF (fun b => ¬ X b ∧ some b ≠ v.ownBlock) w1 t (.agg #[.int .i64 k, .int .i64 h, .slice A m c]))
    (hbase : base ≤ w1.heap.size) (hn : n + 1 ≤ 3518437208780) :
    ∃ g cap w4, (Builtin.append_ #[24, 24] 24 #[v, .slice (some ⟨w1.heap.size, 0, none⟩) 1 1]).run Tryz.prog (w1.alloc (.cells #[.int .i64 k, .int .i64 h, .slice A m c] 39)) = .ok (.slice (some ⟨g, 0, none⟩) (n + 1) cap) w4 ∧
      GRowQ X w4 base (.slice (some ⟨g, 0, none⟩) (n + 1) cap) (n + 1) (cs ++ [.int .i64 k, .int .i64 h, .slice A m c]) (ys ++ [t]) ∧ (∀ q, q < w1.heap.size → some q ≠ v.ownBlock → w4.heap[q]? = w1.heap[q]?) ∧ Below base w1 w4 := by
  obtain ⟨i0, hi, hz0, hz1, hz2⟩ := info_parts infoTerm
  have hbA : Below w1.heap.size w1 (w1.alloc (.cells #[.int .i64 k, .int .i64 h, .slice A m c] 39)) := (Below.refl _ _).alloc (Nat.le_refl _) _
  obtain ⟨g, cap, w4, hrun, how4, hgr, hg4, _⟩ := run_append_lies (P := Tryz.prog) (w1.alloc (.cells #[.int .i64 k, .int .i64 h, .slice A m c] 39)) 24 24 base 39 i0 _ 3 40 Tryz.underlying24 hi hz0 hz1 hz2 rfl (by omega) v n cs
    (hg.own.kept (grown_of_below hbA) (own_noneQ _)) ⟨w1.heap.size, 0, none⟩ 1 1 [.int .i64 k, .int .i64 h, .slice A m c] rfl (World.news_of_block (heap_alloc_new w1 _)) (by intro u hu; simp at hu; rcases hu with rfl | rfl | rfl <;> rfl) (by omega) (by unfold maxLen; omega) (by omega) (by simp; omega) _ rfl
  exact ⟨g, cap, w4, hrun, hg.grow hr how4 hgr (by rcases hg4 with h | h; exact .inl h; exact .inr (by simpa using h)), fun q hq hne => (hgr.block q (by simp; omega) hne).trans (Below.heap_alloc _ _ _ hq),
    below_grownQ (hbA.mono hbase) hgr (fun r hr => (hg.lt hr).1) (by simp; omega)⟩
theorem GRowQ.rdat {X : Nat → Prop} {w : World} {base n c : Nat} {A : Option Addr} {cs : List Value} {ys : List T} (h : GRowQ X w base (.slice A n c) n cs ys) : ∀ i t, ys[i]? = some t → RdAt w A i t := fun i t ht => by
  obtain ⟨k', h', A', n', c', e0, e1, e2, hr⟩ := h.kids i t ht
  have hi := (List.getElem?_eq_some_iff.1 ht).1
  rcases h.own.2 with ⟨e, h0⟩ | ⟨g, cap, cur, e, _, _, h1, h2, _⟩
  · have := h.len; omega
  · injection e with ea _ _
    subst ea
    have hc := fun j u (hu : cs[j]? = some u) => h.own.cells (g := g) rfl j u hu
    have c0 := hc _ _ e0
    have c1 := hc _ _ e1
    have c2 := hc _ _ e2
    rw [addr_add] at c0 c1 c2
    exact ⟨g, 0, _, _, _, rfl, c0, c1, c2, RdF.rd _ _ hr⟩
theorem rdF_anyQ {w : World} : ∀ (t : T) (v : Value), Rd w t v → RdF (fun b => b < w.heap.size) w t v := by
  refine T.ind fun k h xs ih v hv => ?_
  obtain ⟨A, n, c, rfl, h1, h2, h3, h4, h5, h6⟩ := Rd_node.1 hv
  refine RdF_node.2 ⟨A, n, c, rfl, h1, h2, h3, h4, h5, fun i t ht => ?_⟩
  obtain ⟨b, o, v0, v1, v2, rfl, c0, c1, c2, hr⟩ := h6 i t ht
  exact ⟨b, o, v0, v1, v2, rfl, cell_lt c0, c0, c1, c2, ih t (List.mem_of_getElem? ht) _ hr⟩
end Go.Proofs.YtbbjjdnnlnabaaaGreat
namespace Go.Proofs.YtbbjjdnnlnabaaaGreat
open Go.ChangeShapes Go.WideShapes Go.ChangeAt Go.RowKit
set_option linter.unusedVariables false
set_option linter.unusedSimpArgs false
set_option maxHeartbeats 2000000
set_option maxRecDepth 100000
mutual
def spA : T → List T
  | .node k _ xs => if k = 1 ∧ xs.length = 2 then xs.headD (.node 0 0 []) :: spAL xs else []
def spAL : List T → List T
  | [] => []
  | t :: ts => match ts with
    | [] => spA t
    | _ :: _ => spAL ts
end
mutual
def spRq : T → T
  | .node k h xs => if k = 1 ∧ xs.length = 2 then spRL xs else .node k h xs
def spRL : List T → T
  | [] => .node 0 0 []
  | t :: ts => match ts with
    | [] => spRq t
    | _ :: _ => spRL ts
end
def asB (k : Int) (n : Nat) : Bool := decide (k = 1) && decide (n = 2)
theorem asB_iff {k : Int} {n : Nat} : asB k n = true ↔ k = 1 ∧ n = 2 := by rw [asB, Bool.and_eq_true, decide_eq_true_eq, decide_eq_true_eq]
theorem pi_of {k : Int} {xs : List T} (h : asB k xs.length = true) : k = 1 ∧ ∃ a b, xs = [a, b] := by
  obtain ⟨rfl, h2⟩ := asB_iff.1 h
  match xs, h2 with
  | [a, b], _ => exact ⟨rfl, a, b, rfl⟩
theorem spA_pi (h : Int) (a b : T) : spA (.node 1 h [a, b]) = a :: spA b := by simp [spA, spAL]
theorem spR_pi (h : Int) (a b : T) : spRq (.node 1 h [a, b]) = spRq b := by simp [spRq, spRL]
theorem spA_no {k h : Int} {xs : List T} (hk : asB k xs.length = false) : spA (.node k h xs) = [] := by
  rw [spA, if_neg]
  intro e
  rw [asB_iff.2 e] at hk
  cases hk
theorem spR_no {k h : Int} {xs : List T} (hk : asB k xs.length = false) : spRq (.node k h xs) = .node k h xs := by
  rw [spRq, if_neg]
  intro e
  rw [asB_iff.2 e] at hk
  cases hk
def kdQ : T → Int | .node k _ _ => k
def hdQ : T → Int | .node _ h _ => h
def kiB (t : T) : Bool := decide (kdQ (spRq t) = 0)
theorem rd_pi {w : World} {h : Int} {a b : T} {v : Value} (hv : Rd w (.node 1 h [a, b]) v) : ∃ bb o c, v = .agg #[.int .i64 1, .int .i64 h, .slice (some ⟨bb, o, none⟩) 2 c] ∧ 2 ≤ c ∧ c ≤ maxLen ∧
    (∃ k h A n c, w.cell? ⟨bb, o, none⟩ = some (.int .i64 k) ∧ w.cell? ⟨bb, o + 1, none⟩ = some (.int .i64 h) ∧ w.cell? ⟨bb, o + 2, none⟩ = some (.slice A n c) ∧ Rd w a (.agg #[.int .i64 k, .int .i64 h, .slice A n c])) ∧
    (∃ k h A n c, w.cell? ⟨bb, o + 3, none⟩ = some (.int .i64 k) ∧ w.cell? ⟨bb, o + 4, none⟩ = some (.int .i64 h) ∧ w.cell? ⟨bb, o + 5, none⟩ = some (.slice A n c) ∧ Rd w b (.agg #[.int .i64 k, .int .i64 h, .slice A n c])) := by
  obtain ⟨A, n, c, rfl, _, _, h3, h4, h5, h6⟩ := Rd_node.1 hv
  obtain ⟨bb, o, k, g, A1, n1, c1, rfl, c0, d0, e0, r0⟩ := (h6 0 a rfl).full
  obtain ⟨bb', o', k', g', A1', n1', c1', e, c0', d0', e0', r0'⟩ := (h6 1 b rfl).full
  cases e
  simp at h3
  subst h3
  exact ⟨bb, o, c, rfl, h4, h5, ⟨k, g, A1, n1, c1, by simpa using c0, by simpa using d0, by simpa using e0, r0⟩, ⟨k', g', A1', n1', c1', by simpa using c0', by simpa using d0', by simpa using e0', r0'⟩⟩
theorem asksC (k h : Int) (A : Option Addr) (n c : Nat) (hm : n ≤ maxLen) (w : World) :
    Calls Tryz.prog 114 #[.agg #[.int .i64 k, .int .i64 h, .slice A n c]] w fun e w' => e = .returned (.bool (asB k n)) ∧ Below w.heap.size w w' := by
  unfold maxLen at hm
  have hb : Below w.heap.size w (w.alloc (.cells #[.int .i64 k, .int .i64 h, .slice A n c] 39)) := (Below.refl _ _).alloc (Nat.le_refl _) _
  by_cases hk : k = 1
  · subst hk
    have E : asB 1 n = ((n : Int) == 2) := by rw [asB, Bool.eq_iff_iff]; simp; omega
    have HE := Lib.hid E; clear E
    go_enter Tryz.func114, Tryz.ntmps114
    go_wp2_with fail
    go_ret
    exact ⟨ret_bool HE.out.symm, hb⟩
  · have e0 : (k == 1) = false := by simpa using hk
    have E : asB k n = false := by rw [asB, decide_eq_false hk]; rfl
    have HE := Lib.hid E; clear E
    go_enter Tryz.func114, Tryz.ntmps114
    go_wp2_with fail
    go_ret
    exact ⟨ret_bool HE.out.symm, hb⟩
structure EnI (w wr : World) (t0 t : T) (k h : Int) (A : Option Addr) (n c : Nat) : Prop where
  box : Box wr w.heap.size 39 #[.int .i64 k, .int .i64 h, .slice A n c]
  res : Box wr (w.heap.size + 1) 39 #[.int .i64 0, .int .i64 0, .slice none 0 0]
  rd : Rd w t (.agg #[.int .i64 k, .int .i64 h, .slice A n c])
  below : Below w.heap.size w wr
  eq : spRq t0 = spRq t
theorem endC (t : T) (v : Value) (w : World) (hv : Rd w t v) :
    Calls Tryz.prog 102 #[v] w fun e w' => ∃ k h A n c, e = .returned (.agg #[.int .i64 k, .int .i64 h, .slice A n c]) ∧ Rd w (spRq t) (.agg #[.int .i64 k, .int .i64 h, .slice A n c]) ∧ Below w.heap.size w w' := by
  obtain ⟨k, h, A, n, c, rfl⟩ := hv.full
  obtain ⟨W, hW⟩ : ∃ W, (w.alloc (.cells #[.int .i64 k, .int .i64 h, .slice A n c] 39)).alloc (.cells #[.int .i64 0, .int .i64 0, .slice none 0 0] 39) = W := ⟨_, rfl⟩
  have hb : Below w.heap.size w W := by rw [← hW]; exact ((Below.refl _ _).alloc (Nat.le_refl _) _).alloc (by simp) _
  have x0 : Box W w.heap.size 39 #[.int .i64 k, .int .i64 h, .slice A n c] := by rw [← hW]; exact (Box.new _ _ _).alloc _
  have x1 : Box W (w.heap.size + 1) 39 #[.int .i64 0, .int .i64 0, .slice none 0 0] := by rw [← hW]; exact (Box.new (w.alloc _) _ _).at (by simp)
  have HI : Hid (EnI w W t t k h A n c) := Lib.hid ⟨x0, x1, hv, hb, rfl⟩
  have HW := Lib.hid hW; clear hW hb x0 x1 hv
  go_enter Tryz.func102, Tryz.ntmps102
  go_wp2_with fail
  rw [HW.out]
  clear HW
  go_loopg [] (nd t) (fun g wr => ∃ (t' : T) (k h : Int) (A : Option Addr) (n c : Nat), g = nd t' ∧ Hid (EnI w wr t t' k h A n c))
  case atStart => exact ⟨t, k, h, A, n, c, rfl, HI⟩
  case round =>
    clear HI
    obtain ⟨t', k', h', A', n', c', hg, HI⟩ := hrel
    have HG := Lib.hid hg; clear hg
    obtain ⟨p0, p1, p2⟩ := HI.out.box.three
    obtain ⟨kt, gt, xs⟩ := t'
    obtain ⟨Aq, nq, cq, eq, _, _, hl, hnc, hcm, _⟩ := Rd_node.1 HI.out.rd
    have eq' : k' = kt ∧ h' = gt ∧ A' = Aq ∧ n' = nq ∧ c' = cq := by simpa using eq
    obtain ⟨rfl, rfl, rfl, rfl, rfl⟩ := eq'
    have HAS := Lib.hid (asksC k' h' A' n' c' (by omega) wr)
    obtain ⟨R, hR⟩ : ∃ R, asB k' n' = R := ⟨_, rfl⟩
    rw [hR] at HAS
    have HR := Lib.hid hR
    have HL := Lib.hid hl
    clear eq hl hnc hcm hR
    go_wp2_with fail
    refine HAS.out.mono ?_
    clear HAS
    rintro e w1 ⟨rfl, hb1⟩
    have y0 := HI.out.box.keep hb1 HI.out.box.lt
    have y1 := HI.out.res.keep hb1 HI.out.res.lt
    have HY := Lib.hid (And.intro y0 y1)
    have hbw := HI.out.below.trans (hb1.mono HI.out.below.size)
    have HBW := Lib.hid hbw
    clear p0 p1 p2 hb1
    cases R
    · obtain ⟨p0, p1, p2⟩ := y0.three
      obtain ⟨r0, r1, r2⟩ := y1.three
      have f0 := y1.frozen 0
      have f1 := y1.frozen 1
      have f2 := y1.frozen 2
      have l1 := y1.lt
      clear y0 y1 hbw
      go_wp2_with fail
      refine bodyPost_ret (v := .agg #[.int .i64 k', .int .i64 h', .slice A' n' c']) (by simp [results, Tryz.results102, go_sem, r0, r1, r2]) rfl ?_
      refine ⟨k', h', A', n', c', rfl, ?_, below_set3Q HBW.out (by omega) _ _ _⟩
      have := HI.out.rd
      rw [HI.out.eq, spR_no (by rw [HL.out]; exact HR.out)]
      exact this
    · obtain ⟨rfl, a, b, rfl⟩ := pi_of (show asB k' xs.length = true by rw [HL.out]; exact HR.out)
      obtain ⟨bb, o, cc, ev, hc2, hcm, _, kb, gb, Ab, nb, cb, d0, d1, d2, hrb⟩ := rd_pi HI.out.rd
      have ev' : A' = some ⟨bb, o, none⟩ ∧ n' = 2 ∧ c' = cc := by simpa using ev
      obtain ⟨rfl, rfl, rfl⟩ := ev'
      obtain ⟨p0, p1, p2⟩ := y0.three
      have f0 := y0.frozen 0
      have f1 := y0.frozen 1
      have f2 := y0.frozen 2
      have l0 := y0.lt
      have c0 := (hbw.cell (cell_lt d0)).trans d0
      have c1 := (hbw.cell (cell_lt d1)).trans d1
      have c2 := (hbw.cell (cell_lt d2)).trans d2
      have HRB := Lib.hid hrb
      clear y0 y1 hbw ev hc2 hcm hrb d0 d1 d2
      go_wp2_with fail
      go_roundg (nd b)
      case measure => rw [HG.out, nd, ndL, ndL]; omega
      case rel =>
        refine ⟨b, kb, gb, Ab, nb, cb, rfl, Lib.hid ⟨?_, HY.out.2.other3Q (by omega) _ _ _, HRB.out, below_set3Q HBW.out (Nat.le_refl _) _ _ _, ?_⟩⟩
        · have := ((HY.out.1.setAt 0 (.int .i64 kb)).setAt 1 (.int .i64 gb)).setAt 2 (.slice Ab nb cb)
          simpa using this
        · rw [HI.out.eq, spR_pi]
theorem kindC (t : T) (v : Value) (w : World) (hv : Rd w t v) :
    Calls Tryz.prog 83 #[v] w fun e w' => e = .returned (.bool (kiB t)) ∧ Below w.heap.size w w' := by
  obtain ⟨k, h, A, n, c, rfl⟩ := hv.full
  have hb : Below w.heap.size w (w.alloc (.cells #[.int .i64 k, .int .i64 h, .slice A n c] 39)) := (Below.refl _ _).alloc (Nat.le_refl _) _
  have HC := Lib.hid (endC t _ _ (Rd.keep hb _ _ hv))
  have HB := Lib.hid hb; clear hb
  have HV := Lib.hid hv; clear hv
  have hfd : ∀ (x y : Int) (A : Option Addr) (n c : Nat) (W : World), (Instr.field 39 (.agg #[.int .i64 x, .int .i64 y, .slice A n c]) 0).run Tryz.prog W = .ok (.int .i64 x) W := fun x y A n c W => by kernel_rfl
  go_enter Tryz.func83, Tryz.ntmps83
  go_wp2_with fail
  refine HC.out.mono ?_
  rintro e w1 ⟨k1, h1, A1, n1, c1, rfl, hr, hb1⟩
  have hK : kiB t = (k1 == 0) := by
    rcases hq : spRq t with ⟨kt, gt, xs⟩
    rw [hq] at hr
    obtain ⟨Aq, nq, cq, eq, _⟩ := Rd_node.1 hr
    have eq' : k1 = kt ∧ h1 = gt ∧ A1 = Aq ∧ n1 = nq ∧ c1 = cq := by simpa using eq
    rw [kiB, hq, kdQ, eq'.1, Bool.eq_iff_iff]
    simp
  have HK := Lib.hid hK; clear hK hr
  have hbw := HB.out.trans (hb1.mono HB.out.size)
  have HBW := Lib.hid hbw; clear hbw hb1
  go_wp2_with fail
  go_ret
  exact ⟨ret_bool HK.out.symm, HBW.out⟩
end Go.Proofs.YtbbjjdnnlnabaaaGreat
namespace Go.Proofs.YtbbjjdnnlnabaaaGreat
open Go.ChangeShapes Go.WideShapes Go.ChangeAt Go.RowKit Go.Deep
set_option linter.unusedVariables false
set_option linter.unusedSimpArgs false
set_option maxRecDepth 100000
section
variable {H : Type} {enc : TypeId × Value → H} {w : World} {base : Nat} {spare : Nat → Bool} {held : Bool}
theorem open_terms {r : Reach} {b0 : Nat} {v : Value} {d : DataW H} {p : List MemPlace} (hv : Value.okWide Tryz.prog w r b0 24 v) (h : DataW.Trod enc Tryz.prog w base spare held 24 v d p) :
    ∃ (xs : List T) (A : Option Addr) (n c : Nat), v = .slice A n c ∧ xs.length = n ∧ n ≤ c ∧ c ≤ maxLen ∧ (∀ i t, xs[i]? = some t → RdAt w A i t) ∧ ndL xs ≤ Rows.uptoBulk d := by
  obtain ⟨fuel, hf⟩ := h
  obtain ⟨a0, l0, c0, rfl⟩ := okWide_slice Tryz.underlying24 hv
  rcases DataW.trod_slice Tryz.underlying24 hf with ⟨e2, hy2⟩ | ⟨a, len, cap, elems, rest, m, rfl, e2, hy2, hb, hlc, hm, hel, hat, _, _⟩
  · simp only [Value.cells, List.cons.injEq, and_true] at e2
    exact ⟨[], none, 0, 0, e2, rfl, Nat.le_refl _, Nat.zero_le _, fun i t ht => by simp at ht, by simp [ndL]⟩
  · simp only [Value.cells, List.cons.injEq, and_true] at e2
    rw [e2]
    have each : ∀ i, i < len → ∃ t : T, ∃ d, (elems.map (·.1))[i]? = some d ∧ nd t ≤ Rows.uptoBulk d ∧ ((∀ n ∈ d.weights Tryz.prog 39, n ≤ reachBytes) → wd t ≤ 3518437208780) ∧ RdAt w (some a) i t := by
      intro i hi
      have hi' := hat i hi
      rw [List.getElem?_eq_getElem (by omega), Option.bind_eq_some_iff] at hi'
      obtain ⟨cs', hcs, htr⟩ := hi'
      obtain ⟨t, u0, u1, u2, rfl, hr, hle, hwt⟩ := trod_term m cs' _ htr
      rw [Tryz.cellsTerm] at hcs
      obtain ⟨_, _, hcell⟩ := World.cells?_some hcs
      have c0 := hcell 0 (by omega)
      have c1 := hcell 1 (by omega)
      have c2 := hcell 2 (by omega)
      simp only [List.getElem?_cons_zero, List.getElem?_cons_succ, add_add, Nat.add_zero] at c0 c1 c2
      have hs : a.spot = none := by
        have := cell_spot c0
        unfold Addr.add at this
        split at this
        · exact this
        · rename_i h3
          -- the first entry's address has the same spot
          have h0' := hat 0 (by omega)
          rw [List.getElem?_eq_getElem (by omega), Option.bind_eq_some_iff] at h0'
          obtain ⟨cs0, hcs0, _⟩ := h0'
          rw [Tryz.cellsTerm] at hcs0
          obtain ⟨_, hl0, hcell0⟩ := World.cells?_some hcs0
          have := hcell0 0 (by omega)
          rw [List.getElem?_eq_getElem (by omega)] at this
          have := cell_spot this
          simpa [Addr.add] using this
      obtain ⟨b, o, s⟩ := a
      dsimp only at hs
      subst hs
      rw [addr_add] at c0 c1 c2
      refine ⟨t, _, by rw [List.getElem?_map, List.getElem?_eq_getElem (by omega)]; rfl, hle, hwt, b, o, u0, u1, u2, rfl, c0, ?_, ?_, hr⟩
      · rw [Nat.add_assoc]; exact c1
      · rw [Nat.add_assoc]; exact c2
    obtain ⟨xs, hxl, hxs⟩ := list_of len each
    refine ⟨xs, some a, len, cap, rfl, hxl, hlc, hm, fun i t ht => by obtain ⟨_, _, _, _, hr⟩ := hxs i t ht; exact hr, ?_⟩
    have hge := bulk_ge xs (elems.map (·.1)) fun i t ht => by
      obtain ⟨d, hd, hle, _, _⟩ := hxs i t ht
      exact ⟨d, hd, hle⟩
    rw [show d = _ from congrArg Prod.fst hy2]
    simp only [Rows.uptoBulk]
    omega
end
end Go.Proofs.YtbbjjdnnlnabaaaGreat
