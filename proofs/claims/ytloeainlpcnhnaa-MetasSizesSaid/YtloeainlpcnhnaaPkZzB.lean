/-
  Texts of one proof, put together. No statement is proved here.
-/
import Derived.Test.YtloeainlpcnhnaaPkMB
import Derived.Test.YtloeainlpcnhnaaPkYB
/-
  Metas, with what they stand for, appended to rows of a call's own. No statement is proved here.
-/
namespace Go.Proofs.Ytloeainlpcnhnaa
open Go.ChangeShapes Go.WideShapes Go.ChangeAt Go.RowKit
set_option linter.unusedVariables false
/-- cells of M, as some world reads what they hold -/
def KPv (W0 : World) (cs : List Value) (ds : List MP) : Prop :=
  ∀ i x, ds[i]? = some x → ∃ A1 n1 c1 k g A2 n2 c2, cs[i * 5]? = some (.slice A1 n1 c1) ∧ cs[i * 5 + 1]? = some (.int .i64 k) ∧ cs[i * 5 + 2]? = some (.int .i64 g) ∧ cs[i * 5 + 3]? = some (.slice A2 n2 c2) ∧ cs[i * 5 + 4]? = some (.bool x.2) ∧ CLV W0 x.1.1 A1 n1 c1 ∧ Rd W0 x.1.2 (.agg #[.int .i64 k, .int .i64 g, .slice A2 n2 c2])
theorem KPv.app {W0 : World} {cs1 cs2 : List Value} {ds1 ds2 : List MP} (h1 : KPv W0 cs1 ds1) (h2 : KPv W0 cs2 ds2) (hlen : cs1.length = ds1.length * 5) : KPv W0 (cs1 ++ cs2) (ds1 ++ ds2) := fun i x hx => by
  by_cases hi : i < ds1.length
  · rw [List.getElem?_append_left hi] at hx
    obtain ⟨A1, n1, c1, k, g, A2, n2, c2, e0, e1, e2, e3, e4, hl, hr⟩ := h1 i x hx
    have up : ∀ j u, cs1[j]? = some u → (cs1 ++ cs2)[j]? = some u := fun j u hj => by
      rw [List.getElem?_append_left (List.getElem?_eq_some_iff.1 hj).1]; exact hj
    exact ⟨A1, n1, c1, k, g, A2, n2, c2, up _ _ e0, up _ _ e1, up _ _ e2, up _ _ e3, up _ _ e4, hl, hr⟩
  · rw [List.getElem?_append_right (by omega)] at hx
    obtain ⟨A1, n1, c1, k, g, A2, n2, c2, e0, e1, e2, e3, e4, hl, hr⟩ := h2 _ x hx
    have up : ∀ q u, cs2[(i - ds1.length) * 5 + q]? = some u → (cs1 ++ cs2)[i * 5 + q]? = some u := fun q u hj => by
      rw [List.getElem?_append_right (by omega), hlen, show i * 5 + q - ds1.length * 5 = (i - ds1.length) * 5 + q by omega]; exact hj
    exact ⟨A1, n1, c1, k, g, A2, n2, c2, up 0 _ e0, up 1 _ e1, up 2 _ e2, up 3 _ e3, up 4 _ e4, hl, hr⟩
theorem PL.rawV {w : World} {ms : List MP} {A : Option Addr} {n c : Nat} (h : PL w ms A n c) : ∃ cs : List Value, cs.length = n * 5 ∧ (∀ j u, cs[j]? = some u → ∃ b o, A = some ⟨b, o, none⟩ ∧ w.cell? ⟨b, o + j, none⟩ = some u) ∧ (∀ u ∈ cs, u.oneCell' = true) ∧ KPv w cs ms := by
  have key : ∀ m, m ≤ n → ∃ cs : List Value, cs.length = m * 5 ∧ (∀ j u, cs[j]? = some u → ∃ b o, A = some ⟨b, o, none⟩ ∧ w.cell? ⟨b, o + j, none⟩ = some u) ∧ (∀ u ∈ cs, u.oneCell' = true) ∧ KPv w cs (ms.take m) := by
    intro m
    induction m with
    | zero => intro _; exact ⟨[], rfl, fun j u hu => by simp at hu, fun u hu => absurd hu (by simp), fun i x hx => by simp at hx⟩
    | succ m ih =>
      intro hm
      obtain ⟨cs, h1, h2, h3, h4⟩ := ih (by omega)
      obtain ⟨x, hx⟩ := at_of h.len (show m < n by omega)
      obtain ⟨b, o, A1, n1, c1, k, g, A2, n2, c2, rfl, d0, d1, d2, d3, d4, hl, hr⟩ := h.at_ m x hx
      have happ : ∀ q u, [Value.slice A1 n1 c1, .int .i64 k, .int .i64 g, .slice A2 n2 c2, .bool x.2][q]? = some u → w.cell? ⟨b, o + (m * 5 + q), none⟩ = some u := fun q u hu => by
        match q, hu with
        | 0, hu => cases hu; exact d0
        | 1, hu => cases hu; exact d1
        | 2, hu => cases hu; exact d2
        | 3, hu => cases hu; exact d3
        | 4, hu => cases hu; exact d4
        | q + 5, hu => simp at hu
      have hs : KPv w [Value.slice A1 n1 c1, .int .i64 k, .int .i64 g, .slice A2 n2 c2, .bool x.2] [x] := fun i y hy => by
        match i, hy with
        | 0, hy => cases hy; exact ⟨A1, n1, c1, k, g, A2, n2, c2, rfl, rfl, rfl, rfl, rfl, hl, hr⟩
        | i + 1, hy => simp at hy
      refine ⟨cs ++ [.slice A1 n1 c1, .int .i64 k, .int .i64 g, .slice A2 n2 c2, .bool x.2], by rw [List.length_append, h1]; simp; omega, fun j u hu => ?_, fun u hu => ?_, ?_⟩
      · by_cases hj : j < cs.length
        · rw [List.getElem?_append_left hj] at hu
          exact h2 j u hu
        · rw [List.getElem?_append_right (by omega)] at hu
          have := happ _ _ hu
          rw [show m * 5 + (j - cs.length) = j by omega] at this
          exact ⟨b, o, rfl, this⟩
      · rcases List.mem_append.1 hu with hu | hu
        · exact h3 u hu
        · simp at hu
          rcases hu with rfl | rfl | rfl | rfl | rfl <;> rfl
      · rw [List.take_add_one, hx]
        exact h4.app hs (by rw [h1, List.length_take, h.len]; omega)
  obtain ⟨cs, h1, h2, h3, h4⟩ := key n (Nat.le_refl _)
  rw [List.take_of_length_le (by rw [h.len]; omega)] at h4
  exact ⟨cs, h1, h2, h3, h4⟩
/-- a row of a call's own that holds cells of M -/
structure RowPv (W0 w : World) (A : Option Addr) (n c : Nat) (ds : List MP) (cs : List Value) : Prop where
  own : w.ownsRow W0.heap.size 39 5 (.slice A n c) n cs
  len : ds.length = n
  kids : KPv W0 cs ds
theorem RowPv.none (W0 w : World) : RowPv W0 w none 0 0 [] [] := ⟨World.ownsRow_nil _ _ _ _, rfl, fun i x hx => by simp at hx⟩
theorem RowPv.cap {W0 w : World} {A : Option Addr} {n c : Nat} {ds : List MP} {cs : List Value} (h : RowPv W0 w A n c ds cs) : n ≤ c ∧ c ≤ maxLen := by
  rcases h.own.2 with ⟨e, h0⟩ | ⟨g', cap', cur, hv, _, _, h1, h2, _⟩
  · cases e; exact ⟨Nat.le_refl _, Nat.zero_le _⟩
  · cases hv; exact ⟨h1, h2⟩
theorem RowPv.lst {W0 w : World} {A : Option Addr} {n c : Nat} {ds : List MP} {cs : List Value} (h : RowPv W0 w A n c ds cs) (hb : Below W0.heap.size W0 w) : PL w ds A n c := by
  refine ⟨h.len, h.cap.1, h.cap.2, fun i x hx => ?_⟩
  have hi : i < n := by have := (List.getElem?_eq_some_iff.1 hx).1; rw [h.len] at this; exact this
  obtain ⟨A1, n1, c1, k, g, A2, n2, c2, e0, e1, e2, e3, e4, hl, hr⟩ := h.kids i x hx
  obtain ⟨q, hq⟩ : ∃ q, A = some ⟨q, 0, Option.none⟩ := by
    rcases h.own.2 with ⟨e, h0⟩ | ⟨g', cap', cur, hv, _⟩
    · omega
    · cases hv; exact ⟨_, rfl⟩
  subst hq
  have get : ∀ j u, cs[j]? = some u → w.cell? ⟨q, 0 + j, Option.none⟩ = some u := fun j u hj => by
    have := h.own.cells (g := q) rfl j u hj
    rwa [addr_add] at this
  exact ⟨q, 0, A1, n1, c1, k, g, A2, n2, c2, rfl, get _ _ e0, (by rw [Nat.add_assoc]; exact get _ _ e1), (by rw [Nat.add_assoc]; exact get _ _ e2), (by rw [Nat.add_assoc]; exact get _ _ e3), (by rw [Nat.add_assoc]; exact get _ _ e4), hl.keep hb, Rd.keep hb _ _ hr⟩
theorem RowPv.kept {W0 w w' : World} {A : Option Addr} {n c : Nat} {xs : List MP} {cs : List Value} (h : RowPv W0 w A n c xs cs) (hb : Below w.heap.size w w') : RowPv W0 w' A n c xs cs :=
  ⟨h.own.kept (grown_of_below hb) (own_none _), h.len, h.kids⟩
theorem rowP_one {W0 W : World} {A1 : Option Addr} {n1 c1 : Nat} {ds1 : List MP} {cs1 : List Value} (h1 : RowPv W0 W A1 n1 c1 ds1 cs1) {P : Nat} {ty : TypeId} {Ac : Option Addr} {nc cc : Nat} {k g : Int} {A2 : Option Addr} {n2 c2 : Nat} {x : MP} (hP : Box W P ty #[.slice Ac nc cc, .int .i64 k, .int .i64 g, .slice A2 n2 c2, .bool x.2]) (hx : CLV W0 x.1.1 Ac nc cc ∧ Rd W0 x.1.2 (.agg #[.int .i64 k, .int .i64 g, .slice A2 n2 c2]))
    (hn : n1 + 1 ≤ 1000) (hb : Below W0.heap.size W0 W) :
    ∃ q c w' cs, (Builtin.append_ #[23, 23] 23 #[.slice A1 n1 c1, .slice (some ⟨P, 0, none⟩) 1 1]).run Try.prog W = .ok (.slice (some ⟨q, 0, none⟩) (n1 + 1) c) w' ∧ RowPv W0 w' (some ⟨q, 0, none⟩) (n1 + 1) c (ds1 ++ [x]) cs ∧ Below W0.heap.size W0 w' ∧ W.grownBy w' (Value.slice A1 n1 c1).ownBlock ∧ ((Value.slice A1 n1 c1).ownBlock = some q ∨ q = W.heap.size) := by
  obtain ⟨i0, hi, hz0, hz1, hz2⟩ := info_parts infoMeta
  obtain ⟨q, cap, w', hrun, how, hgr, hfr, _⟩ := run_append_lies (P := Try.prog) W 23 23 W0.heap.size 39 i0 _ 5 72 Try.underlying23 hi hz0 hz1 hz2 rfl (by omega) (.slice A1 n1 c1) n1 cs1
    h1.own ⟨P, 0, none⟩ 1 1 [.slice Ac nc cc, .int .i64 k, .int .i64 g, .slice A2 n2 c2, .bool x.2] rfl (fun j u hu => by
      rw [addr_add, Nat.zero_add]
      match j, hu with
      | 0, hu => cases hu; exact hP.cell 0
      | 1, hu => cases hu; exact hP.cell 1
      | 2, hu => cases hu; exact hP.cell 2
      | 3, hu => cases hu; exact hP.cell 3
      | 4, hu => cases hu; exact hP.cell 4
      | j + 5, hu => simp at hu) (fun u hu => by
      simp at hu
      rcases hu with rfl | rfl | rfl | rfl | rfl <;> rfl) (by omega) (by unfold maxLen; omega) (by omega) hb.size _ rfl
  have hbw : Below W0.heap.size W0 w' := below_grown hb hgr (fun r hr' => (h1.own.lt r hr').1) hb.size
  exact ⟨q, cap, w', _, hrun, ⟨how, by rw [List.length_append, h1.len]; rfl, h1.kids.app (cs2 := [.slice Ac nc cc, .int .i64 k, .int .i64 g, .slice A2 n2 c2, .bool x.2]) (ds2 := [x]) (fun i y hy => by
    match i, hy with
    | 0, hy => cases hy; exact ⟨Ac, nc, cc, k, g, A2, n2, c2, rfl, rfl, rfl, rfl, rfl, hx.1, hx.2⟩
    | i + 1, hy => simp at hy) (by rw [h1.own.1, h1.len])⟩, hbw, hgr, hfr⟩
theorem rowP_new {W0 W : World} {A2 : Option Addr} {n2 c2 : Nat} {xs2 : List MP} (h2 : PL W0 xs2 A2 n2 c2) (hn : n2 ≤ 1000) (hb : Below W0.heap.size W0 W) :
    ∃ A c w' cs, (Builtin.append_ #[23, 23] 23 #[.slice none 0 0, .slice A2 n2 c2]).run Try.prog W = .ok (.slice A n2 c) w' ∧ RowPv W0 w' A n2 c xs2 cs ∧ Below W.heap.size W w' := by
  rcases Nat.eq_zero_or_pos n2 with rfl | hp
  · obtain ⟨i0, hi, hz0, hz1, hz2⟩ := info_parts infoMeta
    have hds : xs2 = [] := List.length_eq_zero_iff.1 h2.len
    subst hds
    refine ⟨none, 0, W, [], ?_, RowPv.none _ _, Below.refl _ _⟩
    cases A2 <;> simp [Builtin.append_, run_underlying Try.underlying23, sizeOf, typeInfo, hi, Builtin.lenOf, Builtin.firstCells, loadCells, loadCellsFrom]
  · obtain ⟨i0, hi, hz0, hz1, hz2⟩ := info_parts infoMeta
    obtain ⟨cs2, g1, g2, g3, g4⟩ := h2.rawV
    obtain ⟨x, hx⟩ := at_of h2.len hp
    obtain ⟨b, o, _, _, _, _, _, _, _, _, e, _⟩ := h2.at_ 0 x hx
    subst e
    obtain ⟨g, cap, w', hrun, how, hgr, _, _⟩ := run_append_lies (P := Try.prog) W 23 23 W0.heap.size 39 i0 _ 5 72 Try.underlying23 hi hz0 hz1 hz2 rfl (by omega) (.slice none 0 0) 0 []
      (World.ownsRow_nil _ _ _ _) ⟨b, o, none⟩ n2 c2 cs2 g1 (fun j u hu => by
        obtain ⟨b', o', e, hc⟩ := g2 j u hu
        cases e
        rw [addr_add]
        exact (hb.cell (cell_lt hc)).trans hc) g3 hp (by unfold maxLen; omega) (by omega) hb.size _ rfl
    rw [Nat.zero_add] at hrun how
    rw [List.nil_append] at how
    exact ⟨_, cap, w', cs2, hrun, ⟨how, h2.len, g4⟩, below_grown (Below.refl _ _) hgr (fun r h => by cases h) (Nat.le_refl _)⟩
end Go.Proofs.Ytloeainlpcnhnaa
/-
  The walk of the law MetasSizes.
-/
namespace Go.Proofs.Ytloeainlpcnhnaa
open Go.ChangeShapes Go.WideShapes Go.ChangeAt Go.RowKit
set_option linter.unusedVariables false
set_option maxRecDepth 100000 in
set_option maxHeartbeats 16000000 in
theorem metasSizesC (ds : List MP) (m : MP) (Am : Option Addr) (nm cm : Nat) (A1 : Option Addr) (n1 c1 : Nat) (km hm : Int) (A2 : Option Addr) (n2 c2 : Nat) (w : World) (hd : PL w ds Am nm cm) (hx : CLV w m.1.1 A1 n1 c1) (hr : Rd w m.1.2 (.agg #[.int .i64 km, .int .i64 hm, .slice A2 n2 c2])) :
    Calls Try.prog 8 #[.slice Am nm cm, .agg #[.slice A1 n1 c1, .int .i64 km, .int .i64 hm, .slice A2 n2 c2, .bool m.2]] w fun e w' => e = .returned (.bool true) ∧ Below w.heap.size w w' := by
  have hdl := hd.len
  have hdle := hd.le
  have hdcap := hd.cap
  unfold maxLen at hdcap
  have hxl := hx.len
  have HD := Lib.hid hd; clear hd
  have HX := Lib.hid (And.intro hx hr); clear hx hr
  obtain ⟨w0, hW⟩ : ∃ w0, w.alloc (.cells #[.slice A1 n1 c1, .int .i64 km, .int .i64 hm, .slice A2 n2 c2, .bool m.2] 39) = w0 := ⟨_, rfl⟩
  have hb0 : Below w.heap.size w w0 := by rw [← hW]; exact (Below.refl _ _).alloc (Nat.le_refl _) _
  have XM := Lib.hid (show Box w0 w.heap.size 39 #[.slice A1 n1 c1, .int .i64 km, .int .i64 hm, .slice A2 n2 c2, .bool m.2] by rw [← hW]; exact Box.new _ _ _)
  have HB := Lib.hid hb0; clear hb0
  obtain ⟨r1, hr1⟩ : ∃ r, fwV ⟨[], msP ds⟩ [] 0 nm = r := ⟨_, rfl⟩
  have HR1 := Lib.hid hr1; clear hr1
  go_enter Try.func8, Try.ntmps8
  go_wp2_with fail
  try rw [hW]
  clear hW
  try go_wp2_with fail
  have HC := Lib.hid (nAwakeC w0)
  refine HC.out.mono ?_
  rintro e w1 ⟨rfl, hb1⟩
  replace XM := Lib.hid (XM.out.keep hb1 XM.out.lt)
  replace HB := Lib.hid (HB.out.trans (hb1.mono HB.out.size))
  clear hb1 HC
  have b0 : w1.cell? ⟨w.heap.size, 0, none⟩ = some (.slice A1 n1 c1) := XM.out.cell 0
  have b1 : w1.cell? ⟨w.heap.size, 1, none⟩ = some (.int .i64 km) := XM.out.cell 1
  have b2 : w1.cell? ⟨w.heap.size, 2, none⟩ = some (.int .i64 hm) := XM.out.cell 2
  have b3 : w1.cell? ⟨w.heap.size, 3, none⟩ = some (.slice A2 n2 c2) := XM.out.cell 3
  have b4 : w1.cell? ⟨w.heap.size, 4, none⟩ = some (.bool m.2) := XM.out.cell 4
  go_wp2_with fail
  clear b0 b1 b2 b3 b4
  have HC := Lib.hid (nFewC ds Am nm cm w1 (HD.out.keep HB.out))
  rw [HR1.out] at HC
  refine HC.out.mono ?_
  rintro e w2 ⟨rfl, hb1⟩
  replace XM := Lib.hid (XM.out.keep hb1 XM.out.lt)
  replace HB := Lib.hid (HB.out.trans (hb1.mono HB.out.size))
  clear hb1 HC
  have b0 : w2.cell? ⟨w.heap.size, 0, none⟩ = some (.slice A1 n1 c1) := XM.out.cell 0
  have b1 : w2.cell? ⟨w.heap.size, 1, none⟩ = some (.int .i64 km) := XM.out.cell 1
  have b2 : w2.cell? ⟨w.heap.size, 2, none⟩ = some (.int .i64 hm) := XM.out.cell 2
  have b3 : w2.cell? ⟨w.heap.size, 3, none⟩ = some (.slice A2 n2 c2) := XM.out.cell 3
  have b4 : w2.cell? ⟨w.heap.size, 4, none⟩ = some (.bool m.2) := XM.out.cell 4
  cases r1
  · go_wp2_with fail
    go_ret
    exact ⟨rfl, HB.out⟩
  clear b0 b1 b2 b3 b4
  have h30 : nm ≤ 30 := (few_len HR1.out).2.1
  clear HR1
  have b0 : w2.cell? ⟨w.heap.size, 0, none⟩ = some (.slice A1 n1 c1) := XM.out.cell 0
  have b1 : w2.cell? ⟨w.heap.size, 1, none⟩ = some (.int .i64 km) := XM.out.cell 1
  have b2 : w2.cell? ⟨w.heap.size, 2, none⟩ = some (.int .i64 hm) := XM.out.cell 2
  have b3 : w2.cell? ⟨w.heap.size, 3, none⟩ = some (.slice A2 n2 c2) := XM.out.cell 3
  have b4 : w2.cell? ⟨w.heap.size, 4, none⟩ = some (.bool m.2) := XM.out.cell 4
  go_wp2_with fail
  clear b0 b1 b2 b3 b4
  have b0 : w2.cell? ⟨w.heap.size, 0, none⟩ = some (.slice A1 n1 c1) := XM.out.cell 0
  have b1 : w2.cell? ⟨w.heap.size, 1, none⟩ = some (.int .i64 km) := XM.out.cell 1
  have b2 : w2.cell? ⟨w.heap.size, 2, none⟩ = some (.int .i64 hm) := XM.out.cell 2
  have b3 : w2.cell? ⟨w.heap.size, 3, none⟩ = some (.slice A2 n2 c2) := XM.out.cell 3
  have b4 : w2.cell? ⟨w.heap.size, 4, none⟩ = some (.bool m.2) := XM.out.cell 4
  have HKS : Hid (∀ w' : World, Below w2.heap.size w2 w' → (fun w' => w'.cell? ⟨w.heap.size, 0, none⟩ = some (.slice A1 n1 c1) ∧ w'.cell? ⟨w.heap.size, 1, none⟩ = some (.int .i64 km) ∧ w'.cell? ⟨w.heap.size, 2, none⟩ = some (.int .i64 hm) ∧ w'.cell? ⟨w.heap.size, 3, none⟩ = some (.slice A2 n2 c2) ∧ w'.cell? ⟨w.heap.size, 4, none⟩ = some (.bool m.2)) w') := Lib.hid fun w' h => ⟨(h.cell (cell_lt b0)).trans b0, (h.cell (cell_lt b1)).trans b1, (h.cell (cell_lt b2)).trans b2, (h.cell (cell_lt b3)).trans b3, (h.cell (cell_lt b4)).trans b4⟩
  have hbd : Below w2.heap.size w2 w2.drew := (Below.refl _ w2).drew
  refine wp_region_held_drew (S := fun w' => w'.cell? ⟨w.heap.size, 0, none⟩ = some (.slice A1 n1 c1) ∧ w'.cell? ⟨w.heap.size, 1, none⟩ = some (.int .i64 km) ∧ w'.cell? ⟨w.heap.size, 2, none⟩ = some (.int .i64 hm) ∧ w'.cell? ⟨w.heap.size, 3, none⟩ = some (.slice A2 n2 c2) ∧ w'.cell? ⟨w.heap.size, 4, none⟩ = some (.bool m.2)) (by kernel_rfl) (HKS.out _ hbd) (fun hS => ?_)
  simp only [List.size_toArray, List.length_cons, List.length_nil, Nat.reduceAdd]
  refine wpAnyH_take (i := 0) (v := .slice Am nm cm) rfl (by kernel_rfl) (by kernel_rfl) (by kernel_rfl) (fun _ _ _ h => h) (Or.inl ⟨by kernel_rfl, ?_⟩) hS ?_
  · intro w' hSw
    obtain ⟨s0, s1, s2, s3, s4⟩ := hSw
    go_simp
  try simp only [Act.put, List.getElem_toArray, List.getElem_cons_zero, List.setIfInBounds_toArray, List.set_cons_zero, List.set_cons_succ]
  refine wpAnyH_take (i := 2) (v := .agg #[.slice A1 n1 c1, .int .i64 km, .int .i64 hm, .slice A2 n2 c2, .bool m.2]) rfl (by kernel_rfl) (by kernel_rfl) (by kernel_rfl) (fun _ _ _ h => h) (Or.inl ⟨by kernel_rfl, ?_⟩) hS ?_
  · intro w' hSw
    obtain ⟨s0, s1, s2, s3, s4⟩ := hSw
    go_simp
  try simp only [Act.put, List.getElem_toArray, List.getElem_cons_succ, List.getElem_cons_zero, List.setIfInBounds_toArray, List.set_cons_zero, List.set_cons_succ]
  refine wpAnyH_ready (rs := [1, 3]) (by kernel_rfl) (by simp) ?_
  refine AllReadyH.cons rfl (fun KN hK => ?_) (AllReadyH.cons rfl (fun KN hK => ?_) AllReadyH.nil)
  · obtain ⟨A5, c5, w55, cs55, hrun5, hrow5, hb55⟩ := rowP_new (HD.out.keep HB.out) (by omega) hbd
    have hb5 := hbd.trans (hb55.mono hbd.size)
    clear hb55
    refine Lib.wp_append_run _ (.const (.slice none 0 0)) (.tmp 21) 23 23 rfl _ _ rfl rfl _ _ hrun5 ?_
    refine hK.out _ _ (HKS.out _ hb5) (fun hS => ?_)
    clear hK KN
    try simp only [Act.put, List.getElem_toArray, List.getElem_cons_succ, List.getElem_cons_zero, List.setIfInBounds_toArray, List.set_cons_zero, List.set_cons_succ]
    refine wpAnyH_ready (rs := [3]) (by kernel_rfl) (by simp) ?_
    refine AllReadyH.cons rfl (fun KN hK => ?_) AllReadyH.nil
    go_simp
    have hbB : Below w2.heap.size w2 (w55.alloc (.cells #[.slice A1 n1 c1, .int .i64 km, .int .i64 hm, .slice A2 n2 c2, .bool m.2] 39)) := hb5.alloc hb5.size _
    refine hK.out _ _ (HKS.out _ hbB) (fun hS => ?_)
    clear hK KN
    try simp only [Act.put, List.getElem_toArray, List.getElem_cons_succ, List.getElem_cons_zero, List.setIfInBounds_toArray, List.set_cons_zero, List.set_cons_succ]
    have hrowB := hrow5.kept (show Below w55.heap.size w55 (w55.alloc (.cells #[.slice A1 n1 c1, .int .i64 km, .int .i64 hm, .slice A2 n2 c2, .bool m.2] 39)) from (Below.refl _ _).alloc (Nat.le_refl _) _)
    have zB : Box (w55.alloc (.cells #[.slice A1 n1 c1, .int .i64 km, .int .i64 hm, .slice A2 n2 c2, .bool m.2] 39)) w55.heap.size 39 #[.slice A1 n1 c1, .int .i64 km, .int .i64 hm, .slice A2 n2 c2, .bool m.2] := Box.new _ _ _
    clear hrow5 hb5 hrun5
    generalize w55.alloc (.cells #[.slice A1 n1 c1, .int .i64 km, .int .i64 hm, .slice A2 n2 c2, .bool m.2] 39) = w66 at *
    generalize w55.heap.size = P6 at *
    refine wpAnyH_ready (rs := [4]) (by kernel_rfl) (by simp) ?_
    refine AllReadyH.cons rfl (fun KN hK => ?_) AllReadyH.nil
    obtain ⟨g7, cap7, w77, cs77, hrun7, hr7, hb7, _, _⟩ := rowP_one hrowB zB ⟨HX.out.1.keep HB.out, Rd.keep HB.out _ _ HX.out.2⟩ (by omega) hbB
    have hcl7 := hr7.lst hb7
    refine Lib.wp_append_run _ (.tmp 22) (.tmp 24) 23 23 rfl _ _ rfl rfl _ _ hrun7 ?_
    refine hK.out _ _ (HKS.out _ hb7) (fun hS => ?_)
    clear hK KN
    try simp only [Act.put, List.getElem_toArray, List.getElem_cons_succ, List.getElem_cons_zero, List.setIfInBounds_toArray, List.set_cons_zero, List.set_cons_succ]
    clear hr7 hbB hrowB zB hrun7
    refine wpAnyH_ready (rs := [5]) (by kernel_rfl) (by simp) ?_
    refine AllReadyH.cons rfl (fun KN hK => ?_) AllReadyH.nil
    go_simp
    refine (szC (ds ++ [m]) _ (nm + 1) cap7 w77 hcl7 (by omega)).mono ?_
    rintro e wB ⟨q1, rfl, hq, hb8⟩
    have hbd := hb7.trans (hb8.mono hb7.size)
    have HQ1 := Lib.hid hq
    clear hb8 hq hb7 hcl7
    refine hK.out _ _ (HKS.out _ hbd) (fun hS => ?_)
    clear hK KN
    try simp only [Act.put, List.getElem_toArray, List.getElem_cons_succ, List.getElem_cons_zero, List.setIfInBounds_toArray, List.set_cons_zero, List.set_cons_succ]
    refine wpAnyH_take (i := 6) (v := .slice (some ⟨q1, 0, none⟩) (nm + 1) (nm + 1)) rfl (by kernel_rfl) (by kernel_rfl) (by kernel_rfl) (fun _ _ _ h => h) (Or.inl ⟨by kernel_rfl, ?_⟩) hS ?_
    · intro w' hSw
      obtain ⟨s0, s1, s2, s3, s4⟩ := hSw
      go_simp
    try simp only [Act.put, List.getElem_toArray, List.getElem_cons_succ, List.getElem_cons_zero, List.setIfInBounds_toArray, List.set_cons_zero, List.set_cons_succ]
    refine wpAnyH_done (by kernel_rfl) ?_ _
    try simp only [List.setIfInBounds_toArray]
    try simp only [List.getElem_toArray, List.getElem_cons_succ, List.getElem_cons_zero, List.setIfInBounds_toArray, List.set_cons_zero, List.set_cons_succ]
    replace XM := Lib.hid (XM.out.keep hbd XM.out.lt)
    replace HB := Lib.hid (HB.out.trans (hbd.mono HB.out.size))
    clear b0 b1 b2 b3 b4 hS HKS hbd
    have b0 : wB.cell? ⟨w.heap.size, 0, none⟩ = some (.slice A1 n1 c1) := XM.out.cell 0
    have b1 : wB.cell? ⟨w.heap.size, 1, none⟩ = some (.int .i64 km) := XM.out.cell 1
    have b2 : wB.cell? ⟨w.heap.size, 2, none⟩ = some (.int .i64 hm) := XM.out.cell 2
    have b3 : wB.cell? ⟨w.heap.size, 3, none⟩ = some (.slice A2 n2 c2) := XM.out.cell 3
    have b4 : wB.cell? ⟨w.heap.size, 4, none⟩ = some (.bool m.2) := XM.out.cell 4
    go_wp2_with fail
    have HKS : Hid (∀ w' : World, Below wB.heap.size wB w' → (fun w' => w'.cell? ⟨w.heap.size, 0, none⟩ = some (.slice A1 n1 c1) ∧ w'.cell? ⟨w.heap.size, 1, none⟩ = some (.int .i64 km) ∧ w'.cell? ⟨w.heap.size, 2, none⟩ = some (.int .i64 hm) ∧ w'.cell? ⟨w.heap.size, 3, none⟩ = some (.slice A2 n2 c2) ∧ w'.cell? ⟨w.heap.size, 4, none⟩ = some (.bool m.2)) w') := Lib.hid fun w' h => ⟨(h.cell (cell_lt b0)).trans b0, (h.cell (cell_lt b1)).trans b1, (h.cell (cell_lt b2)).trans b2, (h.cell (cell_lt b3)).trans b3, (h.cell (cell_lt b4)).trans b4⟩
    have hbd : Below wB.heap.size wB wB.drew := (Below.refl _ wB).drew
    refine wp_region_held_drew (S := fun w' => w'.cell? ⟨w.heap.size, 0, none⟩ = some (.slice A1 n1 c1) ∧ w'.cell? ⟨w.heap.size, 1, none⟩ = some (.int .i64 km) ∧ w'.cell? ⟨w.heap.size, 2, none⟩ = some (.int .i64 hm) ∧ w'.cell? ⟨w.heap.size, 3, none⟩ = some (.slice A2 n2 c2) ∧ w'.cell? ⟨w.heap.size, 4, none⟩ = some (.bool m.2)) (by kernel_rfl) (HKS.out _ hbd) (fun hS => ?_)
    simp only [List.size_toArray, List.length_cons, List.length_nil, Nat.reduceAdd]
    refine wpAnyH_take (i := 0) (v := .slice Am nm cm) rfl (by kernel_rfl) (by kernel_rfl) (by kernel_rfl) (fun _ _ _ h => h) (Or.inl ⟨by kernel_rfl, ?_⟩) hS ?_
    · intro w' hSw
      obtain ⟨s0, s1, s2, s3, s4⟩ := hSw
      go_simp
    try simp only [Act.put, List.getElem_toArray, List.getElem_cons_zero, List.setIfInBounds_toArray, List.set_cons_zero, List.set_cons_succ]
    refine wpAnyH_take (i := 2) (v := .agg #[.slice A1 n1 c1, .int .i64 km, .int .i64 hm, .slice A2 n2 c2, .bool m.2]) rfl (by kernel_rfl) (by kernel_rfl) (by kernel_rfl) (fun _ _ _ h => h) (Or.inl ⟨by kernel_rfl, ?_⟩) hS ?_
    · intro w' hSw
      obtain ⟨s0, s1, s2, s3, s4⟩ := hSw
      go_simp
    try simp only [Act.put, List.getElem_toArray, List.getElem_cons_succ, List.getElem_cons_zero, List.setIfInBounds_toArray, List.set_cons_zero, List.set_cons_succ]
    refine wpAnyH_ready (rs := [1, 3]) (by kernel_rfl) (by simp) ?_
    refine AllReadyH.cons rfl (fun KN hK => ?_) (AllReadyH.cons rfl (fun KN hK => ?_) AllReadyH.nil)
    · obtain ⟨A5, c5, w55, cs55, hrun5, hrow5, hb55⟩ := rowP_new (HD.out.keep HB.out) (by omega) hbd
      have hb5 := hbd.trans (hb55.mono hbd.size)
      clear hb55
      refine Lib.wp_append_run _ (.const (.slice none 0 0)) (.tmp 27) 23 23 rfl _ _ rfl rfl _ _ hrun5 ?_
      refine hK.out _ _ (HKS.out _ hb5) (fun hS => ?_)
      clear hK KN
      try simp only [Act.put, List.getElem_toArray, List.getElem_cons_succ, List.getElem_cons_zero, List.setIfInBounds_toArray, List.set_cons_zero, List.set_cons_succ]
      refine wpAnyH_ready (rs := [3]) (by kernel_rfl) (by simp) ?_
      refine AllReadyH.cons rfl (fun KN hK => ?_) AllReadyH.nil
      go_simp
      have hbB : Below wB.heap.size wB (w55.alloc (.cells #[.slice A1 n1 c1, .int .i64 km, .int .i64 hm, .slice A2 n2 c2, .bool m.2] 39)) := hb5.alloc hb5.size _
      refine hK.out _ _ (HKS.out _ hbB) (fun hS => ?_)
      clear hK KN
      try simp only [Act.put, List.getElem_toArray, List.getElem_cons_succ, List.getElem_cons_zero, List.setIfInBounds_toArray, List.set_cons_zero, List.set_cons_succ]
      have hrowB := hrow5.kept (show Below w55.heap.size w55 (w55.alloc (.cells #[.slice A1 n1 c1, .int .i64 km, .int .i64 hm, .slice A2 n2 c2, .bool m.2] 39)) from (Below.refl _ _).alloc (Nat.le_refl _) _)
      have zB : Box (w55.alloc (.cells #[.slice A1 n1 c1, .int .i64 km, .int .i64 hm, .slice A2 n2 c2, .bool m.2] 39)) w55.heap.size 39 #[.slice A1 n1 c1, .int .i64 km, .int .i64 hm, .slice A2 n2 c2, .bool m.2] := Box.new _ _ _
      clear hrow5 hb5 hrun5
      generalize w55.alloc (.cells #[.slice A1 n1 c1, .int .i64 km, .int .i64 hm, .slice A2 n2 c2, .bool m.2] 39) = w66 at *
      generalize w55.heap.size = P6 at *
      refine wpAnyH_ready (rs := [4]) (by kernel_rfl) (by simp) ?_
      refine AllReadyH.cons rfl (fun KN hK => ?_) AllReadyH.nil
      obtain ⟨g7, cap7, w77, cs77, hrun7, hr7, hb7, _, _⟩ := rowP_one hrowB zB ⟨HX.out.1.keep HB.out, Rd.keep HB.out _ _ HX.out.2⟩ (by omega) hbB
      have hcl7 := hr7.lst hb7
      refine Lib.wp_append_run _ (.tmp 28) (.tmp 30) 23 23 rfl _ _ rfl rfl _ _ hrun7 ?_
      refine hK.out _ _ (HKS.out _ hb7) (fun hS => ?_)
      clear hK KN
      try simp only [Act.put, List.getElem_toArray, List.getElem_cons_succ, List.getElem_cons_zero, List.setIfInBounds_toArray, List.set_cons_zero, List.set_cons_succ]
      clear hr7 hbB hrowB zB hrun7
      refine wpAnyH_ready (rs := [5]) (by kernel_rfl) (by simp) ?_
      refine AllReadyH.cons rfl (fun KN hK => ?_) AllReadyH.nil
      go_simp
      refine (paC (ds ++ [m]) _ (nm + 1) cap7 w77 hcl7 (by omega)).mono ?_
      rintro e wC ⟨q2, rfl, hq, hb8⟩
      have hbd := hb7.trans (hb8.mono hb7.size)
      have HQ2 := Lib.hid hq
      clear hb8 hq hb7 hcl7
      refine hK.out _ _ (HKS.out _ hbd) (fun hS => ?_)
      clear hK KN
      try simp only [Act.put, List.getElem_toArray, List.getElem_cons_succ, List.getElem_cons_zero, List.setIfInBounds_toArray, List.set_cons_zero, List.set_cons_succ]
      refine wpAnyH_take (i := 6) (v := .slice (some ⟨q2, 0, none⟩) (nm + 1) (nm + 1)) rfl (by kernel_rfl) (by kernel_rfl) (by kernel_rfl) (fun _ _ _ h => h) (Or.inl ⟨by kernel_rfl, ?_⟩) hS ?_
      · intro w' hSw
        obtain ⟨s0, s1, s2, s3, s4⟩ := hSw
        go_simp
      try simp only [Act.put, List.getElem_toArray, List.getElem_cons_succ, List.getElem_cons_zero, List.setIfInBounds_toArray, List.set_cons_zero, List.set_cons_succ]
      refine wpAnyH_done (by kernel_rfl) ?_ _
      try simp only [List.setIfInBounds_toArray]
      try simp only [List.getElem_toArray, List.getElem_cons_succ, List.getElem_cons_zero, List.setIfInBounds_toArray, List.set_cons_zero, List.set_cons_succ]
      replace XM := Lib.hid (XM.out.keep hbd XM.out.lt)
      replace HB := Lib.hid (HB.out.trans (hbd.mono HB.out.size))
      replace HQ1 := Lib.hid (show ∀ i d, (ds ++ [m])[i]? = some d → wC.cell? ⟨q1, i, none⟩ = some (szF d) from fun i d hi => (hbd.cell (cell_lt (HQ1.out i d hi))).trans (HQ1.out i d hi))
      clear b0 b1 b2 b3 b4 hS HKS hbd
      have b0 : wC.cell? ⟨w.heap.size, 0, none⟩ = some (.slice A1 n1 c1) := XM.out.cell 0
      have b1 : wC.cell? ⟨w.heap.size, 1, none⟩ = some (.int .i64 km) := XM.out.cell 1
      have b2 : wC.cell? ⟨w.heap.size, 2, none⟩ = some (.int .i64 hm) := XM.out.cell 2
      have b3 : wC.cell? ⟨w.heap.size, 3, none⟩ = some (.slice A2 n2 c2) := XM.out.cell 3
      have b4 : wC.cell? ⟨w.heap.size, 4, none⟩ = some (.bool m.2) := XM.out.cell 4
      go_wp2_with fail
      clear b0 b1 b2 b3 b4
      refine (szC ds Am nm cm wC (HD.out.keep HB.out) (by omega)).mono ?_
      rintro e w10 ⟨q3, rfl, hq, hb1⟩
      have HQ3 := Lib.hid hq
      replace HQ1 := Lib.hid (show ∀ i d, (ds ++ [m])[i]? = some d → w10.cell? ⟨q1, i, none⟩ = some (szF d) from fun i d hi => (hb1.cell (cell_lt (HQ1.out i d hi))).trans (HQ1.out i d hi))
      replace HQ2 := Lib.hid (show ∀ i d, (ds ++ [m])[i]? = some d → w10.cell? ⟨q2, i, none⟩ = some (paF d) from fun i d hi => (hb1.cell (cell_lt (HQ2.out i d hi))).trans (HQ2.out i d hi))
      replace XM := Lib.hid (XM.out.keep hb1 XM.out.lt)
      replace HB := Lib.hid (HB.out.trans (hb1.mono HB.out.size))
      clear hb1 hq
      have b0 : w10.cell? ⟨w.heap.size, 0, none⟩ = some (.slice A1 n1 c1) := XM.out.cell 0
      have b1 : w10.cell? ⟨w.heap.size, 1, none⟩ = some (.int .i64 km) := XM.out.cell 1
      have b2 : w10.cell? ⟨w.heap.size, 2, none⟩ = some (.int .i64 hm) := XM.out.cell 2
      have b3 : w10.cell? ⟨w.heap.size, 3, none⟩ = some (.slice A2 n2 c2) := XM.out.cell 3
      have b4 : w10.cell? ⟨w.heap.size, 4, none⟩ = some (.bool m.2) := XM.out.cell 4
      have hlast : (ds ++ [m])[nm]? = some m := by rw [← hdl, List.getElem?_append_right (Nat.le_refl _), Nat.sub_self]; rfl
      have s0 : w10.cell? ⟨q1, nm, none⟩ = some (.int .i64 (n1 : Int)) := by rw [HQ1.out nm m hlast, szF, hxl]
      have u0 : w10.cell? ⟨q2, nm, none⟩ = some (.bool m.2) := HQ2.out nm m hlast
      have hw : IntKind.i64.wrap ((nm : Int) + 1) = (nm : Int) + 1 := by rw [wrapEq]; exact wrap_small (by omega) (by omega)
      have hn0 : (0 : Int) ≤ (nm : Int) := by omega
      have hn1 : (nm : Int) < ((nm + 1 : Nat) : Int) := by omega
      have hn2 : (((nm + 1 : Nat) : Int)) = (nm : Int) + 1 := by omega
      have HLA := Lib.hid hlast
      clear hlast
      obtain ⟨pm, hpm⟩ : ∃ p, m.2 = p := ⟨_, rfl⟩
      rw [hpm] at b4 u0 XM
      go_wp2_with fail
      have HKS : Hid (∀ w' : World, Below w10.heap.size w10 w' → (fun w' => w'.cell? ⟨w.heap.size, 0, none⟩ = some (.slice A1 n1 c1) ∧ w'.cell? ⟨w.heap.size, 1, none⟩ = some (.int .i64 km) ∧ w'.cell? ⟨w.heap.size, 2, none⟩ = some (.int .i64 hm) ∧ w'.cell? ⟨w.heap.size, 3, none⟩ = some (.slice A2 n2 c2) ∧ w'.cell? ⟨w.heap.size, 4, none⟩ = some (.bool pm) ∧ w'.cell? ⟨q1, nm, none⟩ = some (.int .i64 (n1 : Int)) ∧ w'.cell? ⟨q2, nm, none⟩ = some (.bool pm)) w') := Lib.hid fun w' h => ⟨(h.cell (cell_lt b0)).trans b0, (h.cell (cell_lt b1)).trans b1, (h.cell (cell_lt b2)).trans b2, (h.cell (cell_lt b3)).trans b3, (h.cell (cell_lt b4)).trans b4, (h.cell (cell_lt s0)).trans s0, (h.cell (cell_lt u0)).trans u0⟩
      have hbd : Below w10.heap.size w10 w10.drew := (Below.refl _ w10).drew
      refine wp_region_held_drew (S := fun w' => w'.cell? ⟨w.heap.size, 0, none⟩ = some (.slice A1 n1 c1) ∧ w'.cell? ⟨w.heap.size, 1, none⟩ = some (.int .i64 km) ∧ w'.cell? ⟨w.heap.size, 2, none⟩ = some (.int .i64 hm) ∧ w'.cell? ⟨w.heap.size, 3, none⟩ = some (.slice A2 n2 c2) ∧ w'.cell? ⟨w.heap.size, 4, none⟩ = some (.bool pm) ∧ w'.cell? ⟨q1, nm, none⟩ = some (.int .i64 (n1 : Int)) ∧ w'.cell? ⟨q2, nm, none⟩ = some (.bool pm)) (by kernel_rfl) (HKS.out _ hbd) (fun hS => ?_)
      simp only [List.size_toArray, List.length_cons, List.length_nil, Nat.reduceAdd]
      refine wpAnyH_take (i := 0) (v := .slice (some ⟨q1, 0, none⟩) (nm + 1) (nm + 1)) rfl (by kernel_rfl) (by kernel_rfl) (by kernel_rfl) (fun _ _ _ h => h) (Or.inl ⟨by kernel_rfl, ?_⟩) hS ?_
      · intro w' hSw
        obtain ⟨s0, s1, s2, s3, s4, s5, s6⟩ := hSw
        go_simp
      try simp only [Act.put, List.getElem_toArray, List.getElem_cons_zero, List.setIfInBounds_toArray, List.set_cons_zero, List.set_cons_succ]
      refine wpAnyH_take (i := 1) (v := .int .i64 ((nm + 1 : Nat) : Int)) rfl (by kernel_rfl) (by kernel_rfl) (by kernel_rfl) (fun _ _ _ h => h) (Or.inl ⟨by kernel_rfl, ?_⟩) hS ?_
      · intro w' hSw
        obtain ⟨s0, s1, s2, s3, s4, s5, s6⟩ := hSw
        go_simp
      try simp only [Act.put, List.getElem_toArray, List.getElem_cons_succ, List.getElem_cons_zero, List.setIfInBounds_toArray, List.set_cons_zero, List.set_cons_succ]
      refine wpAnyH_take (i := 2) (v := .slice Am nm cm) rfl (by kernel_rfl) (by kernel_rfl) (by kernel_rfl) (fun _ _ _ h => h) (Or.inl ⟨by kernel_rfl, ?_⟩) hS ?_
      · intro w' hSw
        obtain ⟨s0, s1, s2, s3, s4, s5, s6⟩ := hSw
        go_simp
      try simp only [Act.put, List.getElem_toArray, List.getElem_cons_succ, List.getElem_cons_zero, List.setIfInBounds_toArray, List.set_cons_zero, List.set_cons_succ]
      refine wpAnyH_take (i := 3) (v := .int .i64 nm) rfl (by kernel_rfl) (by kernel_rfl) (by kernel_rfl) (fun _ _ _ h => h) (Or.inl ⟨by kernel_rfl, ?_⟩) hS ?_
      · intro w' hSw
        obtain ⟨s0, s1, s2, s3, s4, s5, s6⟩ := hSw
        go_simp
      try simp only [Act.put, List.getElem_toArray, List.getElem_cons_succ, List.getElem_cons_zero, List.setIfInBounds_toArray, List.set_cons_zero, List.set_cons_succ]
      refine wpAnyH_take (i := 4) (v := .int .i64 ((nm : Int) + 1)) rfl (by kernel_rfl) (by kernel_rfl) (by kernel_rfl) (fun _ _ _ h => h) (Or.inl ⟨by kernel_rfl, ?_⟩) hS ?_
      · intro w' hSw
        obtain ⟨s0, s1, s2, s3, s4, s5, s6⟩ := hSw
        go_simp
      try simp only [Act.put, List.getElem_toArray, List.getElem_cons_succ, List.getElem_cons_zero, List.setIfInBounds_toArray, List.set_cons_zero, List.set_cons_succ]
      refine wpAnyH_take (i := 5) (v := .bool false) rfl (by kernel_rfl) (by kernel_rfl) (by kernel_rfl) (fun _ _ _ h => h) (Or.inl ⟨by kernel_rfl, ?_⟩) hS ?_
      · intro w' hSw
        obtain ⟨s0, s1, s2, s3, s4, s5, s6⟩ := hSw
        go_simp
      try simp only [Act.put, List.getElem_toArray, List.getElem_cons_succ, List.getElem_cons_zero, List.setIfInBounds_toArray, List.set_cons_zero, List.set_cons_succ]
      refine wpAnyH_take (i := 6) (v := .bool false) rfl (by kernel_rfl) (by kernel_rfl) (by kernel_rfl) (fun _ _ _ h => h) (Or.inl ⟨by kernel_rfl, ?_⟩) hS ?_
      · intro w' hSw
        obtain ⟨s0, s1, s2, s3, s4, s5, s6⟩ := hSw
        go_simp
      try simp only [Act.put, List.getElem_toArray, List.getElem_cons_succ, List.getElem_cons_zero, List.setIfInBounds_toArray, List.set_cons_zero, List.set_cons_succ]
      refine wpAnyH_take (i := 7) (v := .slice (some ⟨q2, 0, none⟩) (nm + 1) (nm + 1)) rfl (by kernel_rfl) (by kernel_rfl) (by kernel_rfl) (fun _ _ _ h => h) (Or.inl ⟨by kernel_rfl, ?_⟩) hS ?_
      · intro w' hSw
        obtain ⟨s0, s1, s2, s3, s4, s5, s6⟩ := hSw
        go_simp
      try simp only [Act.put, List.getElem_toArray, List.getElem_cons_succ, List.getElem_cons_zero, List.setIfInBounds_toArray, List.set_cons_zero, List.set_cons_succ]
      refine wpAnyH_take (i := 8) (v := .int .i64 ((nm + 1 : Nat) : Int)) rfl (by kernel_rfl) (by kernel_rfl) (by kernel_rfl) (fun _ _ _ h => h) (Or.inl ⟨by kernel_rfl, ?_⟩) hS ?_
      · intro w' hSw
        obtain ⟨s0, s1, s2, s3, s4, s5, s6⟩ := hSw
        go_simp
      try simp only [Act.put, List.getElem_toArray, List.getElem_cons_succ, List.getElem_cons_zero, List.setIfInBounds_toArray, List.set_cons_zero, List.set_cons_succ]
      refine wpAnyH_take (i := 9) (v := .slice (some ⟨q1, 0, none⟩) (nm + 1) (nm + 1)) rfl (by kernel_rfl) (by kernel_rfl) (by kernel_rfl) (fun _ _ _ h => h) (Or.inl ⟨by kernel_rfl, ?_⟩) hS ?_
      · intro w' hSw
        obtain ⟨s0, s1, s2, s3, s4, s5, s6⟩ := hSw
        go_simp
      try simp only [Act.put, List.getElem_toArray, List.getElem_cons_succ, List.getElem_cons_zero, List.setIfInBounds_toArray, List.set_cons_zero, List.set_cons_succ]
      refine wpAnyH_take (i := 10) (v := .int .i64 ((nm + 1 : Nat) : Int)) rfl (by kernel_rfl) (by kernel_rfl) (by kernel_rfl) (fun _ _ _ h => h) (Or.inl ⟨by kernel_rfl, ?_⟩) hS ?_
      · intro w' hSw
        obtain ⟨s0, s1, s2, s3, s4, s5, s6⟩ := hSw
        go_simp
      try simp only [Act.put, List.getElem_toArray, List.getElem_cons_succ, List.getElem_cons_zero, List.setIfInBounds_toArray, List.set_cons_zero, List.set_cons_succ]
      refine wpAnyH_take (i := 11) (v := .bool false) rfl (by kernel_rfl) (by kernel_rfl) (by kernel_rfl) (fun _ _ _ h => h) (Or.inl ⟨by kernel_rfl, ?_⟩) hS ?_
      · intro w' hSw
        obtain ⟨s0, s1, s2, s3, s4, s5, s6⟩ := hSw
        go_simp
      try simp only [Act.put, List.getElem_toArray, List.getElem_cons_succ, List.getElem_cons_zero, List.setIfInBounds_toArray, List.set_cons_zero, List.set_cons_succ]
      refine wpAnyH_take (i := 12) (v := .bool false) rfl (by kernel_rfl) (by kernel_rfl) (by kernel_rfl) (fun _ _ _ h => h) (Or.inl ⟨by kernel_rfl, ?_⟩) hS ?_
      · intro w' hSw
        obtain ⟨s0, s1, s2, s3, s4, s5, s6⟩ := hSw
        go_simp
      try simp only [Act.put, List.getElem_toArray, List.getElem_cons_succ, List.getElem_cons_zero, List.setIfInBounds_toArray, List.set_cons_zero, List.set_cons_succ]
      refine wpAnyH_take (i := 13) (v := .bool false) rfl (by kernel_rfl) (by kernel_rfl) (by kernel_rfl) (fun _ _ _ h => h) (Or.inl ⟨by kernel_rfl, ?_⟩) hS ?_
      · intro w' hSw
        obtain ⟨s0, s1, s2, s3, s4, s5, s6⟩ := hSw
        go_simp
      try simp only [Act.put, List.getElem_toArray, List.getElem_cons_succ, List.getElem_cons_zero, List.setIfInBounds_toArray, List.set_cons_zero, List.set_cons_succ]
      refine wpAnyH_take (i := 14) (v := .slice (some ⟨q3, 0, none⟩) nm nm) rfl (by kernel_rfl) (by kernel_rfl) (by kernel_rfl) (fun _ _ _ h => h) (Or.inl ⟨by kernel_rfl, ?_⟩) hS ?_
      · intro w' hSw
        obtain ⟨s0, s1, s2, s3, s4, s5, s6⟩ := hSw
        go_simp
      try simp only [Act.put, List.getElem_toArray, List.getElem_cons_succ, List.getElem_cons_zero, List.setIfInBounds_toArray, List.set_cons_zero, List.set_cons_succ]
      refine wpAnyH_take (i := 15) (v := .int .i64 nm) rfl (by kernel_rfl) (by kernel_rfl) (by kernel_rfl) (fun _ _ _ h => h) (Or.inl ⟨by kernel_rfl, ?_⟩) hS ?_
      · intro w' hSw
        obtain ⟨s0, s1, s2, s3, s4, s5, s6⟩ := hSw
        go_simp
      try simp only [Act.put, List.getElem_toArray, List.getElem_cons_succ, List.getElem_cons_zero, List.setIfInBounds_toArray, List.set_cons_zero, List.set_cons_succ]
      refine wpAnyH_take (i := 16) (v := .slice Am nm cm) rfl (by kernel_rfl) (by kernel_rfl) (by kernel_rfl) (fun _ _ _ h => h) (Or.inl ⟨by kernel_rfl, ?_⟩) hS ?_
      · intro w' hSw
        obtain ⟨s0, s1, s2, s3, s4, s5, s6⟩ := hSw
        go_simp
      try simp only [Act.put, List.getElem_toArray, List.getElem_cons_succ, List.getElem_cons_zero, List.setIfInBounds_toArray, List.set_cons_zero, List.set_cons_succ]
      refine wpAnyH_take (i := 17) (v := .int .i64 nm) rfl (by kernel_rfl) (by kernel_rfl) (by kernel_rfl) (fun _ _ _ h => h) (Or.inl ⟨by kernel_rfl, ?_⟩) hS ?_
      · intro w' hSw
        obtain ⟨s0, s1, s2, s3, s4, s5, s6⟩ := hSw
        go_simp
      try simp only [Act.put, List.getElem_toArray, List.getElem_cons_succ, List.getElem_cons_zero, List.setIfInBounds_toArray, List.set_cons_zero, List.set_cons_succ]
      refine wpAnyH_take (i := 18) (v := .bool false) rfl (by kernel_rfl) (by kernel_rfl) (by kernel_rfl) (fun _ _ _ h => h) (Or.inl ⟨by kernel_rfl, ?_⟩) hS ?_
      · intro w' hSw
        obtain ⟨s0, s1, s2, s3, s4, s5, s6⟩ := hSw
        go_simp
      try simp only [Act.put, List.getElem_toArray, List.getElem_cons_succ, List.getElem_cons_zero, List.setIfInBounds_toArray, List.set_cons_zero, List.set_cons_succ]
      refine wpAnyH_take (i := 19) (v := .bool false) rfl (by kernel_rfl) (by kernel_rfl) (by kernel_rfl) (fun _ _ _ h => h) (Or.inl ⟨by kernel_rfl, ?_⟩) hS ?_
      · intro w' hSw
        obtain ⟨s0, s1, s2, s3, s4, s5, s6⟩ := hSw
        go_simp
      try simp only [Act.put, List.getElem_toArray, List.getElem_cons_succ, List.getElem_cons_zero, List.setIfInBounds_toArray, List.set_cons_zero, List.set_cons_succ]
      refine wpAnyH_take (i := 20) (v := .bool false) rfl (by kernel_rfl) (by kernel_rfl) (by kernel_rfl) (fun _ _ _ h => h) (Or.inl ⟨by kernel_rfl, ?_⟩) hS ?_
      · intro w' hSw
        obtain ⟨s0, s1, s2, s3, s4, s5, s6⟩ := hSw
        go_simp
      try simp only [Act.put, List.getElem_toArray, List.getElem_cons_succ, List.getElem_cons_zero, List.setIfInBounds_toArray, List.set_cons_zero, List.set_cons_succ]
      refine wpAnyH_take (i := 21) (v := .slice (some ⟨q1, 0, none⟩) (nm + 1) (nm + 1)) rfl (by kernel_rfl) (by kernel_rfl) (by kernel_rfl) (fun _ _ _ h => h) (Or.inl ⟨by kernel_rfl, ?_⟩) hS ?_
      · intro w' hSw
        obtain ⟨s0, s1, s2, s3, s4, s5, s6⟩ := hSw
        go_simp
      try simp only [Act.put, List.getElem_toArray, List.getElem_cons_succ, List.getElem_cons_zero, List.setIfInBounds_toArray, List.set_cons_zero, List.set_cons_succ]
      refine wpAnyH_take (i := 22) (v := .slice Am nm cm) rfl (by kernel_rfl) (by kernel_rfl) (by kernel_rfl) (fun _ _ _ h => h) (Or.inl ⟨by kernel_rfl, ?_⟩) hS ?_
      · intro w' hSw
        obtain ⟨s0, s1, s2, s3, s4, s5, s6⟩ := hSw
        go_simp
      try simp only [Act.put, List.getElem_toArray, List.getElem_cons_succ, List.getElem_cons_zero, List.setIfInBounds_toArray, List.set_cons_zero, List.set_cons_succ]
      refine wpAnyH_take (i := 23) (v := .int .i64 nm) rfl (by kernel_rfl) (by kernel_rfl) (by kernel_rfl) (fun _ _ _ h => h) (Or.inl ⟨by kernel_rfl, ?_⟩) hS ?_
      · intro w' hSw
        obtain ⟨s0, s1, s2, s3, s4, s5, s6⟩ := hSw
        go_simp
      try simp only [Act.put, List.getElem_toArray, List.getElem_cons_succ, List.getElem_cons_zero, List.setIfInBounds_toArray, List.set_cons_zero, List.set_cons_succ]
      refine wpAnyH_take (i := 24) (v := .pointer (some ⟨q1, nm, none⟩)) rfl (by kernel_rfl) (by kernel_rfl) (by kernel_rfl) (fun _ _ _ h => h) (Or.inl ⟨by kernel_rfl, ?_⟩) hS ?_
      · intro w' hSw
        obtain ⟨s0, s1, s2, s3, s4, s5, s6⟩ := hSw
        go_simp
        intro h; exact absurd h (by omega)
      try simp only [Act.put, List.getElem_toArray, List.getElem_cons_succ, List.getElem_cons_zero, List.setIfInBounds_toArray, List.set_cons_zero, List.set_cons_succ]
      refine wpAnyH_take (i := 25) (v := .int .i64 n1) rfl (by kernel_rfl) (by kernel_rfl) (by kernel_rfl) (fun _ _ _ h => h) (Or.inl ⟨by kernel_rfl, ?_⟩) hS ?_
      · intro w' hSw
        obtain ⟨s0, s1, s2, s3, s4, s5, s6⟩ := hSw
        go_simp
      try simp only [Act.put, List.getElem_toArray, List.getElem_cons_succ, List.getElem_cons_zero, List.setIfInBounds_toArray, List.set_cons_zero, List.set_cons_succ]
      refine wpAnyH_take (i := 26) (v := .pointer (some ⟨w.heap.size, 0, none⟩)) rfl (by kernel_rfl) (by kernel_rfl) (by kernel_rfl) (fun _ _ _ h => h) (Or.inl ⟨by kernel_rfl, ?_⟩) hS ?_
      · intro w' hSw
        obtain ⟨s0, s1, s2, s3, s4, s5, s6⟩ := hSw
        go_simp
      try simp only [Act.put, List.getElem_toArray, List.getElem_cons_succ, List.getElem_cons_zero, List.setIfInBounds_toArray, List.set_cons_zero, List.set_cons_succ]
      refine wpAnyH_take (i := 27) (v := .slice A1 n1 c1) rfl (by kernel_rfl) (by kernel_rfl) (by kernel_rfl) (fun _ _ _ h => h) (Or.inl ⟨by kernel_rfl, ?_⟩) hS ?_
      · intro w' hSw
        obtain ⟨s0, s1, s2, s3, s4, s5, s6⟩ := hSw
        go_simp
      try simp only [Act.put, List.getElem_toArray, List.getElem_cons_succ, List.getElem_cons_zero, List.setIfInBounds_toArray, List.set_cons_zero, List.set_cons_succ]
      refine wpAnyH_take (i := 28) (v := .int .i64 n1) rfl (by kernel_rfl) (by kernel_rfl) (by kernel_rfl) (fun _ _ _ h => h) (Or.inl ⟨by kernel_rfl, ?_⟩) hS ?_
      · intro w' hSw
        obtain ⟨s0, s1, s2, s3, s4, s5, s6⟩ := hSw
        go_simp
      try simp only [Act.put, List.getElem_toArray, List.getElem_cons_succ, List.getElem_cons_zero, List.setIfInBounds_toArray, List.set_cons_zero, List.set_cons_succ]
      refine wpAnyH_take (i := 29) (v := .bool false) rfl (by kernel_rfl) (by kernel_rfl) (by kernel_rfl) (fun _ _ _ h => h) (Or.inl ⟨by kernel_rfl, ?_⟩) hS ?_
      · intro w' hSw
        obtain ⟨s0, s1, s2, s3, s4, s5, s6⟩ := hSw
        go_simp
      try simp only [Act.put, List.getElem_toArray, List.getElem_cons_succ, List.getElem_cons_zero, List.setIfInBounds_toArray, List.set_cons_zero, List.set_cons_succ]
      refine wpAnyH_take (i := 30) (v := .bool false) rfl (by kernel_rfl) (by kernel_rfl) (by kernel_rfl) (fun _ _ _ h => h) (Or.inl ⟨by kernel_rfl, ?_⟩) hS ?_
      · intro w' hSw
        obtain ⟨s0, s1, s2, s3, s4, s5, s6⟩ := hSw
        go_simp
      try simp only [Act.put, List.getElem_toArray, List.getElem_cons_succ, List.getElem_cons_zero, List.setIfInBounds_toArray, List.set_cons_zero, List.set_cons_succ]
      refine wpAnyH_take (i := 31) (v := .bool false) rfl (by kernel_rfl) (by kernel_rfl) (by kernel_rfl) (fun _ _ _ h => h) (Or.inl ⟨by kernel_rfl, ?_⟩) hS ?_
      · intro w' hSw
        obtain ⟨s0, s1, s2, s3, s4, s5, s6⟩ := hSw
        go_simp
      try simp only [Act.put, List.getElem_toArray, List.getElem_cons_succ, List.getElem_cons_zero, List.setIfInBounds_toArray, List.set_cons_zero, List.set_cons_succ]
      refine wpAnyH_take (i := 32) (v := .slice (some ⟨q2, 0, none⟩) (nm + 1) (nm + 1)) rfl (by kernel_rfl) (by kernel_rfl) (by kernel_rfl) (fun _ _ _ h => h) (Or.inl ⟨by kernel_rfl, ?_⟩) hS ?_
      · intro w' hSw
        obtain ⟨s0, s1, s2, s3, s4, s5, s6⟩ := hSw
        go_simp
      try simp only [Act.put, List.getElem_toArray, List.getElem_cons_succ, List.getElem_cons_zero, List.setIfInBounds_toArray, List.set_cons_zero, List.set_cons_succ]
      refine wpAnyH_take (i := 33) (v := .slice Am nm cm) rfl (by kernel_rfl) (by kernel_rfl) (by kernel_rfl) (fun _ _ _ h => h) (Or.inl ⟨by kernel_rfl, ?_⟩) hS ?_
      · intro w' hSw
        obtain ⟨s0, s1, s2, s3, s4, s5, s6⟩ := hSw
        go_simp
      try simp only [Act.put, List.getElem_toArray, List.getElem_cons_succ, List.getElem_cons_zero, List.setIfInBounds_toArray, List.set_cons_zero, List.set_cons_succ]
      refine wpAnyH_take (i := 34) (v := .int .i64 nm) rfl (by kernel_rfl) (by kernel_rfl) (by kernel_rfl) (fun _ _ _ h => h) (Or.inl ⟨by kernel_rfl, ?_⟩) hS ?_
      · intro w' hSw
        obtain ⟨s0, s1, s2, s3, s4, s5, s6⟩ := hSw
        go_simp
      try simp only [Act.put, List.getElem_toArray, List.getElem_cons_succ, List.getElem_cons_zero, List.setIfInBounds_toArray, List.set_cons_zero, List.set_cons_succ]
      refine wpAnyH_take (i := 35) (v := .pointer (some ⟨q2, nm, none⟩)) rfl (by kernel_rfl) (by kernel_rfl) (by kernel_rfl) (fun _ _ _ h => h) (Or.inl ⟨by kernel_rfl, ?_⟩) hS ?_
      · intro w' hSw
        obtain ⟨s0, s1, s2, s3, s4, s5, s6⟩ := hSw
        go_simp
        intro h; exact absurd h (by omega)
      try simp only [Act.put, List.getElem_toArray, List.getElem_cons_succ, List.getElem_cons_zero, List.setIfInBounds_toArray, List.set_cons_zero, List.set_cons_succ]
      refine wpAnyH_take (i := 36) (v := .bool pm) rfl (by kernel_rfl) (by kernel_rfl) (by kernel_rfl) (fun _ _ _ h => h) (Or.inl ⟨by kernel_rfl, ?_⟩) hS ?_
      · intro w' hSw
        obtain ⟨s0, s1, s2, s3, s4, s5, s6⟩ := hSw
        go_simp
      try simp only [Act.put, List.getElem_toArray, List.getElem_cons_succ, List.getElem_cons_zero, List.setIfInBounds_toArray, List.set_cons_zero, List.set_cons_succ]
      refine wpAnyH_take (i := 37) (v := .pointer (some ⟨w.heap.size, 4, none⟩)) rfl (by kernel_rfl) (by kernel_rfl) (by kernel_rfl) (fun _ _ _ h => h) (Or.inl ⟨by kernel_rfl, ?_⟩) hS ?_
      · intro w' hSw
        obtain ⟨s0, s1, s2, s3, s4, s5, s6⟩ := hSw
        go_simp
      try simp only [Act.put, List.getElem_toArray, List.getElem_cons_succ, List.getElem_cons_zero, List.setIfInBounds_toArray, List.set_cons_zero, List.set_cons_succ]
      refine wpAnyH_take (i := 38) (v := .bool pm) rfl (by kernel_rfl) (by kernel_rfl) (by kernel_rfl) (fun _ _ _ h => h) (Or.inl ⟨by kernel_rfl, ?_⟩) hS ?_
      · intro w' hSw
        obtain ⟨s0, s1, s2, s3, s4, s5, s6⟩ := hSw
        go_simp
      try simp only [Act.put, List.getElem_toArray, List.getElem_cons_succ, List.getElem_cons_zero, List.setIfInBounds_toArray, List.set_cons_zero, List.set_cons_succ]
      refine wpAnyH_take (i := 39) (v := .bool false) rfl (by kernel_rfl) (by kernel_rfl) (by kernel_rfl) (fun _ _ _ h => h) (Or.inl ⟨by kernel_rfl, ?_⟩) hS ?_
      · intro w' hSw
        obtain ⟨s0, s1, s2, s3, s4, s5, s6⟩ := hSw
        go_simp
      try simp only [Act.put, List.getElem_toArray, List.getElem_cons_succ, List.getElem_cons_zero, List.setIfInBounds_toArray, List.set_cons_zero, List.set_cons_succ]
      refine wpAnyH_take (i := 40) (v := .bool false) rfl (by kernel_rfl) (by kernel_rfl) (by kernel_rfl) (fun _ _ _ h => h) (Or.inl ⟨by kernel_rfl, ?_⟩) hS ?_
      · intro w' hSw
        obtain ⟨s0, s1, s2, s3, s4, s5, s6⟩ := hSw
        go_simp
      try simp only [Act.put, List.getElem_toArray, List.getElem_cons_succ, List.getElem_cons_zero, List.setIfInBounds_toArray, List.set_cons_zero, List.set_cons_succ]
      refine wpAnyH_done (by kernel_rfl) ?_ _
      try simp only [List.setIfInBounds_toArray]
      try simp only [List.getElem_toArray, List.getElem_cons_succ, List.getElem_cons_zero, List.setIfInBounds_toArray, List.set_cons_zero, List.set_cons_succ]
      replace HB := Lib.hid (HB.out.trans (hbd.mono HB.out.size))
      replace HQ1 := Lib.hid (show ∀ i d, (ds ++ [m])[i]? = some d → w10.drew.cell? ⟨q1, i, none⟩ = some (szF d) from HQ1.out)
      replace HQ2 := Lib.hid (show ∀ i d, (ds ++ [m])[i]? = some d → w10.drew.cell? ⟨q2, i, none⟩ = some (paF d) from HQ2.out)
      replace HQ3 := Lib.hid (show ∀ i d, ds[i]? = some d → w10.drew.cell? ⟨q3, i, none⟩ = some (szF d) from HQ3.out)
      clear b0 b1 b2 b3 b4 hS HKS hbd s0 u0 XM HLA
      go_wp2_with fail
      go_loopw [10] (fun i wr => ∃ (j : Nat), j ≤ nm ∧ i = .int .i64 j ∧ Hid (Below w.heap.size w wr) ∧ Hid ((∀ i d, (ds ++ [m])[i]? = some d → wr.cell? ⟨q1, i, none⟩ = some (szF d)) ∧ (∀ i d, (ds ++ [m])[i]? = some d → wr.cell? ⟨q2, i, none⟩ = some (paF d)) ∧ ∀ i d, ds[i]? = some d → wr.cell? ⟨q3, i, none⟩ = some (szF d))) (fun i _ => nm - (Go.RowKit.intOf i).toNat)
      case atStart => exact ⟨0, Nat.zero_le _, rfl, HB, Lib.hid ⟨HQ1.out, HQ2.out, HQ3.out⟩⟩
      case round =>
        obtain ⟨j, hj, rfl, HBr, HQ⟩ := hrel
        by_cases hlt : j < nm
        · obtain ⟨d, hd⟩ := at_of hdl hlt
          obtain ⟨bl, ol, B1, p1, f1, k1, g1, B2, p2, f2, rfl, e0, e1, e2, e3, e4, hl, _⟩ := (HD.out.at_ j d hd).keep HBr.out
          have hda : (ds ++ [m])[j]? = some d := by rw [List.getElem?_append_left (by omega)]; exact hd
          have c1' : wr.cell? ⟨q1, j, none⟩ = some (.int .i64 (p1 : Int)) := by rw [HQ.out.1 j d hda, szF, hl.len]
          have c2' : wr.cell? ⟨q2, j, none⟩ = some (.bool d.2) := HQ.out.2.1 j d hda
          have c3' : wr.cell? ⟨q3, j, none⟩ = some (.int .i64 (p1 : Int)) := by rw [HQ.out.2.2 j d hd, szF, hl.len]
          have hi0 : (0 : Int) ≤ (j : Int) := by omega
          have hi1 : (j : Int) < (nm : Int) := by omega
          have hi2 : (j : Int) < ((nm + 1 : Nat) : Int) := by omega
          obtain ⟨pd, hpd⟩ : ∃ p, d.2 = p := ⟨_, rfl⟩
          rw [hpd] at e4 c2'
          clear hl hda hd hpd
          go_wp2_with fail
          have HKS : Hid (∀ w' : World, Below wr.heap.size wr w' → (fun w' => w'.cell? ⟨bl, ol + j * 5, none⟩ = some (.slice B1 p1 f1) ∧ w'.cell? ⟨bl, ol + j * 5 + 4, none⟩ = some (.bool pd) ∧ w'.cell? ⟨q1, j, none⟩ = some (.int .i64 (p1 : Int)) ∧ w'.cell? ⟨q2, j, none⟩ = some (.bool pd) ∧ w'.cell? ⟨q3, j, none⟩ = some (.int .i64 (p1 : Int))) w') := Lib.hid fun w' h => ⟨(h.cell (cell_lt e0)).trans e0, (h.cell (cell_lt e4)).trans e4, (h.cell (cell_lt c1')).trans c1', (h.cell (cell_lt c2')).trans c2', (h.cell (cell_lt c3')).trans c3'⟩
          have hbd : Below wr.heap.size wr wr.drew := (Below.refl _ wr).drew
          refine wp_region_held_drew (S := fun w' => w'.cell? ⟨bl, ol + j * 5, none⟩ = some (.slice B1 p1 f1) ∧ w'.cell? ⟨bl, ol + j * 5 + 4, none⟩ = some (.bool pd) ∧ w'.cell? ⟨q1, j, none⟩ = some (.int .i64 (p1 : Int)) ∧ w'.cell? ⟨q2, j, none⟩ = some (.bool pd) ∧ w'.cell? ⟨q3, j, none⟩ = some (.int .i64 (p1 : Int))) (by kernel_rfl) (HKS.out _ hbd) (fun hS => ?_)
          simp only [List.size_toArray, List.length_cons, List.length_nil, Nat.reduceAdd]
          refine wpAnyH_take (i := 0) (v := .slice (some ⟨q1, 0, none⟩) (nm + 1) (nm + 1)) rfl (by kernel_rfl) (by kernel_rfl) (by kernel_rfl) (fun _ _ _ h => h) (Or.inl ⟨by kernel_rfl, ?_⟩) hS ?_
          · intro w' hSw
            obtain ⟨s0, s1, s2, s3, s4⟩ := hSw
            go_simp
          try simp only [Act.put, List.getElem_toArray, List.getElem_cons_zero, List.setIfInBounds_toArray, List.set_cons_zero, List.set_cons_succ]
          refine wpAnyH_take (i := 1) (v := .int .i64 j) rfl (by kernel_rfl) (by kernel_rfl) (by kernel_rfl) (fun _ _ _ h => h) (Or.inl ⟨by kernel_rfl, ?_⟩) hS ?_
          · intro w' hSw
            obtain ⟨s0, s1, s2, s3, s4⟩ := hSw
            go_simp
          try simp only [Act.put, List.getElem_toArray, List.getElem_cons_succ, List.getElem_cons_zero, List.setIfInBounds_toArray, List.set_cons_zero, List.set_cons_succ]
          refine wpAnyH_take (i := 2) (v := .pointer (some ⟨q1, j, none⟩)) rfl (by kernel_rfl) (by kernel_rfl) (by kernel_rfl) (fun _ _ _ h => h) (Or.inl ⟨by kernel_rfl, ?_⟩) hS ?_
          · intro w' hSw
            obtain ⟨s0, s1, s2, s3, s4⟩ := hSw
            go_simp
            intro h; exact absurd h (by omega)
          try simp only [Act.put, List.getElem_toArray, List.getElem_cons_succ, List.getElem_cons_zero, List.setIfInBounds_toArray, List.set_cons_zero, List.set_cons_succ]
          refine wpAnyH_take (i := 3) (v := .int .i64 p1) rfl (by kernel_rfl) (by kernel_rfl) (by kernel_rfl) (fun _ _ _ h => h) (Or.inl ⟨by kernel_rfl, ?_⟩) hS ?_
          · intro w' hSw
            obtain ⟨s0, s1, s2, s3, s4⟩ := hSw
            go_simp
          try simp only [Act.put, List.getElem_toArray, List.getElem_cons_succ, List.getElem_cons_zero, List.setIfInBounds_toArray, List.set_cons_zero, List.set_cons_succ]
          refine wpAnyH_take (i := 4) (v := .slice (some ⟨bl, ol, none⟩) nm cm) rfl (by kernel_rfl) (by kernel_rfl) (by kernel_rfl) (fun _ _ _ h => h) (Or.inl ⟨by kernel_rfl, ?_⟩) hS ?_
          · intro w' hSw
            obtain ⟨s0, s1, s2, s3, s4⟩ := hSw
            go_simp
          try simp only [Act.put, List.getElem_toArray, List.getElem_cons_succ, List.getElem_cons_zero, List.setIfInBounds_toArray, List.set_cons_zero, List.set_cons_succ]
          refine wpAnyH_take (i := 5) (v := .int .i64 j) rfl (by kernel_rfl) (by kernel_rfl) (by kernel_rfl) (fun _ _ _ h => h) (Or.inl ⟨by kernel_rfl, ?_⟩) hS ?_
          · intro w' hSw
            obtain ⟨s0, s1, s2, s3, s4⟩ := hSw
            go_simp
          try simp only [Act.put, List.getElem_toArray, List.getElem_cons_succ, List.getElem_cons_zero, List.setIfInBounds_toArray, List.set_cons_zero, List.set_cons_succ]
          refine wpAnyH_take (i := 6) (v := .pointer (some ⟨bl, ol + j * 5, none⟩)) rfl (by kernel_rfl) (by kernel_rfl) (by kernel_rfl) (fun _ _ _ h => h) (Or.inl ⟨by kernel_rfl, ?_⟩) hS ?_
          · intro w' hSw
            obtain ⟨s0, s1, s2, s3, s4⟩ := hSw
            go_simp
          try simp only [Act.put, List.getElem_toArray, List.getElem_cons_succ, List.getElem_cons_zero, List.setIfInBounds_toArray, List.set_cons_zero, List.set_cons_succ]
          refine wpAnyH_take (i := 7) (v := .pointer (some ⟨bl, ol + j * 5, none⟩)) rfl (by kernel_rfl) (by kernel_rfl) (by kernel_rfl) (fun _ _ _ h => h) (Or.inl ⟨by kernel_rfl, ?_⟩) hS ?_
          · intro w' hSw
            obtain ⟨s0, s1, s2, s3, s4⟩ := hSw
            go_simp
          try simp only [Act.put, List.getElem_toArray, List.getElem_cons_succ, List.getElem_cons_zero, List.setIfInBounds_toArray, List.set_cons_zero, List.set_cons_succ]
          refine wpAnyH_take (i := 8) (v := .slice B1 p1 f1) rfl (by kernel_rfl) (by kernel_rfl) (by kernel_rfl) (fun _ _ _ h => h) (Or.inl ⟨by kernel_rfl, ?_⟩) hS ?_
          · intro w' hSw
            obtain ⟨s0, s1, s2, s3, s4⟩ := hSw
            go_simp
          try simp only [Act.put, List.getElem_toArray, List.getElem_cons_succ, List.getElem_cons_zero, List.setIfInBounds_toArray, List.set_cons_zero, List.set_cons_succ]
          refine wpAnyH_take (i := 9) (v := .int .i64 p1) rfl (by kernel_rfl) (by kernel_rfl) (by kernel_rfl) (fun _ _ _ h => h) (Or.inl ⟨by kernel_rfl, ?_⟩) hS ?_
          · intro w' hSw
            obtain ⟨s0, s1, s2, s3, s4⟩ := hSw
            go_simp
          try simp only [Act.put, List.getElem_toArray, List.getElem_cons_succ, List.getElem_cons_zero, List.setIfInBounds_toArray, List.set_cons_zero, List.set_cons_succ]
          refine wpAnyH_take (i := 10) (v := .bool false) rfl (by kernel_rfl) (by kernel_rfl) (by kernel_rfl) (fun _ _ _ h => h) (Or.inl ⟨by kernel_rfl, ?_⟩) hS ?_
          · intro w' hSw
            obtain ⟨s0, s1, s2, s3, s4⟩ := hSw
            go_simp
          try simp only [Act.put, List.getElem_toArray, List.getElem_cons_succ, List.getElem_cons_zero, List.setIfInBounds_toArray, List.set_cons_zero, List.set_cons_succ]
          refine wpAnyH_take (i := 11) (v := .bool false) rfl (by kernel_rfl) (by kernel_rfl) (by kernel_rfl) (fun _ _ _ h => h) (Or.inl ⟨by kernel_rfl, ?_⟩) hS ?_
          · intro w' hSw
            obtain ⟨s0, s1, s2, s3, s4⟩ := hSw
            go_simp
          try simp only [Act.put, List.getElem_toArray, List.getElem_cons_succ, List.getElem_cons_zero, List.setIfInBounds_toArray, List.set_cons_zero, List.set_cons_succ]
          refine wpAnyH_take (i := 12) (v := .slice (some ⟨q2, 0, none⟩) (nm + 1) (nm + 1)) rfl (by kernel_rfl) (by kernel_rfl) (by kernel_rfl) (fun _ _ _ h => h) (Or.inl ⟨by kernel_rfl, ?_⟩) hS ?_
          · intro w' hSw
            obtain ⟨s0, s1, s2, s3, s4⟩ := hSw
            go_simp
          try simp only [Act.put, List.getElem_toArray, List.getElem_cons_succ, List.getElem_cons_zero, List.setIfInBounds_toArray, List.set_cons_zero, List.set_cons_succ]
          refine wpAnyH_take (i := 13) (v := .int .i64 j) rfl (by kernel_rfl) (by kernel_rfl) (by kernel_rfl) (fun _ _ _ h => h) (Or.inl ⟨by kernel_rfl, ?_⟩) hS ?_
          · intro w' hSw
            obtain ⟨s0, s1, s2, s3, s4⟩ := hSw
            go_simp
          try simp only [Act.put, List.getElem_toArray, List.getElem_cons_succ, List.getElem_cons_zero, List.setIfInBounds_toArray, List.set_cons_zero, List.set_cons_succ]
          refine wpAnyH_take (i := 14) (v := .pointer (some ⟨q2, j, none⟩)) rfl (by kernel_rfl) (by kernel_rfl) (by kernel_rfl) (fun _ _ _ h => h) (Or.inl ⟨by kernel_rfl, ?_⟩) hS ?_
          · intro w' hSw
            obtain ⟨s0, s1, s2, s3, s4⟩ := hSw
            go_simp
            intro h; exact absurd h (by omega)
          try simp only [Act.put, List.getElem_toArray, List.getElem_cons_succ, List.getElem_cons_zero, List.setIfInBounds_toArray, List.set_cons_zero, List.set_cons_succ]
          refine wpAnyH_take (i := 15) (v := .bool pd) rfl (by kernel_rfl) (by kernel_rfl) (by kernel_rfl) (fun _ _ _ h => h) (Or.inl ⟨by kernel_rfl, ?_⟩) hS ?_
          · intro w' hSw
            obtain ⟨s0, s1, s2, s3, s4⟩ := hSw
            go_simp
          try simp only [Act.put, List.getElem_toArray, List.getElem_cons_succ, List.getElem_cons_zero, List.setIfInBounds_toArray, List.set_cons_zero, List.set_cons_succ]
          refine wpAnyH_take (i := 16) (v := .slice (some ⟨bl, ol, none⟩) nm cm) rfl (by kernel_rfl) (by kernel_rfl) (by kernel_rfl) (fun _ _ _ h => h) (Or.inl ⟨by kernel_rfl, ?_⟩) hS ?_
          · intro w' hSw
            obtain ⟨s0, s1, s2, s3, s4⟩ := hSw
            go_simp
          try simp only [Act.put, List.getElem_toArray, List.getElem_cons_succ, List.getElem_cons_zero, List.setIfInBounds_toArray, List.set_cons_zero, List.set_cons_succ]
          refine wpAnyH_take (i := 17) (v := .int .i64 j) rfl (by kernel_rfl) (by kernel_rfl) (by kernel_rfl) (fun _ _ _ h => h) (Or.inl ⟨by kernel_rfl, ?_⟩) hS ?_
          · intro w' hSw
            obtain ⟨s0, s1, s2, s3, s4⟩ := hSw
            go_simp
          try simp only [Act.put, List.getElem_toArray, List.getElem_cons_succ, List.getElem_cons_zero, List.setIfInBounds_toArray, List.set_cons_zero, List.set_cons_succ]
          refine wpAnyH_take (i := 18) (v := .pointer (some ⟨bl, ol + j * 5, none⟩)) rfl (by kernel_rfl) (by kernel_rfl) (by kernel_rfl) (fun _ _ _ h => h) (Or.inl ⟨by kernel_rfl, ?_⟩) hS ?_
          · intro w' hSw
            obtain ⟨s0, s1, s2, s3, s4⟩ := hSw
            go_simp
          try simp only [Act.put, List.getElem_toArray, List.getElem_cons_succ, List.getElem_cons_zero, List.setIfInBounds_toArray, List.set_cons_zero, List.set_cons_succ]
          refine wpAnyH_take (i := 19) (v := .pointer (some ⟨bl, ol + j * 5 + 4, none⟩)) rfl (by kernel_rfl) (by kernel_rfl) (by kernel_rfl) (fun _ _ _ h => h) (Or.inl ⟨by kernel_rfl, ?_⟩) hS ?_
          · intro w' hSw
            obtain ⟨s0, s1, s2, s3, s4⟩ := hSw
            go_simp
          try simp only [Act.put, List.getElem_toArray, List.getElem_cons_succ, List.getElem_cons_zero, List.setIfInBounds_toArray, List.set_cons_zero, List.set_cons_succ]
          refine wpAnyH_take (i := 20) (v := .bool pd) rfl (by kernel_rfl) (by kernel_rfl) (by kernel_rfl) (fun _ _ _ h => h) (Or.inl ⟨by kernel_rfl, ?_⟩) hS ?_
          · intro w' hSw
            obtain ⟨s0, s1, s2, s3, s4⟩ := hSw
            go_simp
          try simp only [Act.put, List.getElem_toArray, List.getElem_cons_succ, List.getElem_cons_zero, List.setIfInBounds_toArray, List.set_cons_zero, List.set_cons_succ]
          refine wpAnyH_take (i := 21) (v := .bool false) rfl (by kernel_rfl) (by kernel_rfl) (by kernel_rfl) (fun _ _ _ h => h) (Or.inl ⟨by kernel_rfl, ?_⟩) hS ?_
          · intro w' hSw
            obtain ⟨s0, s1, s2, s3, s4⟩ := hSw
            go_simp
          try simp only [Act.put, List.getElem_toArray, List.getElem_cons_succ, List.getElem_cons_zero, List.setIfInBounds_toArray, List.set_cons_zero, List.set_cons_succ]
          refine wpAnyH_take (i := 22) (v := .bool false) rfl (by kernel_rfl) (by kernel_rfl) (by kernel_rfl) (fun _ _ _ h => h) (Or.inl ⟨by kernel_rfl, ?_⟩) hS ?_
          · intro w' hSw
            obtain ⟨s0, s1, s2, s3, s4⟩ := hSw
            go_simp
          try simp only [Act.put, List.getElem_toArray, List.getElem_cons_succ, List.getElem_cons_zero, List.setIfInBounds_toArray, List.set_cons_zero, List.set_cons_succ]
          refine wpAnyH_take (i := 23) (v := .bool false) rfl (by kernel_rfl) (by kernel_rfl) (by kernel_rfl) (fun _ _ _ h => h) (Or.inl ⟨by kernel_rfl, ?_⟩) hS ?_
          · intro w' hSw
            obtain ⟨s0, s1, s2, s3, s4⟩ := hSw
            go_simp
          try simp only [Act.put, List.getElem_toArray, List.getElem_cons_succ, List.getElem_cons_zero, List.setIfInBounds_toArray, List.set_cons_zero, List.set_cons_succ]
          refine wpAnyH_take (i := 24) (v := .slice (some ⟨q3, 0, none⟩) nm nm) rfl (by kernel_rfl) (by kernel_rfl) (by kernel_rfl) (fun _ _ _ h => h) (Or.inl ⟨by kernel_rfl, ?_⟩) hS ?_
          · intro w' hSw
            obtain ⟨s0, s1, s2, s3, s4⟩ := hSw
            go_simp
          try simp only [Act.put, List.getElem_toArray, List.getElem_cons_succ, List.getElem_cons_zero, List.setIfInBounds_toArray, List.set_cons_zero, List.set_cons_succ]
          refine wpAnyH_take (i := 25) (v := .int .i64 j) rfl (by kernel_rfl) (by kernel_rfl) (by kernel_rfl) (fun _ _ _ h => h) (Or.inl ⟨by kernel_rfl, ?_⟩) hS ?_
          · intro w' hSw
            obtain ⟨s0, s1, s2, s3, s4⟩ := hSw
            go_simp
          try simp only [Act.put, List.getElem_toArray, List.getElem_cons_succ, List.getElem_cons_zero, List.setIfInBounds_toArray, List.set_cons_zero, List.set_cons_succ]
          refine wpAnyH_take (i := 26) (v := .pointer (some ⟨q3, j, none⟩)) rfl (by kernel_rfl) (by kernel_rfl) (by kernel_rfl) (fun _ _ _ h => h) (Or.inl ⟨by kernel_rfl, ?_⟩) hS ?_
          · intro w' hSw
            obtain ⟨s0, s1, s2, s3, s4⟩ := hSw
            go_simp
          try simp only [Act.put, List.getElem_toArray, List.getElem_cons_succ, List.getElem_cons_zero, List.setIfInBounds_toArray, List.set_cons_zero, List.set_cons_succ]
          refine wpAnyH_take (i := 27) (v := .int .i64 p1) rfl (by kernel_rfl) (by kernel_rfl) (by kernel_rfl) (fun _ _ _ h => h) (Or.inl ⟨by kernel_rfl, ?_⟩) hS ?_
          · intro w' hSw
            obtain ⟨s0, s1, s2, s3, s4⟩ := hSw
            go_simp
          try simp only [Act.put, List.getElem_toArray, List.getElem_cons_succ, List.getElem_cons_zero, List.setIfInBounds_toArray, List.set_cons_zero, List.set_cons_succ]
          refine wpAnyH_take (i := 28) (v := .slice (some ⟨q1, 0, none⟩) (nm + 1) (nm + 1)) rfl (by kernel_rfl) (by kernel_rfl) (by kernel_rfl) (fun _ _ _ h => h) (Or.inl ⟨by kernel_rfl, ?_⟩) hS ?_
          · intro w' hSw
            obtain ⟨s0, s1, s2, s3, s4⟩ := hSw
            go_simp
          try simp only [Act.put, List.getElem_toArray, List.getElem_cons_succ, List.getElem_cons_zero, List.setIfInBounds_toArray, List.set_cons_zero, List.set_cons_succ]
          refine wpAnyH_take (i := 29) (v := .int .i64 j) rfl (by kernel_rfl) (by kernel_rfl) (by kernel_rfl) (fun _ _ _ h => h) (Or.inl ⟨by kernel_rfl, ?_⟩) hS ?_
          · intro w' hSw
            obtain ⟨s0, s1, s2, s3, s4⟩ := hSw
            go_simp
          try simp only [Act.put, List.getElem_toArray, List.getElem_cons_succ, List.getElem_cons_zero, List.setIfInBounds_toArray, List.set_cons_zero, List.set_cons_succ]
          refine wpAnyH_take (i := 30) (v := .pointer (some ⟨q1, j, none⟩)) rfl (by kernel_rfl) (by kernel_rfl) (by kernel_rfl) (fun _ _ _ h => h) (Or.inl ⟨by kernel_rfl, ?_⟩) hS ?_
          · intro w' hSw
            obtain ⟨s0, s1, s2, s3, s4⟩ := hSw
            go_simp
            intro h; exact absurd h (by omega)
          try simp only [Act.put, List.getElem_toArray, List.getElem_cons_succ, List.getElem_cons_zero, List.setIfInBounds_toArray, List.set_cons_zero, List.set_cons_succ]
          refine wpAnyH_take (i := 31) (v := .int .i64 p1) rfl (by kernel_rfl) (by kernel_rfl) (by kernel_rfl) (fun _ _ _ h => h) (Or.inl ⟨by kernel_rfl, ?_⟩) hS ?_
          · intro w' hSw
            obtain ⟨s0, s1, s2, s3, s4⟩ := hSw
            go_simp
          try simp only [Act.put, List.getElem_toArray, List.getElem_cons_succ, List.getElem_cons_zero, List.setIfInBounds_toArray, List.set_cons_zero, List.set_cons_succ]
          refine wpAnyH_take (i := 32) (v := .bool false) rfl (by kernel_rfl) (by kernel_rfl) (by kernel_rfl) (fun _ _ _ h => h) (Or.inl ⟨by kernel_rfl, ?_⟩) hS ?_
          · intro w' hSw
            obtain ⟨s0, s1, s2, s3, s4⟩ := hSw
            go_simp
          try simp only [Act.put, List.getElem_toArray, List.getElem_cons_succ, List.getElem_cons_zero, List.setIfInBounds_toArray, List.set_cons_zero, List.set_cons_succ]
          refine wpAnyH_take (i := 33) (v := .bool false) rfl (by kernel_rfl) (by kernel_rfl) (by kernel_rfl) (fun _ _ _ h => h) (Or.inl ⟨by kernel_rfl, ?_⟩) hS ?_
          · intro w' hSw
            obtain ⟨s0, s1, s2, s3, s4⟩ := hSw
            go_simp
          try simp only [Act.put, List.getElem_toArray, List.getElem_cons_succ, List.getElem_cons_zero, List.setIfInBounds_toArray, List.set_cons_zero, List.set_cons_succ]
          refine wpAnyH_done (by kernel_rfl) ?_ _
          try simp only [List.setIfInBounds_toArray]
          try simp only [List.getElem_toArray, List.getElem_cons_succ, List.getElem_cons_zero, List.setIfInBounds_toArray, List.set_cons_zero, List.set_cons_succ]
          replace HBr := Lib.hid (HBr.out.trans (hbd.mono HBr.out.size))
          replace HQ := Lib.hid (show (∀ i d, (ds ++ [m])[i]? = some d → wr.drew.cell? ⟨q1, i, none⟩ = some (szF d)) ∧ (∀ i d, (ds ++ [m])[i]? = some d → wr.drew.cell? ⟨q2, i, none⟩ = some (paF d)) ∧ ∀ i d, ds[i]? = some d → wr.drew.cell? ⟨q3, i, none⟩ = some (szF d) from HQ.out)
          clear hS HKS hbd e0 e1 e2 e3 e4 c1' c2' c3'
          go_wp2_with fail
          go_roundw
          case rel => exact ⟨j + 1, by omega, by go_num, HBr, HQ⟩
          case measure => simp [Go.RowKit.intOf]; omega
        · go_wp2_with fail
          go_ret
          exact ⟨rfl, HBr.out⟩
    · go_simp
      have hb5 : Below wB.heap.size wB ((wB.alloc (.cells #[.slice A1 n1 c1, .int .i64 km, .int .i64 hm, .slice A2 n2 c2, .bool m.2] 39)).drew) := ((Below.refl _ wB).alloc (Nat.le_refl _) _).drew
      refine hK.out _ _ (HKS.out _ hb5) (fun hS => ?_)
      clear hK KN
      try simp only [Act.put, List.getElem_toArray, List.getElem_cons_succ, List.getElem_cons_zero, List.setIfInBounds_toArray, List.set_cons_zero, List.set_cons_succ]
      have z5 : Box ((wB.alloc (.cells #[.slice A1 n1 c1, .int .i64 km, .int .i64 hm, .slice A2 n2 c2, .bool m.2] 39)).drew) wB.heap.size 39 #[.slice A1 n1 c1, .int .i64 km, .int .i64 hm, .slice A2 n2 c2, .bool m.2] := Box.drewI (Box.new _ _ _)
      obtain ⟨P6, hP6⟩ : ∃ p, wB.heap.size = p := ⟨_, rfl⟩
      rw [hP6] at z5
      try rw [hP6]
      clear hP6
      generalize (wB.alloc (.cells #[.slice A1 n1 c1, .int .i64 km, .int .i64 hm, .slice A2 n2 c2, .bool m.2] 39)).drew = w55 at *
      refine wpAnyH_ready (rs := [1]) (by kernel_rfl) (by simp) ?_
      refine AllReadyH.cons rfl (fun KN hK => ?_) AllReadyH.nil
      obtain ⟨A5, c5, w66, cs55, hrun5, hrowB, hb66⟩ := rowP_new (HD.out.keep HB.out) (by omega) hb5
      have hbB := hb5.trans (hb66.mono hb5.size)
      have zB : Box w66 P6 39 #[.slice A1 n1 c1, .int .i64 km, .int .i64 hm, .slice A2 n2 c2, .bool m.2] := z5.keep hb66 z5.lt
      clear hb66
      refine Lib.wp_append_run _ (.const (.slice none 0 0)) (.tmp 27) 23 23 rfl _ _ rfl rfl _ _ hrun5 ?_
      refine hK.out _ _ (HKS.out _ hbB) (fun hS => ?_)
      clear hK KN
      try simp only [Act.put, List.getElem_toArray, List.getElem_cons_succ, List.getElem_cons_zero, List.setIfInBounds_toArray, List.set_cons_zero, List.set_cons_succ]
      clear hb5 z5 hrun5
      refine wpAnyH_ready (rs := [4]) (by kernel_rfl) (by simp) ?_
      refine AllReadyH.cons rfl (fun KN hK => ?_) AllReadyH.nil
      obtain ⟨g7, cap7, w77, cs77, hrun7, hr7, hb7, _, _⟩ := rowP_one hrowB zB ⟨HX.out.1.keep HB.out, Rd.keep HB.out _ _ HX.out.2⟩ (by omega) hbB
      have hcl7 := hr7.lst hb7
      refine Lib.wp_append_run _ (.tmp 28) (.tmp 30) 23 23 rfl _ _ rfl rfl _ _ hrun7 ?_
      refine hK.out _ _ (HKS.out _ hb7) (fun hS => ?_)
      clear hK KN
      try simp only [Act.put, List.getElem_toArray, List.getElem_cons_succ, List.getElem_cons_zero, List.setIfInBounds_toArray, List.set_cons_zero, List.set_cons_succ]
      clear hr7 hbB hrowB zB hrun7
      refine wpAnyH_ready (rs := [5]) (by kernel_rfl) (by simp) ?_
      refine AllReadyH.cons rfl (fun KN hK => ?_) AllReadyH.nil
      go_simp
      refine (paC (ds ++ [m]) _ (nm + 1) cap7 w77 hcl7 (by omega)).mono ?_
      rintro e wC ⟨q2, rfl, hq, hb8⟩
      have hbd := hb7.trans (hb8.mono hb7.size)
      have HQ2 := Lib.hid hq
      clear hb8 hq hb7 hcl7
      refine hK.out _ _ (HKS.out _ hbd) (fun hS => ?_)
      clear hK KN
      try simp only [Act.put, List.getElem_toArray, List.getElem_cons_succ, List.getElem_cons_zero, List.setIfInBounds_toArray, List.set_cons_zero, List.set_cons_succ]
      refine wpAnyH_take (i := 6) (v := .slice (some ⟨q2, 0, none⟩) (nm + 1) (nm + 1)) rfl (by kernel_rfl) (by kernel_rfl) (by kernel_rfl) (fun _ _ _ h => h) (Or.inl ⟨by kernel_rfl, ?_⟩) hS ?_
      · intro w' hSw
        obtain ⟨s0, s1, s2, s3, s4⟩ := hSw
        go_simp
      try simp only [Act.put, List.getElem_toArray, List.getElem_cons_succ, List.getElem_cons_zero, List.setIfInBounds_toArray, List.set_cons_zero, List.set_cons_succ]
      refine wpAnyH_done (by kernel_rfl) ?_ _
      try simp only [List.setIfInBounds_toArray]
      try simp only [List.getElem_toArray, List.getElem_cons_succ, List.getElem_cons_zero, List.setIfInBounds_toArray, List.set_cons_zero, List.set_cons_succ]
      replace XM := Lib.hid (XM.out.keep hbd XM.out.lt)
      replace HB := Lib.hid (HB.out.trans (hbd.mono HB.out.size))
      replace HQ1 := Lib.hid (show ∀ i d, (ds ++ [m])[i]? = some d → wC.cell? ⟨q1, i, none⟩ = some (szF d) from fun i d hi => (hbd.cell (cell_lt (HQ1.out i d hi))).trans (HQ1.out i d hi))
      clear b0 b1 b2 b3 b4 hS HKS hbd
      have b0 : wC.cell? ⟨w.heap.size, 0, none⟩ = some (.slice A1 n1 c1) := XM.out.cell 0
      have b1 : wC.cell? ⟨w.heap.size, 1, none⟩ = some (.int .i64 km) := XM.out.cell 1
      have b2 : wC.cell? ⟨w.heap.size, 2, none⟩ = some (.int .i64 hm) := XM.out.cell 2
      have b3 : wC.cell? ⟨w.heap.size, 3, none⟩ = some (.slice A2 n2 c2) := XM.out.cell 3
      have b4 : wC.cell? ⟨w.heap.size, 4, none⟩ = some (.bool m.2) := XM.out.cell 4
      go_wp2_with fail
      clear b0 b1 b2 b3 b4
      refine (szC ds Am nm cm wC (HD.out.keep HB.out) (by omega)).mono ?_
      rintro e w10 ⟨q3, rfl, hq, hb1⟩
      have HQ3 := Lib.hid hq
      replace HQ1 := Lib.hid (show ∀ i d, (ds ++ [m])[i]? = some d → w10.cell? ⟨q1, i, none⟩ = some (szF d) from fun i d hi => (hb1.cell (cell_lt (HQ1.out i d hi))).trans (HQ1.out i d hi))
      replace HQ2 := Lib.hid (show ∀ i d, (ds ++ [m])[i]? = some d → w10.cell? ⟨q2, i, none⟩ = some (paF d) from fun i d hi => (hb1.cell (cell_lt (HQ2.out i d hi))).trans (HQ2.out i d hi))
      replace XM := Lib.hid (XM.out.keep hb1 XM.out.lt)
      replace HB := Lib.hid (HB.out.trans (hb1.mono HB.out.size))
      clear hb1 hq
      have b0 : w10.cell? ⟨w.heap.size, 0, none⟩ = some (.slice A1 n1 c1) := XM.out.cell 0
      have b1 : w10.cell? ⟨w.heap.size, 1, none⟩ = some (.int .i64 km) := XM.out.cell 1
      have b2 : w10.cell? ⟨w.heap.size, 2, none⟩ = some (.int .i64 hm) := XM.out.cell 2
      have b3 : w10.cell? ⟨w.heap.size, 3, none⟩ = some (.slice A2 n2 c2) := XM.out.cell 3
      have b4 : w10.cell? ⟨w.heap.size, 4, none⟩ = some (.bool m.2) := XM.out.cell 4
      have hlast : (ds ++ [m])[nm]? = some m := by rw [← hdl, List.getElem?_append_right (Nat.le_refl _), Nat.sub_self]; rfl
      have s0 : w10.cell? ⟨q1, nm, none⟩ = some (.int .i64 (n1 : Int)) := by rw [HQ1.out nm m hlast, szF, hxl]
      have u0 : w10.cell? ⟨q2, nm, none⟩ = some (.bool m.2) := HQ2.out nm m hlast
      have hw : IntKind.i64.wrap ((nm : Int) + 1) = (nm : Int) + 1 := by rw [wrapEq]; exact wrap_small (by omega) (by omega)
      have hn0 : (0 : Int) ≤ (nm : Int) := by omega
      have hn1 : (nm : Int) < ((nm + 1 : Nat) : Int) := by omega
      have hn2 : (((nm + 1 : Nat) : Int)) = (nm : Int) + 1 := by omega
      have HLA := Lib.hid hlast
      clear hlast
      obtain ⟨pm, hpm⟩ : ∃ p, m.2 = p := ⟨_, rfl⟩
      rw [hpm] at b4 u0 XM
      go_wp2_with fail
      have HKS : Hid (∀ w' : World, Below w10.heap.size w10 w' → (fun w' => w'.cell? ⟨w.heap.size, 0, none⟩ = some (.slice A1 n1 c1) ∧ w'.cell? ⟨w.heap.size, 1, none⟩ = some (.int .i64 km) ∧ w'.cell? ⟨w.heap.size, 2, none⟩ = some (.int .i64 hm) ∧ w'.cell? ⟨w.heap.size, 3, none⟩ = some (.slice A2 n2 c2) ∧ w'.cell? ⟨w.heap.size, 4, none⟩ = some (.bool pm) ∧ w'.cell? ⟨q1, nm, none⟩ = some (.int .i64 (n1 : Int)) ∧ w'.cell? ⟨q2, nm, none⟩ = some (.bool pm)) w') := Lib.hid fun w' h => ⟨(h.cell (cell_lt b0)).trans b0, (h.cell (cell_lt b1)).trans b1, (h.cell (cell_lt b2)).trans b2, (h.cell (cell_lt b3)).trans b3, (h.cell (cell_lt b4)).trans b4, (h.cell (cell_lt s0)).trans s0, (h.cell (cell_lt u0)).trans u0⟩
      have hbd : Below w10.heap.size w10 w10.drew := (Below.refl _ w10).drew
      refine wp_region_held_drew (S := fun w' => w'.cell? ⟨w.heap.size, 0, none⟩ = some (.slice A1 n1 c1) ∧ w'.cell? ⟨w.heap.size, 1, none⟩ = some (.int .i64 km) ∧ w'.cell? ⟨w.heap.size, 2, none⟩ = some (.int .i64 hm) ∧ w'.cell? ⟨w.heap.size, 3, none⟩ = some (.slice A2 n2 c2) ∧ w'.cell? ⟨w.heap.size, 4, none⟩ = some (.bool pm) ∧ w'.cell? ⟨q1, nm, none⟩ = some (.int .i64 (n1 : Int)) ∧ w'.cell? ⟨q2, nm, none⟩ = some (.bool pm)) (by kernel_rfl) (HKS.out _ hbd) (fun hS => ?_)
      simp only [List.size_toArray, List.length_cons, List.length_nil, Nat.reduceAdd]
      refine wpAnyH_take (i := 0) (v := .slice (some ⟨q1, 0, none⟩) (nm + 1) (nm + 1)) rfl (by kernel_rfl) (by kernel_rfl) (by kernel_rfl) (fun _ _ _ h => h) (Or.inl ⟨by kernel_rfl, ?_⟩) hS ?_
      · intro w' hSw
        obtain ⟨s0, s1, s2, s3, s4, s5, s6⟩ := hSw
        go_simp
      try simp only [Act.put, List.getElem_toArray, List.getElem_cons_zero, List.setIfInBounds_toArray, List.set_cons_zero, List.set_cons_succ]
      refine wpAnyH_take (i := 1) (v := .int .i64 ((nm + 1 : Nat) : Int)) rfl (by kernel_rfl) (by kernel_rfl) (by kernel_rfl) (fun _ _ _ h => h) (Or.inl ⟨by kernel_rfl, ?_⟩) hS ?_
      · intro w' hSw
        obtain ⟨s0, s1, s2, s3, s4, s5, s6⟩ := hSw
        go_simp
      try simp only [Act.put, List.getElem_toArray, List.getElem_cons_succ, List.getElem_cons_zero, List.setIfInBounds_toArray, List.set_cons_zero, List.set_cons_succ]
      refine wpAnyH_take (i := 2) (v := .slice Am nm cm) rfl (by kernel_rfl) (by kernel_rfl) (by kernel_rfl) (fun _ _ _ h => h) (Or.inl ⟨by kernel_rfl, ?_⟩) hS ?_
      · intro w' hSw
        obtain ⟨s0, s1, s2, s3, s4, s5, s6⟩ := hSw
        go_simp
      try simp only [Act.put, List.getElem_toArray, List.getElem_cons_succ, List.getElem_cons_zero, List.setIfInBounds_toArray, List.set_cons_zero, List.set_cons_succ]
      refine wpAnyH_take (i := 3) (v := .int .i64 nm) rfl (by kernel_rfl) (by kernel_rfl) (by kernel_rfl) (fun _ _ _ h => h) (Or.inl ⟨by kernel_rfl, ?_⟩) hS ?_
      · intro w' hSw
        obtain ⟨s0, s1, s2, s3, s4, s5, s6⟩ := hSw
        go_simp
      try simp only [Act.put, List.getElem_toArray, List.getElem_cons_succ, List.getElem_cons_zero, List.setIfInBounds_toArray, List.set_cons_zero, List.set_cons_succ]
      refine wpAnyH_take (i := 4) (v := .int .i64 ((nm : Int) + 1)) rfl (by kernel_rfl) (by kernel_rfl) (by kernel_rfl) (fun _ _ _ h => h) (Or.inl ⟨by kernel_rfl, ?_⟩) hS ?_
      · intro w' hSw
        obtain ⟨s0, s1, s2, s3, s4, s5, s6⟩ := hSw
        go_simp
      try simp only [Act.put, List.getElem_toArray, List.getElem_cons_succ, List.getElem_cons_zero, List.setIfInBounds_toArray, List.set_cons_zero, List.set_cons_succ]
      refine wpAnyH_take (i := 5) (v := .bool false) rfl (by kernel_rfl) (by kernel_rfl) (by kernel_rfl) (fun _ _ _ h => h) (Or.inl ⟨by kernel_rfl, ?_⟩) hS ?_
      · intro w' hSw
        obtain ⟨s0, s1, s2, s3, s4, s5, s6⟩ := hSw
        go_simp
      try simp only [Act.put, List.getElem_toArray, List.getElem_cons_succ, List.getElem_cons_zero, List.setIfInBounds_toArray, List.set_cons_zero, List.set_cons_succ]
      refine wpAnyH_take (i := 6) (v := .bool false) rfl (by kernel_rfl) (by kernel_rfl) (by kernel_rfl) (fun _ _ _ h => h) (Or.inl ⟨by kernel_rfl, ?_⟩) hS ?_
      · intro w' hSw
        obtain ⟨s0, s1, s2, s3, s4, s5, s6⟩ := hSw
        go_simp
      try simp only [Act.put, List.getElem_toArray, List.getElem_cons_succ, List.getElem_cons_zero, List.setIfInBounds_toArray, List.set_cons_zero, List.set_cons_succ]
      refine wpAnyH_take (i := 7) (v := .slice (some ⟨q2, 0, none⟩) (nm + 1) (nm + 1)) rfl (by kernel_rfl) (by kernel_rfl) (by kernel_rfl) (fun _ _ _ h => h) (Or.inl ⟨by kernel_rfl, ?_⟩) hS ?_
      · intro w' hSw
        obtain ⟨s0, s1, s2, s3, s4, s5, s6⟩ := hSw
        go_simp
      try simp only [Act.put, List.getElem_toArray, List.getElem_cons_succ, List.getElem_cons_zero, List.setIfInBounds_toArray, List.set_cons_zero, List.set_cons_succ]
      refine wpAnyH_take (i := 8) (v := .int .i64 ((nm + 1 : Nat) : Int)) rfl (by kernel_rfl) (by kernel_rfl) (by kernel_rfl) (fun _ _ _ h => h) (Or.inl ⟨by kernel_rfl, ?_⟩) hS ?_
      · intro w' hSw
        obtain ⟨s0, s1, s2, s3, s4, s5, s6⟩ := hSw
        go_simp
      try simp only [Act.put, List.getElem_toArray, List.getElem_cons_succ, List.getElem_cons_zero, List.setIfInBounds_toArray, List.set_cons_zero, List.set_cons_succ]
      refine wpAnyH_take (i := 9) (v := .slice (some ⟨q1, 0, none⟩) (nm + 1) (nm + 1)) rfl (by kernel_rfl) (by kernel_rfl) (by kernel_rfl) (fun _ _ _ h => h) (Or.inl ⟨by kernel_rfl, ?_⟩) hS ?_
      · intro w' hSw
        obtain ⟨s0, s1, s2, s3, s4, s5, s6⟩ := hSw
        go_simp
      try simp only [Act.put, List.getElem_toArray, List.getElem_cons_succ, List.getElem_cons_zero, List.setIfInBounds_toArray, List.set_cons_zero, List.set_cons_succ]
      refine wpAnyH_take (i := 10) (v := .int .i64 ((nm + 1 : Nat) : Int)) rfl (by kernel_rfl) (by kernel_rfl) (by kernel_rfl) (fun _ _ _ h => h) (Or.inl ⟨by kernel_rfl, ?_⟩) hS ?_
      · intro w' hSw
        obtain ⟨s0, s1, s2, s3, s4, s5, s6⟩ := hSw
        go_simp
      try simp only [Act.put, List.getElem_toArray, List.getElem_cons_succ, List.getElem_cons_zero, List.setIfInBounds_toArray, List.set_cons_zero, List.set_cons_succ]
      refine wpAnyH_take (i := 11) (v := .bool false) rfl (by kernel_rfl) (by kernel_rfl) (by kernel_rfl) (fun _ _ _ h => h) (Or.inl ⟨by kernel_rfl, ?_⟩) hS ?_
      · intro w' hSw
        obtain ⟨s0, s1, s2, s3, s4, s5, s6⟩ := hSw
        go_simp
      try simp only [Act.put, List.getElem_toArray, List.getElem_cons_succ, List.getElem_cons_zero, List.setIfInBounds_toArray, List.set_cons_zero, List.set_cons_succ]
      refine wpAnyH_take (i := 12) (v := .bool false) rfl (by kernel_rfl) (by kernel_rfl) (by kernel_rfl) (fun _ _ _ h => h) (Or.inl ⟨by kernel_rfl, ?_⟩) hS ?_
      · intro w' hSw
        obtain ⟨s0, s1, s2, s3, s4, s5, s6⟩ := hSw
        go_simp
      try simp only [Act.put, List.getElem_toArray, List.getElem_cons_succ, List.getElem_cons_zero, List.setIfInBounds_toArray, List.set_cons_zero, List.set_cons_succ]
      refine wpAnyH_take (i := 13) (v := .bool false) rfl (by kernel_rfl) (by kernel_rfl) (by kernel_rfl) (fun _ _ _ h => h) (Or.inl ⟨by kernel_rfl, ?_⟩) hS ?_
      · intro w' hSw
        obtain ⟨s0, s1, s2, s3, s4, s5, s6⟩ := hSw
        go_simp
      try simp only [Act.put, List.getElem_toArray, List.getElem_cons_succ, List.getElem_cons_zero, List.setIfInBounds_toArray, List.set_cons_zero, List.set_cons_succ]
      refine wpAnyH_take (i := 14) (v := .slice (some ⟨q3, 0, none⟩) nm nm) rfl (by kernel_rfl) (by kernel_rfl) (by kernel_rfl) (fun _ _ _ h => h) (Or.inl ⟨by kernel_rfl, ?_⟩) hS ?_
      · intro w' hSw
        obtain ⟨s0, s1, s2, s3, s4, s5, s6⟩ := hSw
        go_simp
      try simp only [Act.put, List.getElem_toArray, List.getElem_cons_succ, List.getElem_cons_zero, List.setIfInBounds_toArray, List.set_cons_zero, List.set_cons_succ]
      refine wpAnyH_take (i := 15) (v := .int .i64 nm) rfl (by kernel_rfl) (by kernel_rfl) (by kernel_rfl) (fun _ _ _ h => h) (Or.inl ⟨by kernel_rfl, ?_⟩) hS ?_
      · intro w' hSw
        obtain ⟨s0, s1, s2, s3, s4, s5, s6⟩ := hSw
        go_simp
      try simp only [Act.put, List.getElem_toArray, List.getElem_cons_succ, List.getElem_cons_zero, List.setIfInBounds_toArray, List.set_cons_zero, List.set_cons_succ]
      refine wpAnyH_take (i := 16) (v := .slice Am nm cm) rfl (by kernel_rfl) (by kernel_rfl) (by kernel_rfl) (fun _ _ _ h => h) (Or.inl ⟨by kernel_rfl, ?_⟩) hS ?_
      · intro w' hSw
        obtain ⟨s0, s1, s2, s3, s4, s5, s6⟩ := hSw
        go_simp
      try simp only [Act.put, List.getElem_toArray, List.getElem_cons_succ, List.getElem_cons_zero, List.setIfInBounds_toArray, List.set_cons_zero, List.set_cons_succ]
      refine wpAnyH_take (i := 17) (v := .int .i64 nm) rfl (by kernel_rfl) (by kernel_rfl) (by kernel_rfl) (fun _ _ _ h => h) (Or.inl ⟨by kernel_rfl, ?_⟩) hS ?_
      · intro w' hSw
        obtain ⟨s0, s1, s2, s3, s4, s5, s6⟩ := hSw
        go_simp
      try simp only [Act.put, List.getElem_toArray, List.getElem_cons_succ, List.getElem_cons_zero, List.setIfInBounds_toArray, List.set_cons_zero, List.set_cons_succ]
      refine wpAnyH_take (i := 18) (v := .bool false) rfl (by kernel_rfl) (by kernel_rfl) (by kernel_rfl) (fun _ _ _ h => h) (Or.inl ⟨by kernel_rfl, ?_⟩) hS ?_
      · intro w' hSw
        obtain ⟨s0, s1, s2, s3, s4, s5, s6⟩ := hSw
        go_simp
      try simp only [Act.put, List.getElem_toArray, List.getElem_cons_succ, List.getElem_cons_zero, List.setIfInBounds_toArray, List.set_cons_zero, List.set_cons_succ]
      refine wpAnyH_take (i := 19) (v := .bool false) rfl (by kernel_rfl) (by kernel_rfl) (by kernel_rfl) (fun _ _ _ h => h) (Or.inl ⟨by kernel_rfl, ?_⟩) hS ?_
      · intro w' hSw
        obtain ⟨s0, s1, s2, s3, s4, s5, s6⟩ := hSw
        go_simp
      try simp only [Act.put, List.getElem_toArray, List.getElem_cons_succ, List.getElem_cons_zero, List.setIfInBounds_toArray, List.set_cons_zero, List.set_cons_succ]
      refine wpAnyH_take (i := 20) (v := .bool false) rfl (by kernel_rfl) (by kernel_rfl) (by kernel_rfl) (fun _ _ _ h => h) (Or.inl ⟨by kernel_rfl, ?_⟩) hS ?_
      · intro w' hSw
        obtain ⟨s0, s1, s2, s3, s4, s5, s6⟩ := hSw
        go_simp
      try simp only [Act.put, List.getElem_toArray, List.getElem_cons_succ, List.getElem_cons_zero, List.setIfInBounds_toArray, List.set_cons_zero, List.set_cons_succ]
      refine wpAnyH_take (i := 21) (v := .slice (some ⟨q1, 0, none⟩) (nm + 1) (nm + 1)) rfl (by kernel_rfl) (by kernel_rfl) (by kernel_rfl) (fun _ _ _ h => h) (Or.inl ⟨by kernel_rfl, ?_⟩) hS ?_
      · intro w' hSw
        obtain ⟨s0, s1, s2, s3, s4, s5, s6⟩ := hSw
        go_simp
      try simp only [Act.put, List.getElem_toArray, List.getElem_cons_succ, List.getElem_cons_zero, List.setIfInBounds_toArray, List.set_cons_zero, List.set_cons_succ]
      refine wpAnyH_take (i := 22) (v := .slice Am nm cm) rfl (by kernel_rfl) (by kernel_rfl) (by kernel_rfl) (fun _ _ _ h => h) (Or.inl ⟨by kernel_rfl, ?_⟩) hS ?_
      · intro w' hSw
        obtain ⟨s0, s1, s2, s3, s4, s5, s6⟩ := hSw
        go_simp
      try simp only [Act.put, List.getElem_toArray, List.getElem_cons_succ, List.getElem_cons_zero, List.setIfInBounds_toArray, List.set_cons_zero, List.set_cons_succ]
      refine wpAnyH_take (i := 23) (v := .int .i64 nm) rfl (by kernel_rfl) (by kernel_rfl) (by kernel_rfl) (fun _ _ _ h => h) (Or.inl ⟨by kernel_rfl, ?_⟩) hS ?_
      · intro w' hSw
        obtain ⟨s0, s1, s2, s3, s4, s5, s6⟩ := hSw
        go_simp
      try simp only [Act.put, List.getElem_toArray, List.getElem_cons_succ, List.getElem_cons_zero, List.setIfInBounds_toArray, List.set_cons_zero, List.set_cons_succ]
      refine wpAnyH_take (i := 24) (v := .pointer (some ⟨q1, nm, none⟩)) rfl (by kernel_rfl) (by kernel_rfl) (by kernel_rfl) (fun _ _ _ h => h) (Or.inl ⟨by kernel_rfl, ?_⟩) hS ?_
      · intro w' hSw
        obtain ⟨s0, s1, s2, s3, s4, s5, s6⟩ := hSw
        go_simp
        intro h; exact absurd h (by omega)
      try simp only [Act.put, List.getElem_toArray, List.getElem_cons_succ, List.getElem_cons_zero, List.setIfInBounds_toArray, List.set_cons_zero, List.set_cons_succ]
      refine wpAnyH_take (i := 25) (v := .int .i64 n1) rfl (by kernel_rfl) (by kernel_rfl) (by kernel_rfl) (fun _ _ _ h => h) (Or.inl ⟨by kernel_rfl, ?_⟩) hS ?_
      · intro w' hSw
        obtain ⟨s0, s1, s2, s3, s4, s5, s6⟩ := hSw
        go_simp
      try simp only [Act.put, List.getElem_toArray, List.getElem_cons_succ, List.getElem_cons_zero, List.setIfInBounds_toArray, List.set_cons_zero, List.set_cons_succ]
      refine wpAnyH_take (i := 26) (v := .pointer (some ⟨w.heap.size, 0, none⟩)) rfl (by kernel_rfl) (by kernel_rfl) (by kernel_rfl) (fun _ _ _ h => h) (Or.inl ⟨by kernel_rfl, ?_⟩) hS ?_
      · intro w' hSw
        obtain ⟨s0, s1, s2, s3, s4, s5, s6⟩ := hSw
        go_simp
      try simp only [Act.put, List.getElem_toArray, List.getElem_cons_succ, List.getElem_cons_zero, List.setIfInBounds_toArray, List.set_cons_zero, List.set_cons_succ]
      refine wpAnyH_take (i := 27) (v := .slice A1 n1 c1) rfl (by kernel_rfl) (by kernel_rfl) (by kernel_rfl) (fun _ _ _ h => h) (Or.inl ⟨by kernel_rfl, ?_⟩) hS ?_
      · intro w' hSw
        obtain ⟨s0, s1, s2, s3, s4, s5, s6⟩ := hSw
        go_simp
      try simp only [Act.put, List.getElem_toArray, List.getElem_cons_succ, List.getElem_cons_zero, List.setIfInBounds_toArray, List.set_cons_zero, List.set_cons_succ]
      refine wpAnyH_take (i := 28) (v := .int .i64 n1) rfl (by kernel_rfl) (by kernel_rfl) (by kernel_rfl) (fun _ _ _ h => h) (Or.inl ⟨by kernel_rfl, ?_⟩) hS ?_
      · intro w' hSw
        obtain ⟨s0, s1, s2, s3, s4, s5, s6⟩ := hSw
        go_simp
      try simp only [Act.put, List.getElem_toArray, List.getElem_cons_succ, List.getElem_cons_zero, List.setIfInBounds_toArray, List.set_cons_zero, List.set_cons_succ]
      refine wpAnyH_take (i := 29) (v := .bool false) rfl (by kernel_rfl) (by kernel_rfl) (by kernel_rfl) (fun _ _ _ h => h) (Or.inl ⟨by kernel_rfl, ?_⟩) hS ?_
      · intro w' hSw
        obtain ⟨s0, s1, s2, s3, s4, s5, s6⟩ := hSw
        go_simp
      try simp only [Act.put, List.getElem_toArray, List.getElem_cons_succ, List.getElem_cons_zero, List.setIfInBounds_toArray, List.set_cons_zero, List.set_cons_succ]
      refine wpAnyH_take (i := 30) (v := .bool false) rfl (by kernel_rfl) (by kernel_rfl) (by kernel_rfl) (fun _ _ _ h => h) (Or.inl ⟨by kernel_rfl, ?_⟩) hS ?_
      · intro w' hSw
        obtain ⟨s0, s1, s2, s3, s4, s5, s6⟩ := hSw
        go_simp
      try simp only [Act.put, List.getElem_toArray, List.getElem_cons_succ, List.getElem_cons_zero, List.setIfInBounds_toArray, List.set_cons_zero, List.set_cons_succ]
      refine wpAnyH_take (i := 31) (v := .bool false) rfl (by kernel_rfl) (by kernel_rfl) (by kernel_rfl) (fun _ _ _ h => h) (Or.inl ⟨by kernel_rfl, ?_⟩) hS ?_
      · intro w' hSw
        obtain ⟨s0, s1, s2, s3, s4, s5, s6⟩ := hSw
        go_simp
      try simp only [Act.put, List.getElem_toArray, List.getElem_cons_succ, List.getElem_cons_zero, List.setIfInBounds_toArray, List.set_cons_zero, List.set_cons_succ]
      refine wpAnyH_take (i := 32) (v := .slice (some ⟨q2, 0, none⟩) (nm + 1) (nm + 1)) rfl (by kernel_rfl) (by kernel_rfl) (by kernel_rfl) (fun _ _ _ h => h) (Or.inl ⟨by kernel_rfl, ?_⟩) hS ?_
      · intro w' hSw
        obtain ⟨s0, s1, s2, s3, s4, s5, s6⟩ := hSw
        go_simp
      try simp only [Act.put, List.getElem_toArray, List.getElem_cons_succ, List.getElem_cons_zero, List.setIfInBounds_toArray, List.set_cons_zero, List.set_cons_succ]
      refine wpAnyH_take (i := 33) (v := .slice Am nm cm) rfl (by kernel_rfl) (by kernel_rfl) (by kernel_rfl) (fun _ _ _ h => h) (Or.inl ⟨by kernel_rfl, ?_⟩) hS ?_
      · intro w' hSw
        obtain ⟨s0, s1, s2, s3, s4, s5, s6⟩ := hSw
        go_simp
      try simp only [Act.put, List.getElem_toArray, List.getElem_cons_succ, List.getElem_cons_zero, List.setIfInBounds_toArray, List.set_cons_zero, List.set_cons_succ]
      refine wpAnyH_take (i := 34) (v := .int .i64 nm) rfl (by kernel_rfl) (by kernel_rfl) (by kernel_rfl) (fun _ _ _ h => h) (Or.inl ⟨by kernel_rfl, ?_⟩) hS ?_
      · intro w' hSw
        obtain ⟨s0, s1, s2, s3, s4, s5, s6⟩ := hSw
        go_simp
      try simp only [Act.put, List.getElem_toArray, List.getElem_cons_succ, List.getElem_cons_zero, List.setIfInBounds_toArray, List.set_cons_zero, List.set_cons_succ]
      refine wpAnyH_take (i := 35) (v := .pointer (some ⟨q2, nm, none⟩)) rfl (by kernel_rfl) (by kernel_rfl) (by kernel_rfl) (fun _ _ _ h => h) (Or.inl ⟨by kernel_rfl, ?_⟩) hS ?_
      · intro w' hSw
        obtain ⟨s0, s1, s2, s3, s4, s5, s6⟩ := hSw
        go_simp
        intro h; exact absurd h (by omega)
      try simp only [Act.put, List.getElem_toArray, List.getElem_cons_succ, List.getElem_cons_zero, List.setIfInBounds_toArray, List.set_cons_zero, List.set_cons_succ]
      refine wpAnyH_take (i := 36) (v := .bool pm) rfl (by kernel_rfl) (by kernel_rfl) (by kernel_rfl) (fun _ _ _ h => h) (Or.inl ⟨by kernel_rfl, ?_⟩) hS ?_
      · intro w' hSw
        obtain ⟨s0, s1, s2, s3, s4, s5, s6⟩ := hSw
        go_simp
      try simp only [Act.put, List.getElem_toArray, List.getElem_cons_succ, List.getElem_cons_zero, List.setIfInBounds_toArray, List.set_cons_zero, List.set_cons_succ]
      refine wpAnyH_take (i := 37) (v := .pointer (some ⟨w.heap.size, 4, none⟩)) rfl (by kernel_rfl) (by kernel_rfl) (by kernel_rfl) (fun _ _ _ h => h) (Or.inl ⟨by kernel_rfl, ?_⟩) hS ?_
      · intro w' hSw
        obtain ⟨s0, s1, s2, s3, s4, s5, s6⟩ := hSw
        go_simp
      try simp only [Act.put, List.getElem_toArray, List.getElem_cons_succ, List.getElem_cons_zero, List.setIfInBounds_toArray, List.set_cons_zero, List.set_cons_succ]
      refine wpAnyH_take (i := 38) (v := .bool pm) rfl (by kernel_rfl) (by kernel_rfl) (by kernel_rfl) (fun _ _ _ h => h) (Or.inl ⟨by kernel_rfl, ?_⟩) hS ?_
      · intro w' hSw
        obtain ⟨s0, s1, s2, s3, s4, s5, s6⟩ := hSw
        go_simp
      try simp only [Act.put, List.getElem_toArray, List.getElem_cons_succ, List.getElem_cons_zero, List.setIfInBounds_toArray, List.set_cons_zero, List.set_cons_succ]
      refine wpAnyH_take (i := 39) (v := .bool false) rfl (by kernel_rfl) (by kernel_rfl) (by kernel_rfl) (fun _ _ _ h => h) (Or.inl ⟨by kernel_rfl, ?_⟩) hS ?_
      · intro w' hSw
        obtain ⟨s0, s1, s2, s3, s4, s5, s6⟩ := hSw
        go_simp
      try simp only [Act.put, List.getElem_toArray, List.getElem_cons_succ, List.getElem_cons_zero, List.setIfInBounds_toArray, List.set_cons_zero, List.set_cons_succ]
      refine wpAnyH_take (i := 40) (v := .bool false) rfl (by kernel_rfl) (by kernel_rfl) (by kernel_rfl) (fun _ _ _ h => h) (Or.inl ⟨by kernel_rfl, ?_⟩) hS ?_
      · intro w' hSw
        obtain ⟨s0, s1, s2, s3, s4, s5, s6⟩ := hSw
        go_simp
      try simp only [Act.put, List.getElem_toArray, List.getElem_cons_succ, List.getElem_cons_zero, List.setIfInBounds_toArray, List.set_cons_zero, List.set_cons_succ]
      refine wpAnyH_done (by kernel_rfl) ?_ _
      try simp only [List.setIfInBounds_toArray]
      try simp only [List.getElem_toArray, List.getElem_cons_succ, List.getElem_cons_zero, List.setIfInBounds_toArray, List.set_cons_zero, List.set_cons_succ]
      replace HB := Lib.hid (HB.out.trans (hbd.mono HB.out.size))
      replace HQ1 := Lib.hid (show ∀ i d, (ds ++ [m])[i]? = some d → w10.drew.cell? ⟨q1, i, none⟩ = some (szF d) from HQ1.out)
      replace HQ2 := Lib.hid (show ∀ i d, (ds ++ [m])[i]? = some d → w10.drew.cell? ⟨q2, i, none⟩ = some (paF d) from HQ2.out)
      replace HQ3 := Lib.hid (show ∀ i d, ds[i]? = some d → w10.drew.cell? ⟨q3, i, none⟩ = some (szF d) from HQ3.out)
      clear b0 b1 b2 b3 b4 hS HKS hbd s0 u0 XM HLA
      go_wp2_with fail
      go_loopw [10] (fun i wr => ∃ (j : Nat), j ≤ nm ∧ i = .int .i64 j ∧ Hid (Below w.heap.size w wr) ∧ Hid ((∀ i d, (ds ++ [m])[i]? = some d → wr.cell? ⟨q1, i, none⟩ = some (szF d)) ∧ (∀ i d, (ds ++ [m])[i]? = some d → wr.cell? ⟨q2, i, none⟩ = some (paF d)) ∧ ∀ i d, ds[i]? = some d → wr.cell? ⟨q3, i, none⟩ = some (szF d))) (fun i _ => nm - (Go.RowKit.intOf i).toNat)
      case atStart => exact ⟨0, Nat.zero_le _, rfl, HB, Lib.hid ⟨HQ1.out, HQ2.out, HQ3.out⟩⟩
      case round =>
        obtain ⟨j, hj, rfl, HBr, HQ⟩ := hrel
        by_cases hlt : j < nm
        · obtain ⟨d, hd⟩ := at_of hdl hlt
          obtain ⟨bl, ol, B1, p1, f1, k1, g1, B2, p2, f2, rfl, e0, e1, e2, e3, e4, hl, _⟩ := (HD.out.at_ j d hd).keep HBr.out
          have hda : (ds ++ [m])[j]? = some d := by rw [List.getElem?_append_left (by omega)]; exact hd
          have c1' : wr.cell? ⟨q1, j, none⟩ = some (.int .i64 (p1 : Int)) := by rw [HQ.out.1 j d hda, szF, hl.len]
          have c2' : wr.cell? ⟨q2, j, none⟩ = some (.bool d.2) := HQ.out.2.1 j d hda
          have c3' : wr.cell? ⟨q3, j, none⟩ = some (.int .i64 (p1 : Int)) := by rw [HQ.out.2.2 j d hd, szF, hl.len]
          have hi0 : (0 : Int) ≤ (j : Int) := by omega
          have hi1 : (j : Int) < (nm : Int) := by omega
          have hi2 : (j : Int) < ((nm + 1 : Nat) : Int) := by omega
          obtain ⟨pd, hpd⟩ : ∃ p, d.2 = p := ⟨_, rfl⟩
          rw [hpd] at e4 c2'
          clear hl hda hd hpd
          go_wp2_with fail
          have HKS : Hid (∀ w' : World, Below wr.heap.size wr w' → (fun w' => w'.cell? ⟨bl, ol + j * 5, none⟩ = some (.slice B1 p1 f1) ∧ w'.cell? ⟨bl, ol + j * 5 + 4, none⟩ = some (.bool pd) ∧ w'.cell? ⟨q1, j, none⟩ = some (.int .i64 (p1 : Int)) ∧ w'.cell? ⟨q2, j, none⟩ = some (.bool pd) ∧ w'.cell? ⟨q3, j, none⟩ = some (.int .i64 (p1 : Int))) w') := Lib.hid fun w' h => ⟨(h.cell (cell_lt e0)).trans e0, (h.cell (cell_lt e4)).trans e4, (h.cell (cell_lt c1')).trans c1', (h.cell (cell_lt c2')).trans c2', (h.cell (cell_lt c3')).trans c3'⟩
          have hbd : Below wr.heap.size wr wr.drew := (Below.refl _ wr).drew
          refine wp_region_held_drew (S := fun w' => w'.cell? ⟨bl, ol + j * 5, none⟩ = some (.slice B1 p1 f1) ∧ w'.cell? ⟨bl, ol + j * 5 + 4, none⟩ = some (.bool pd) ∧ w'.cell? ⟨q1, j, none⟩ = some (.int .i64 (p1 : Int)) ∧ w'.cell? ⟨q2, j, none⟩ = some (.bool pd) ∧ w'.cell? ⟨q3, j, none⟩ = some (.int .i64 (p1 : Int))) (by kernel_rfl) (HKS.out _ hbd) (fun hS => ?_)
          simp only [List.size_toArray, List.length_cons, List.length_nil, Nat.reduceAdd]
          refine wpAnyH_take (i := 0) (v := .slice (some ⟨q1, 0, none⟩) (nm + 1) (nm + 1)) rfl (by kernel_rfl) (by kernel_rfl) (by kernel_rfl) (fun _ _ _ h => h) (Or.inl ⟨by kernel_rfl, ?_⟩) hS ?_
          · intro w' hSw
            obtain ⟨s0, s1, s2, s3, s4⟩ := hSw
            go_simp
          try simp only [Act.put, List.getElem_toArray, List.getElem_cons_zero, List.setIfInBounds_toArray, List.set_cons_zero, List.set_cons_succ]
          refine wpAnyH_take (i := 1) (v := .int .i64 j) rfl (by kernel_rfl) (by kernel_rfl) (by kernel_rfl) (fun _ _ _ h => h) (Or.inl ⟨by kernel_rfl, ?_⟩) hS ?_
          · intro w' hSw
            obtain ⟨s0, s1, s2, s3, s4⟩ := hSw
            go_simp
          try simp only [Act.put, List.getElem_toArray, List.getElem_cons_succ, List.getElem_cons_zero, List.setIfInBounds_toArray, List.set_cons_zero, List.set_cons_succ]
          refine wpAnyH_take (i := 2) (v := .pointer (some ⟨q1, j, none⟩)) rfl (by kernel_rfl) (by kernel_rfl) (by kernel_rfl) (fun _ _ _ h => h) (Or.inl ⟨by kernel_rfl, ?_⟩) hS ?_
          · intro w' hSw
            obtain ⟨s0, s1, s2, s3, s4⟩ := hSw
            go_simp
            intro h; exact absurd h (by omega)
          try simp only [Act.put, List.getElem_toArray, List.getElem_cons_succ, List.getElem_cons_zero, List.setIfInBounds_toArray, List.set_cons_zero, List.set_cons_succ]
          refine wpAnyH_take (i := 3) (v := .int .i64 p1) rfl (by kernel_rfl) (by kernel_rfl) (by kernel_rfl) (fun _ _ _ h => h) (Or.inl ⟨by kernel_rfl, ?_⟩) hS ?_
          · intro w' hSw
            obtain ⟨s0, s1, s2, s3, s4⟩ := hSw
            go_simp
          try simp only [Act.put, List.getElem_toArray, List.getElem_cons_succ, List.getElem_cons_zero, List.setIfInBounds_toArray, List.set_cons_zero, List.set_cons_succ]
          refine wpAnyH_take (i := 4) (v := .slice (some ⟨bl, ol, none⟩) nm cm) rfl (by kernel_rfl) (by kernel_rfl) (by kernel_rfl) (fun _ _ _ h => h) (Or.inl ⟨by kernel_rfl, ?_⟩) hS ?_
          · intro w' hSw
            obtain ⟨s0, s1, s2, s3, s4⟩ := hSw
            go_simp
          try simp only [Act.put, List.getElem_toArray, List.getElem_cons_succ, List.getElem_cons_zero, List.setIfInBounds_toArray, List.set_cons_zero, List.set_cons_succ]
          refine wpAnyH_take (i := 5) (v := .int .i64 j) rfl (by kernel_rfl) (by kernel_rfl) (by kernel_rfl) (fun _ _ _ h => h) (Or.inl ⟨by kernel_rfl, ?_⟩) hS ?_
          · intro w' hSw
            obtain ⟨s0, s1, s2, s3, s4⟩ := hSw
            go_simp
          try simp only [Act.put, List.getElem_toArray, List.getElem_cons_succ, List.getElem_cons_zero, List.setIfInBounds_toArray, List.set_cons_zero, List.set_cons_succ]
          refine wpAnyH_take (i := 6) (v := .pointer (some ⟨bl, ol + j * 5, none⟩)) rfl (by kernel_rfl) (by kernel_rfl) (by kernel_rfl) (fun _ _ _ h => h) (Or.inl ⟨by kernel_rfl, ?_⟩) hS ?_
          · intro w' hSw
            obtain ⟨s0, s1, s2, s3, s4⟩ := hSw
            go_simp
          try simp only [Act.put, List.getElem_toArray, List.getElem_cons_succ, List.getElem_cons_zero, List.setIfInBounds_toArray, List.set_cons_zero, List.set_cons_succ]
          refine wpAnyH_take (i := 7) (v := .pointer (some ⟨bl, ol + j * 5, none⟩)) rfl (by kernel_rfl) (by kernel_rfl) (by kernel_rfl) (fun _ _ _ h => h) (Or.inl ⟨by kernel_rfl, ?_⟩) hS ?_
          · intro w' hSw
            obtain ⟨s0, s1, s2, s3, s4⟩ := hSw
            go_simp
          try simp only [Act.put, List.getElem_toArray, List.getElem_cons_succ, List.getElem_cons_zero, List.setIfInBounds_toArray, List.set_cons_zero, List.set_cons_succ]
          refine wpAnyH_take (i := 8) (v := .slice B1 p1 f1) rfl (by kernel_rfl) (by kernel_rfl) (by kernel_rfl) (fun _ _ _ h => h) (Or.inl ⟨by kernel_rfl, ?_⟩) hS ?_
          · intro w' hSw
            obtain ⟨s0, s1, s2, s3, s4⟩ := hSw
            go_simp
          try simp only [Act.put, List.getElem_toArray, List.getElem_cons_succ, List.getElem_cons_zero, List.setIfInBounds_toArray, List.set_cons_zero, List.set_cons_succ]
          refine wpAnyH_take (i := 9) (v := .int .i64 p1) rfl (by kernel_rfl) (by kernel_rfl) (by kernel_rfl) (fun _ _ _ h => h) (Or.inl ⟨by kernel_rfl, ?_⟩) hS ?_
          · intro w' hSw
            obtain ⟨s0, s1, s2, s3, s4⟩ := hSw
            go_simp
          try simp only [Act.put, List.getElem_toArray, List.getElem_cons_succ, List.getElem_cons_zero, List.setIfInBounds_toArray, List.set_cons_zero, List.set_cons_succ]
          refine wpAnyH_take (i := 10) (v := .bool false) rfl (by kernel_rfl) (by kernel_rfl) (by kernel_rfl) (fun _ _ _ h => h) (Or.inl ⟨by kernel_rfl, ?_⟩) hS ?_
          · intro w' hSw
            obtain ⟨s0, s1, s2, s3, s4⟩ := hSw
            go_simp
          try simp only [Act.put, List.getElem_toArray, List.getElem_cons_succ, List.getElem_cons_zero, List.setIfInBounds_toArray, List.set_cons_zero, List.set_cons_succ]
          refine wpAnyH_take (i := 11) (v := .bool false) rfl (by kernel_rfl) (by kernel_rfl) (by kernel_rfl) (fun _ _ _ h => h) (Or.inl ⟨by kernel_rfl, ?_⟩) hS ?_
          · intro w' hSw
            obtain ⟨s0, s1, s2, s3, s4⟩ := hSw
            go_simp
          try simp only [Act.put, List.getElem_toArray, List.getElem_cons_succ, List.getElem_cons_zero, List.setIfInBounds_toArray, List.set_cons_zero, List.set_cons_succ]
          refine wpAnyH_take (i := 12) (v := .slice (some ⟨q2, 0, none⟩) (nm + 1) (nm + 1)) rfl (by kernel_rfl) (by kernel_rfl) (by kernel_rfl) (fun _ _ _ h => h) (Or.inl ⟨by kernel_rfl, ?_⟩) hS ?_
          · intro w' hSw
            obtain ⟨s0, s1, s2, s3, s4⟩ := hSw
            go_simp
          try simp only [Act.put, List.getElem_toArray, List.getElem_cons_succ, List.getElem_cons_zero, List.setIfInBounds_toArray, List.set_cons_zero, List.set_cons_succ]
          refine wpAnyH_take (i := 13) (v := .int .i64 j) rfl (by kernel_rfl) (by kernel_rfl) (by kernel_rfl) (fun _ _ _ h => h) (Or.inl ⟨by kernel_rfl, ?_⟩) hS ?_
          · intro w' hSw
            obtain ⟨s0, s1, s2, s3, s4⟩ := hSw
            go_simp
          try simp only [Act.put, List.getElem_toArray, List.getElem_cons_succ, List.getElem_cons_zero, List.setIfInBounds_toArray, List.set_cons_zero, List.set_cons_succ]
          refine wpAnyH_take (i := 14) (v := .pointer (some ⟨q2, j, none⟩)) rfl (by kernel_rfl) (by kernel_rfl) (by kernel_rfl) (fun _ _ _ h => h) (Or.inl ⟨by kernel_rfl, ?_⟩) hS ?_
          · intro w' hSw
            obtain ⟨s0, s1, s2, s3, s4⟩ := hSw
            go_simp
            intro h; exact absurd h (by omega)
          try simp only [Act.put, List.getElem_toArray, List.getElem_cons_succ, List.getElem_cons_zero, List.setIfInBounds_toArray, List.set_cons_zero, List.set_cons_succ]
          refine wpAnyH_take (i := 15) (v := .bool pd) rfl (by kernel_rfl) (by kernel_rfl) (by kernel_rfl) (fun _ _ _ h => h) (Or.inl ⟨by kernel_rfl, ?_⟩) hS ?_
          · intro w' hSw
            obtain ⟨s0, s1, s2, s3, s4⟩ := hSw
            go_simp
          try simp only [Act.put, List.getElem_toArray, List.getElem_cons_succ, List.getElem_cons_zero, List.setIfInBounds_toArray, List.set_cons_zero, List.set_cons_succ]
          refine wpAnyH_take (i := 16) (v := .slice (some ⟨bl, ol, none⟩) nm cm) rfl (by kernel_rfl) (by kernel_rfl) (by kernel_rfl) (fun _ _ _ h => h) (Or.inl ⟨by kernel_rfl, ?_⟩) hS ?_
          · intro w' hSw
            obtain ⟨s0, s1, s2, s3, s4⟩ := hSw
            go_simp
          try simp only [Act.put, List.getElem_toArray, List.getElem_cons_succ, List.getElem_cons_zero, List.setIfInBounds_toArray, List.set_cons_zero, List.set_cons_succ]
          refine wpAnyH_take (i := 17) (v := .int .i64 j) rfl (by kernel_rfl) (by kernel_rfl) (by kernel_rfl) (fun _ _ _ h => h) (Or.inl ⟨by kernel_rfl, ?_⟩) hS ?_
          · intro w' hSw
            obtain ⟨s0, s1, s2, s3, s4⟩ := hSw
            go_simp
          try simp only [Act.put, List.getElem_toArray, List.getElem_cons_succ, List.getElem_cons_zero, List.setIfInBounds_toArray, List.set_cons_zero, List.set_cons_succ]
          refine wpAnyH_take (i := 18) (v := .pointer (some ⟨bl, ol + j * 5, none⟩)) rfl (by kernel_rfl) (by kernel_rfl) (by kernel_rfl) (fun _ _ _ h => h) (Or.inl ⟨by kernel_rfl, ?_⟩) hS ?_
          · intro w' hSw
            obtain ⟨s0, s1, s2, s3, s4⟩ := hSw
            go_simp
          try simp only [Act.put, List.getElem_toArray, List.getElem_cons_succ, List.getElem_cons_zero, List.setIfInBounds_toArray, List.set_cons_zero, List.set_cons_succ]
          refine wpAnyH_take (i := 19) (v := .pointer (some ⟨bl, ol + j * 5 + 4, none⟩)) rfl (by kernel_rfl) (by kernel_rfl) (by kernel_rfl) (fun _ _ _ h => h) (Or.inl ⟨by kernel_rfl, ?_⟩) hS ?_
          · intro w' hSw
            obtain ⟨s0, s1, s2, s3, s4⟩ := hSw
            go_simp
          try simp only [Act.put, List.getElem_toArray, List.getElem_cons_succ, List.getElem_cons_zero, List.setIfInBounds_toArray, List.set_cons_zero, List.set_cons_succ]
          refine wpAnyH_take (i := 20) (v := .bool pd) rfl (by kernel_rfl) (by kernel_rfl) (by kernel_rfl) (fun _ _ _ h => h) (Or.inl ⟨by kernel_rfl, ?_⟩) hS ?_
          · intro w' hSw
            obtain ⟨s0, s1, s2, s3, s4⟩ := hSw
            go_simp
          try simp only [Act.put, List.getElem_toArray, List.getElem_cons_succ, List.getElem_cons_zero, List.setIfInBounds_toArray, List.set_cons_zero, List.set_cons_succ]
          refine wpAnyH_take (i := 21) (v := .bool false) rfl (by kernel_rfl) (by kernel_rfl) (by kernel_rfl) (fun _ _ _ h => h) (Or.inl ⟨by kernel_rfl, ?_⟩) hS ?_
          · intro w' hSw
            obtain ⟨s0, s1, s2, s3, s4⟩ := hSw
            go_simp
          try simp only [Act.put, List.getElem_toArray, List.getElem_cons_succ, List.getElem_cons_zero, List.setIfInBounds_toArray, List.set_cons_zero, List.set_cons_succ]
          refine wpAnyH_take (i := 22) (v := .bool false) rfl (by kernel_rfl) (by kernel_rfl) (by kernel_rfl) (fun _ _ _ h => h) (Or.inl ⟨by kernel_rfl, ?_⟩) hS ?_
          · intro w' hSw
            obtain ⟨s0, s1, s2, s3, s4⟩ := hSw
            go_simp
          try simp only [Act.put, List.getElem_toArray, List.getElem_cons_succ, List.getElem_cons_zero, List.setIfInBounds_toArray, List.set_cons_zero, List.set_cons_succ]
          refine wpAnyH_take (i := 23) (v := .bool false) rfl (by kernel_rfl) (by kernel_rfl) (by kernel_rfl) (fun _ _ _ h => h) (Or.inl ⟨by kernel_rfl, ?_⟩) hS ?_
          · intro w' hSw
            obtain ⟨s0, s1, s2, s3, s4⟩ := hSw
            go_simp
          try simp only [Act.put, List.getElem_toArray, List.getElem_cons_succ, List.getElem_cons_zero, List.setIfInBounds_toArray, List.set_cons_zero, List.set_cons_succ]
          refine wpAnyH_take (i := 24) (v := .slice (some ⟨q3, 0, none⟩) nm nm) rfl (by kernel_rfl) (by kernel_rfl) (by kernel_rfl) (fun _ _ _ h => h) (Or.inl ⟨by kernel_rfl, ?_⟩) hS ?_
          · intro w' hSw
            obtain ⟨s0, s1, s2, s3, s4⟩ := hSw
            go_simp
          try simp only [Act.put, List.getElem_toArray, List.getElem_cons_succ, List.getElem_cons_zero, List.setIfInBounds_toArray, List.set_cons_zero, List.set_cons_succ]
          refine wpAnyH_take (i := 25) (v := .int .i64 j) rfl (by kernel_rfl) (by kernel_rfl) (by kernel_rfl) (fun _ _ _ h => h) (Or.inl ⟨by kernel_rfl, ?_⟩) hS ?_
          · intro w' hSw
            obtain ⟨s0, s1, s2, s3, s4⟩ := hSw
            go_simp
          try simp only [Act.put, List.getElem_toArray, List.getElem_cons_succ, List.getElem_cons_zero, List.setIfInBounds_toArray, List.set_cons_zero, List.set_cons_succ]
          refine wpAnyH_take (i := 26) (v := .pointer (some ⟨q3, j, none⟩)) rfl (by kernel_rfl) (by kernel_rfl) (by kernel_rfl) (fun _ _ _ h => h) (Or.inl ⟨by kernel_rfl, ?_⟩) hS ?_
          · intro w' hSw
            obtain ⟨s0, s1, s2, s3, s4⟩ := hSw
            go_simp
          try simp only [Act.put, List.getElem_toArray, List.getElem_cons_succ, List.getElem_cons_zero, List.setIfInBounds_toArray, List.set_cons_zero, List.set_cons_succ]
          refine wpAnyH_take (i := 27) (v := .int .i64 p1) rfl (by kernel_rfl) (by kernel_rfl) (by kernel_rfl) (fun _ _ _ h => h) (Or.inl ⟨by kernel_rfl, ?_⟩) hS ?_
          · intro w' hSw
            obtain ⟨s0, s1, s2, s3, s4⟩ := hSw
            go_simp
          try simp only [Act.put, List.getElem_toArray, List.getElem_cons_succ, List.getElem_cons_zero, List.setIfInBounds_toArray, List.set_cons_zero, List.set_cons_succ]
          refine wpAnyH_take (i := 28) (v := .slice (some ⟨q1, 0, none⟩) (nm + 1) (nm + 1)) rfl (by kernel_rfl) (by kernel_rfl) (by kernel_rfl) (fun _ _ _ h => h) (Or.inl ⟨by kernel_rfl, ?_⟩) hS ?_
          · intro w' hSw
            obtain ⟨s0, s1, s2, s3, s4⟩ := hSw
            go_simp
          try simp only [Act.put, List.getElem_toArray, List.getElem_cons_succ, List.getElem_cons_zero, List.setIfInBounds_toArray, List.set_cons_zero, List.set_cons_succ]
          refine wpAnyH_take (i := 29) (v := .int .i64 j) rfl (by kernel_rfl) (by kernel_rfl) (by kernel_rfl) (fun _ _ _ h => h) (Or.inl ⟨by kernel_rfl, ?_⟩) hS ?_
          · intro w' hSw
            obtain ⟨s0, s1, s2, s3, s4⟩ := hSw
            go_simp
          try simp only [Act.put, List.getElem_toArray, List.getElem_cons_succ, List.getElem_cons_zero, List.setIfInBounds_toArray, List.set_cons_zero, List.set_cons_succ]
          refine wpAnyH_take (i := 30) (v := .pointer (some ⟨q1, j, none⟩)) rfl (by kernel_rfl) (by kernel_rfl) (by kernel_rfl) (fun _ _ _ h => h) (Or.inl ⟨by kernel_rfl, ?_⟩) hS ?_
          · intro w' hSw
            obtain ⟨s0, s1, s2, s3, s4⟩ := hSw
            go_simp
            intro h; exact absurd h (by omega)
          try simp only [Act.put, List.getElem_toArray, List.getElem_cons_succ, List.getElem_cons_zero, List.setIfInBounds_toArray, List.set_cons_zero, List.set_cons_succ]
          refine wpAnyH_take (i := 31) (v := .int .i64 p1) rfl (by kernel_rfl) (by kernel_rfl) (by kernel_rfl) (fun _ _ _ h => h) (Or.inl ⟨by kernel_rfl, ?_⟩) hS ?_
          · intro w' hSw
            obtain ⟨s0, s1, s2, s3, s4⟩ := hSw
            go_simp
          try simp only [Act.put, List.getElem_toArray, List.getElem_cons_succ, List.getElem_cons_zero, List.setIfInBounds_toArray, List.set_cons_zero, List.set_cons_succ]
          refine wpAnyH_take (i := 32) (v := .bool false) rfl (by kernel_rfl) (by kernel_rfl) (by kernel_rfl) (fun _ _ _ h => h) (Or.inl ⟨by kernel_rfl, ?_⟩) hS ?_
          · intro w' hSw
            obtain ⟨s0, s1, s2, s3, s4⟩ := hSw
            go_simp
          try simp only [Act.put, List.getElem_toArray, List.getElem_cons_succ, List.getElem_cons_zero, List.setIfInBounds_toArray, List.set_cons_zero, List.set_cons_succ]
          refine wpAnyH_take (i := 33) (v := .bool false) rfl (by kernel_rfl) (by kernel_rfl) (by kernel_rfl) (fun _ _ _ h => h) (Or.inl ⟨by kernel_rfl, ?_⟩) hS ?_
          · intro w' hSw
            obtain ⟨s0, s1, s2, s3, s4⟩ := hSw
            go_simp
          try simp only [Act.put, List.getElem_toArray, List.getElem_cons_succ, List.getElem_cons_zero, List.setIfInBounds_toArray, List.set_cons_zero, List.set_cons_succ]
          refine wpAnyH_done (by kernel_rfl) ?_ _
          try simp only [List.setIfInBounds_toArray]
          try simp only [List.getElem_toArray, List.getElem_cons_succ, List.getElem_cons_zero, List.setIfInBounds_toArray, List.set_cons_zero, List.set_cons_succ]
          replace HBr := Lib.hid (HBr.out.trans (hbd.mono HBr.out.size))
          replace HQ := Lib.hid (show (∀ i d, (ds ++ [m])[i]? = some d → wr.drew.cell? ⟨q1, i, none⟩ = some (szF d)) ∧ (∀ i d, (ds ++ [m])[i]? = some d → wr.drew.cell? ⟨q2, i, none⟩ = some (paF d)) ∧ ∀ i d, ds[i]? = some d → wr.drew.cell? ⟨q3, i, none⟩ = some (szF d) from HQ.out)
          clear hS HKS hbd e0 e1 e2 e3 e4 c1' c2' c3'
          go_wp2_with fail
          go_roundw
          case rel => exact ⟨j + 1, by omega, by go_num, HBr, HQ⟩
          case measure => simp [Go.RowKit.intOf]; omega
        · go_wp2_with fail
          go_ret
          exact ⟨rfl, HBr.out⟩
  · go_simp
    have hb5 : Below w2.heap.size w2 ((w2.alloc (.cells #[.slice A1 n1 c1, .int .i64 km, .int .i64 hm, .slice A2 n2 c2, .bool m.2] 39)).drew) := ((Below.refl _ w2).alloc (Nat.le_refl _) _).drew
    refine hK.out _ _ (HKS.out _ hb5) (fun hS => ?_)
    clear hK KN
    try simp only [Act.put, List.getElem_toArray, List.getElem_cons_succ, List.getElem_cons_zero, List.setIfInBounds_toArray, List.set_cons_zero, List.set_cons_succ]
    have z5 : Box ((w2.alloc (.cells #[.slice A1 n1 c1, .int .i64 km, .int .i64 hm, .slice A2 n2 c2, .bool m.2] 39)).drew) w2.heap.size 39 #[.slice A1 n1 c1, .int .i64 km, .int .i64 hm, .slice A2 n2 c2, .bool m.2] := Box.drewI (Box.new _ _ _)
    obtain ⟨P6, hP6⟩ : ∃ p, w2.heap.size = p := ⟨_, rfl⟩
    rw [hP6] at z5
    try rw [hP6]
    clear hP6
    generalize (w2.alloc (.cells #[.slice A1 n1 c1, .int .i64 km, .int .i64 hm, .slice A2 n2 c2, .bool m.2] 39)).drew = w55 at *
    refine wpAnyH_ready (rs := [1]) (by kernel_rfl) (by simp) ?_
    refine AllReadyH.cons rfl (fun KN hK => ?_) AllReadyH.nil
    obtain ⟨A5, c5, w66, cs55, hrun5, hrowB, hb66⟩ := rowP_new (HD.out.keep HB.out) (by omega) hb5
    have hbB := hb5.trans (hb66.mono hb5.size)
    have zB : Box w66 P6 39 #[.slice A1 n1 c1, .int .i64 km, .int .i64 hm, .slice A2 n2 c2, .bool m.2] := z5.keep hb66 z5.lt
    clear hb66
    refine Lib.wp_append_run _ (.const (.slice none 0 0)) (.tmp 21) 23 23 rfl _ _ rfl rfl _ _ hrun5 ?_
    refine hK.out _ _ (HKS.out _ hbB) (fun hS => ?_)
    clear hK KN
    try simp only [Act.put, List.getElem_toArray, List.getElem_cons_succ, List.getElem_cons_zero, List.setIfInBounds_toArray, List.set_cons_zero, List.set_cons_succ]
    clear hb5 z5 hrun5
    refine wpAnyH_ready (rs := [4]) (by kernel_rfl) (by simp) ?_
    refine AllReadyH.cons rfl (fun KN hK => ?_) AllReadyH.nil
    obtain ⟨g7, cap7, w77, cs77, hrun7, hr7, hb7, _, _⟩ := rowP_one hrowB zB ⟨HX.out.1.keep HB.out, Rd.keep HB.out _ _ HX.out.2⟩ (by omega) hbB
    have hcl7 := hr7.lst hb7
    refine Lib.wp_append_run _ (.tmp 22) (.tmp 24) 23 23 rfl _ _ rfl rfl _ _ hrun7 ?_
    refine hK.out _ _ (HKS.out _ hb7) (fun hS => ?_)
    clear hK KN
    try simp only [Act.put, List.getElem_toArray, List.getElem_cons_succ, List.getElem_cons_zero, List.setIfInBounds_toArray, List.set_cons_zero, List.set_cons_succ]
    clear hr7 hbB hrowB zB hrun7
    refine wpAnyH_ready (rs := [5]) (by kernel_rfl) (by simp) ?_
    refine AllReadyH.cons rfl (fun KN hK => ?_) AllReadyH.nil
    go_simp
    refine (szC (ds ++ [m]) _ (nm + 1) cap7 w77 hcl7 (by omega)).mono ?_
    rintro e wB ⟨q1, rfl, hq, hb8⟩
    have hbd := hb7.trans (hb8.mono hb7.size)
    have HQ1 := Lib.hid hq
    clear hb8 hq hb7 hcl7
    refine hK.out _ _ (HKS.out _ hbd) (fun hS => ?_)
    clear hK KN
    try simp only [Act.put, List.getElem_toArray, List.getElem_cons_succ, List.getElem_cons_zero, List.setIfInBounds_toArray, List.set_cons_zero, List.set_cons_succ]
    refine wpAnyH_take (i := 6) (v := .slice (some ⟨q1, 0, none⟩) (nm + 1) (nm + 1)) rfl (by kernel_rfl) (by kernel_rfl) (by kernel_rfl) (fun _ _ _ h => h) (Or.inl ⟨by kernel_rfl, ?_⟩) hS ?_
    · intro w' hSw
      obtain ⟨s0, s1, s2, s3, s4⟩ := hSw
      go_simp
    try simp only [Act.put, List.getElem_toArray, List.getElem_cons_succ, List.getElem_cons_zero, List.setIfInBounds_toArray, List.set_cons_zero, List.set_cons_succ]
    refine wpAnyH_done (by kernel_rfl) ?_ _
    try simp only [List.setIfInBounds_toArray]
    try simp only [List.getElem_toArray, List.getElem_cons_succ, List.getElem_cons_zero, List.setIfInBounds_toArray, List.set_cons_zero, List.set_cons_succ]
    replace XM := Lib.hid (XM.out.keep hbd XM.out.lt)
    replace HB := Lib.hid (HB.out.trans (hbd.mono HB.out.size))
    clear b0 b1 b2 b3 b4 hS HKS hbd
    have b0 : wB.cell? ⟨w.heap.size, 0, none⟩ = some (.slice A1 n1 c1) := XM.out.cell 0
    have b1 : wB.cell? ⟨w.heap.size, 1, none⟩ = some (.int .i64 km) := XM.out.cell 1
    have b2 : wB.cell? ⟨w.heap.size, 2, none⟩ = some (.int .i64 hm) := XM.out.cell 2
    have b3 : wB.cell? ⟨w.heap.size, 3, none⟩ = some (.slice A2 n2 c2) := XM.out.cell 3
    have b4 : wB.cell? ⟨w.heap.size, 4, none⟩ = some (.bool m.2) := XM.out.cell 4
    go_wp2_with fail
    have HKS : Hid (∀ w' : World, Below wB.heap.size wB w' → (fun w' => w'.cell? ⟨w.heap.size, 0, none⟩ = some (.slice A1 n1 c1) ∧ w'.cell? ⟨w.heap.size, 1, none⟩ = some (.int .i64 km) ∧ w'.cell? ⟨w.heap.size, 2, none⟩ = some (.int .i64 hm) ∧ w'.cell? ⟨w.heap.size, 3, none⟩ = some (.slice A2 n2 c2) ∧ w'.cell? ⟨w.heap.size, 4, none⟩ = some (.bool m.2)) w') := Lib.hid fun w' h => ⟨(h.cell (cell_lt b0)).trans b0, (h.cell (cell_lt b1)).trans b1, (h.cell (cell_lt b2)).trans b2, (h.cell (cell_lt b3)).trans b3, (h.cell (cell_lt b4)).trans b4⟩
    have hbd : Below wB.heap.size wB wB.drew := (Below.refl _ wB).drew
    refine wp_region_held_drew (S := fun w' => w'.cell? ⟨w.heap.size, 0, none⟩ = some (.slice A1 n1 c1) ∧ w'.cell? ⟨w.heap.size, 1, none⟩ = some (.int .i64 km) ∧ w'.cell? ⟨w.heap.size, 2, none⟩ = some (.int .i64 hm) ∧ w'.cell? ⟨w.heap.size, 3, none⟩ = some (.slice A2 n2 c2) ∧ w'.cell? ⟨w.heap.size, 4, none⟩ = some (.bool m.2)) (by kernel_rfl) (HKS.out _ hbd) (fun hS => ?_)
    simp only [List.size_toArray, List.length_cons, List.length_nil, Nat.reduceAdd]
    refine wpAnyH_take (i := 0) (v := .slice Am nm cm) rfl (by kernel_rfl) (by kernel_rfl) (by kernel_rfl) (fun _ _ _ h => h) (Or.inl ⟨by kernel_rfl, ?_⟩) hS ?_
    · intro w' hSw
      obtain ⟨s0, s1, s2, s3, s4⟩ := hSw
      go_simp
    try simp only [Act.put, List.getElem_toArray, List.getElem_cons_zero, List.setIfInBounds_toArray, List.set_cons_zero, List.set_cons_succ]
    refine wpAnyH_take (i := 2) (v := .agg #[.slice A1 n1 c1, .int .i64 km, .int .i64 hm, .slice A2 n2 c2, .bool m.2]) rfl (by kernel_rfl) (by kernel_rfl) (by kernel_rfl) (fun _ _ _ h => h) (Or.inl ⟨by kernel_rfl, ?_⟩) hS ?_
    · intro w' hSw
      obtain ⟨s0, s1, s2, s3, s4⟩ := hSw
      go_simp
    try simp only [Act.put, List.getElem_toArray, List.getElem_cons_succ, List.getElem_cons_zero, List.setIfInBounds_toArray, List.set_cons_zero, List.set_cons_succ]
    refine wpAnyH_ready (rs := [1, 3]) (by kernel_rfl) (by simp) ?_
    refine AllReadyH.cons rfl (fun KN hK => ?_) (AllReadyH.cons rfl (fun KN hK => ?_) AllReadyH.nil)
    · obtain ⟨A5, c5, w55, cs55, hrun5, hrow5, hb55⟩ := rowP_new (HD.out.keep HB.out) (by omega) hbd
      have hb5 := hbd.trans (hb55.mono hbd.size)
      clear hb55
      refine Lib.wp_append_run _ (.const (.slice none 0 0)) (.tmp 27) 23 23 rfl _ _ rfl rfl _ _ hrun5 ?_
      refine hK.out _ _ (HKS.out _ hb5) (fun hS => ?_)
      clear hK KN
      try simp only [Act.put, List.getElem_toArray, List.getElem_cons_succ, List.getElem_cons_zero, List.setIfInBounds_toArray, List.set_cons_zero, List.set_cons_succ]
      refine wpAnyH_ready (rs := [3]) (by kernel_rfl) (by simp) ?_
      refine AllReadyH.cons rfl (fun KN hK => ?_) AllReadyH.nil
      go_simp
      have hbB : Below wB.heap.size wB (w55.alloc (.cells #[.slice A1 n1 c1, .int .i64 km, .int .i64 hm, .slice A2 n2 c2, .bool m.2] 39)) := hb5.alloc hb5.size _
      refine hK.out _ _ (HKS.out _ hbB) (fun hS => ?_)
      clear hK KN
      try simp only [Act.put, List.getElem_toArray, List.getElem_cons_succ, List.getElem_cons_zero, List.setIfInBounds_toArray, List.set_cons_zero, List.set_cons_succ]
      have hrowB := hrow5.kept (show Below w55.heap.size w55 (w55.alloc (.cells #[.slice A1 n1 c1, .int .i64 km, .int .i64 hm, .slice A2 n2 c2, .bool m.2] 39)) from (Below.refl _ _).alloc (Nat.le_refl _) _)
      have zB : Box (w55.alloc (.cells #[.slice A1 n1 c1, .int .i64 km, .int .i64 hm, .slice A2 n2 c2, .bool m.2] 39)) w55.heap.size 39 #[.slice A1 n1 c1, .int .i64 km, .int .i64 hm, .slice A2 n2 c2, .bool m.2] := Box.new _ _ _
      clear hrow5 hb5 hrun5
      generalize w55.alloc (.cells #[.slice A1 n1 c1, .int .i64 km, .int .i64 hm, .slice A2 n2 c2, .bool m.2] 39) = w66 at *
      generalize w55.heap.size = P6 at *
      refine wpAnyH_ready (rs := [4]) (by kernel_rfl) (by simp) ?_
      refine AllReadyH.cons rfl (fun KN hK => ?_) AllReadyH.nil
      obtain ⟨g7, cap7, w77, cs77, hrun7, hr7, hb7, _, _⟩ := rowP_one hrowB zB ⟨HX.out.1.keep HB.out, Rd.keep HB.out _ _ HX.out.2⟩ (by omega) hbB
      have hcl7 := hr7.lst hb7
      refine Lib.wp_append_run _ (.tmp 28) (.tmp 30) 23 23 rfl _ _ rfl rfl _ _ hrun7 ?_
      refine hK.out _ _ (HKS.out _ hb7) (fun hS => ?_)
      clear hK KN
      try simp only [Act.put, List.getElem_toArray, List.getElem_cons_succ, List.getElem_cons_zero, List.setIfInBounds_toArray, List.set_cons_zero, List.set_cons_succ]
      clear hr7 hbB hrowB zB hrun7
      refine wpAnyH_ready (rs := [5]) (by kernel_rfl) (by simp) ?_
      refine AllReadyH.cons rfl (fun KN hK => ?_) AllReadyH.nil
      go_simp
      refine (paC (ds ++ [m]) _ (nm + 1) cap7 w77 hcl7 (by omega)).mono ?_
      rintro e wC ⟨q2, rfl, hq, hb8⟩
      have hbd := hb7.trans (hb8.mono hb7.size)
      have HQ2 := Lib.hid hq
      clear hb8 hq hb7 hcl7
      refine hK.out _ _ (HKS.out _ hbd) (fun hS => ?_)
      clear hK KN
      try simp only [Act.put, List.getElem_toArray, List.getElem_cons_succ, List.getElem_cons_zero, List.setIfInBounds_toArray, List.set_cons_zero, List.set_cons_succ]
      refine wpAnyH_take (i := 6) (v := .slice (some ⟨q2, 0, none⟩) (nm + 1) (nm + 1)) rfl (by kernel_rfl) (by kernel_rfl) (by kernel_rfl) (fun _ _ _ h => h) (Or.inl ⟨by kernel_rfl, ?_⟩) hS ?_
      · intro w' hSw
        obtain ⟨s0, s1, s2, s3, s4⟩ := hSw
        go_simp
      try simp only [Act.put, List.getElem_toArray, List.getElem_cons_succ, List.getElem_cons_zero, List.setIfInBounds_toArray, List.set_cons_zero, List.set_cons_succ]
      refine wpAnyH_done (by kernel_rfl) ?_ _
      try simp only [List.setIfInBounds_toArray]
      try simp only [List.getElem_toArray, List.getElem_cons_succ, List.getElem_cons_zero, List.setIfInBounds_toArray, List.set_cons_zero, List.set_cons_succ]
      replace XM := Lib.hid (XM.out.keep hbd XM.out.lt)
      replace HB := Lib.hid (HB.out.trans (hbd.mono HB.out.size))
      replace HQ1 := Lib.hid (show ∀ i d, (ds ++ [m])[i]? = some d → wC.cell? ⟨q1, i, none⟩ = some (szF d) from fun i d hi => (hbd.cell (cell_lt (HQ1.out i d hi))).trans (HQ1.out i d hi))
      clear b0 b1 b2 b3 b4 hS HKS hbd
      have b0 : wC.cell? ⟨w.heap.size, 0, none⟩ = some (.slice A1 n1 c1) := XM.out.cell 0
      have b1 : wC.cell? ⟨w.heap.size, 1, none⟩ = some (.int .i64 km) := XM.out.cell 1
      have b2 : wC.cell? ⟨w.heap.size, 2, none⟩ = some (.int .i64 hm) := XM.out.cell 2
      have b3 : wC.cell? ⟨w.heap.size, 3, none⟩ = some (.slice A2 n2 c2) := XM.out.cell 3
      have b4 : wC.cell? ⟨w.heap.size, 4, none⟩ = some (.bool m.2) := XM.out.cell 4
      go_wp2_with fail
      clear b0 b1 b2 b3 b4
      refine (szC ds Am nm cm wC (HD.out.keep HB.out) (by omega)).mono ?_
      rintro e w10 ⟨q3, rfl, hq, hb1⟩
      have HQ3 := Lib.hid hq
      replace HQ1 := Lib.hid (show ∀ i d, (ds ++ [m])[i]? = some d → w10.cell? ⟨q1, i, none⟩ = some (szF d) from fun i d hi => (hb1.cell (cell_lt (HQ1.out i d hi))).trans (HQ1.out i d hi))
      replace HQ2 := Lib.hid (show ∀ i d, (ds ++ [m])[i]? = some d → w10.cell? ⟨q2, i, none⟩ = some (paF d) from fun i d hi => (hb1.cell (cell_lt (HQ2.out i d hi))).trans (HQ2.out i d hi))
      replace XM := Lib.hid (XM.out.keep hb1 XM.out.lt)
      replace HB := Lib.hid (HB.out.trans (hb1.mono HB.out.size))
      clear hb1 hq
      have b0 : w10.cell? ⟨w.heap.size, 0, none⟩ = some (.slice A1 n1 c1) := XM.out.cell 0
      have b1 : w10.cell? ⟨w.heap.size, 1, none⟩ = some (.int .i64 km) := XM.out.cell 1
      have b2 : w10.cell? ⟨w.heap.size, 2, none⟩ = some (.int .i64 hm) := XM.out.cell 2
      have b3 : w10.cell? ⟨w.heap.size, 3, none⟩ = some (.slice A2 n2 c2) := XM.out.cell 3
      have b4 : w10.cell? ⟨w.heap.size, 4, none⟩ = some (.bool m.2) := XM.out.cell 4
      have hlast : (ds ++ [m])[nm]? = some m := by rw [← hdl, List.getElem?_append_right (Nat.le_refl _), Nat.sub_self]; rfl
      have s0 : w10.cell? ⟨q1, nm, none⟩ = some (.int .i64 (n1 : Int)) := by rw [HQ1.out nm m hlast, szF, hxl]
      have u0 : w10.cell? ⟨q2, nm, none⟩ = some (.bool m.2) := HQ2.out nm m hlast
      have hw : IntKind.i64.wrap ((nm : Int) + 1) = (nm : Int) + 1 := by rw [wrapEq]; exact wrap_small (by omega) (by omega)
      have hn0 : (0 : Int) ≤ (nm : Int) := by omega
      have hn1 : (nm : Int) < ((nm + 1 : Nat) : Int) := by omega
      have hn2 : (((nm + 1 : Nat) : Int)) = (nm : Int) + 1 := by omega
      have HLA := Lib.hid hlast
      clear hlast
      obtain ⟨pm, hpm⟩ : ∃ p, m.2 = p := ⟨_, rfl⟩
      rw [hpm] at b4 u0 XM
      go_wp2_with fail
      have HKS : Hid (∀ w' : World, Below w10.heap.size w10 w' → (fun w' => w'.cell? ⟨w.heap.size, 0, none⟩ = some (.slice A1 n1 c1) ∧ w'.cell? ⟨w.heap.size, 1, none⟩ = some (.int .i64 km) ∧ w'.cell? ⟨w.heap.size, 2, none⟩ = some (.int .i64 hm) ∧ w'.cell? ⟨w.heap.size, 3, none⟩ = some (.slice A2 n2 c2) ∧ w'.cell? ⟨w.heap.size, 4, none⟩ = some (.bool pm) ∧ w'.cell? ⟨q1, nm, none⟩ = some (.int .i64 (n1 : Int)) ∧ w'.cell? ⟨q2, nm, none⟩ = some (.bool pm)) w') := Lib.hid fun w' h => ⟨(h.cell (cell_lt b0)).trans b0, (h.cell (cell_lt b1)).trans b1, (h.cell (cell_lt b2)).trans b2, (h.cell (cell_lt b3)).trans b3, (h.cell (cell_lt b4)).trans b4, (h.cell (cell_lt s0)).trans s0, (h.cell (cell_lt u0)).trans u0⟩
      have hbd : Below w10.heap.size w10 w10.drew := (Below.refl _ w10).drew
      refine wp_region_held_drew (S := fun w' => w'.cell? ⟨w.heap.size, 0, none⟩ = some (.slice A1 n1 c1) ∧ w'.cell? ⟨w.heap.size, 1, none⟩ = some (.int .i64 km) ∧ w'.cell? ⟨w.heap.size, 2, none⟩ = some (.int .i64 hm) ∧ w'.cell? ⟨w.heap.size, 3, none⟩ = some (.slice A2 n2 c2) ∧ w'.cell? ⟨w.heap.size, 4, none⟩ = some (.bool pm) ∧ w'.cell? ⟨q1, nm, none⟩ = some (.int .i64 (n1 : Int)) ∧ w'.cell? ⟨q2, nm, none⟩ = some (.bool pm)) (by kernel_rfl) (HKS.out _ hbd) (fun hS => ?_)
      simp only [List.size_toArray, List.length_cons, List.length_nil, Nat.reduceAdd]
      refine wpAnyH_take (i := 0) (v := .slice (some ⟨q1, 0, none⟩) (nm + 1) (nm + 1)) rfl (by kernel_rfl) (by kernel_rfl) (by kernel_rfl) (fun _ _ _ h => h) (Or.inl ⟨by kernel_rfl, ?_⟩) hS ?_
      · intro w' hSw
        obtain ⟨s0, s1, s2, s3, s4, s5, s6⟩ := hSw
        go_simp
      try simp only [Act.put, List.getElem_toArray, List.getElem_cons_zero, List.setIfInBounds_toArray, List.set_cons_zero, List.set_cons_succ]
      refine wpAnyH_take (i := 1) (v := .int .i64 ((nm + 1 : Nat) : Int)) rfl (by kernel_rfl) (by kernel_rfl) (by kernel_rfl) (fun _ _ _ h => h) (Or.inl ⟨by kernel_rfl, ?_⟩) hS ?_
      · intro w' hSw
        obtain ⟨s0, s1, s2, s3, s4, s5, s6⟩ := hSw
        go_simp
      try simp only [Act.put, List.getElem_toArray, List.getElem_cons_succ, List.getElem_cons_zero, List.setIfInBounds_toArray, List.set_cons_zero, List.set_cons_succ]
      refine wpAnyH_take (i := 2) (v := .slice Am nm cm) rfl (by kernel_rfl) (by kernel_rfl) (by kernel_rfl) (fun _ _ _ h => h) (Or.inl ⟨by kernel_rfl, ?_⟩) hS ?_
      · intro w' hSw
        obtain ⟨s0, s1, s2, s3, s4, s5, s6⟩ := hSw
        go_simp
      try simp only [Act.put, List.getElem_toArray, List.getElem_cons_succ, List.getElem_cons_zero, List.setIfInBounds_toArray, List.set_cons_zero, List.set_cons_succ]
      refine wpAnyH_take (i := 3) (v := .int .i64 nm) rfl (by kernel_rfl) (by kernel_rfl) (by kernel_rfl) (fun _ _ _ h => h) (Or.inl ⟨by kernel_rfl, ?_⟩) hS ?_
      · intro w' hSw
        obtain ⟨s0, s1, s2, s3, s4, s5, s6⟩ := hSw
        go_simp
      try simp only [Act.put, List.getElem_toArray, List.getElem_cons_succ, List.getElem_cons_zero, List.setIfInBounds_toArray, List.set_cons_zero, List.set_cons_succ]
      refine wpAnyH_take (i := 4) (v := .int .i64 ((nm : Int) + 1)) rfl (by kernel_rfl) (by kernel_rfl) (by kernel_rfl) (fun _ _ _ h => h) (Or.inl ⟨by kernel_rfl, ?_⟩) hS ?_
      · intro w' hSw
        obtain ⟨s0, s1, s2, s3, s4, s5, s6⟩ := hSw
        go_simp
      try simp only [Act.put, List.getElem_toArray, List.getElem_cons_succ, List.getElem_cons_zero, List.setIfInBounds_toArray, List.set_cons_zero, List.set_cons_succ]
      refine wpAnyH_take (i := 5) (v := .bool false) rfl (by kernel_rfl) (by kernel_rfl) (by kernel_rfl) (fun _ _ _ h => h) (Or.inl ⟨by kernel_rfl, ?_⟩) hS ?_
      · intro w' hSw
        obtain ⟨s0, s1, s2, s3, s4, s5, s6⟩ := hSw
        go_simp
      try simp only [Act.put, List.getElem_toArray, List.getElem_cons_succ, List.getElem_cons_zero, List.setIfInBounds_toArray, List.set_cons_zero, List.set_cons_succ]
      refine wpAnyH_take (i := 6) (v := .bool false) rfl (by kernel_rfl) (by kernel_rfl) (by kernel_rfl) (fun _ _ _ h => h) (Or.inl ⟨by kernel_rfl, ?_⟩) hS ?_
      · intro w' hSw
        obtain ⟨s0, s1, s2, s3, s4, s5, s6⟩ := hSw
        go_simp
      try simp only [Act.put, List.getElem_toArray, List.getElem_cons_succ, List.getElem_cons_zero, List.setIfInBounds_toArray, List.set_cons_zero, List.set_cons_succ]
      refine wpAnyH_take (i := 7) (v := .slice (some ⟨q2, 0, none⟩) (nm + 1) (nm + 1)) rfl (by kernel_rfl) (by kernel_rfl) (by kernel_rfl) (fun _ _ _ h => h) (Or.inl ⟨by kernel_rfl, ?_⟩) hS ?_
      · intro w' hSw
        obtain ⟨s0, s1, s2, s3, s4, s5, s6⟩ := hSw
        go_simp
      try simp only [Act.put, List.getElem_toArray, List.getElem_cons_succ, List.getElem_cons_zero, List.setIfInBounds_toArray, List.set_cons_zero, List.set_cons_succ]
      refine wpAnyH_take (i := 8) (v := .int .i64 ((nm + 1 : Nat) : Int)) rfl (by kernel_rfl) (by kernel_rfl) (by kernel_rfl) (fun _ _ _ h => h) (Or.inl ⟨by kernel_rfl, ?_⟩) hS ?_
      · intro w' hSw
        obtain ⟨s0, s1, s2, s3, s4, s5, s6⟩ := hSw
        go_simp
      try simp only [Act.put, List.getElem_toArray, List.getElem_cons_succ, List.getElem_cons_zero, List.setIfInBounds_toArray, List.set_cons_zero, List.set_cons_succ]
      refine wpAnyH_take (i := 9) (v := .slice (some ⟨q1, 0, none⟩) (nm + 1) (nm + 1)) rfl (by kernel_rfl) (by kernel_rfl) (by kernel_rfl) (fun _ _ _ h => h) (Or.inl ⟨by kernel_rfl, ?_⟩) hS ?_
      · intro w' hSw
        obtain ⟨s0, s1, s2, s3, s4, s5, s6⟩ := hSw
        go_simp
      try simp only [Act.put, List.getElem_toArray, List.getElem_cons_succ, List.getElem_cons_zero, List.setIfInBounds_toArray, List.set_cons_zero, List.set_cons_succ]
      refine wpAnyH_take (i := 10) (v := .int .i64 ((nm + 1 : Nat) : Int)) rfl (by kernel_rfl) (by kernel_rfl) (by kernel_rfl) (fun _ _ _ h => h) (Or.inl ⟨by kernel_rfl, ?_⟩) hS ?_
      · intro w' hSw
        obtain ⟨s0, s1, s2, s3, s4, s5, s6⟩ := hSw
        go_simp
      try simp only [Act.put, List.getElem_toArray, List.getElem_cons_succ, List.getElem_cons_zero, List.setIfInBounds_toArray, List.set_cons_zero, List.set_cons_succ]
      refine wpAnyH_take (i := 11) (v := .bool false) rfl (by kernel_rfl) (by kernel_rfl) (by kernel_rfl) (fun _ _ _ h => h) (Or.inl ⟨by kernel_rfl, ?_⟩) hS ?_
      · intro w' hSw
        obtain ⟨s0, s1, s2, s3, s4, s5, s6⟩ := hSw
        go_simp
      try simp only [Act.put, List.getElem_toArray, List.getElem_cons_succ, List.getElem_cons_zero, List.setIfInBounds_toArray, List.set_cons_zero, List.set_cons_succ]
      refine wpAnyH_take (i := 12) (v := .bool false) rfl (by kernel_rfl) (by kernel_rfl) (by kernel_rfl) (fun _ _ _ h => h) (Or.inl ⟨by kernel_rfl, ?_⟩) hS ?_
      · intro w' hSw
        obtain ⟨s0, s1, s2, s3, s4, s5, s6⟩ := hSw
        go_simp
      try simp only [Act.put, List.getElem_toArray, List.getElem_cons_succ, List.getElem_cons_zero, List.setIfInBounds_toArray, List.set_cons_zero, List.set_cons_succ]
      refine wpAnyH_take (i := 13) (v := .bool false) rfl (by kernel_rfl) (by kernel_rfl) (by kernel_rfl) (fun _ _ _ h => h) (Or.inl ⟨by kernel_rfl, ?_⟩) hS ?_
      · intro w' hSw
        obtain ⟨s0, s1, s2, s3, s4, s5, s6⟩ := hSw
        go_simp
      try simp only [Act.put, List.getElem_toArray, List.getElem_cons_succ, List.getElem_cons_zero, List.setIfInBounds_toArray, List.set_cons_zero, List.set_cons_succ]
      refine wpAnyH_take (i := 14) (v := .slice (some ⟨q3, 0, none⟩) nm nm) rfl (by kernel_rfl) (by kernel_rfl) (by kernel_rfl) (fun _ _ _ h => h) (Or.inl ⟨by kernel_rfl, ?_⟩) hS ?_
      · intro w' hSw
        obtain ⟨s0, s1, s2, s3, s4, s5, s6⟩ := hSw
        go_simp
      try simp only [Act.put, List.getElem_toArray, List.getElem_cons_succ, List.getElem_cons_zero, List.setIfInBounds_toArray, List.set_cons_zero, List.set_cons_succ]
      refine wpAnyH_take (i := 15) (v := .int .i64 nm) rfl (by kernel_rfl) (by kernel_rfl) (by kernel_rfl) (fun _ _ _ h => h) (Or.inl ⟨by kernel_rfl, ?_⟩) hS ?_
      · intro w' hSw
        obtain ⟨s0, s1, s2, s3, s4, s5, s6⟩ := hSw
        go_simp
      try simp only [Act.put, List.getElem_toArray, List.getElem_cons_succ, List.getElem_cons_zero, List.setIfInBounds_toArray, List.set_cons_zero, List.set_cons_succ]
      refine wpAnyH_take (i := 16) (v := .slice Am nm cm) rfl (by kernel_rfl) (by kernel_rfl) (by kernel_rfl) (fun _ _ _ h => h) (Or.inl ⟨by kernel_rfl, ?_⟩) hS ?_
      · intro w' hSw
        obtain ⟨s0, s1, s2, s3, s4, s5, s6⟩ := hSw
        go_simp
      try simp only [Act.put, List.getElem_toArray, List.getElem_cons_succ, List.getElem_cons_zero, List.setIfInBounds_toArray, List.set_cons_zero, List.set_cons_succ]
      refine wpAnyH_take (i := 17) (v := .int .i64 nm) rfl (by kernel_rfl) (by kernel_rfl) (by kernel_rfl) (fun _ _ _ h => h) (Or.inl ⟨by kernel_rfl, ?_⟩) hS ?_
      · intro w' hSw
        obtain ⟨s0, s1, s2, s3, s4, s5, s6⟩ := hSw
        go_simp
      try simp only [Act.put, List.getElem_toArray, List.getElem_cons_succ, List.getElem_cons_zero, List.setIfInBounds_toArray, List.set_cons_zero, List.set_cons_succ]
      refine wpAnyH_take (i := 18) (v := .bool false) rfl (by kernel_rfl) (by kernel_rfl) (by kernel_rfl) (fun _ _ _ h => h) (Or.inl ⟨by kernel_rfl, ?_⟩) hS ?_
      · intro w' hSw
        obtain ⟨s0, s1, s2, s3, s4, s5, s6⟩ := hSw
        go_simp
      try simp only [Act.put, List.getElem_toArray, List.getElem_cons_succ, List.getElem_cons_zero, List.setIfInBounds_toArray, List.set_cons_zero, List.set_cons_succ]
      refine wpAnyH_take (i := 19) (v := .bool false) rfl (by kernel_rfl) (by kernel_rfl) (by kernel_rfl) (fun _ _ _ h => h) (Or.inl ⟨by kernel_rfl, ?_⟩) hS ?_
      · intro w' hSw
        obtain ⟨s0, s1, s2, s3, s4, s5, s6⟩ := hSw
        go_simp
      try simp only [Act.put, List.getElem_toArray, List.getElem_cons_succ, List.getElem_cons_zero, List.setIfInBounds_toArray, List.set_cons_zero, List.set_cons_succ]
      refine wpAnyH_take (i := 20) (v := .bool false) rfl (by kernel_rfl) (by kernel_rfl) (by kernel_rfl) (fun _ _ _ h => h) (Or.inl ⟨by kernel_rfl, ?_⟩) hS ?_
      · intro w' hSw
        obtain ⟨s0, s1, s2, s3, s4, s5, s6⟩ := hSw
        go_simp
      try simp only [Act.put, List.getElem_toArray, List.getElem_cons_succ, List.getElem_cons_zero, List.setIfInBounds_toArray, List.set_cons_zero, List.set_cons_succ]
      refine wpAnyH_take (i := 21) (v := .slice (some ⟨q1, 0, none⟩) (nm + 1) (nm + 1)) rfl (by kernel_rfl) (by kernel_rfl) (by kernel_rfl) (fun _ _ _ h => h) (Or.inl ⟨by kernel_rfl, ?_⟩) hS ?_
      · intro w' hSw
        obtain ⟨s0, s1, s2, s3, s4, s5, s6⟩ := hSw
        go_simp
      try simp only [Act.put, List.getElem_toArray, List.getElem_cons_succ, List.getElem_cons_zero, List.setIfInBounds_toArray, List.set_cons_zero, List.set_cons_succ]
      refine wpAnyH_take (i := 22) (v := .slice Am nm cm) rfl (by kernel_rfl) (by kernel_rfl) (by kernel_rfl) (fun _ _ _ h => h) (Or.inl ⟨by kernel_rfl, ?_⟩) hS ?_
      · intro w' hSw
        obtain ⟨s0, s1, s2, s3, s4, s5, s6⟩ := hSw
        go_simp
      try simp only [Act.put, List.getElem_toArray, List.getElem_cons_succ, List.getElem_cons_zero, List.setIfInBounds_toArray, List.set_cons_zero, List.set_cons_succ]
      refine wpAnyH_take (i := 23) (v := .int .i64 nm) rfl (by kernel_rfl) (by kernel_rfl) (by kernel_rfl) (fun _ _ _ h => h) (Or.inl ⟨by kernel_rfl, ?_⟩) hS ?_
      · intro w' hSw
        obtain ⟨s0, s1, s2, s3, s4, s5, s6⟩ := hSw
        go_simp
      try simp only [Act.put, List.getElem_toArray, List.getElem_cons_succ, List.getElem_cons_zero, List.setIfInBounds_toArray, List.set_cons_zero, List.set_cons_succ]
      refine wpAnyH_take (i := 24) (v := .pointer (some ⟨q1, nm, none⟩)) rfl (by kernel_rfl) (by kernel_rfl) (by kernel_rfl) (fun _ _ _ h => h) (Or.inl ⟨by kernel_rfl, ?_⟩) hS ?_
      · intro w' hSw
        obtain ⟨s0, s1, s2, s3, s4, s5, s6⟩ := hSw
        go_simp
        intro h; exact absurd h (by omega)
      try simp only [Act.put, List.getElem_toArray, List.getElem_cons_succ, List.getElem_cons_zero, List.setIfInBounds_toArray, List.set_cons_zero, List.set_cons_succ]
      refine wpAnyH_take (i := 25) (v := .int .i64 n1) rfl (by kernel_rfl) (by kernel_rfl) (by kernel_rfl) (fun _ _ _ h => h) (Or.inl ⟨by kernel_rfl, ?_⟩) hS ?_
      · intro w' hSw
        obtain ⟨s0, s1, s2, s3, s4, s5, s6⟩ := hSw
        go_simp
      try simp only [Act.put, List.getElem_toArray, List.getElem_cons_succ, List.getElem_cons_zero, List.setIfInBounds_toArray, List.set_cons_zero, List.set_cons_succ]
      refine wpAnyH_take (i := 26) (v := .pointer (some ⟨w.heap.size, 0, none⟩)) rfl (by kernel_rfl) (by kernel_rfl) (by kernel_rfl) (fun _ _ _ h => h) (Or.inl ⟨by kernel_rfl, ?_⟩) hS ?_
      · intro w' hSw
        obtain ⟨s0, s1, s2, s3, s4, s5, s6⟩ := hSw
        go_simp
      try simp only [Act.put, List.getElem_toArray, List.getElem_cons_succ, List.getElem_cons_zero, List.setIfInBounds_toArray, List.set_cons_zero, List.set_cons_succ]
      refine wpAnyH_take (i := 27) (v := .slice A1 n1 c1) rfl (by kernel_rfl) (by kernel_rfl) (by kernel_rfl) (fun _ _ _ h => h) (Or.inl ⟨by kernel_rfl, ?_⟩) hS ?_
      · intro w' hSw
        obtain ⟨s0, s1, s2, s3, s4, s5, s6⟩ := hSw
        go_simp
      try simp only [Act.put, List.getElem_toArray, List.getElem_cons_succ, List.getElem_cons_zero, List.setIfInBounds_toArray, List.set_cons_zero, List.set_cons_succ]
      refine wpAnyH_take (i := 28) (v := .int .i64 n1) rfl (by kernel_rfl) (by kernel_rfl) (by kernel_rfl) (fun _ _ _ h => h) (Or.inl ⟨by kernel_rfl, ?_⟩) hS ?_
      · intro w' hSw
        obtain ⟨s0, s1, s2, s3, s4, s5, s6⟩ := hSw
        go_simp
      try simp only [Act.put, List.getElem_toArray, List.getElem_cons_succ, List.getElem_cons_zero, List.setIfInBounds_toArray, List.set_cons_zero, List.set_cons_succ]
      refine wpAnyH_take (i := 29) (v := .bool false) rfl (by kernel_rfl) (by kernel_rfl) (by kernel_rfl) (fun _ _ _ h => h) (Or.inl ⟨by kernel_rfl, ?_⟩) hS ?_
      · intro w' hSw
        obtain ⟨s0, s1, s2, s3, s4, s5, s6⟩ := hSw
        go_simp
      try simp only [Act.put, List.getElem_toArray, List.getElem_cons_succ, List.getElem_cons_zero, List.setIfInBounds_toArray, List.set_cons_zero, List.set_cons_succ]
      refine wpAnyH_take (i := 30) (v := .bool false) rfl (by kernel_rfl) (by kernel_rfl) (by kernel_rfl) (fun _ _ _ h => h) (Or.inl ⟨by kernel_rfl, ?_⟩) hS ?_
      · intro w' hSw
        obtain ⟨s0, s1, s2, s3, s4, s5, s6⟩ := hSw
        go_simp
      try simp only [Act.put, List.getElem_toArray, List.getElem_cons_succ, List.getElem_cons_zero, List.setIfInBounds_toArray, List.set_cons_zero, List.set_cons_succ]
      refine wpAnyH_take (i := 31) (v := .bool false) rfl (by kernel_rfl) (by kernel_rfl) (by kernel_rfl) (fun _ _ _ h => h) (Or.inl ⟨by kernel_rfl, ?_⟩) hS ?_
      · intro w' hSw
        obtain ⟨s0, s1, s2, s3, s4, s5, s6⟩ := hSw
        go_simp
      try simp only [Act.put, List.getElem_toArray, List.getElem_cons_succ, List.getElem_cons_zero, List.setIfInBounds_toArray, List.set_cons_zero, List.set_cons_succ]
      refine wpAnyH_take (i := 32) (v := .slice (some ⟨q2, 0, none⟩) (nm + 1) (nm + 1)) rfl (by kernel_rfl) (by kernel_rfl) (by kernel_rfl) (fun _ _ _ h => h) (Or.inl ⟨by kernel_rfl, ?_⟩) hS ?_
      · intro w' hSw
        obtain ⟨s0, s1, s2, s3, s4, s5, s6⟩ := hSw
        go_simp
      try simp only [Act.put, List.getElem_toArray, List.getElem_cons_succ, List.getElem_cons_zero, List.setIfInBounds_toArray, List.set_cons_zero, List.set_cons_succ]
      refine wpAnyH_take (i := 33) (v := .slice Am nm cm) rfl (by kernel_rfl) (by kernel_rfl) (by kernel_rfl) (fun _ _ _ h => h) (Or.inl ⟨by kernel_rfl, ?_⟩) hS ?_
      · intro w' hSw
        obtain ⟨s0, s1, s2, s3, s4, s5, s6⟩ := hSw
        go_simp
      try simp only [Act.put, List.getElem_toArray, List.getElem_cons_succ, List.getElem_cons_zero, List.setIfInBounds_toArray, List.set_cons_zero, List.set_cons_succ]
      refine wpAnyH_take (i := 34) (v := .int .i64 nm) rfl (by kernel_rfl) (by kernel_rfl) (by kernel_rfl) (fun _ _ _ h => h) (Or.inl ⟨by kernel_rfl, ?_⟩) hS ?_
      · intro w' hSw
        obtain ⟨s0, s1, s2, s3, s4, s5, s6⟩ := hSw
        go_simp
      try simp only [Act.put, List.getElem_toArray, List.getElem_cons_succ, List.getElem_cons_zero, List.setIfInBounds_toArray, List.set_cons_zero, List.set_cons_succ]
      refine wpAnyH_take (i := 35) (v := .pointer (some ⟨q2, nm, none⟩)) rfl (by kernel_rfl) (by kernel_rfl) (by kernel_rfl) (fun _ _ _ h => h) (Or.inl ⟨by kernel_rfl, ?_⟩) hS ?_
      · intro w' hSw
        obtain ⟨s0, s1, s2, s3, s4, s5, s6⟩ := hSw
        go_simp
        intro h; exact absurd h (by omega)
      try simp only [Act.put, List.getElem_toArray, List.getElem_cons_succ, List.getElem_cons_zero, List.setIfInBounds_toArray, List.set_cons_zero, List.set_cons_succ]
      refine wpAnyH_take (i := 36) (v := .bool pm) rfl (by kernel_rfl) (by kernel_rfl) (by kernel_rfl) (fun _ _ _ h => h) (Or.inl ⟨by kernel_rfl, ?_⟩) hS ?_
      · intro w' hSw
        obtain ⟨s0, s1, s2, s3, s4, s5, s6⟩ := hSw
        go_simp
      try simp only [Act.put, List.getElem_toArray, List.getElem_cons_succ, List.getElem_cons_zero, List.setIfInBounds_toArray, List.set_cons_zero, List.set_cons_succ]
      refine wpAnyH_take (i := 37) (v := .pointer (some ⟨w.heap.size, 4, none⟩)) rfl (by kernel_rfl) (by kernel_rfl) (by kernel_rfl) (fun _ _ _ h => h) (Or.inl ⟨by kernel_rfl, ?_⟩) hS ?_
      · intro w' hSw
        obtain ⟨s0, s1, s2, s3, s4, s5, s6⟩ := hSw
        go_simp
      try simp only [Act.put, List.getElem_toArray, List.getElem_cons_succ, List.getElem_cons_zero, List.setIfInBounds_toArray, List.set_cons_zero, List.set_cons_succ]
      refine wpAnyH_take (i := 38) (v := .bool pm) rfl (by kernel_rfl) (by kernel_rfl) (by kernel_rfl) (fun _ _ _ h => h) (Or.inl ⟨by kernel_rfl, ?_⟩) hS ?_
      · intro w' hSw
        obtain ⟨s0, s1, s2, s3, s4, s5, s6⟩ := hSw
        go_simp
      try simp only [Act.put, List.getElem_toArray, List.getElem_cons_succ, List.getElem_cons_zero, List.setIfInBounds_toArray, List.set_cons_zero, List.set_cons_succ]
      refine wpAnyH_take (i := 39) (v := .bool false) rfl (by kernel_rfl) (by kernel_rfl) (by kernel_rfl) (fun _ _ _ h => h) (Or.inl ⟨by kernel_rfl, ?_⟩) hS ?_
      · intro w' hSw
        obtain ⟨s0, s1, s2, s3, s4, s5, s6⟩ := hSw
        go_simp
      try simp only [Act.put, List.getElem_toArray, List.getElem_cons_succ, List.getElem_cons_zero, List.setIfInBounds_toArray, List.set_cons_zero, List.set_cons_succ]
      refine wpAnyH_take (i := 40) (v := .bool false) rfl (by kernel_rfl) (by kernel_rfl) (by kernel_rfl) (fun _ _ _ h => h) (Or.inl ⟨by kernel_rfl, ?_⟩) hS ?_
      · intro w' hSw
        obtain ⟨s0, s1, s2, s3, s4, s5, s6⟩ := hSw
        go_simp
      try simp only [Act.put, List.getElem_toArray, List.getElem_cons_succ, List.getElem_cons_zero, List.setIfInBounds_toArray, List.set_cons_zero, List.set_cons_succ]
      refine wpAnyH_done (by kernel_rfl) ?_ _
      try simp only [List.setIfInBounds_toArray]
      try simp only [List.getElem_toArray, List.getElem_cons_succ, List.getElem_cons_zero, List.setIfInBounds_toArray, List.set_cons_zero, List.set_cons_succ]
      replace HB := Lib.hid (HB.out.trans (hbd.mono HB.out.size))
      replace HQ1 := Lib.hid (show ∀ i d, (ds ++ [m])[i]? = some d → w10.drew.cell? ⟨q1, i, none⟩ = some (szF d) from HQ1.out)
      replace HQ2 := Lib.hid (show ∀ i d, (ds ++ [m])[i]? = some d → w10.drew.cell? ⟨q2, i, none⟩ = some (paF d) from HQ2.out)
      replace HQ3 := Lib.hid (show ∀ i d, ds[i]? = some d → w10.drew.cell? ⟨q3, i, none⟩ = some (szF d) from HQ3.out)
      clear b0 b1 b2 b3 b4 hS HKS hbd s0 u0 XM HLA
      go_wp2_with fail
      go_loopw [10] (fun i wr => ∃ (j : Nat), j ≤ nm ∧ i = .int .i64 j ∧ Hid (Below w.heap.size w wr) ∧ Hid ((∀ i d, (ds ++ [m])[i]? = some d → wr.cell? ⟨q1, i, none⟩ = some (szF d)) ∧ (∀ i d, (ds ++ [m])[i]? = some d → wr.cell? ⟨q2, i, none⟩ = some (paF d)) ∧ ∀ i d, ds[i]? = some d → wr.cell? ⟨q3, i, none⟩ = some (szF d))) (fun i _ => nm - (Go.RowKit.intOf i).toNat)
      case atStart => exact ⟨0, Nat.zero_le _, rfl, HB, Lib.hid ⟨HQ1.out, HQ2.out, HQ3.out⟩⟩
      case round =>
        obtain ⟨j, hj, rfl, HBr, HQ⟩ := hrel
        by_cases hlt : j < nm
        · obtain ⟨d, hd⟩ := at_of hdl hlt
          obtain ⟨bl, ol, B1, p1, f1, k1, g1, B2, p2, f2, rfl, e0, e1, e2, e3, e4, hl, _⟩ := (HD.out.at_ j d hd).keep HBr.out
          have hda : (ds ++ [m])[j]? = some d := by rw [List.getElem?_append_left (by omega)]; exact hd
          have c1' : wr.cell? ⟨q1, j, none⟩ = some (.int .i64 (p1 : Int)) := by rw [HQ.out.1 j d hda, szF, hl.len]
          have c2' : wr.cell? ⟨q2, j, none⟩ = some (.bool d.2) := HQ.out.2.1 j d hda
          have c3' : wr.cell? ⟨q3, j, none⟩ = some (.int .i64 (p1 : Int)) := by rw [HQ.out.2.2 j d hd, szF, hl.len]
          have hi0 : (0 : Int) ≤ (j : Int) := by omega
          have hi1 : (j : Int) < (nm : Int) := by omega
          have hi2 : (j : Int) < ((nm + 1 : Nat) : Int) := by omega
          obtain ⟨pd, hpd⟩ : ∃ p, d.2 = p := ⟨_, rfl⟩
          rw [hpd] at e4 c2'
          clear hl hda hd hpd
          go_wp2_with fail
          have HKS : Hid (∀ w' : World, Below wr.heap.size wr w' → (fun w' => w'.cell? ⟨bl, ol + j * 5, none⟩ = some (.slice B1 p1 f1) ∧ w'.cell? ⟨bl, ol + j * 5 + 4, none⟩ = some (.bool pd) ∧ w'.cell? ⟨q1, j, none⟩ = some (.int .i64 (p1 : Int)) ∧ w'.cell? ⟨q2, j, none⟩ = some (.bool pd) ∧ w'.cell? ⟨q3, j, none⟩ = some (.int .i64 (p1 : Int))) w') := Lib.hid fun w' h => ⟨(h.cell (cell_lt e0)).trans e0, (h.cell (cell_lt e4)).trans e4, (h.cell (cell_lt c1')).trans c1', (h.cell (cell_lt c2')).trans c2', (h.cell (cell_lt c3')).trans c3'⟩
          have hbd : Below wr.heap.size wr wr.drew := (Below.refl _ wr).drew
          refine wp_region_held_drew (S := fun w' => w'.cell? ⟨bl, ol + j * 5, none⟩ = some (.slice B1 p1 f1) ∧ w'.cell? ⟨bl, ol + j * 5 + 4, none⟩ = some (.bool pd) ∧ w'.cell? ⟨q1, j, none⟩ = some (.int .i64 (p1 : Int)) ∧ w'.cell? ⟨q2, j, none⟩ = some (.bool pd) ∧ w'.cell? ⟨q3, j, none⟩ = some (.int .i64 (p1 : Int))) (by kernel_rfl) (HKS.out _ hbd) (fun hS => ?_)
          simp only [List.size_toArray, List.length_cons, List.length_nil, Nat.reduceAdd]
          refine wpAnyH_take (i := 0) (v := .slice (some ⟨q1, 0, none⟩) (nm + 1) (nm + 1)) rfl (by kernel_rfl) (by kernel_rfl) (by kernel_rfl) (fun _ _ _ h => h) (Or.inl ⟨by kernel_rfl, ?_⟩) hS ?_
          · intro w' hSw
            obtain ⟨s0, s1, s2, s3, s4⟩ := hSw
            go_simp
          try simp only [Act.put, List.getElem_toArray, List.getElem_cons_zero, List.setIfInBounds_toArray, List.set_cons_zero, List.set_cons_succ]
          refine wpAnyH_take (i := 1) (v := .int .i64 j) rfl (by kernel_rfl) (by kernel_rfl) (by kernel_rfl) (fun _ _ _ h => h) (Or.inl ⟨by kernel_rfl, ?_⟩) hS ?_
          · intro w' hSw
            obtain ⟨s0, s1, s2, s3, s4⟩ := hSw
            go_simp
          try simp only [Act.put, List.getElem_toArray, List.getElem_cons_succ, List.getElem_cons_zero, List.setIfInBounds_toArray, List.set_cons_zero, List.set_cons_succ]
          refine wpAnyH_take (i := 2) (v := .pointer (some ⟨q1, j, none⟩)) rfl (by kernel_rfl) (by kernel_rfl) (by kernel_rfl) (fun _ _ _ h => h) (Or.inl ⟨by kernel_rfl, ?_⟩) hS ?_
          · intro w' hSw
            obtain ⟨s0, s1, s2, s3, s4⟩ := hSw
            go_simp
            intro h; exact absurd h (by omega)
          try simp only [Act.put, List.getElem_toArray, List.getElem_cons_succ, List.getElem_cons_zero, List.setIfInBounds_toArray, List.set_cons_zero, List.set_cons_succ]
          refine wpAnyH_take (i := 3) (v := .int .i64 p1) rfl (by kernel_rfl) (by kernel_rfl) (by kernel_rfl) (fun _ _ _ h => h) (Or.inl ⟨by kernel_rfl, ?_⟩) hS ?_
          · intro w' hSw
            obtain ⟨s0, s1, s2, s3, s4⟩ := hSw
            go_simp
          try simp only [Act.put, List.getElem_toArray, List.getElem_cons_succ, List.getElem_cons_zero, List.setIfInBounds_toArray, List.set_cons_zero, List.set_cons_succ]
          refine wpAnyH_take (i := 4) (v := .slice (some ⟨bl, ol, none⟩) nm cm) rfl (by kernel_rfl) (by kernel_rfl) (by kernel_rfl) (fun _ _ _ h => h) (Or.inl ⟨by kernel_rfl, ?_⟩) hS ?_
          · intro w' hSw
            obtain ⟨s0, s1, s2, s3, s4⟩ := hSw
            go_simp
          try simp only [Act.put, List.getElem_toArray, List.getElem_cons_succ, List.getElem_cons_zero, List.setIfInBounds_toArray, List.set_cons_zero, List.set_cons_succ]
          refine wpAnyH_take (i := 5) (v := .int .i64 j) rfl (by kernel_rfl) (by kernel_rfl) (by kernel_rfl) (fun _ _ _ h => h) (Or.inl ⟨by kernel_rfl, ?_⟩) hS ?_
          · intro w' hSw
            obtain ⟨s0, s1, s2, s3, s4⟩ := hSw
            go_simp
          try simp only [Act.put, List.getElem_toArray, List.getElem_cons_succ, List.getElem_cons_zero, List.setIfInBounds_toArray, List.set_cons_zero, List.set_cons_succ]
          refine wpAnyH_take (i := 6) (v := .pointer (some ⟨bl, ol + j * 5, none⟩)) rfl (by kernel_rfl) (by kernel_rfl) (by kernel_rfl) (fun _ _ _ h => h) (Or.inl ⟨by kernel_rfl, ?_⟩) hS ?_
          · intro w' hSw
            obtain ⟨s0, s1, s2, s3, s4⟩ := hSw
            go_simp
          try simp only [Act.put, List.getElem_toArray, List.getElem_cons_succ, List.getElem_cons_zero, List.setIfInBounds_toArray, List.set_cons_zero, List.set_cons_succ]
          refine wpAnyH_take (i := 7) (v := .pointer (some ⟨bl, ol + j * 5, none⟩)) rfl (by kernel_rfl) (by kernel_rfl) (by kernel_rfl) (fun _ _ _ h => h) (Or.inl ⟨by kernel_rfl, ?_⟩) hS ?_
          · intro w' hSw
            obtain ⟨s0, s1, s2, s3, s4⟩ := hSw
            go_simp
          try simp only [Act.put, List.getElem_toArray, List.getElem_cons_succ, List.getElem_cons_zero, List.setIfInBounds_toArray, List.set_cons_zero, List.set_cons_succ]
          refine wpAnyH_take (i := 8) (v := .slice B1 p1 f1) rfl (by kernel_rfl) (by kernel_rfl) (by kernel_rfl) (fun _ _ _ h => h) (Or.inl ⟨by kernel_rfl, ?_⟩) hS ?_
          · intro w' hSw
            obtain ⟨s0, s1, s2, s3, s4⟩ := hSw
            go_simp
          try simp only [Act.put, List.getElem_toArray, List.getElem_cons_succ, List.getElem_cons_zero, List.setIfInBounds_toArray, List.set_cons_zero, List.set_cons_succ]
          refine wpAnyH_take (i := 9) (v := .int .i64 p1) rfl (by kernel_rfl) (by kernel_rfl) (by kernel_rfl) (fun _ _ _ h => h) (Or.inl ⟨by kernel_rfl, ?_⟩) hS ?_
          · intro w' hSw
            obtain ⟨s0, s1, s2, s3, s4⟩ := hSw
            go_simp
          try simp only [Act.put, List.getElem_toArray, List.getElem_cons_succ, List.getElem_cons_zero, List.setIfInBounds_toArray, List.set_cons_zero, List.set_cons_succ]
          refine wpAnyH_take (i := 10) (v := .bool false) rfl (by kernel_rfl) (by kernel_rfl) (by kernel_rfl) (fun _ _ _ h => h) (Or.inl ⟨by kernel_rfl, ?_⟩) hS ?_
          · intro w' hSw
            obtain ⟨s0, s1, s2, s3, s4⟩ := hSw
            go_simp
          try simp only [Act.put, List.getElem_toArray, List.getElem_cons_succ, List.getElem_cons_zero, List.setIfInBounds_toArray, List.set_cons_zero, List.set_cons_succ]
          refine wpAnyH_take (i := 11) (v := .bool false) rfl (by kernel_rfl) (by kernel_rfl) (by kernel_rfl) (fun _ _ _ h => h) (Or.inl ⟨by kernel_rfl, ?_⟩) hS ?_
          · intro w' hSw
            obtain ⟨s0, s1, s2, s3, s4⟩ := hSw
            go_simp
          try simp only [Act.put, List.getElem_toArray, List.getElem_cons_succ, List.getElem_cons_zero, List.setIfInBounds_toArray, List.set_cons_zero, List.set_cons_succ]
          refine wpAnyH_take (i := 12) (v := .slice (some ⟨q2, 0, none⟩) (nm + 1) (nm + 1)) rfl (by kernel_rfl) (by kernel_rfl) (by kernel_rfl) (fun _ _ _ h => h) (Or.inl ⟨by kernel_rfl, ?_⟩) hS ?_
          · intro w' hSw
            obtain ⟨s0, s1, s2, s3, s4⟩ := hSw
            go_simp
          try simp only [Act.put, List.getElem_toArray, List.getElem_cons_succ, List.getElem_cons_zero, List.setIfInBounds_toArray, List.set_cons_zero, List.set_cons_succ]
          refine wpAnyH_take (i := 13) (v := .int .i64 j) rfl (by kernel_rfl) (by kernel_rfl) (by kernel_rfl) (fun _ _ _ h => h) (Or.inl ⟨by kernel_rfl, ?_⟩) hS ?_
          · intro w' hSw
            obtain ⟨s0, s1, s2, s3, s4⟩ := hSw
            go_simp
          try simp only [Act.put, List.getElem_toArray, List.getElem_cons_succ, List.getElem_cons_zero, List.setIfInBounds_toArray, List.set_cons_zero, List.set_cons_succ]
          refine wpAnyH_take (i := 14) (v := .pointer (some ⟨q2, j, none⟩)) rfl (by kernel_rfl) (by kernel_rfl) (by kernel_rfl) (fun _ _ _ h => h) (Or.inl ⟨by kernel_rfl, ?_⟩) hS ?_
          · intro w' hSw
            obtain ⟨s0, s1, s2, s3, s4⟩ := hSw
            go_simp
            intro h; exact absurd h (by omega)
          try simp only [Act.put, List.getElem_toArray, List.getElem_cons_succ, List.getElem_cons_zero, List.setIfInBounds_toArray, List.set_cons_zero, List.set_cons_succ]
          refine wpAnyH_take (i := 15) (v := .bool pd) rfl (by kernel_rfl) (by kernel_rfl) (by kernel_rfl) (fun _ _ _ h => h) (Or.inl ⟨by kernel_rfl, ?_⟩) hS ?_
          · intro w' hSw
            obtain ⟨s0, s1, s2, s3, s4⟩ := hSw
            go_simp
          try simp only [Act.put, List.getElem_toArray, List.getElem_cons_succ, List.getElem_cons_zero, List.setIfInBounds_toArray, List.set_cons_zero, List.set_cons_succ]
          refine wpAnyH_take (i := 16) (v := .slice (some ⟨bl, ol, none⟩) nm cm) rfl (by kernel_rfl) (by kernel_rfl) (by kernel_rfl) (fun _ _ _ h => h) (Or.inl ⟨by kernel_rfl, ?_⟩) hS ?_
          · intro w' hSw
            obtain ⟨s0, s1, s2, s3, s4⟩ := hSw
            go_simp
          try simp only [Act.put, List.getElem_toArray, List.getElem_cons_succ, List.getElem_cons_zero, List.setIfInBounds_toArray, List.set_cons_zero, List.set_cons_succ]
          refine wpAnyH_take (i := 17) (v := .int .i64 j) rfl (by kernel_rfl) (by kernel_rfl) (by kernel_rfl) (fun _ _ _ h => h) (Or.inl ⟨by kernel_rfl, ?_⟩) hS ?_
          · intro w' hSw
            obtain ⟨s0, s1, s2, s3, s4⟩ := hSw
            go_simp
          try simp only [Act.put, List.getElem_toArray, List.getElem_cons_succ, List.getElem_cons_zero, List.setIfInBounds_toArray, List.set_cons_zero, List.set_cons_succ]
          refine wpAnyH_take (i := 18) (v := .pointer (some ⟨bl, ol + j * 5, none⟩)) rfl (by kernel_rfl) (by kernel_rfl) (by kernel_rfl) (fun _ _ _ h => h) (Or.inl ⟨by kernel_rfl, ?_⟩) hS ?_
          · intro w' hSw
            obtain ⟨s0, s1, s2, s3, s4⟩ := hSw
            go_simp
          try simp only [Act.put, List.getElem_toArray, List.getElem_cons_succ, List.getElem_cons_zero, List.setIfInBounds_toArray, List.set_cons_zero, List.set_cons_succ]
          refine wpAnyH_take (i := 19) (v := .pointer (some ⟨bl, ol + j * 5 + 4, none⟩)) rfl (by kernel_rfl) (by kernel_rfl) (by kernel_rfl) (fun _ _ _ h => h) (Or.inl ⟨by kernel_rfl, ?_⟩) hS ?_
          · intro w' hSw
            obtain ⟨s0, s1, s2, s3, s4⟩ := hSw
            go_simp
          try simp only [Act.put, List.getElem_toArray, List.getElem_cons_succ, List.getElem_cons_zero, List.setIfInBounds_toArray, List.set_cons_zero, List.set_cons_succ]
          refine wpAnyH_take (i := 20) (v := .bool pd) rfl (by kernel_rfl) (by kernel_rfl) (by kernel_rfl) (fun _ _ _ h => h) (Or.inl ⟨by kernel_rfl, ?_⟩) hS ?_
          · intro w' hSw
            obtain ⟨s0, s1, s2, s3, s4⟩ := hSw
            go_simp
          try simp only [Act.put, List.getElem_toArray, List.getElem_cons_succ, List.getElem_cons_zero, List.setIfInBounds_toArray, List.set_cons_zero, List.set_cons_succ]
          refine wpAnyH_take (i := 21) (v := .bool false) rfl (by kernel_rfl) (by kernel_rfl) (by kernel_rfl) (fun _ _ _ h => h) (Or.inl ⟨by kernel_rfl, ?_⟩) hS ?_
          · intro w' hSw
            obtain ⟨s0, s1, s2, s3, s4⟩ := hSw
            go_simp
          try simp only [Act.put, List.getElem_toArray, List.getElem_cons_succ, List.getElem_cons_zero, List.setIfInBounds_toArray, List.set_cons_zero, List.set_cons_succ]
          refine wpAnyH_take (i := 22) (v := .bool false) rfl (by kernel_rfl) (by kernel_rfl) (by kernel_rfl) (fun _ _ _ h => h) (Or.inl ⟨by kernel_rfl, ?_⟩) hS ?_
          · intro w' hSw
            obtain ⟨s0, s1, s2, s3, s4⟩ := hSw
            go_simp
          try simp only [Act.put, List.getElem_toArray, List.getElem_cons_succ, List.getElem_cons_zero, List.setIfInBounds_toArray, List.set_cons_zero, List.set_cons_succ]
          refine wpAnyH_take (i := 23) (v := .bool false) rfl (by kernel_rfl) (by kernel_rfl) (by kernel_rfl) (fun _ _ _ h => h) (Or.inl ⟨by kernel_rfl, ?_⟩) hS ?_
          · intro w' hSw
            obtain ⟨s0, s1, s2, s3, s4⟩ := hSw
            go_simp
          try simp only [Act.put, List.getElem_toArray, List.getElem_cons_succ, List.getElem_cons_zero, List.setIfInBounds_toArray, List.set_cons_zero, List.set_cons_succ]
          refine wpAnyH_take (i := 24) (v := .slice (some ⟨q3, 0, none⟩) nm nm) rfl (by kernel_rfl) (by kernel_rfl) (by kernel_rfl) (fun _ _ _ h => h) (Or.inl ⟨by kernel_rfl, ?_⟩) hS ?_
          · intro w' hSw
            obtain ⟨s0, s1, s2, s3, s4⟩ := hSw
            go_simp
          try simp only [Act.put, List.getElem_toArray, List.getElem_cons_succ, List.getElem_cons_zero, List.setIfInBounds_toArray, List.set_cons_zero, List.set_cons_succ]
          refine wpAnyH_take (i := 25) (v := .int .i64 j) rfl (by kernel_rfl) (by kernel_rfl) (by kernel_rfl) (fun _ _ _ h => h) (Or.inl ⟨by kernel_rfl, ?_⟩) hS ?_
          · intro w' hSw
            obtain ⟨s0, s1, s2, s3, s4⟩ := hSw
            go_simp
          try simp only [Act.put, List.getElem_toArray, List.getElem_cons_succ, List.getElem_cons_zero, List.setIfInBounds_toArray, List.set_cons_zero, List.set_cons_succ]
          refine wpAnyH_take (i := 26) (v := .pointer (some ⟨q3, j, none⟩)) rfl (by kernel_rfl) (by kernel_rfl) (by kernel_rfl) (fun _ _ _ h => h) (Or.inl ⟨by kernel_rfl, ?_⟩) hS ?_
          · intro w' hSw
            obtain ⟨s0, s1, s2, s3, s4⟩ := hSw
            go_simp
          try simp only [Act.put, List.getElem_toArray, List.getElem_cons_succ, List.getElem_cons_zero, List.setIfInBounds_toArray, List.set_cons_zero, List.set_cons_succ]
          refine wpAnyH_take (i := 27) (v := .int .i64 p1) rfl (by kernel_rfl) (by kernel_rfl) (by kernel_rfl) (fun _ _ _ h => h) (Or.inl ⟨by kernel_rfl, ?_⟩) hS ?_
          · intro w' hSw
            obtain ⟨s0, s1, s2, s3, s4⟩ := hSw
            go_simp
          try simp only [Act.put, List.getElem_toArray, List.getElem_cons_succ, List.getElem_cons_zero, List.setIfInBounds_toArray, List.set_cons_zero, List.set_cons_succ]
          refine wpAnyH_take (i := 28) (v := .slice (some ⟨q1, 0, none⟩) (nm + 1) (nm + 1)) rfl (by kernel_rfl) (by kernel_rfl) (by kernel_rfl) (fun _ _ _ h => h) (Or.inl ⟨by kernel_rfl, ?_⟩) hS ?_
          · intro w' hSw
            obtain ⟨s0, s1, s2, s3, s4⟩ := hSw
            go_simp
          try simp only [Act.put, List.getElem_toArray, List.getElem_cons_succ, List.getElem_cons_zero, List.setIfInBounds_toArray, List.set_cons_zero, List.set_cons_succ]
          refine wpAnyH_take (i := 29) (v := .int .i64 j) rfl (by kernel_rfl) (by kernel_rfl) (by kernel_rfl) (fun _ _ _ h => h) (Or.inl ⟨by kernel_rfl, ?_⟩) hS ?_
          · intro w' hSw
            obtain ⟨s0, s1, s2, s3, s4⟩ := hSw
            go_simp
          try simp only [Act.put, List.getElem_toArray, List.getElem_cons_succ, List.getElem_cons_zero, List.setIfInBounds_toArray, List.set_cons_zero, List.set_cons_succ]
          refine wpAnyH_take (i := 30) (v := .pointer (some ⟨q1, j, none⟩)) rfl (by kernel_rfl) (by kernel_rfl) (by kernel_rfl) (fun _ _ _ h => h) (Or.inl ⟨by kernel_rfl, ?_⟩) hS ?_
          · intro w' hSw
            obtain ⟨s0, s1, s2, s3, s4⟩ := hSw
            go_simp
            intro h; exact absurd h (by omega)
          try simp only [Act.put, List.getElem_toArray, List.getElem_cons_succ, List.getElem_cons_zero, List.setIfInBounds_toArray, List.set_cons_zero, List.set_cons_succ]
          refine wpAnyH_take (i := 31) (v := .int .i64 p1) rfl (by kernel_rfl) (by kernel_rfl) (by kernel_rfl) (fun _ _ _ h => h) (Or.inl ⟨by kernel_rfl, ?_⟩) hS ?_
          · intro w' hSw
            obtain ⟨s0, s1, s2, s3, s4⟩ := hSw
            go_simp
          try simp only [Act.put, List.getElem_toArray, List.getElem_cons_succ, List.getElem_cons_zero, List.setIfInBounds_toArray, List.set_cons_zero, List.set_cons_succ]
          refine wpAnyH_take (i := 32) (v := .bool false) rfl (by kernel_rfl) (by kernel_rfl) (by kernel_rfl) (fun _ _ _ h => h) (Or.inl ⟨by kernel_rfl, ?_⟩) hS ?_
          · intro w' hSw
            obtain ⟨s0, s1, s2, s3, s4⟩ := hSw
            go_simp
          try simp only [Act.put, List.getElem_toArray, List.getElem_cons_succ, List.getElem_cons_zero, List.setIfInBounds_toArray, List.set_cons_zero, List.set_cons_succ]
          refine wpAnyH_take (i := 33) (v := .bool false) rfl (by kernel_rfl) (by kernel_rfl) (by kernel_rfl) (fun _ _ _ h => h) (Or.inl ⟨by kernel_rfl, ?_⟩) hS ?_
          · intro w' hSw
            obtain ⟨s0, s1, s2, s3, s4⟩ := hSw
            go_simp
          try simp only [Act.put, List.getElem_toArray, List.getElem_cons_succ, List.getElem_cons_zero, List.setIfInBounds_toArray, List.set_cons_zero, List.set_cons_succ]
          refine wpAnyH_done (by kernel_rfl) ?_ _
          try simp only [List.setIfInBounds_toArray]
          try simp only [List.getElem_toArray, List.getElem_cons_succ, List.getElem_cons_zero, List.setIfInBounds_toArray, List.set_cons_zero, List.set_cons_succ]
          replace HBr := Lib.hid (HBr.out.trans (hbd.mono HBr.out.size))
          replace HQ := Lib.hid (show (∀ i d, (ds ++ [m])[i]? = some d → wr.drew.cell? ⟨q1, i, none⟩ = some (szF d)) ∧ (∀ i d, (ds ++ [m])[i]? = some d → wr.drew.cell? ⟨q2, i, none⟩ = some (paF d)) ∧ ∀ i d, ds[i]? = some d → wr.drew.cell? ⟨q3, i, none⟩ = some (szF d) from HQ.out)
          clear hS HKS hbd e0 e1 e2 e3 e4 c1' c2' c3'
          go_wp2_with fail
          go_roundw
          case rel => exact ⟨j + 1, by omega, by go_num, HBr, HQ⟩
          case measure => simp [Go.RowKit.intOf]; omega
        · go_wp2_with fail
          go_ret
          exact ⟨rfl, HBr.out⟩
    · go_simp
      have hb5 : Below wB.heap.size wB ((wB.alloc (.cells #[.slice A1 n1 c1, .int .i64 km, .int .i64 hm, .slice A2 n2 c2, .bool m.2] 39)).drew) := ((Below.refl _ wB).alloc (Nat.le_refl _) _).drew
      refine hK.out _ _ (HKS.out _ hb5) (fun hS => ?_)
      clear hK KN
      try simp only [Act.put, List.getElem_toArray, List.getElem_cons_succ, List.getElem_cons_zero, List.setIfInBounds_toArray, List.set_cons_zero, List.set_cons_succ]
      have z5 : Box ((wB.alloc (.cells #[.slice A1 n1 c1, .int .i64 km, .int .i64 hm, .slice A2 n2 c2, .bool m.2] 39)).drew) wB.heap.size 39 #[.slice A1 n1 c1, .int .i64 km, .int .i64 hm, .slice A2 n2 c2, .bool m.2] := Box.drewI (Box.new _ _ _)
      obtain ⟨P6, hP6⟩ : ∃ p, wB.heap.size = p := ⟨_, rfl⟩
      rw [hP6] at z5
      try rw [hP6]
      clear hP6
      generalize (wB.alloc (.cells #[.slice A1 n1 c1, .int .i64 km, .int .i64 hm, .slice A2 n2 c2, .bool m.2] 39)).drew = w55 at *
      refine wpAnyH_ready (rs := [1]) (by kernel_rfl) (by simp) ?_
      refine AllReadyH.cons rfl (fun KN hK => ?_) AllReadyH.nil
      obtain ⟨A5, c5, w66, cs55, hrun5, hrowB, hb66⟩ := rowP_new (HD.out.keep HB.out) (by omega) hb5
      have hbB := hb5.trans (hb66.mono hb5.size)
      have zB : Box w66 P6 39 #[.slice A1 n1 c1, .int .i64 km, .int .i64 hm, .slice A2 n2 c2, .bool m.2] := z5.keep hb66 z5.lt
      clear hb66
      refine Lib.wp_append_run _ (.const (.slice none 0 0)) (.tmp 27) 23 23 rfl _ _ rfl rfl _ _ hrun5 ?_
      refine hK.out _ _ (HKS.out _ hbB) (fun hS => ?_)
      clear hK KN
      try simp only [Act.put, List.getElem_toArray, List.getElem_cons_succ, List.getElem_cons_zero, List.setIfInBounds_toArray, List.set_cons_zero, List.set_cons_succ]
      clear hb5 z5 hrun5
      refine wpAnyH_ready (rs := [4]) (by kernel_rfl) (by simp) ?_
      refine AllReadyH.cons rfl (fun KN hK => ?_) AllReadyH.nil
      obtain ⟨g7, cap7, w77, cs77, hrun7, hr7, hb7, _, _⟩ := rowP_one hrowB zB ⟨HX.out.1.keep HB.out, Rd.keep HB.out _ _ HX.out.2⟩ (by omega) hbB
      have hcl7 := hr7.lst hb7
      refine Lib.wp_append_run _ (.tmp 28) (.tmp 30) 23 23 rfl _ _ rfl rfl _ _ hrun7 ?_
      refine hK.out _ _ (HKS.out _ hb7) (fun hS => ?_)
      clear hK KN
      try simp only [Act.put, List.getElem_toArray, List.getElem_cons_succ, List.getElem_cons_zero, List.setIfInBounds_toArray, List.set_cons_zero, List.set_cons_succ]
      clear hr7 hbB hrowB zB hrun7
      refine wpAnyH_ready (rs := [5]) (by kernel_rfl) (by simp) ?_
      refine AllReadyH.cons rfl (fun KN hK => ?_) AllReadyH.nil
      go_simp
      refine (paC (ds ++ [m]) _ (nm + 1) cap7 w77 hcl7 (by omega)).mono ?_
      rintro e wC ⟨q2, rfl, hq, hb8⟩
      have hbd := hb7.trans (hb8.mono hb7.size)
      have HQ2 := Lib.hid hq
      clear hb8 hq hb7 hcl7
      refine hK.out _ _ (HKS.out _ hbd) (fun hS => ?_)
      clear hK KN
      try simp only [Act.put, List.getElem_toArray, List.getElem_cons_succ, List.getElem_cons_zero, List.setIfInBounds_toArray, List.set_cons_zero, List.set_cons_succ]
      refine wpAnyH_take (i := 6) (v := .slice (some ⟨q2, 0, none⟩) (nm + 1) (nm + 1)) rfl (by kernel_rfl) (by kernel_rfl) (by kernel_rfl) (fun _ _ _ h => h) (Or.inl ⟨by kernel_rfl, ?_⟩) hS ?_
      · intro w' hSw
        obtain ⟨s0, s1, s2, s3, s4⟩ := hSw
        go_simp
      try simp only [Act.put, List.getElem_toArray, List.getElem_cons_succ, List.getElem_cons_zero, List.setIfInBounds_toArray, List.set_cons_zero, List.set_cons_succ]
      refine wpAnyH_done (by kernel_rfl) ?_ _
      try simp only [List.setIfInBounds_toArray]
      try simp only [List.getElem_toArray, List.getElem_cons_succ, List.getElem_cons_zero, List.setIfInBounds_toArray, List.set_cons_zero, List.set_cons_succ]
      replace XM := Lib.hid (XM.out.keep hbd XM.out.lt)
      replace HB := Lib.hid (HB.out.trans (hbd.mono HB.out.size))
      replace HQ1 := Lib.hid (show ∀ i d, (ds ++ [m])[i]? = some d → wC.cell? ⟨q1, i, none⟩ = some (szF d) from fun i d hi => (hbd.cell (cell_lt (HQ1.out i d hi))).trans (HQ1.out i d hi))
      clear b0 b1 b2 b3 b4 hS HKS hbd
      have b0 : wC.cell? ⟨w.heap.size, 0, none⟩ = some (.slice A1 n1 c1) := XM.out.cell 0
      have b1 : wC.cell? ⟨w.heap.size, 1, none⟩ = some (.int .i64 km) := XM.out.cell 1
      have b2 : wC.cell? ⟨w.heap.size, 2, none⟩ = some (.int .i64 hm) := XM.out.cell 2
      have b3 : wC.cell? ⟨w.heap.size, 3, none⟩ = some (.slice A2 n2 c2) := XM.out.cell 3
      have b4 : wC.cell? ⟨w.heap.size, 4, none⟩ = some (.bool m.2) := XM.out.cell 4
      go_wp2_with fail
      clear b0 b1 b2 b3 b4
      refine (szC ds Am nm cm wC (HD.out.keep HB.out) (by omega)).mono ?_
      rintro e w10 ⟨q3, rfl, hq, hb1⟩
      have HQ3 := Lib.hid hq
      replace HQ1 := Lib.hid (show ∀ i d, (ds ++ [m])[i]? = some d → w10.cell? ⟨q1, i, none⟩ = some (szF d) from fun i d hi => (hb1.cell (cell_lt (HQ1.out i d hi))).trans (HQ1.out i d hi))
      replace HQ2 := Lib.hid (show ∀ i d, (ds ++ [m])[i]? = some d → w10.cell? ⟨q2, i, none⟩ = some (paF d) from fun i d hi => (hb1.cell (cell_lt (HQ2.out i d hi))).trans (HQ2.out i d hi))
      replace XM := Lib.hid (XM.out.keep hb1 XM.out.lt)
      replace HB := Lib.hid (HB.out.trans (hb1.mono HB.out.size))
      clear hb1 hq
      have b0 : w10.cell? ⟨w.heap.size, 0, none⟩ = some (.slice A1 n1 c1) := XM.out.cell 0
      have b1 : w10.cell? ⟨w.heap.size, 1, none⟩ = some (.int .i64 km) := XM.out.cell 1
      have b2 : w10.cell? ⟨w.heap.size, 2, none⟩ = some (.int .i64 hm) := XM.out.cell 2
      have b3 : w10.cell? ⟨w.heap.size, 3, none⟩ = some (.slice A2 n2 c2) := XM.out.cell 3
      have b4 : w10.cell? ⟨w.heap.size, 4, none⟩ = some (.bool m.2) := XM.out.cell 4
      have hlast : (ds ++ [m])[nm]? = some m := by rw [← hdl, List.getElem?_append_right (Nat.le_refl _), Nat.sub_self]; rfl
      have s0 : w10.cell? ⟨q1, nm, none⟩ = some (.int .i64 (n1 : Int)) := by rw [HQ1.out nm m hlast, szF, hxl]
      have u0 : w10.cell? ⟨q2, nm, none⟩ = some (.bool m.2) := HQ2.out nm m hlast
      have hw : IntKind.i64.wrap ((nm : Int) + 1) = (nm : Int) + 1 := by rw [wrapEq]; exact wrap_small (by omega) (by omega)
      have hn0 : (0 : Int) ≤ (nm : Int) := by omega
      have hn1 : (nm : Int) < ((nm + 1 : Nat) : Int) := by omega
      have hn2 : (((nm + 1 : Nat) : Int)) = (nm : Int) + 1 := by omega
      have HLA := Lib.hid hlast
      clear hlast
      obtain ⟨pm, hpm⟩ : ∃ p, m.2 = p := ⟨_, rfl⟩
      rw [hpm] at b4 u0 XM
      go_wp2_with fail
      have HKS : Hid (∀ w' : World, Below w10.heap.size w10 w' → (fun w' => w'.cell? ⟨w.heap.size, 0, none⟩ = some (.slice A1 n1 c1) ∧ w'.cell? ⟨w.heap.size, 1, none⟩ = some (.int .i64 km) ∧ w'.cell? ⟨w.heap.size, 2, none⟩ = some (.int .i64 hm) ∧ w'.cell? ⟨w.heap.size, 3, none⟩ = some (.slice A2 n2 c2) ∧ w'.cell? ⟨w.heap.size, 4, none⟩ = some (.bool pm) ∧ w'.cell? ⟨q1, nm, none⟩ = some (.int .i64 (n1 : Int)) ∧ w'.cell? ⟨q2, nm, none⟩ = some (.bool pm)) w') := Lib.hid fun w' h => ⟨(h.cell (cell_lt b0)).trans b0, (h.cell (cell_lt b1)).trans b1, (h.cell (cell_lt b2)).trans b2, (h.cell (cell_lt b3)).trans b3, (h.cell (cell_lt b4)).trans b4, (h.cell (cell_lt s0)).trans s0, (h.cell (cell_lt u0)).trans u0⟩
      have hbd : Below w10.heap.size w10 w10.drew := (Below.refl _ w10).drew
      refine wp_region_held_drew (S := fun w' => w'.cell? ⟨w.heap.size, 0, none⟩ = some (.slice A1 n1 c1) ∧ w'.cell? ⟨w.heap.size, 1, none⟩ = some (.int .i64 km) ∧ w'.cell? ⟨w.heap.size, 2, none⟩ = some (.int .i64 hm) ∧ w'.cell? ⟨w.heap.size, 3, none⟩ = some (.slice A2 n2 c2) ∧ w'.cell? ⟨w.heap.size, 4, none⟩ = some (.bool pm) ∧ w'.cell? ⟨q1, nm, none⟩ = some (.int .i64 (n1 : Int)) ∧ w'.cell? ⟨q2, nm, none⟩ = some (.bool pm)) (by kernel_rfl) (HKS.out _ hbd) (fun hS => ?_)
      simp only [List.size_toArray, List.length_cons, List.length_nil, Nat.reduceAdd]
      refine wpAnyH_take (i := 0) (v := .slice (some ⟨q1, 0, none⟩) (nm + 1) (nm + 1)) rfl (by kernel_rfl) (by kernel_rfl) (by kernel_rfl) (fun _ _ _ h => h) (Or.inl ⟨by kernel_rfl, ?_⟩) hS ?_
      · intro w' hSw
        obtain ⟨s0, s1, s2, s3, s4, s5, s6⟩ := hSw
        go_simp
      try simp only [Act.put, List.getElem_toArray, List.getElem_cons_zero, List.setIfInBounds_toArray, List.set_cons_zero, List.set_cons_succ]
      refine wpAnyH_take (i := 1) (v := .int .i64 ((nm + 1 : Nat) : Int)) rfl (by kernel_rfl) (by kernel_rfl) (by kernel_rfl) (fun _ _ _ h => h) (Or.inl ⟨by kernel_rfl, ?_⟩) hS ?_
      · intro w' hSw
        obtain ⟨s0, s1, s2, s3, s4, s5, s6⟩ := hSw
        go_simp
      try simp only [Act.put, List.getElem_toArray, List.getElem_cons_succ, List.getElem_cons_zero, List.setIfInBounds_toArray, List.set_cons_zero, List.set_cons_succ]
      refine wpAnyH_take (i := 2) (v := .slice Am nm cm) rfl (by kernel_rfl) (by kernel_rfl) (by kernel_rfl) (fun _ _ _ h => h) (Or.inl ⟨by kernel_rfl, ?_⟩) hS ?_
      · intro w' hSw
        obtain ⟨s0, s1, s2, s3, s4, s5, s6⟩ := hSw
        go_simp
      try simp only [Act.put, List.getElem_toArray, List.getElem_cons_succ, List.getElem_cons_zero, List.setIfInBounds_toArray, List.set_cons_zero, List.set_cons_succ]
      refine wpAnyH_take (i := 3) (v := .int .i64 nm) rfl (by kernel_rfl) (by kernel_rfl) (by kernel_rfl) (fun _ _ _ h => h) (Or.inl ⟨by kernel_rfl, ?_⟩) hS ?_
      · intro w' hSw
        obtain ⟨s0, s1, s2, s3, s4, s5, s6⟩ := hSw
        go_simp
      try simp only [Act.put, List.getElem_toArray, List.getElem_cons_succ, List.getElem_cons_zero, List.setIfInBounds_toArray, List.set_cons_zero, List.set_cons_succ]
      refine wpAnyH_take (i := 4) (v := .int .i64 ((nm : Int) + 1)) rfl (by kernel_rfl) (by kernel_rfl) (by kernel_rfl) (fun _ _ _ h => h) (Or.inl ⟨by kernel_rfl, ?_⟩) hS ?_
      · intro w' hSw
        obtain ⟨s0, s1, s2, s3, s4, s5, s6⟩ := hSw
        go_simp
      try simp only [Act.put, List.getElem_toArray, List.getElem_cons_succ, List.getElem_cons_zero, List.setIfInBounds_toArray, List.set_cons_zero, List.set_cons_succ]
      refine wpAnyH_take (i := 5) (v := .bool false) rfl (by kernel_rfl) (by kernel_rfl) (by kernel_rfl) (fun _ _ _ h => h) (Or.inl ⟨by kernel_rfl, ?_⟩) hS ?_
      · intro w' hSw
        obtain ⟨s0, s1, s2, s3, s4, s5, s6⟩ := hSw
        go_simp
      try simp only [Act.put, List.getElem_toArray, List.getElem_cons_succ, List.getElem_cons_zero, List.setIfInBounds_toArray, List.set_cons_zero, List.set_cons_succ]
      refine wpAnyH_take (i := 6) (v := .bool false) rfl (by kernel_rfl) (by kernel_rfl) (by kernel_rfl) (fun _ _ _ h => h) (Or.inl ⟨by kernel_rfl, ?_⟩) hS ?_
      · intro w' hSw
        obtain ⟨s0, s1, s2, s3, s4, s5, s6⟩ := hSw
        go_simp
      try simp only [Act.put, List.getElem_toArray, List.getElem_cons_succ, List.getElem_cons_zero, List.setIfInBounds_toArray, List.set_cons_zero, List.set_cons_succ]
      refine wpAnyH_take (i := 7) (v := .slice (some ⟨q2, 0, none⟩) (nm + 1) (nm + 1)) rfl (by kernel_rfl) (by kernel_rfl) (by kernel_rfl) (fun _ _ _ h => h) (Or.inl ⟨by kernel_rfl, ?_⟩) hS ?_
      · intro w' hSw
        obtain ⟨s0, s1, s2, s3, s4, s5, s6⟩ := hSw
        go_simp
      try simp only [Act.put, List.getElem_toArray, List.getElem_cons_succ, List.getElem_cons_zero, List.setIfInBounds_toArray, List.set_cons_zero, List.set_cons_succ]
      refine wpAnyH_take (i := 8) (v := .int .i64 ((nm + 1 : Nat) : Int)) rfl (by kernel_rfl) (by kernel_rfl) (by kernel_rfl) (fun _ _ _ h => h) (Or.inl ⟨by kernel_rfl, ?_⟩) hS ?_
      · intro w' hSw
        obtain ⟨s0, s1, s2, s3, s4, s5, s6⟩ := hSw
        go_simp
      try simp only [Act.put, List.getElem_toArray, List.getElem_cons_succ, List.getElem_cons_zero, List.setIfInBounds_toArray, List.set_cons_zero, List.set_cons_succ]
      refine wpAnyH_take (i := 9) (v := .slice (some ⟨q1, 0, none⟩) (nm + 1) (nm + 1)) rfl (by kernel_rfl) (by kernel_rfl) (by kernel_rfl) (fun _ _ _ h => h) (Or.inl ⟨by kernel_rfl, ?_⟩) hS ?_
      · intro w' hSw
        obtain ⟨s0, s1, s2, s3, s4, s5, s6⟩ := hSw
        go_simp
      try simp only [Act.put, List.getElem_toArray, List.getElem_cons_succ, List.getElem_cons_zero, List.setIfInBounds_toArray, List.set_cons_zero, List.set_cons_succ]
      refine wpAnyH_take (i := 10) (v := .int .i64 ((nm + 1 : Nat) : Int)) rfl (by kernel_rfl) (by kernel_rfl) (by kernel_rfl) (fun _ _ _ h => h) (Or.inl ⟨by kernel_rfl, ?_⟩) hS ?_
      · intro w' hSw
        obtain ⟨s0, s1, s2, s3, s4, s5, s6⟩ := hSw
        go_simp
      try simp only [Act.put, List.getElem_toArray, List.getElem_cons_succ, List.getElem_cons_zero, List.setIfInBounds_toArray, List.set_cons_zero, List.set_cons_succ]
      refine wpAnyH_take (i := 11) (v := .bool false) rfl (by kernel_rfl) (by kernel_rfl) (by kernel_rfl) (fun _ _ _ h => h) (Or.inl ⟨by kernel_rfl, ?_⟩) hS ?_
      · intro w' hSw
        obtain ⟨s0, s1, s2, s3, s4, s5, s6⟩ := hSw
        go_simp
      try simp only [Act.put, List.getElem_toArray, List.getElem_cons_succ, List.getElem_cons_zero, List.setIfInBounds_toArray, List.set_cons_zero, List.set_cons_succ]
      refine wpAnyH_take (i := 12) (v := .bool false) rfl (by kernel_rfl) (by kernel_rfl) (by kernel_rfl) (fun _ _ _ h => h) (Or.inl ⟨by kernel_rfl, ?_⟩) hS ?_
      · intro w' hSw
        obtain ⟨s0, s1, s2, s3, s4, s5, s6⟩ := hSw
        go_simp
      try simp only [Act.put, List.getElem_toArray, List.getElem_cons_succ, List.getElem_cons_zero, List.setIfInBounds_toArray, List.set_cons_zero, List.set_cons_succ]
      refine wpAnyH_take (i := 13) (v := .bool false) rfl (by kernel_rfl) (by kernel_rfl) (by kernel_rfl) (fun _ _ _ h => h) (Or.inl ⟨by kernel_rfl, ?_⟩) hS ?_
      · intro w' hSw
        obtain ⟨s0, s1, s2, s3, s4, s5, s6⟩ := hSw
        go_simp
      try simp only [Act.put, List.getElem_toArray, List.getElem_cons_succ, List.getElem_cons_zero, List.setIfInBounds_toArray, List.set_cons_zero, List.set_cons_succ]
      refine wpAnyH_take (i := 14) (v := .slice (some ⟨q3, 0, none⟩) nm nm) rfl (by kernel_rfl) (by kernel_rfl) (by kernel_rfl) (fun _ _ _ h => h) (Or.inl ⟨by kernel_rfl, ?_⟩) hS ?_
      · intro w' hSw
        obtain ⟨s0, s1, s2, s3, s4, s5, s6⟩ := hSw
        go_simp
      try simp only [Act.put, List.getElem_toArray, List.getElem_cons_succ, List.getElem_cons_zero, List.setIfInBounds_toArray, List.set_cons_zero, List.set_cons_succ]
      refine wpAnyH_take (i := 15) (v := .int .i64 nm) rfl (by kernel_rfl) (by kernel_rfl) (by kernel_rfl) (fun _ _ _ h => h) (Or.inl ⟨by kernel_rfl, ?_⟩) hS ?_
      · intro w' hSw
        obtain ⟨s0, s1, s2, s3, s4, s5, s6⟩ := hSw
        go_simp
      try simp only [Act.put, List.getElem_toArray, List.getElem_cons_succ, List.getElem_cons_zero, List.setIfInBounds_toArray, List.set_cons_zero, List.set_cons_succ]
      refine wpAnyH_take (i := 16) (v := .slice Am nm cm) rfl (by kernel_rfl) (by kernel_rfl) (by kernel_rfl) (fun _ _ _ h => h) (Or.inl ⟨by kernel_rfl, ?_⟩) hS ?_
      · intro w' hSw
        obtain ⟨s0, s1, s2, s3, s4, s5, s6⟩ := hSw
        go_simp
      try simp only [Act.put, List.getElem_toArray, List.getElem_cons_succ, List.getElem_cons_zero, List.setIfInBounds_toArray, List.set_cons_zero, List.set_cons_succ]
      refine wpAnyH_take (i := 17) (v := .int .i64 nm) rfl (by kernel_rfl) (by kernel_rfl) (by kernel_rfl) (fun _ _ _ h => h) (Or.inl ⟨by kernel_rfl, ?_⟩) hS ?_
      · intro w' hSw
        obtain ⟨s0, s1, s2, s3, s4, s5, s6⟩ := hSw
        go_simp
      try simp only [Act.put, List.getElem_toArray, List.getElem_cons_succ, List.getElem_cons_zero, List.setIfInBounds_toArray, List.set_cons_zero, List.set_cons_succ]
      refine wpAnyH_take (i := 18) (v := .bool false) rfl (by kernel_rfl) (by kernel_rfl) (by kernel_rfl) (fun _ _ _ h => h) (Or.inl ⟨by kernel_rfl, ?_⟩) hS ?_
      · intro w' hSw
        obtain ⟨s0, s1, s2, s3, s4, s5, s6⟩ := hSw
        go_simp
      try simp only [Act.put, List.getElem_toArray, List.getElem_cons_succ, List.getElem_cons_zero, List.setIfInBounds_toArray, List.set_cons_zero, List.set_cons_succ]
      refine wpAnyH_take (i := 19) (v := .bool false) rfl (by kernel_rfl) (by kernel_rfl) (by kernel_rfl) (fun _ _ _ h => h) (Or.inl ⟨by kernel_rfl, ?_⟩) hS ?_
      · intro w' hSw
        obtain ⟨s0, s1, s2, s3, s4, s5, s6⟩ := hSw
        go_simp
      try simp only [Act.put, List.getElem_toArray, List.getElem_cons_succ, List.getElem_cons_zero, List.setIfInBounds_toArray, List.set_cons_zero, List.set_cons_succ]
      refine wpAnyH_take (i := 20) (v := .bool false) rfl (by kernel_rfl) (by kernel_rfl) (by kernel_rfl) (fun _ _ _ h => h) (Or.inl ⟨by kernel_rfl, ?_⟩) hS ?_
      · intro w' hSw
        obtain ⟨s0, s1, s2, s3, s4, s5, s6⟩ := hSw
        go_simp
      try simp only [Act.put, List.getElem_toArray, List.getElem_cons_succ, List.getElem_cons_zero, List.setIfInBounds_toArray, List.set_cons_zero, List.set_cons_succ]
      refine wpAnyH_take (i := 21) (v := .slice (some ⟨q1, 0, none⟩) (nm + 1) (nm + 1)) rfl (by kernel_rfl) (by kernel_rfl) (by kernel_rfl) (fun _ _ _ h => h) (Or.inl ⟨by kernel_rfl, ?_⟩) hS ?_
      · intro w' hSw
        obtain ⟨s0, s1, s2, s3, s4, s5, s6⟩ := hSw
        go_simp
      try simp only [Act.put, List.getElem_toArray, List.getElem_cons_succ, List.getElem_cons_zero, List.setIfInBounds_toArray, List.set_cons_zero, List.set_cons_succ]
      refine wpAnyH_take (i := 22) (v := .slice Am nm cm) rfl (by kernel_rfl) (by kernel_rfl) (by kernel_rfl) (fun _ _ _ h => h) (Or.inl ⟨by kernel_rfl, ?_⟩) hS ?_
      · intro w' hSw
        obtain ⟨s0, s1, s2, s3, s4, s5, s6⟩ := hSw
        go_simp
      try simp only [Act.put, List.getElem_toArray, List.getElem_cons_succ, List.getElem_cons_zero, List.setIfInBounds_toArray, List.set_cons_zero, List.set_cons_succ]
      refine wpAnyH_take (i := 23) (v := .int .i64 nm) rfl (by kernel_rfl) (by kernel_rfl) (by kernel_rfl) (fun _ _ _ h => h) (Or.inl ⟨by kernel_rfl, ?_⟩) hS ?_
      · intro w' hSw
        obtain ⟨s0, s1, s2, s3, s4, s5, s6⟩ := hSw
        go_simp
      try simp only [Act.put, List.getElem_toArray, List.getElem_cons_succ, List.getElem_cons_zero, List.setIfInBounds_toArray, List.set_cons_zero, List.set_cons_succ]
      refine wpAnyH_take (i := 24) (v := .pointer (some ⟨q1, nm, none⟩)) rfl (by kernel_rfl) (by kernel_rfl) (by kernel_rfl) (fun _ _ _ h => h) (Or.inl ⟨by kernel_rfl, ?_⟩) hS ?_
      · intro w' hSw
        obtain ⟨s0, s1, s2, s3, s4, s5, s6⟩ := hSw
        go_simp
        intro h; exact absurd h (by omega)
      try simp only [Act.put, List.getElem_toArray, List.getElem_cons_succ, List.getElem_cons_zero, List.setIfInBounds_toArray, List.set_cons_zero, List.set_cons_succ]
      refine wpAnyH_take (i := 25) (v := .int .i64 n1) rfl (by kernel_rfl) (by kernel_rfl) (by kernel_rfl) (fun _ _ _ h => h) (Or.inl ⟨by kernel_rfl, ?_⟩) hS ?_
      · intro w' hSw
        obtain ⟨s0, s1, s2, s3, s4, s5, s6⟩ := hSw
        go_simp
      try simp only [Act.put, List.getElem_toArray, List.getElem_cons_succ, List.getElem_cons_zero, List.setIfInBounds_toArray, List.set_cons_zero, List.set_cons_succ]
      refine wpAnyH_take (i := 26) (v := .pointer (some ⟨w.heap.size, 0, none⟩)) rfl (by kernel_rfl) (by kernel_rfl) (by kernel_rfl) (fun _ _ _ h => h) (Or.inl ⟨by kernel_rfl, ?_⟩) hS ?_
      · intro w' hSw
        obtain ⟨s0, s1, s2, s3, s4, s5, s6⟩ := hSw
        go_simp
      try simp only [Act.put, List.getElem_toArray, List.getElem_cons_succ, List.getElem_cons_zero, List.setIfInBounds_toArray, List.set_cons_zero, List.set_cons_succ]
      refine wpAnyH_take (i := 27) (v := .slice A1 n1 c1) rfl (by kernel_rfl) (by kernel_rfl) (by kernel_rfl) (fun _ _ _ h => h) (Or.inl ⟨by kernel_rfl, ?_⟩) hS ?_
      · intro w' hSw
        obtain ⟨s0, s1, s2, s3, s4, s5, s6⟩ := hSw
        go_simp
      try simp only [Act.put, List.getElem_toArray, List.getElem_cons_succ, List.getElem_cons_zero, List.setIfInBounds_toArray, List.set_cons_zero, List.set_cons_succ]
      refine wpAnyH_take (i := 28) (v := .int .i64 n1) rfl (by kernel_rfl) (by kernel_rfl) (by kernel_rfl) (fun _ _ _ h => h) (Or.inl ⟨by kernel_rfl, ?_⟩) hS ?_
      · intro w' hSw
        obtain ⟨s0, s1, s2, s3, s4, s5, s6⟩ := hSw
        go_simp
      try simp only [Act.put, List.getElem_toArray, List.getElem_cons_succ, List.getElem_cons_zero, List.setIfInBounds_toArray, List.set_cons_zero, List.set_cons_succ]
      refine wpAnyH_take (i := 29) (v := .bool false) rfl (by kernel_rfl) (by kernel_rfl) (by kernel_rfl) (fun _ _ _ h => h) (Or.inl ⟨by kernel_rfl, ?_⟩) hS ?_
      · intro w' hSw
        obtain ⟨s0, s1, s2, s3, s4, s5, s6⟩ := hSw
        go_simp
      try simp only [Act.put, List.getElem_toArray, List.getElem_cons_succ, List.getElem_cons_zero, List.setIfInBounds_toArray, List.set_cons_zero, List.set_cons_succ]
      refine wpAnyH_take (i := 30) (v := .bool false) rfl (by kernel_rfl) (by kernel_rfl) (by kernel_rfl) (fun _ _ _ h => h) (Or.inl ⟨by kernel_rfl, ?_⟩) hS ?_
      · intro w' hSw
        obtain ⟨s0, s1, s2, s3, s4, s5, s6⟩ := hSw
        go_simp
      try simp only [Act.put, List.getElem_toArray, List.getElem_cons_succ, List.getElem_cons_zero, List.setIfInBounds_toArray, List.set_cons_zero, List.set_cons_succ]
      refine wpAnyH_take (i := 31) (v := .bool false) rfl (by kernel_rfl) (by kernel_rfl) (by kernel_rfl) (fun _ _ _ h => h) (Or.inl ⟨by kernel_rfl, ?_⟩) hS ?_
      · intro w' hSw
        obtain ⟨s0, s1, s2, s3, s4, s5, s6⟩ := hSw
        go_simp
      try simp only [Act.put, List.getElem_toArray, List.getElem_cons_succ, List.getElem_cons_zero, List.setIfInBounds_toArray, List.set_cons_zero, List.set_cons_succ]
      refine wpAnyH_take (i := 32) (v := .slice (some ⟨q2, 0, none⟩) (nm + 1) (nm + 1)) rfl (by kernel_rfl) (by kernel_rfl) (by kernel_rfl) (fun _ _ _ h => h) (Or.inl ⟨by kernel_rfl, ?_⟩) hS ?_
      · intro w' hSw
        obtain ⟨s0, s1, s2, s3, s4, s5, s6⟩ := hSw
        go_simp
      try simp only [Act.put, List.getElem_toArray, List.getElem_cons_succ, List.getElem_cons_zero, List.setIfInBounds_toArray, List.set_cons_zero, List.set_cons_succ]
      refine wpAnyH_take (i := 33) (v := .slice Am nm cm) rfl (by kernel_rfl) (by kernel_rfl) (by kernel_rfl) (fun _ _ _ h => h) (Or.inl ⟨by kernel_rfl, ?_⟩) hS ?_
      · intro w' hSw
        obtain ⟨s0, s1, s2, s3, s4, s5, s6⟩ := hSw
        go_simp
      try simp only [Act.put, List.getElem_toArray, List.getElem_cons_succ, List.getElem_cons_zero, List.setIfInBounds_toArray, List.set_cons_zero, List.set_cons_succ]
      refine wpAnyH_take (i := 34) (v := .int .i64 nm) rfl (by kernel_rfl) (by kernel_rfl) (by kernel_rfl) (fun _ _ _ h => h) (Or.inl ⟨by kernel_rfl, ?_⟩) hS ?_
      · intro w' hSw
        obtain ⟨s0, s1, s2, s3, s4, s5, s6⟩ := hSw
        go_simp
      try simp only [Act.put, List.getElem_toArray, List.getElem_cons_succ, List.getElem_cons_zero, List.setIfInBounds_toArray, List.set_cons_zero, List.set_cons_succ]
      refine wpAnyH_take (i := 35) (v := .pointer (some ⟨q2, nm, none⟩)) rfl (by kernel_rfl) (by kernel_rfl) (by kernel_rfl) (fun _ _ _ h => h) (Or.inl ⟨by kernel_rfl, ?_⟩) hS ?_
      · intro w' hSw
        obtain ⟨s0, s1, s2, s3, s4, s5, s6⟩ := hSw
        go_simp
        intro h; exact absurd h (by omega)
      try simp only [Act.put, List.getElem_toArray, List.getElem_cons_succ, List.getElem_cons_zero, List.setIfInBounds_toArray, List.set_cons_zero, List.set_cons_succ]
      refine wpAnyH_take (i := 36) (v := .bool pm) rfl (by kernel_rfl) (by kernel_rfl) (by kernel_rfl) (fun _ _ _ h => h) (Or.inl ⟨by kernel_rfl, ?_⟩) hS ?_
      · intro w' hSw
        obtain ⟨s0, s1, s2, s3, s4, s5, s6⟩ := hSw
        go_simp
      try simp only [Act.put, List.getElem_toArray, List.getElem_cons_succ, List.getElem_cons_zero, List.setIfInBounds_toArray, List.set_cons_zero, List.set_cons_succ]
      refine wpAnyH_take (i := 37) (v := .pointer (some ⟨w.heap.size, 4, none⟩)) rfl (by kernel_rfl) (by kernel_rfl) (by kernel_rfl) (fun _ _ _ h => h) (Or.inl ⟨by kernel_rfl, ?_⟩) hS ?_
      · intro w' hSw
        obtain ⟨s0, s1, s2, s3, s4, s5, s6⟩ := hSw
        go_simp
      try simp only [Act.put, List.getElem_toArray, List.getElem_cons_succ, List.getElem_cons_zero, List.setIfInBounds_toArray, List.set_cons_zero, List.set_cons_succ]
      refine wpAnyH_take (i := 38) (v := .bool pm) rfl (by kernel_rfl) (by kernel_rfl) (by kernel_rfl) (fun _ _ _ h => h) (Or.inl ⟨by kernel_rfl, ?_⟩) hS ?_
      · intro w' hSw
        obtain ⟨s0, s1, s2, s3, s4, s5, s6⟩ := hSw
        go_simp
      try simp only [Act.put, List.getElem_toArray, List.getElem_cons_succ, List.getElem_cons_zero, List.setIfInBounds_toArray, List.set_cons_zero, List.set_cons_succ]
      refine wpAnyH_take (i := 39) (v := .bool false) rfl (by kernel_rfl) (by kernel_rfl) (by kernel_rfl) (fun _ _ _ h => h) (Or.inl ⟨by kernel_rfl, ?_⟩) hS ?_
      · intro w' hSw
        obtain ⟨s0, s1, s2, s3, s4, s5, s6⟩ := hSw
        go_simp
      try simp only [Act.put, List.getElem_toArray, List.getElem_cons_succ, List.getElem_cons_zero, List.setIfInBounds_toArray, List.set_cons_zero, List.set_cons_succ]
      refine wpAnyH_take (i := 40) (v := .bool false) rfl (by kernel_rfl) (by kernel_rfl) (by kernel_rfl) (fun _ _ _ h => h) (Or.inl ⟨by kernel_rfl, ?_⟩) hS ?_
      · intro w' hSw
        obtain ⟨s0, s1, s2, s3, s4, s5, s6⟩ := hSw
        go_simp
      try simp only [Act.put, List.getElem_toArray, List.getElem_cons_succ, List.getElem_cons_zero, List.setIfInBounds_toArray, List.set_cons_zero, List.set_cons_succ]
      refine wpAnyH_done (by kernel_rfl) ?_ _
      try simp only [List.setIfInBounds_toArray]
      try simp only [List.getElem_toArray, List.getElem_cons_succ, List.getElem_cons_zero, List.setIfInBounds_toArray, List.set_cons_zero, List.set_cons_succ]
      replace HB := Lib.hid (HB.out.trans (hbd.mono HB.out.size))
      replace HQ1 := Lib.hid (show ∀ i d, (ds ++ [m])[i]? = some d → w10.drew.cell? ⟨q1, i, none⟩ = some (szF d) from HQ1.out)
      replace HQ2 := Lib.hid (show ∀ i d, (ds ++ [m])[i]? = some d → w10.drew.cell? ⟨q2, i, none⟩ = some (paF d) from HQ2.out)
      replace HQ3 := Lib.hid (show ∀ i d, ds[i]? = some d → w10.drew.cell? ⟨q3, i, none⟩ = some (szF d) from HQ3.out)
      clear b0 b1 b2 b3 b4 hS HKS hbd s0 u0 XM HLA
      go_wp2_with fail
      go_loopw [10] (fun i wr => ∃ (j : Nat), j ≤ nm ∧ i = .int .i64 j ∧ Hid (Below w.heap.size w wr) ∧ Hid ((∀ i d, (ds ++ [m])[i]? = some d → wr.cell? ⟨q1, i, none⟩ = some (szF d)) ∧ (∀ i d, (ds ++ [m])[i]? = some d → wr.cell? ⟨q2, i, none⟩ = some (paF d)) ∧ ∀ i d, ds[i]? = some d → wr.cell? ⟨q3, i, none⟩ = some (szF d))) (fun i _ => nm - (Go.RowKit.intOf i).toNat)
      case atStart => exact ⟨0, Nat.zero_le _, rfl, HB, Lib.hid ⟨HQ1.out, HQ2.out, HQ3.out⟩⟩
      case round =>
        obtain ⟨j, hj, rfl, HBr, HQ⟩ := hrel
        by_cases hlt : j < nm
        · obtain ⟨d, hd⟩ := at_of hdl hlt
          obtain ⟨bl, ol, B1, p1, f1, k1, g1, B2, p2, f2, rfl, e0, e1, e2, e3, e4, hl, _⟩ := (HD.out.at_ j d hd).keep HBr.out
          have hda : (ds ++ [m])[j]? = some d := by rw [List.getElem?_append_left (by omega)]; exact hd
          have c1' : wr.cell? ⟨q1, j, none⟩ = some (.int .i64 (p1 : Int)) := by rw [HQ.out.1 j d hda, szF, hl.len]
          have c2' : wr.cell? ⟨q2, j, none⟩ = some (.bool d.2) := HQ.out.2.1 j d hda
          have c3' : wr.cell? ⟨q3, j, none⟩ = some (.int .i64 (p1 : Int)) := by rw [HQ.out.2.2 j d hd, szF, hl.len]
          have hi0 : (0 : Int) ≤ (j : Int) := by omega
          have hi1 : (j : Int) < (nm : Int) := by omega
          have hi2 : (j : Int) < ((nm + 1 : Nat) : Int) := by omega
          obtain ⟨pd, hpd⟩ : ∃ p, d.2 = p := ⟨_, rfl⟩
          rw [hpd] at e4 c2'
          clear hl hda hd hpd
          go_wp2_with fail
          have HKS : Hid (∀ w' : World, Below wr.heap.size wr w' → (fun w' => w'.cell? ⟨bl, ol + j * 5, none⟩ = some (.slice B1 p1 f1) ∧ w'.cell? ⟨bl, ol + j * 5 + 4, none⟩ = some (.bool pd) ∧ w'.cell? ⟨q1, j, none⟩ = some (.int .i64 (p1 : Int)) ∧ w'.cell? ⟨q2, j, none⟩ = some (.bool pd) ∧ w'.cell? ⟨q3, j, none⟩ = some (.int .i64 (p1 : Int))) w') := Lib.hid fun w' h => ⟨(h.cell (cell_lt e0)).trans e0, (h.cell (cell_lt e4)).trans e4, (h.cell (cell_lt c1')).trans c1', (h.cell (cell_lt c2')).trans c2', (h.cell (cell_lt c3')).trans c3'⟩
          have hbd : Below wr.heap.size wr wr.drew := (Below.refl _ wr).drew
          refine wp_region_held_drew (S := fun w' => w'.cell? ⟨bl, ol + j * 5, none⟩ = some (.slice B1 p1 f1) ∧ w'.cell? ⟨bl, ol + j * 5 + 4, none⟩ = some (.bool pd) ∧ w'.cell? ⟨q1, j, none⟩ = some (.int .i64 (p1 : Int)) ∧ w'.cell? ⟨q2, j, none⟩ = some (.bool pd) ∧ w'.cell? ⟨q3, j, none⟩ = some (.int .i64 (p1 : Int))) (by kernel_rfl) (HKS.out _ hbd) (fun hS => ?_)
          simp only [List.size_toArray, List.length_cons, List.length_nil, Nat.reduceAdd]
          refine wpAnyH_take (i := 0) (v := .slice (some ⟨q1, 0, none⟩) (nm + 1) (nm + 1)) rfl (by kernel_rfl) (by kernel_rfl) (by kernel_rfl) (fun _ _ _ h => h) (Or.inl ⟨by kernel_rfl, ?_⟩) hS ?_
          · intro w' hSw
            obtain ⟨s0, s1, s2, s3, s4⟩ := hSw
            go_simp
          try simp only [Act.put, List.getElem_toArray, List.getElem_cons_zero, List.setIfInBounds_toArray, List.set_cons_zero, List.set_cons_succ]
          refine wpAnyH_take (i := 1) (v := .int .i64 j) rfl (by kernel_rfl) (by kernel_rfl) (by kernel_rfl) (fun _ _ _ h => h) (Or.inl ⟨by kernel_rfl, ?_⟩) hS ?_
          · intro w' hSw
            obtain ⟨s0, s1, s2, s3, s4⟩ := hSw
            go_simp
          try simp only [Act.put, List.getElem_toArray, List.getElem_cons_succ, List.getElem_cons_zero, List.setIfInBounds_toArray, List.set_cons_zero, List.set_cons_succ]
          refine wpAnyH_take (i := 2) (v := .pointer (some ⟨q1, j, none⟩)) rfl (by kernel_rfl) (by kernel_rfl) (by kernel_rfl) (fun _ _ _ h => h) (Or.inl ⟨by kernel_rfl, ?_⟩) hS ?_
          · intro w' hSw
            obtain ⟨s0, s1, s2, s3, s4⟩ := hSw
            go_simp
            intro h; exact absurd h (by omega)
          try simp only [Act.put, List.getElem_toArray, List.getElem_cons_succ, List.getElem_cons_zero, List.setIfInBounds_toArray, List.set_cons_zero, List.set_cons_succ]
          refine wpAnyH_take (i := 3) (v := .int .i64 p1) rfl (by kernel_rfl) (by kernel_rfl) (by kernel_rfl) (fun _ _ _ h => h) (Or.inl ⟨by kernel_rfl, ?_⟩) hS ?_
          · intro w' hSw
            obtain ⟨s0, s1, s2, s3, s4⟩ := hSw
            go_simp
          try simp only [Act.put, List.getElem_toArray, List.getElem_cons_succ, List.getElem_cons_zero, List.setIfInBounds_toArray, List.set_cons_zero, List.set_cons_succ]
          refine wpAnyH_take (i := 4) (v := .slice (some ⟨bl, ol, none⟩) nm cm) rfl (by kernel_rfl) (by kernel_rfl) (by kernel_rfl) (fun _ _ _ h => h) (Or.inl ⟨by kernel_rfl, ?_⟩) hS ?_
          · intro w' hSw
            obtain ⟨s0, s1, s2, s3, s4⟩ := hSw
            go_simp
          try simp only [Act.put, List.getElem_toArray, List.getElem_cons_succ, List.getElem_cons_zero, List.setIfInBounds_toArray, List.set_cons_zero, List.set_cons_succ]
          refine wpAnyH_take (i := 5) (v := .int .i64 j) rfl (by kernel_rfl) (by kernel_rfl) (by kernel_rfl) (fun _ _ _ h => h) (Or.inl ⟨by kernel_rfl, ?_⟩) hS ?_
          · intro w' hSw
            obtain ⟨s0, s1, s2, s3, s4⟩ := hSw
            go_simp
          try simp only [Act.put, List.getElem_toArray, List.getElem_cons_succ, List.getElem_cons_zero, List.setIfInBounds_toArray, List.set_cons_zero, List.set_cons_succ]
          refine wpAnyH_take (i := 6) (v := .pointer (some ⟨bl, ol + j * 5, none⟩)) rfl (by kernel_rfl) (by kernel_rfl) (by kernel_rfl) (fun _ _ _ h => h) (Or.inl ⟨by kernel_rfl, ?_⟩) hS ?_
          · intro w' hSw
            obtain ⟨s0, s1, s2, s3, s4⟩ := hSw
            go_simp
          try simp only [Act.put, List.getElem_toArray, List.getElem_cons_succ, List.getElem_cons_zero, List.setIfInBounds_toArray, List.set_cons_zero, List.set_cons_succ]
          refine wpAnyH_take (i := 7) (v := .pointer (some ⟨bl, ol + j * 5, none⟩)) rfl (by kernel_rfl) (by kernel_rfl) (by kernel_rfl) (fun _ _ _ h => h) (Or.inl ⟨by kernel_rfl, ?_⟩) hS ?_
          · intro w' hSw
            obtain ⟨s0, s1, s2, s3, s4⟩ := hSw
            go_simp
          try simp only [Act.put, List.getElem_toArray, List.getElem_cons_succ, List.getElem_cons_zero, List.setIfInBounds_toArray, List.set_cons_zero, List.set_cons_succ]
          refine wpAnyH_take (i := 8) (v := .slice B1 p1 f1) rfl (by kernel_rfl) (by kernel_rfl) (by kernel_rfl) (fun _ _ _ h => h) (Or.inl ⟨by kernel_rfl, ?_⟩) hS ?_
          · intro w' hSw
            obtain ⟨s0, s1, s2, s3, s4⟩ := hSw
            go_simp
          try simp only [Act.put, List.getElem_toArray, List.getElem_cons_succ, List.getElem_cons_zero, List.setIfInBounds_toArray, List.set_cons_zero, List.set_cons_succ]
          refine wpAnyH_take (i := 9) (v := .int .i64 p1) rfl (by kernel_rfl) (by kernel_rfl) (by kernel_rfl) (fun _ _ _ h => h) (Or.inl ⟨by kernel_rfl, ?_⟩) hS ?_
          · intro w' hSw
            obtain ⟨s0, s1, s2, s3, s4⟩ := hSw
            go_simp
          try simp only [Act.put, List.getElem_toArray, List.getElem_cons_succ, List.getElem_cons_zero, List.setIfInBounds_toArray, List.set_cons_zero, List.set_cons_succ]
          refine wpAnyH_take (i := 10) (v := .bool false) rfl (by kernel_rfl) (by kernel_rfl) (by kernel_rfl) (fun _ _ _ h => h) (Or.inl ⟨by kernel_rfl, ?_⟩) hS ?_
          · intro w' hSw
            obtain ⟨s0, s1, s2, s3, s4⟩ := hSw
            go_simp
          try simp only [Act.put, List.getElem_toArray, List.getElem_cons_succ, List.getElem_cons_zero, List.setIfInBounds_toArray, List.set_cons_zero, List.set_cons_succ]
          refine wpAnyH_take (i := 11) (v := .bool false) rfl (by kernel_rfl) (by kernel_rfl) (by kernel_rfl) (fun _ _ _ h => h) (Or.inl ⟨by kernel_rfl, ?_⟩) hS ?_
          · intro w' hSw
            obtain ⟨s0, s1, s2, s3, s4⟩ := hSw
            go_simp
          try simp only [Act.put, List.getElem_toArray, List.getElem_cons_succ, List.getElem_cons_zero, List.setIfInBounds_toArray, List.set_cons_zero, List.set_cons_succ]
          refine wpAnyH_take (i := 12) (v := .slice (some ⟨q2, 0, none⟩) (nm + 1) (nm + 1)) rfl (by kernel_rfl) (by kernel_rfl) (by kernel_rfl) (fun _ _ _ h => h) (Or.inl ⟨by kernel_rfl, ?_⟩) hS ?_
          · intro w' hSw
            obtain ⟨s0, s1, s2, s3, s4⟩ := hSw
            go_simp
          try simp only [Act.put, List.getElem_toArray, List.getElem_cons_succ, List.getElem_cons_zero, List.setIfInBounds_toArray, List.set_cons_zero, List.set_cons_succ]
          refine wpAnyH_take (i := 13) (v := .int .i64 j) rfl (by kernel_rfl) (by kernel_rfl) (by kernel_rfl) (fun _ _ _ h => h) (Or.inl ⟨by kernel_rfl, ?_⟩) hS ?_
          · intro w' hSw
            obtain ⟨s0, s1, s2, s3, s4⟩ := hSw
            go_simp
          try simp only [Act.put, List.getElem_toArray, List.getElem_cons_succ, List.getElem_cons_zero, List.setIfInBounds_toArray, List.set_cons_zero, List.set_cons_succ]
          refine wpAnyH_take (i := 14) (v := .pointer (some ⟨q2, j, none⟩)) rfl (by kernel_rfl) (by kernel_rfl) (by kernel_rfl) (fun _ _ _ h => h) (Or.inl ⟨by kernel_rfl, ?_⟩) hS ?_
          · intro w' hSw
            obtain ⟨s0, s1, s2, s3, s4⟩ := hSw
            go_simp
            intro h; exact absurd h (by omega)
          try simp only [Act.put, List.getElem_toArray, List.getElem_cons_succ, List.getElem_cons_zero, List.setIfInBounds_toArray, List.set_cons_zero, List.set_cons_succ]
          refine wpAnyH_take (i := 15) (v := .bool pd) rfl (by kernel_rfl) (by kernel_rfl) (by kernel_rfl) (fun _ _ _ h => h) (Or.inl ⟨by kernel_rfl, ?_⟩) hS ?_
          · intro w' hSw
            obtain ⟨s0, s1, s2, s3, s4⟩ := hSw
            go_simp
          try simp only [Act.put, List.getElem_toArray, List.getElem_cons_succ, List.getElem_cons_zero, List.setIfInBounds_toArray, List.set_cons_zero, List.set_cons_succ]
          refine wpAnyH_take (i := 16) (v := .slice (some ⟨bl, ol, none⟩) nm cm) rfl (by kernel_rfl) (by kernel_rfl) (by kernel_rfl) (fun _ _ _ h => h) (Or.inl ⟨by kernel_rfl, ?_⟩) hS ?_
          · intro w' hSw
            obtain ⟨s0, s1, s2, s3, s4⟩ := hSw
            go_simp
          try simp only [Act.put, List.getElem_toArray, List.getElem_cons_succ, List.getElem_cons_zero, List.setIfInBounds_toArray, List.set_cons_zero, List.set_cons_succ]
          refine wpAnyH_take (i := 17) (v := .int .i64 j) rfl (by kernel_rfl) (by kernel_rfl) (by kernel_rfl) (fun _ _ _ h => h) (Or.inl ⟨by kernel_rfl, ?_⟩) hS ?_
          · intro w' hSw
            obtain ⟨s0, s1, s2, s3, s4⟩ := hSw
            go_simp
          try simp only [Act.put, List.getElem_toArray, List.getElem_cons_succ, List.getElem_cons_zero, List.setIfInBounds_toArray, List.set_cons_zero, List.set_cons_succ]
          refine wpAnyH_take (i := 18) (v := .pointer (some ⟨bl, ol + j * 5, none⟩)) rfl (by kernel_rfl) (by kernel_rfl) (by kernel_rfl) (fun _ _ _ h => h) (Or.inl ⟨by kernel_rfl, ?_⟩) hS ?_
          · intro w' hSw
            obtain ⟨s0, s1, s2, s3, s4⟩ := hSw
            go_simp
          try simp only [Act.put, List.getElem_toArray, List.getElem_cons_succ, List.getElem_cons_zero, List.setIfInBounds_toArray, List.set_cons_zero, List.set_cons_succ]
          refine wpAnyH_take (i := 19) (v := .pointer (some ⟨bl, ol + j * 5 + 4, none⟩)) rfl (by kernel_rfl) (by kernel_rfl) (by kernel_rfl) (fun _ _ _ h => h) (Or.inl ⟨by kernel_rfl, ?_⟩) hS ?_
          · intro w' hSw
            obtain ⟨s0, s1, s2, s3, s4⟩ := hSw
            go_simp
          try simp only [Act.put, List.getElem_toArray, List.getElem_cons_succ, List.getElem_cons_zero, List.setIfInBounds_toArray, List.set_cons_zero, List.set_cons_succ]
          refine wpAnyH_take (i := 20) (v := .bool pd) rfl (by kernel_rfl) (by kernel_rfl) (by kernel_rfl) (fun _ _ _ h => h) (Or.inl ⟨by kernel_rfl, ?_⟩) hS ?_
          · intro w' hSw
            obtain ⟨s0, s1, s2, s3, s4⟩ := hSw
            go_simp
          try simp only [Act.put, List.getElem_toArray, List.getElem_cons_succ, List.getElem_cons_zero, List.setIfInBounds_toArray, List.set_cons_zero, List.set_cons_succ]
          refine wpAnyH_take (i := 21) (v := .bool false) rfl (by kernel_rfl) (by kernel_rfl) (by kernel_rfl) (fun _ _ _ h => h) (Or.inl ⟨by kernel_rfl, ?_⟩) hS ?_
          · intro w' hSw
            obtain ⟨s0, s1, s2, s3, s4⟩ := hSw
            go_simp
          try simp only [Act.put, List.getElem_toArray, List.getElem_cons_succ, List.getElem_cons_zero, List.setIfInBounds_toArray, List.set_cons_zero, List.set_cons_succ]
          refine wpAnyH_take (i := 22) (v := .bool false) rfl (by kernel_rfl) (by kernel_rfl) (by kernel_rfl) (fun _ _ _ h => h) (Or.inl ⟨by kernel_rfl, ?_⟩) hS ?_
          · intro w' hSw
            obtain ⟨s0, s1, s2, s3, s4⟩ := hSw
            go_simp
          try simp only [Act.put, List.getElem_toArray, List.getElem_cons_succ, List.getElem_cons_zero, List.setIfInBounds_toArray, List.set_cons_zero, List.set_cons_succ]
          refine wpAnyH_take (i := 23) (v := .bool false) rfl (by kernel_rfl) (by kernel_rfl) (by kernel_rfl) (fun _ _ _ h => h) (Or.inl ⟨by kernel_rfl, ?_⟩) hS ?_
          · intro w' hSw
            obtain ⟨s0, s1, s2, s3, s4⟩ := hSw
            go_simp
          try simp only [Act.put, List.getElem_toArray, List.getElem_cons_succ, List.getElem_cons_zero, List.setIfInBounds_toArray, List.set_cons_zero, List.set_cons_succ]
          refine wpAnyH_take (i := 24) (v := .slice (some ⟨q3, 0, none⟩) nm nm) rfl (by kernel_rfl) (by kernel_rfl) (by kernel_rfl) (fun _ _ _ h => h) (Or.inl ⟨by kernel_rfl, ?_⟩) hS ?_
          · intro w' hSw
            obtain ⟨s0, s1, s2, s3, s4⟩ := hSw
            go_simp
          try simp only [Act.put, List.getElem_toArray, List.getElem_cons_succ, List.getElem_cons_zero, List.setIfInBounds_toArray, List.set_cons_zero, List.set_cons_succ]
          refine wpAnyH_take (i := 25) (v := .int .i64 j) rfl (by kernel_rfl) (by kernel_rfl) (by kernel_rfl) (fun _ _ _ h => h) (Or.inl ⟨by kernel_rfl, ?_⟩) hS ?_
          · intro w' hSw
            obtain ⟨s0, s1, s2, s3, s4⟩ := hSw
            go_simp
          try simp only [Act.put, List.getElem_toArray, List.getElem_cons_succ, List.getElem_cons_zero, List.setIfInBounds_toArray, List.set_cons_zero, List.set_cons_succ]
          refine wpAnyH_take (i := 26) (v := .pointer (some ⟨q3, j, none⟩)) rfl (by kernel_rfl) (by kernel_rfl) (by kernel_rfl) (fun _ _ _ h => h) (Or.inl ⟨by kernel_rfl, ?_⟩) hS ?_
          · intro w' hSw
            obtain ⟨s0, s1, s2, s3, s4⟩ := hSw
            go_simp
          try simp only [Act.put, List.getElem_toArray, List.getElem_cons_succ, List.getElem_cons_zero, List.setIfInBounds_toArray, List.set_cons_zero, List.set_cons_succ]
          refine wpAnyH_take (i := 27) (v := .int .i64 p1) rfl (by kernel_rfl) (by kernel_rfl) (by kernel_rfl) (fun _ _ _ h => h) (Or.inl ⟨by kernel_rfl, ?_⟩) hS ?_
          · intro w' hSw
            obtain ⟨s0, s1, s2, s3, s4⟩ := hSw
            go_simp
          try simp only [Act.put, List.getElem_toArray, List.getElem_cons_succ, List.getElem_cons_zero, List.setIfInBounds_toArray, List.set_cons_zero, List.set_cons_succ]
          refine wpAnyH_take (i := 28) (v := .slice (some ⟨q1, 0, none⟩) (nm + 1) (nm + 1)) rfl (by kernel_rfl) (by kernel_rfl) (by kernel_rfl) (fun _ _ _ h => h) (Or.inl ⟨by kernel_rfl, ?_⟩) hS ?_
          · intro w' hSw
            obtain ⟨s0, s1, s2, s3, s4⟩ := hSw
            go_simp
          try simp only [Act.put, List.getElem_toArray, List.getElem_cons_succ, List.getElem_cons_zero, List.setIfInBounds_toArray, List.set_cons_zero, List.set_cons_succ]
          refine wpAnyH_take (i := 29) (v := .int .i64 j) rfl (by kernel_rfl) (by kernel_rfl) (by kernel_rfl) (fun _ _ _ h => h) (Or.inl ⟨by kernel_rfl, ?_⟩) hS ?_
          · intro w' hSw
            obtain ⟨s0, s1, s2, s3, s4⟩ := hSw
            go_simp
          try simp only [Act.put, List.getElem_toArray, List.getElem_cons_succ, List.getElem_cons_zero, List.setIfInBounds_toArray, List.set_cons_zero, List.set_cons_succ]
          refine wpAnyH_take (i := 30) (v := .pointer (some ⟨q1, j, none⟩)) rfl (by kernel_rfl) (by kernel_rfl) (by kernel_rfl) (fun _ _ _ h => h) (Or.inl ⟨by kernel_rfl, ?_⟩) hS ?_
          · intro w' hSw
            obtain ⟨s0, s1, s2, s3, s4⟩ := hSw
            go_simp
            intro h; exact absurd h (by omega)
          try simp only [Act.put, List.getElem_toArray, List.getElem_cons_succ, List.getElem_cons_zero, List.setIfInBounds_toArray, List.set_cons_zero, List.set_cons_succ]
          refine wpAnyH_take (i := 31) (v := .int .i64 p1) rfl (by kernel_rfl) (by kernel_rfl) (by kernel_rfl) (fun _ _ _ h => h) (Or.inl ⟨by kernel_rfl, ?_⟩) hS ?_
          · intro w' hSw
            obtain ⟨s0, s1, s2, s3, s4⟩ := hSw
            go_simp
          try simp only [Act.put, List.getElem_toArray, List.getElem_cons_succ, List.getElem_cons_zero, List.setIfInBounds_toArray, List.set_cons_zero, List.set_cons_succ]
          refine wpAnyH_take (i := 32) (v := .bool false) rfl (by kernel_rfl) (by kernel_rfl) (by kernel_rfl) (fun _ _ _ h => h) (Or.inl ⟨by kernel_rfl, ?_⟩) hS ?_
          · intro w' hSw
            obtain ⟨s0, s1, s2, s3, s4⟩ := hSw
            go_simp
          try simp only [Act.put, List.getElem_toArray, List.getElem_cons_succ, List.getElem_cons_zero, List.setIfInBounds_toArray, List.set_cons_zero, List.set_cons_succ]
          refine wpAnyH_take (i := 33) (v := .bool false) rfl (by kernel_rfl) (by kernel_rfl) (by kernel_rfl) (fun _ _ _ h => h) (Or.inl ⟨by kernel_rfl, ?_⟩) hS ?_
          · intro w' hSw
            obtain ⟨s0, s1, s2, s3, s4⟩ := hSw
            go_simp
          try simp only [Act.put, List.getElem_toArray, List.getElem_cons_succ, List.getElem_cons_zero, List.setIfInBounds_toArray, List.set_cons_zero, List.set_cons_succ]
          refine wpAnyH_done (by kernel_rfl) ?_ _
          try simp only [List.setIfInBounds_toArray]
          try simp only [List.getElem_toArray, List.getElem_cons_succ, List.getElem_cons_zero, List.setIfInBounds_toArray, List.set_cons_zero, List.set_cons_succ]
          replace HBr := Lib.hid (HBr.out.trans (hbd.mono HBr.out.size))
          replace HQ := Lib.hid (show (∀ i d, (ds ++ [m])[i]? = some d → wr.drew.cell? ⟨q1, i, none⟩ = some (szF d)) ∧ (∀ i d, (ds ++ [m])[i]? = some d → wr.drew.cell? ⟨q2, i, none⟩ = some (paF d)) ∧ ∀ i d, ds[i]? = some d → wr.drew.cell? ⟨q3, i, none⟩ = some (szF d) from HQ.out)
          clear hS HKS hbd e0 e1 e2 e3 e4 c1' c2' c3'
          go_wp2_with fail
          go_roundw
          case rel => exact ⟨j + 1, by omega, by go_num, HBr, HQ⟩
          case measure => simp [Go.RowKit.intOf]; omega
        · go_wp2_with fail
          go_ret
          exact ⟨rfl, HBr.out⟩
end Go.Proofs.Ytloeainlpcnhnaa
/-
  The law MetasSizes over what is handed in. No statement is proved here.
-/
namespace Go.Proofs.Ytloeainlpcnhnaa
open Go.ChangeShapes Go.WideShapes Go.ChangeAt Go.RowKit
set_option linter.unusedVariables false
theorem metasSizesM (ms : List (List T × T)) (m : List T × T) (p : Bool) (Am : Option Addr) (nm cm : Nat) (A1 : Option Addr) (n1 c1 : Nat) (km hm : Int) (A2 : Option Addr) (n2 c2 : Nat) (w : World) (hd : ML w ms Am nm cm) (hx : CLV w m.1 A1 n1 c1) (hr : Rd w m.2 (.agg #[.int .i64 km, .int .i64 hm, .slice A2 n2 c2])) :
    Calls Try.prog 8 #[.slice Am nm cm, .agg #[.slice A1 n1 c1, .int .i64 km, .int .i64 hm, .slice A2 n2 c2, .bool p]] w fun e w' => e = .returned (.bool true) ∧ Below w.heap.size w w' := by
  obtain ⟨ds, hds, _⟩ := hd.pl
  exact metasSizesC ds (m, p) Am nm cm A1 n1 c1 km hm A2 n2 c2 w hds hx hr
section
variable {H : Type} {enc : TypeId × Value → H} {w : World} {base : Nat} {spare : Nat → Bool} {held : Bool}
set_option maxRecDepth 100000 in
theorem open_meta {r : Reach} {b0 : Nat} {v : Value} {d : DataW H} {p : List MemPlace} (hv : Value.okWide Try.prog w r b0 39 v) (h : DataW.Trod enc Try.prog w base spare held 39 v d p) :
    ∃ (t : List T × T) (A1 : Option Addr) (n1 c1 : Nat) (k g : Int) (A : Option Addr) (n c : Nat) (pb : Bool), v = .agg #[.slice A1 n1 c1, .int .i64 k, .int .i64 g, .slice A n c, .bool pb] ∧ CLV w t.1 A1 n1 c1 ∧ Rd w t.2 (.agg #[.int .i64 k, .int .i64 g, .slice A n c]) := by
  obtain ⟨cs0, rfl, _⟩ := okWide_struct Try.underlying39 hv
  obtain ⟨fuel, hf⟩ := h
  obtain ⟨y, A1, n1, c1, v1, v2, v3, pb, e, hl, hr, _⟩ := trod_meta hf
  obtain ⟨k, g, A, n, c, e1⟩ := hr.full
  simp only [Value.agg.injEq, Array.mk.injEq, List.cons.injEq, and_true] at e1
  obtain ⟨rfl, rfl, rfl⟩ := e1
  refine ⟨y, A1, n1, c1, k, g, A, n, c, pb, ?_, hl, hr⟩
  cases cs0
  simpa [Value.cells] using e
end
end Go.Proofs.Ytloeainlpcnhnaa
