/-
  The document's own Pattern. No statement is proved here.
-/
import Derived.Test.YtehdbjfalpjpeaaOk
namespace Go.Proofs.Ytehdbjfalpjpeaa
open Go.ChangeShapes Go.WideShapes Go.ChangeAt Go.RowKit Go.Maps
set_option linter.unusedVariables false

/-- an entry's head, where it lies -/
theorem head_cell {w : World} {A : Option Addr} {xs : List T} (hx : ∀ i t, xs[i]? = some t → RdAt w A i t) {b o : Nat} (hA : A = some ⟨b, o, none⟩) {m : Nat} {t : T} (ht : xs[m]? = some t) : w.cell? ⟨b, o + m * 3 + 1, none⟩ = some (.int .i64 (hd t)) := by
  obtain ⟨b', o', k, h, A', n', c', e, _, c1, _, hr⟩ := (hx m t ht).full
  rw [hA] at e
  have e' : b = b' ∧ o = o' := by simpa using e
  obtain ⟨rfl, rfl⟩ := e'
  obtain ⟨k3, h3, ys⟩ := t
  obtain ⟨A3, n3, c3, e3, _⟩ := Rd_node.1 hr
  have e4 : k = k3 ∧ h = h3 ∧ A' = A3 ∧ n' = n3 ∧ c' = c3 := by simpa using e3
  obtain ⟨_, rfl, _⟩ := e4
  exact c1

set_option maxRecDepth 100000 in
set_option maxHeartbeats 4000000 in
theorem rfPatternC (xs : List T) (A : Option Addr) (n c : Nat) (below : Int) (w : World) (hn : xs.length = n) (hc : n ≤ c) (hm : c ≤ maxLen) (hb : n ≤ 3518437208780) (hx : ∀ i t, xs[i]? = some t → RdAt w A i t) :
    Calls Try.prog 20 #[.slice A n c, .int .i64 below] w (PtEnd (ptn below [] xs) w) := by
  obtain ⟨i0, hi, hz0, hz1, hz2⟩ := info_parts infoI
  have HX := Lib.hid hx; clear hx
  have HN := Lib.hid hn; clear hn
  have HM := Lib.hid hm; clear hm
  go_enter Try.func20, Try.ntmps20
  go_wp2_with fail
  go_loopw [6, 7] (fun v i wr => ∃ (j : Nat) (seen : List Int), j ≤ n ∧ i = .int .i64 j ∧ wr.ownsRow w.heap.size 3 1 v seen.length (seen.map (Value.int .i64)) ∧ seen.length = j ∧ Below w.heap.size w wr ∧
      Hid (ptn below seen (xs.drop j) = ptn below [] xs) ∧ Hid (seen = (xs.take j).map hd)) (fun _ i _ => n - (intOf i).toNat)
  case atStart => exact ⟨0, [], Nat.zero_le _, rfl, World.ownsRow_nil _ _ _ _, rfl, Below.refl _ _, Lib.hid rfl, Lib.hid rfl⟩
  case round =>
    obtain ⟨j, seen, hj, rfl, hrow, hsl, hbw, HP, HSE⟩ := hrel
    have hws := hbw.size
    by_cases hlt : j < n
    · obtain ⟨t, ht⟩ := at_of HN.out hlt
      obtain ⟨b', o, k2, h2, A2, n2, c2', rfl, c00, c10, c20, hr⟩ := (HX.out j t ht).full
      have c0 := (hbw.cell (cell_lt c00)).trans c00
      have c1 := (hbw.cell (cell_lt c10)).trans c10
      have c2 := (hbw.cell (cell_lt c20)).trans c20
      obtain ⟨k3, h3, ys⟩ := t
      obtain ⟨A3, n3, c3, e3, hk3, hh3, hl3, hc3, hm3, _⟩ := Rd_node.1 hr
      have e3' : k2 = k3 ∧ h2 = h3 ∧ A2 = A3 ∧ n2 = n3 ∧ c2' = c3 := by simpa using e3
      obtain ⟨rfl, rfl, rfl, rfl, rfl⟩ := e3'
      have hc10 := c10
      clear e3 hr hk3 hc3 hm3 c00 c10 c20
      have HP' := HP.out
      rw [drop_at ht] at HP'
      have HL3 := Lib.hid hl3; clear hl3
      have HT := Lib.hid ht; clear ht
      have HC1 := Lib.hid hc10; clear hc10
      have hi0 : (0 : Int) ≤ j := by omega
      have hi1 : (j : Int) < n := by omega
      have stop : pt1 seen below (.node k2 h2 ys) = false → none = ptn below [] xs := fun p1 => by rw [ptn_stop p1] at HP'; exact HP'
      have STOP := Lib.hid stop; clear stop
      by_cases k4 : k2 = 4
      · subst k4
        by_cases hz : n2 = 0
        · subst hz
          by_cases h0 : h2 < 0
          · have d0 : decide (h2 < 0) = true := by simpa using h0
            have hs : none = ptn below [] xs := STOP.out (by simp [pt1, show ¬ 0 ≤ h2 by omega])
            have HS := Lib.hid hs.symm; clear hs
            have HH := Lib.hid h0; clear h0
            go_wp2_with fail
            refine bodyPost_ret (v := .tuple #[.slice none 0 0, .bool false]) (by simp [results, Try.results20, go_sem]) rfl (.inr ⟨HS.out, rfl, hbw⟩)
          · have d0 : decide (h2 < 0) = false := by simpa using h0
            by_cases h9 : below ≤ h2
            · have d9 : decide (below ≤ h2) = true := by simpa using h9
              have hs : none = ptn below [] xs := STOP.out (by simp [pt1, show ¬ h2 < below by omega])
              have HS := Lib.hid hs.symm; clear hs
              have HH := Lib.hid h0; clear h0
              have HH9 := Lib.hid h9; clear h9
              go_wp2_with fail
              refine bodyPost_ret (v := .tuple #[.slice none 0 0, .bool false]) (by simp [results, Try.results20, go_sem]) rfl (.inr ⟨HS.out, rfl, hbw⟩)
            · have d9 : decide (below ≤ h2) = false := by simpa using h9
              have HH := Lib.hid h0; clear h0
              have HH9 := Lib.hid h9; clear h9
              have HPP := Lib.hid HP'; clear HP'
              go_wp2_with fail
              have HROW := Lib.hid hrow
              have HBW := Lib.hid hbw
              clear c0 c1 c2
              go_loopw [8] (fun i wr => ∃ (m : Nat), m ≤ j ∧ i = .int .i64 m ∧ wr.ownsRow w.heap.size 3 1 u6 seen.length (seen.map (Value.int .i64)) ∧ Below w.heap.size w wr ∧ Hid (h2 ∉ seen.take m)) (fun i _ => j - (intOf i).toNat)
              case atStart => exact ⟨0, Nat.zero_le _, rfl, HROW.out, HBW.out, Lib.hid (by simp)⟩
              case round =>
                clear hrow hbw hws
                obtain ⟨m, hmj, rfl, hrow, hbw, HNM⟩ := hrel
                have hws := hbw.size
                by_cases hmlt : m < j
                · obtain ⟨t9, ht9⟩ := at_of HN.out (show m < n by omega)
                  have hh9 := head_cell HX.out rfl ht9
                  have c1 := (hbw.cell (cell_lt HC1.out)).trans HC1.out
                  have c9 := (hbw.cell (cell_lt hh9)).trans hh9
                  have hsm : seen[m]? = some (hd t9) := by rw [HSE.out, List.getElem?_map, List.getElem?_take_of_lt hmlt, ht9]; rfl
                  have HSM := Lib.hid hsm; clear hsm
                  clear hh9
                  have HT9 := Lib.hid ht9; clear ht9
                  generalize hd t9 = h9 at *
                  have hi0' : (0 : Int) ≤ m := by omega
                  have hi1' : (m : Int) < n := by omega
                  have hi2' : (m : Int) < j := by omega
                  go_wp2_with fail
                  have p0 := Past.cell c1
                  have p1 := Past.cell c9
                  refine wp_region_past (by kernel_rfl) (by kernel_rfl) ?_
                  repeat (go_big_quiet_step (fail))
                  refine wpQuiet_nil ?_
                  rintro _ ⟨q, rfl⟩
                  clear p0 p1 c1 c9
                  obtain ⟨w1, hb1⟩ := q
                  have hbw1 := hbw.trans (hb1.mono hbw.size)
                  dsimp only
                  by_cases he : h9 = h2
                  · subst he
                    have hs : none = ptn below [] xs := STOP.out (by
                      have : seen.contains h9 = true := by simpa using List.mem_of_getElem? HSM.out
                      simp only [pt1, this]; simp)
                    have HS := Lib.hid hs.symm; clear hs
                    go_wp2_with fail
                    refine bodyPost_ret (v := .tuple #[.slice none 0 0, .bool false]) (by simp [results, Try.results20, go_sem]) rfl (.inr ⟨HS.out, rfl, hbw1⟩)
                  · have e9 : (h9 == h2) = false := by simpa using he
                    have HE := Lib.hid he; clear he
                    go_wp2_with fail
                    go_roundw
                    case rel => exact ⟨m + 1, by omega, by go_num, row_still hrow hb1, hbw1, Lib.hid (by rw [take_snoc HSM.out]; have h1 := HNM.out; have h2 := HE.out; simp [h1]; exact fun e => h2 e.symm)⟩
                    case measure => simp [intOf]; omega
                · obtain rfl : m = j := by omega
                  have hnot : h2 ∉ seen := by have := HNM.out; rwa [List.take_of_length_le (by omega)] at this
                  have p1 : pt1 seen below (.node 4 h2 ys) = true := by
                    have h1 := HH.out
                    have h3 := HH9.out
                    have hy := HL3.out
                    have q0 : decide (0 ≤ h2) = true := by simp; omega
                    have q9 : decide (h2 < below) = true := by simp; omega
                    have qn : seen.contains h2 = false := by simpa using hnot
                    simp only [pt1, hy, q0, q9, qn]
                    rfl
                  have hp2 := HPP.out
                  rw [ptn_step p1] at hp2
                  have HP2 := Lib.hid hp2; clear hp2
                  clear p1 hnot
                  have c1 := (hbw.cell (cell_lt HC1.out)).trans HC1.out
                  have hgl : (seen.length + 1) * 8 ≤ 140737488355328 := by omega
                  have hgm : seen.length + 1 ≤ maxLen := by unfold maxLen; omega
                  have HSL := Lib.hid hsl
                  go_wp2_with (first
                    | (at_builtin; refine wpList_append_own _ rfl _ _ 28 rfl w.heap.size 3 i0 (.int .i64 0) 1 8 Try.underlying28 hi hz0 hz1 hz2 rfl (by decide) _ _ _ rfl (hrow.alloc _) ⟨wr.heap.size, 0, none⟩ 1 1 [.int .i64 h2] rfl rfl (cell_one_new _ _ _) (ints_oneCell .i64 [h2]) hgm hgl (by simp; omega) ?_; intro v' w4 hown' hg4 hnil4; go_frame)
                    | go_in)
                  exact ⟨⟨m + 1, seen ++ [h2], by omega, by go_num, by simpa using hown', by simp; omega, ad_below hbw hg4 hrow, HP2, Lib.hid (by rw [take_snoc HT.out, List.map_append, ← HSE.out]; rfl)⟩, by simp [intOf]; omega⟩
        · have d1 : ((n2 : Int) == 0) = false := by rw [beq_eq_false_iff_ne]; omega
          have hs : none = ptn below [] xs := STOP.out (by have hy := HL3.out; simp [pt1]; intro h; exact absurd (by rw [← hy, h]; rfl) hz)
          have HS := Lib.hid hs.symm; clear hs
          go_wp2_with fail
          refine bodyPost_ret (v := .tuple #[.slice none 0 0, .bool false]) (by simp [results, Try.results20, go_sem]) rfl (.inr ⟨HS.out, rfl, hbw⟩)
      · have e4 : (k2 == 4) = false := by simpa using k4
        have hs : none = ptn below [] xs := STOP.out (by simp [pt1, k4])
        have HS := Lib.hid hs.symm; clear hs
        have HH := Lib.hid k4; clear k4
        go_wp2_with fail
        refine bodyPost_ret (v := .tuple #[.slice none 0 0, .bool false]) (by simp [results, Try.results20, go_sem]) rfl (.inr ⟨HS.out, rfl, hbw⟩)
    · have HP' := HP.out
      rw [drop_all HN.out (by omega), ptn] at HP'
      have HP := Lib.hid HP'.symm; clear HP'
      go_wp2_with fail
      refine bodyPost_ret (v := .tuple #[u6, .bool true]) (by simp [results, Try.results20, go_sem]) rfl (.inl ⟨seen, _, HP.out, rfl, Ns.of_row hrow, hbw⟩)
end Go.Proofs.Ytehdbjfalpjpeaa
