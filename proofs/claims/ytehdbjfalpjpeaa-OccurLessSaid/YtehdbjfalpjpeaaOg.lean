/-
  The document's own Ints, the laws' own in: contracts; the chapter's example of layer 5. No statement is proved here.
-/
import Derived.Test.YtehdbjfalpjpeaaOf
namespace Go.Proofs.Ytehdbjfalpjpeaa
open Go.ChangeShapes Go.WideShapes Go.ChangeAt Go.RowKit
set_option linter.unusedVariables false

theorem Ns.cell {w : World} {A : Option Addr} {n c : Nat} {zs : List Int} (h : Ns w (.slice A n c) zs) {j : Nat} (hj : j < n) : ∃ b o z, A = some ⟨b, o, none⟩ ∧ zs[j]? = some z ∧ w.cell? ⟨b, o + j, none⟩ = some (.int .i64 z) := by
  obtain ⟨A', c', e, h2, h3, h4⟩ := h
  have e' : A = A' ∧ n = zs.length ∧ c = c' := by simpa using e
  obtain ⟨rfl, rfl, rfl⟩ := e'
  have hz : zs[j]? = some zs[j] := List.getElem?_eq_getElem hj
  obtain ⟨b, o, rfl, hc⟩ := h4 j _ hz
  exact ⟨b, o, _, rfl, hz, hc⟩
theorem Ns.full {w : World} {v : Value} {zs : List Int} (h : Ns w v zs) : ∃ A n c, v = .slice A n c ∧ zs.length = n ∧ n ≤ c ∧ c ≤ maxLen := by
  obtain ⟨A, c, rfl, h2, h3, _⟩ := h
  exact ⟨A, _, c, rfl, rfl, h2, h3⟩
theorem take_snoc {α : Type} {l : List α} {j : Nat} {x : α} (h : l[j]? = some x) : l.take (j + 1) = l.take j ++ [x] := by
  rw [List.take_add_one, h]; rfl

set_option maxHeartbeats 2000000 in
theorem intsC (zs ys : List Int) (v v' : Value) (w : World) (h1 : Ns w v zs) (h2 : Ns w v' ys) :
    Calls Try.prog 12 #[v, v'] w fun e w' => e = .returned (.bool (decide (zs = ys))) ∧ Below w.heap.size w w' := by
  obtain ⟨A, n, c, rfl, hn, hc, hm⟩ := h1.full
  obtain ⟨B, m, d, rfl, hn', hd, hm'⟩ := h2.full
  unfold maxLen at hm hm'
  have HN := Lib.hid hn; clear hn
  have HN' := Lib.hid hn'; clear hn'
  by_cases hnm : n = m
  · subst hnm
    have H1 := Lib.hid h1; clear h1
    have H2 := Lib.hid h2; clear h2
    go_enter Try.func12, Try.ntmps12
    go_wp2_with fail
    go_loopw [5] (fun i wr => ∃ (j : Nat), j ≤ n ∧ i = .int .i64 j ∧ Hid (zs.take j = ys.take j) ∧ Below w.heap.size w wr) (fun i _ => n - (intOf i).toNat)
    case atStart => exact ⟨0, Nat.zero_le _, rfl, Lib.hid rfl, Below.refl _ _⟩
    case round =>
      obtain ⟨j, hj, rfl, HE, hb⟩ := hrel
      by_cases hlt : j < n
      · obtain ⟨b, o, z, rfl, hz, c0⟩ := (H1.out.keep hb).cell hlt
        obtain ⟨b', o', y, rfl, hy, c1⟩ := (H2.out.keep hb).cell hlt
        have HZ := Lib.hid hz; clear hz
        have HY := Lib.hid hy; clear hy
        have hi0 : (0 : Int) ≤ j := by omega
        have hi1 : (j : Int) < n := by omega
        have p0 := Past.cell c0
        have p1 := Past.cell c1
        go_wp2_with fail
        refine wp_region_past (by kernel_rfl) (by kernel_rfl) ?_
        repeat (go_big_quiet_step (fail))
        refine wpQuiet_nil ?_
        rintro _ ⟨q, rfl⟩
        clear p0 p1
        obtain ⟨w1, hb1⟩ := q
        dsimp only
        by_cases hzy : z = y
        · subst hzy
          go_wp2_with fail
          go_roundw
          case rel => exact ⟨j + 1, by omega, by go_num, Lib.hid (by rw [take_snoc HZ.out, take_snoc HY.out, HE.out]), hb.trans (hb1.mono hb.size)⟩
          case measure => simp [intOf]; omega
        · have e1 : (z == y) = false := by simpa using hzy
          have HH := Lib.hid hzy; clear hzy
          go_wp2_with fail
          go_ret
          refine ⟨ret_bool ?_, hb.trans (hb1.mono hb.size)⟩
          symm
          rw [decide_eq_false_iff_not]
          rintro rfl
          have := HZ.out.symm.trans HY.out
          simp at this
          exact HH.out this
      · go_wp2
        go_ret
        refine ⟨ret_bool ?_, hb⟩
        have := HE.out
        rw [List.take_of_length_le (by have := HN.out; omega), List.take_of_length_le (by have := HN'.out; omega)] at this
        simp [this]
  · have e1 : ((n : Int) == (m : Int)) = false := by rw [beq_eq_false_iff_ne]; omega
    have HH := Lib.hid hnm; clear hnm
    go_enter Try.func12, Try.ntmps12
    go_wp2
    go_ret
    refine ⟨ret_bool ?_, Below.refl _ _⟩
    symm
    rw [decide_eq_false_iff_not]
    rintro rfl
    exact HH.out (HN.out.symm.trans HN'.out)

set_option maxHeartbeats 2000000 in
theorem inC (zs : List Int) (x : Int) (v : Value) (w : World) (h1 : Ns w v zs) :
    Calls Try.prog 25 #[v, .int .i64 x] w fun e w' => e = .returned (.bool (zs.contains x)) ∧ Below w.heap.size w w' := by
  obtain ⟨A, n, c, rfl, hn, hc, hm⟩ := h1.full
  unfold maxLen at hm
  have HN := Lib.hid hn; clear hn
  have H1 := Lib.hid h1; clear h1
  go_enter Try.func25, Try.ntmps25
  go_wp2_with fail
  go_loopw [5] (fun i wr => ∃ (j : Nat), j ≤ n ∧ i = .int .i64 j ∧ Hid (x ∉ zs.take j) ∧ Below w.heap.size w wr) (fun i _ => n - (intOf i).toNat)
  case atStart => exact ⟨0, Nat.zero_le _, rfl, Lib.hid (by simp), Below.refl _ _⟩
  case round =>
    obtain ⟨j, hj, rfl, HE, hb⟩ := hrel
    by_cases hlt : j < n
    · obtain ⟨b, o, z, rfl, hz, c0⟩ := (H1.out.keep hb).cell hlt
      have HZ := Lib.hid hz; clear hz
      have hi0 : (0 : Int) ≤ j := by omega
      have hi1 : (j : Int) < n := by omega
      by_cases hzy : z = x
      · subst hzy
        go_wp2
        go_ret
        exact ⟨ret_bool (by symm; simpa using List.mem_of_getElem? HZ.out), hb⟩
      · have e1 : (z == x) = false := by simpa using hzy
        have HH := Lib.hid hzy; clear hzy
        go_wp2
        go_roundw
        case rel => exact ⟨j + 1, by omega, by go_num, Lib.hid (by rw [take_snoc HZ.out]; have h1 := HE.out; have h2 := HH.out; simp [h1]; exact fun e => h2 e.symm), hb⟩
        case measure => simp [intOf]; omega
    · go_wp2
      go_ret
      refine ⟨ret_bool ?_, hb⟩
      have := HE.out
      rw [List.take_of_length_le (by have := HN.out; omega)] at this
      symm
      simpa using this
end Go.Proofs.Ytehdbjfalpjpeaa
