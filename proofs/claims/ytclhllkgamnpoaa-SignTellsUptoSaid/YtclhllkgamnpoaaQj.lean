/-
  The document's List of a list and itself. No statement is proved here.
-/
import Derived.Test.YtclhllkgamnpoaaQf
namespace Go.Proofs.Ytclhllkgamnpoaa
open Go.ChangeShapes Go.WideShapes Go.ChangeAt Go.RowKit
set_option linter.unusedVariables false

set_option maxRecDepth 100000 in
set_option maxHeartbeats 2000000 in
theorem rlistQ (xs : List T) (A B : Option Addr) (n c d : Nat) (w : World) (hn : xs.length = n) (hc : n ≤ c) (hm : c ≤ maxLen) (hd : n ≤ d) (hx : ∀ i t, xs[i]? = some t → RdAt w A i t) (hy : ∀ i t, xs[i]? = some t → RdAt w B i t) :
    Calls Try.prog 13 #[.slice A n c, .slice B n d] w fun e w' => e = .returned (.bool true) ∧ Below w.heap.size w w' := by
  unfold maxLen at hm
  have HN := Lib.hid hn; clear hn
  have HX := Lib.hid hx; clear hx
  have HY := Lib.hid hy; clear hy
  go_enter Try.func13, Try.ntmps13
  go_wp2_with fail
  go_loopw [5] (fun i wr => ∃ (j : Nat), j ≤ n ∧ i = .int .i64 j ∧ Below w.heap.size w wr) (fun i _ => n - (Go.RowKit.intOf i).toNat)
  case atStart => exact ⟨0, Nat.zero_le _, rfl, Below.refl _ _⟩
  case round =>
    obtain ⟨j, hj, rfl, hb⟩ := hrel
    by_cases hlt : j < n
    · obtain ⟨t, ht⟩ := at_of HN.out hlt
      obtain ⟨b, o, k2, h2, A2, n2, c2', rfl, c0, c1, c2, hr⟩ := (RdAt.keep hb (HX.out j t ht)).full
      obtain ⟨b3, o3, k3, h3, A3, n3, c3', rfl, d0, d1, d2, hr3⟩ := (RdAt.keep hb (HY.out j t ht)).full
      have HR := Lib.hid (And.intro hr hr3); clear ht hr hr3
      have hi0 : (0 : Int) ≤ j := by omega
      have hi1 : (j : Int) < n := by omega
      have HCA : Hid (Calls Try.prog 14 #[.agg #[.int .i64 k2, .int .i64 h2, .slice A2 n2 c2'], .agg #[.int .i64 k3, .int .i64 h3, .slice A3 n3 c3']] wr.drew fun e w' => e = .returned (.bool true) ∧ Hid (Below wr.heap.size wr w')) := Lib.hid (by
        have := refSame t t _ _ wr.drew (Rd.keep (Below.refl _ wr).drew _ _ HR.out.1) (Rd.keep (Below.refl _ wr).drew _ _ HR.out.2)
        rw [sam_refl] at this
        exact this.mono fun e w' h => ⟨h.1, Lib.hid ((Below.refl _ wr).drew.trans h.2)⟩)
      have HK : Hid (∀ w', Below wr.heap.size wr w' → (w'.cell? ⟨b, o + j * 3, none⟩ = some (.int .i64 k2) ∧ w'.cell? ⟨b, o + j * 3 + 1, none⟩ = some (.int .i64 h2) ∧ w'.cell? ⟨b, o + j * 3 + 2, none⟩ = some (.slice A2 n2 c2') ∧ w'.cell? ⟨b3, o3 + j * 3, none⟩ = some (.int .i64 k3) ∧ w'.cell? ⟨b3, o3 + j * 3 + 1, none⟩ = some (.int .i64 h3) ∧ w'.cell? ⟨b3, o3 + j * 3 + 2, none⟩ = some (.slice A3 n3 c3'))) := Lib.hid fun w' h =>
        ⟨(h.cell (cell_lt c0)).trans c0, (h.cell (cell_lt c1)).trans c1, (h.cell (cell_lt c2)).trans c2, (h.cell (cell_lt d0)).trans d0, (h.cell (cell_lt d1)).trans d1, (h.cell (cell_lt d2)).trans d2⟩
      have hcur : Below wr.heap.size wr wr.drew := (Below.refl _ _).drew
      go_wp2_with fail
      go_region_held3 (fun w' => w'.cell? ⟨b, o + j * 3, none⟩ = some (.int .i64 k2) ∧ w'.cell? ⟨b, o + j * 3 + 1, none⟩ = some (.int .i64 h2) ∧ w'.cell? ⟨b, o + j * 3 + 2, none⟩ = some (.slice A2 n2 c2') ∧ w'.cell? ⟨b3, o3 + j * 3, none⟩ = some (.int .i64 k3) ∧ w'.cell? ⟨b3, o3 + j * 3 + 1, none⟩ = some (.int .i64 h3) ∧ w'.cell? ⟨b3, o3 + j * 3 + 2, none⟩ = some (.slice A3 n3 c3'))
        (first | exact HK.out _ hcur | exact HK.out _ (Hid.out hcur2))
        (first
          | (go_at_call 14
             with_reducible refine HCA.out.mono ?_
             rintro e w3 ⟨rfl, hcur2⟩))
      all_goals
        go_wp2_with fail
        go_roundw
        case rel => exact ⟨j + 1, by omega, by go_num, hb.trans (hcur2.out.mono hb.size)⟩
        case measure => simp [Go.RowKit.intOf]; omega
    · go_wp2_with fail
      go_ret
      exact ⟨rfl, hb⟩
end Go.Proofs.Ytclhllkgamnpoaa
