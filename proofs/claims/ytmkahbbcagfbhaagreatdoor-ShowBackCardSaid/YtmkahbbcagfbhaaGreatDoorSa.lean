/-
  Contract of package term's Same.
-/
import Derived.Test.YtmkahbbcagfbhaaGreatDoorMa
namespace Go.Proofs.YtmkahbbcagfbhaaGreatDoor
open Go.ChangeShapes Go.WideShapes Go.ChangeAt Go.RowKit
set_option linter.unusedVariables false

set_option maxHeartbeats 1000000 in
theorem termSame (t : T) : ∀ (u : T) (v v' : Value) (w : World), Rd w t v → Rd w u v' →
    Calls Tryz.prog 16 #[v, v'] w fun e w' => e = .returned (.bool (samB t u)) ∧ Below w.heap.size w w' := by
  induction t using T.ind with
  | step k h xs ih =>
    intro u v v' w hv hv'
    obtain ⟨k', h', ys⟩ := u
    obtain ⟨A, n, c, rfl, hk, hh, hn, hc, hm, hx⟩ := Rd_node.1 hv
    obtain ⟨A', n', c', rfl, hk', hh', hn', hc', hm', hy⟩ := Rd_node.1 hv'
    clear hv hv'
    unfold maxLen at hm hm'
    have HN := Lib.hid hn; clear hn
    have HX := Lib.hid hx; clear hx
    have HN' := Lib.hid hn'; clear hn'
    have HY := Lib.hid hy; clear hy
    have IH := Lib.hid ih; clear ih
    by_cases ek : k = k'
    · subst ek
      by_cases eh : h = h'
      · subst eh
        by_cases en : n = n'
        · subst en
          go_enter Tryz.func16, Tryz.ntmps16
          go_wp2_with fail
          go_loopw [30] (fun i wr => ∃ (j : Nat), j ≤ n ∧ i = .int .i64 j ∧ Hid (samL (xs.drop j) (ys.drop j) = samB (.node k h xs) (.node k h ys)) ∧ Box wr w.heap.size 36 #[.int .i64 k, .int .i64 h, .slice A n c]
             ∧ Box wr (w.heap.size + 1) 36 #[.int .i64 k, .int .i64 h, .slice A' n c'] ∧ Below w.heap.size w wr) (fun i _ => n - (intOf i).toNat)
          case atStart => exact ⟨0, Nat.zero_le _, rfl, Lib.hid (by simp [samB, HN.out, HN'.out]), (Box.new _ _ _).alloc _, by have := Box.new (w.alloc (.cells #[.int .i64 k, .int .i64 h, .slice A n c] 36)) 36 #[.int .i64 k, .int .i64 h, .slice A' n c']; simpa using this, ((Below.refl _ _).alloc (Nat.le_refl _) _).alloc (by simp) _⟩
          case round =>
            obtain ⟨j, hj, rfl, HS, hbox, hbox', hb⟩ := hrel
            obtain ⟨b0, b1, b2⟩ := hbox.three
            obtain ⟨d0, d1, d2⟩ := hbox'.three
            by_cases hlt : j < n
            · obtain ⟨t, ht⟩ := at_of HN.out hlt
              obtain ⟨u, hu⟩ := at_of HN'.out hlt
              obtain ⟨b, o, v0, v1, v2, rfl, c0, c1, c2, hr⟩ := RdAt.keep hb (HX.out j t ht)
              obtain ⟨b', o', v0', v1', v2', rfl, c0', c1', c2', hr'⟩ := RdAt.keep hb (HY.out j u hu)
              have HT := Lib.hid ht; clear ht
              have HU := Lib.hid hu; clear hu
              go_wp2_with fail
              have HS' := HS.out
              rw [drop_at HT.out, drop_at HU.out, samL] at HS'
              have HS := Lib.hid HS'; clear HS'
              have pb2 := Past.cell b2
              have pd2 := Past.cell d2
              have p0 := Past.cell c0
              have p1 := Past.cell c1
              have p2 := Past.cell c2
              have p0' := Past.cell c0'
              have p1' := Past.cell c1'
              have p2' := Past.cell c2'
              have hi0 : (0 : Int) ≤ j := by omega
              have hi1 : (j : Int) < n := by omega
              refine wp_region_past (by kernel_rfl) (by kernel_rfl) ?_
              repeat (go_big_quiet_step ((exact calls_past (IH.out t (List.mem_of_getElem? HT.out) u _ _ _ (Rd.keep (Past.h _) _ _ hr) (Rd.keep (Past.h _) _ _ hr')))))
              refine wpQuiet_nil ?_
              rintro _ ⟨z, rfl⟩
              clear pb2 pd2 p0 p1 p2 p0' p1' p2'
              obtain ⟨w1, hb1⟩ := z
              generalize samB t u = r at *
              cases r
              · go_wp2_with fail
                go_ret
                exact ⟨ret_bool (by simpa using HS.out), hb.trans (hb1.mono hb.size)⟩
              · go_wp2_with fail
                go_roundw
                case rel => exact ⟨j + 1, by omega, by go_num, Lib.hid (by simpa using HS.out), hbox.keep hb1 hbox.lt, hbox'.keep hb1 hbox'.lt, hb.trans (hb1.mono hb.size)⟩
                case measure => simp [intOf]; omega
            · go_wp2_with fail
              go_ret
              exact ⟨ret_bool (by have := HS.out; rw [drop_all HN.out (by omega), samL] at this; exact this; simp), hb⟩
        · have en' : ((n : Int) != n') = true := by rw [bne_iff_ne]; omega
          go_enter Tryz.func16, Tryz.ntmps16
          go_wp2_with fail
          all_goals first | (go_ret; exact ⟨ret_bool (by simp [samB, HN.out, HN'.out, en]), ((Below.refl _ _).alloc (Nat.le_refl _) _).alloc (by simp) _⟩) | (exfalso; omega)
      · have eh' : (h != h') = true := by simpa using eh
        go_enter Tryz.func16, Tryz.ntmps16
        go_wp2_with fail
        go_ret
        exact ⟨ret_bool (by simp [samB, eh]), ((Below.refl _ _).alloc (Nat.le_refl _) _).alloc (by simp) _⟩
    · have ek' : (k != k') = true := by simpa using ek
      go_enter Tryz.func16, Tryz.ntmps16
      go_wp2_with fail
      go_ret
      exact ⟨ret_bool (by simp [samB, ek]), ((Below.refl _ _).alloc (Nat.le_refl _) _).alloc (by simp) _⟩

mutual
theorem sam_refl : ∀ t : T, samB t t = true
  | .node k h xs => by rw [samB, samL_refl xs]; simp
theorem samL_refl : ∀ xs : List T, samL xs xs = true
  | [] => by simp [samL]
  | t :: ts => by rw [samL, sam_refl t, samL_refl ts]; rfl
end
mutual
theorem sam_comm : ∀ t u : T, samB t u = samB u t
  | .node k h xs, .node k' h' ys => by
    rw [samB, samB, samL_comm xs ys, Bool.beq_comm (a := k), Bool.beq_comm (a := h), Bool.beq_comm (a := xs.length)]
theorem samL_comm : ∀ xs ys : List T, samL xs ys = samL ys xs
  | [], [] => rfl
  | [], y :: ys => by simp [samL]
  | x :: xs, [] => by simp [samL]
  | x :: xs, y :: ys => by rw [samL, samL, sam_comm x y, samL_comm xs ys]
end

end Go.Proofs.YtmkahbbcagfbhaaGreatDoor
