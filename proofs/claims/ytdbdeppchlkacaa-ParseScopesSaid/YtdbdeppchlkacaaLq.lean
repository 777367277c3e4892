/-
  The walk of ParseScopes. No statement is proved here.
-/
import Derived.Test.YtdbdeppchlkacaaBu
import Derived.Test.YtdbdeppchlkacaaSy
namespace Go.Proofs.Ytdbdeppchlkacaa
open Go.ChangeShapes Go.WideShapes Go.ChangeAt Go.RowKit
set_option linter.unusedVariables false

theorem decl_few {sg : List (ByteArray × T)} {x : List Tk} {d : ByteArray × T} {r : List Tk} (h : declM mayB nmB sg x = .ok (d, r)) : nd d.2 + r.length ≤ x.length := by
  unfold declM at h
  split at h
  · cases h
  · rename_i s r1 h1
    split at h
    · split at h
      · cases h
      · rename_i r2 h2
        split at h
        · cases h
        · rename_i t r3 h3
          split at h
          · cases h
          · rename_i r4 h4
            cases h
            obtain ⟨ht, _⟩ := whole_ok h3
            have a1 := congrArg List.length (name_ok h1)
            have a2 := congrArg List.length (take_ok h2)
            have a3 := term_few sg 120 [] _ _ _ ht
            have a4 := congrArg List.length (take_ok h4)
            simp only [List.length_cons] at a1 a2 a4
            dsimp only
            omega
    · cases h
theorem decls_few : ∀ (n : Nat) (sg sg' : List (ByteArray × T)) (x : List Tk) (M : Nat), x.length ≤ M → (∀ d ∈ sg, nd d.2 ≤ M) → declsM mayB nmB n sg x = .ok sg' → ∀ d ∈ sg', nd d.2 ≤ M
  | n, sg, sg', [], M, hM, hs, h => by
    cases n <;> (rw [declsM] at h; cases h; exact hs)
  | 0, sg, sg', t :: l, M, hM, hs, h => by rw [declsM] at h; cases h
  | n + 1, sg, sg', t :: l, M, hM, hs, h => by
    rw [declsM] at h
    split at h
    · cases h
    · split at h
      · cases h
      · rename_i d r hd
        have hf := decl_few hd
        exact decls_few n _ sg' r M (by omega) (fun d' hd' => by
          rcases List.mem_append.1 hd' with h' | h'
          · exact hs d' h'
          · rw [List.mem_singleton.1 h']; omega) h
/-- what holds of declarations of a text -/
theorem readD_rd {l : List UInt8} {ds : List (ByteArray × T)} (h : readD l = .ok ds) : RdD mayB nmB ds ∧ ∀ d ∈ ds, nd d.2 ≤ 20000 := by
  unfold readD at h
  split at h
  · cases h
  · have hl : (lexT l).length ≤ 20000 := by
      by_cases h2 : 20000 < l.length
      · rw [lexT, if_pos h2]; simp
      · have := tok_len l; omega
    exact ⟨decls_rd _ _ _ _ (rd_nil _ _) h, decls_few _ _ _ _ _ hl (fun d hd => by cases hd) h⟩
theorem ScM.b {t : T} (h : ScM 0 t) (hn : nd t ≤ 20000) : scB t 0 0 = true := (scB_iff 0 t 0 (by omega) (by omega)).2 h
theorem pair_ne {α : Type} {R : α → α → Prop} : ∀ {l : List α}, l.Pairwise R → ∀ {i k : Nat} {a b : α}, l[k]? = some a → l[i]? = some b → k < i → R a b
  | [], _, i, k, a, b, h, _, _ => by simp at h
  | x :: l, hp, 0, k, a, b, hk, hi, hlt => by omega
  | x :: l, hp, i + 1, 0, a, b, hk, hi, hlt => by
    have e : x = a := by simpa using hk
    subst e
    exact (List.pairwise_cons.1 hp).1 b (List.mem_of_getElem? (by simpa using hi))
  | x :: l, hp, i + 1, k + 1, a, b, hk, hi, hlt => pair_ne (List.pairwise_cons.1 hp).2 (by simpa using hk) (by simpa using hi) (by omega)
set_option maxRecDepth 100000 in
set_option maxHeartbeats 4000000 in
theorem parseScopesC (l : List UInt8) (A : Option Addr) (n c : Nat) (w : World) (h : YL w l A n c) :
    Calls Try.prog 3 #[.slice A n c] w fun e w' => e = .returned (.bool true) ∧ Below w.heap.size w w' := by
  have hlen := h.len
  have hcap := h.cap
  have hle := h.le
  unfold maxLen at hcap
  have HA := Lib.hid (pAwakeC w)
  have HY := Lib.hid h
  clear h
  go_enter Try.func3, Try.ntmps3
  go_wp2_with fail
  refine HA.out.mono ?_
  rintro e w1 ⟨rfl, hb1⟩
  have HB1 := Lib.hid hb1
  have HD := Lib.hid (pDeclsC l A n c w1 (HY.out.keep hb1))
  clear HA hb1
  by_cases hgt : 5000 < n
  · have d1 : decide ((5000 : Int) < (n : Int)) = true := by simp; omega
    go_wp2_with fail
    go_ret
    exact ⟨rfl, HB1.out⟩
  have d1 : decide ((5000 : Int) < (n : Int)) = false := by simp; omega
  go_wp2_with fail
  refine HD.out.mono ?_
  rintro e w2 ⟨hb2, SA, sn, sc, ec, rfl, hres⟩
  have HB2 := Lib.hid (HB1.out.trans (hb2.mono HB1.out.size))
  clear HD hb2
  rcases hres with ⟨ds, hr, rfl, hds, hds40⟩ | ⟨hr, he, rfl, rfl, rfl⟩
  rotate_left
  · have d9 : (ec == 0) = false := by simpa using he
    go_wp2_with fail
    go_ret
    exact ⟨rfl, HB2.out⟩
  obtain ⟨hrd, hnd⟩ := readD_rd hr
  have hsn := hds.len
  have hsc := hds.le
  have hsm := hds.cap
  unfold maxLen at hsm
  have HDS := Lib.hid hds
  have HRD := Lib.hid hrd
  have HND := Lib.hid hnd
  clear hr hds hrd hnd d1 hgt
  go_wp2_with fail
  go_loopw [6] (fun i wr => ∃ (j : Nat), j ≤ sn ∧ i = .int .i64 j ∧ Hid (Below w2.heap.size w2 wr)) (fun i _ => sn - (Go.RowKit.intOf i).toNat)
  case atStart => exact ⟨0, Nat.zero_le _, rfl, Lib.hid (Below.refl _ _)⟩
  case round =>
    obtain ⟨j, hj, rfl, HBr⟩ := hrel
    by_cases hlt : j < sn
    · obtain ⟨d, hd⟩ := at_ofX hsn hlt
      have hdm := List.mem_of_getElem? hd
      have hm1 := HRD.out.may d hdm
      have hm2 := ScM.b (HRD.out.sc d hdm) (HND.out d hdm)
      have hm3 := HRD.out.name d hdm
      have hm4 := HND.out d hdm
      have hm5 := HDS.out.sz d hdm
      have hD0 := HDS.out.keep HBr.out
      obtain ⟨b, o, k, g, A', n', c', hA, e0, e1, e2, e3, hr⟩ := hD0.at_ j d hd
      subst hA
      have hM := mayC d.2 _ wr hr (by omega)
      rw [hm1] at hM
      have HM := Lib.hid hM
      have hi0 : (0 : Int) ≤ (j : Int) := by omega
      have hi1 : (j : Int) < (sn : Int) := by omega
      have HR := Lib.hid hr
      have HDD := Lib.hid hd
      clear hM hr hD0 hdm hm1 hd
      go_wp2_with fail
      refine HM.out.mono ?_
      rintro e w3 ⟨rfl, hb3⟩
      have f0 := (hb3.cell (cell_ltX e0)).trans e0
      have f1 := (hb3.cell (cell_ltX e1)).trans e1
      have f2 := (hb3.cell (cell_ltX e2)).trans e2
      have f3 := (hb3.cell (cell_ltX e3)).trans e3
      have hS := scopedC d.2 0 0 _ w3 (Rd.keep hb3 _ _ HR.out) (wrap_small (by omega) (by omega))
      rw [hm2] at hS
      have HS := Lib.hid hS
      have HB3 := Lib.hid (HBr.out.trans (hb3.mono HBr.out.size))
      clear hS hb3 HM e0 e1 e2 e3 HR hm2
      go_wp2_with fail
      refine HS.out.mono ?_
      rintro e w4 ⟨rfl, hb4⟩
      have e0 := (hb4.cell (cell_ltX f0)).trans f0
      have hN := pNameC d.1 hm5 w4
      rw [hm3] at hN
      have HN := Lib.hid hN
      have HB4 := Lib.hid (HB3.out.trans (hb4.mono HB3.out.size))
      clear hN hb4 HS f0 f1 f2 f3 hm3
      go_wp2_with fail
      refine HN.out.mono ?_
      rintro e w5 ⟨rfl, hb5⟩
      have HB5 := Lib.hid (HB4.out.trans (hb5.mono HB4.out.size))
      clear HN e0 hb5 HB3 HB4
      go_wp2_with fail
      go_loopw [7] (fun i wq => ∃ (k : Nat), k ≤ j ∧ i = .int .i64 k ∧ Hid (Below w2.heap.size w2 wq)) (fun i _ => j - (Go.RowKit.intOf i).toNat)
      case atStart => exact ⟨0, Nat.zero_le _, rfl, HB5⟩
      case round =>
        obtain ⟨k2, hk2, rfl, HBq⟩ := hrel
        by_cases hlt2 : k2 < j
        · obtain ⟨d2, hd2⟩ := at_ofX hsn (show k2 < sn by omega)
          have hne := pair_ne HRD.out.once hd2 HDD.out hlt2
          have hD1 := HDS.out.keep HBq.out
          obtain ⟨b1, o1, _, _, _, _, _, hA1, x0, _⟩ := hD1.at_ k2 d2 hd2
          cases hA1
          obtain ⟨b2, o2, _, _, _, _, _, hA2, y0, _⟩ := hD1.at_ j d HDD.out
          cases hA2
          have hq : (d2.1.toList == d.1.toList) = false := (bytes_eqB d2.1 d.1).trans (decide_eq_false hne)
          have hk0 : (0 : Int) ≤ (k2 : Int) := by omega
          have hk1 : (k2 : Int) < (sn : Int) := by omega
          clear hne hD1 hd2
          go_wp2_with fail
          go_quiet (fail)
          go_wp2_with fail
          go_roundw
          case rel => exact ⟨k2 + 1, by omega, by go_num, Lib.hid (HBq.out.drewX _)⟩
          case measure => simp [Go.RowKit.intOf]; omega
        · go_wp2_with fail
          go_roundw
          case rel => exact ⟨j + 1, by omega, by go_num, HBq⟩
          case measure => simp [Go.RowKit.intOf]; omega
    · go_wp2_with fail
      go_ret
      exact ⟨rfl, HB2.out.trans (HBr.out.mono HB2.out.size)⟩
end Go.Proofs.Ytdbdeppchlkacaa
