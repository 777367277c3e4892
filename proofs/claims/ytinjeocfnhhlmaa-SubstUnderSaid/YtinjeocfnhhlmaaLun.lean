/-
  The walk of the law SubstUnder.
-/
import Derived.Test.YtinjeocfnhhlmaaPf
namespace Go.Proofs.Ytinjeocfnhhlmaa
open Go.ChangeShapes Go.WideShapes Go.ChangeAt Go.RowKit
set_option linter.unusedVariables false

set_option maxRecDepth 100000 in
set_option maxHeartbeats 8000000 in
theorem substUnderC (L : List T) (Al : Option Addr) (nl cl : Nat) (sh i : Int) (w : World) (hn : L.length = nl) (hc : nl ≤ cl) (hm : cl ≤ maxLen) (hx : ∀ i t, L[i]? = some t → RdAt w Al i t) :
    Calls Try.prog 20 #[.slice Al nl cl, .int .i64 sh, .int .i64 i] w fun e w' => e = .returned (.bool true) ∧ Below w.heap.size w w' := by
  have HX := Lib.hid hx; clear hx
  have HN := Lib.hid hn; clear hn
  have hb := Below.refl w.heap.size w
  go_enter Try.func20, Try.ntmps20
  go_wp2_with fail
  refine (awakeU _).mono ?_
  rintro e w1 ⟨rfl, hb1⟩
  replace hb := hb.trans (hb1.mono hb.size)
  clear hb1
  go_wp2_with fail
  refine (lightsC L Al nl cl 300 60 _ HN.out hc hm (fun i u hu => RdAt.keep hb (HX.out i u hu))).mono ?_
  generalize hqL : lsB L 300 60 = RL at *
  rintro e w2 ⟨rfl, hb1⟩
  have HQL := Lib.hid hqL; clear hqL
  replace hb := hb.trans (hb1.mono hb.size)
  clear hb1
  cases RL
  · go_wp2_with fail
    go_ret
    exact ⟨rfl, hb⟩
  unfold maxLen at hm
  by_cases x1 : sh < 0
  · have dx1 : decide (sh < 0) = true := by simpa using x1
    go_wp2_with fail
    go_ret
    exact ⟨rfl, hb⟩
  have dx1 : decide (sh < 0) = false := by simpa using x1
  by_cases x2 : 1000 < sh
  · have dx2 : decide (1000 < sh) = true := by simpa using x2
    go_wp2_with fail
    go_ret
    exact ⟨rfl, hb⟩
  have dx2 : decide (1000 < sh) = false := by simpa using x2
  by_cases x3 : i < 0
  · have dx3 : decide (i < 0) = true := by simpa using x3
    go_wp2_with fail
    go_ret
    exact ⟨rfl, hb⟩
  have dx3 : decide (i < 0) = false := by simpa using x3
  by_cases x4 : 100 < i
  · have dx4 : decide (100 < i) = true := by simpa using x4
    go_wp2_with fail
    go_ret
    exact ⟨rfl, hb⟩
  have dx4 : decide (100 < i) = false := by simpa using x4
  go_wp2_with fail
  go_loopw [9] (fun i wr => ∃ (j : Nat), j ≤ nl ∧ i = .int .i64 j ∧ Hid (∀ (m : Nat) (x : T), m < j → L[m]? = some x → myB x = true) ∧ Below w2.heap.size w2 wr) (fun i _ => nl - (intOf i).toNat)
  case atStart => exact ⟨0, Nat.zero_le _, rfl, Lib.hid (fun m x h => by omega), Below.refl _ _⟩
  case round =>
    obtain ⟨j, hj, rfl, HS, hbr⟩ := hrel
    have hbW : Below w.heap.size w wr := hb.trans (hbr.mono hb.size)
    by_cases hlt : j < nl
    · obtain ⟨x, ht⟩ := at_of HN.out hlt
      obtain ⟨b, o, k2, h2, A2, n2, c2', rfl, c0, c1, c2, hr⟩ := (RdAt.keep hbW (HX.out j x ht)).full
      have HT := Lib.hid ht; clear ht
      have HR := Lib.hid hr; clear hr
      have hi0 : (0 : Int) ≤ j := by omega
      have hi1 : (j : Int) < nl := by omega
      go_wp2_with fail
      refine (myC x _ _ HR.out).mono ?_
      generalize hqm : myB x = M at *
      rintro e w5 ⟨rfl, hb1⟩
      have HMx := Lib.hid hqm; clear hqm
      clear c0 c1 c2
      replace hbr := hbr.trans (hb1.mono hbr.size)
      clear hb1 hbW
      cases M
      · go_wp2_with fail
        go_ret
        exact ⟨rfl, hb.trans (hbr.mono hb.size)⟩
      · go_wp2_with fail
        go_roundw
        case rel => exact ⟨j + 1, by omega, by go_num, Lib.hid (fun m y hm hy => by
            by_cases hmj : m < j
            · exact HS.out m y hmj hy
            · have : m = j := by omega
              subst this
              have e := HT.out.symm.trans hy
              cases e
              exact HMx.out), hbr⟩
        case measure => simp [intOf]; omega
    · have hjn : j = nl := by omega
      subst hjn
      have hKL : ∀ x ∈ L, Kn 300 60 x := fun x hx => by
        obtain ⟨i, hi⟩ := List.getElem?_of_mem hx
        have hlt : i < j := by have := (List.getElem?_eq_some_iff.1 hi).1; have := HN.out; omega
        have q1 := HS.out i x hlt hi
        have hq := HQL.out
        unfold lsB at hq
        rw [Bool.and_eq_true] at hq
        exact kn_of (lights_all hq.2 x hx) q1
      have h60 : L.length ≤ 60 := by
        have hq := HQL.out
        unfold lsB at hq
        rw [Bool.and_eq_true] at hq
        exact of_decide_eq_true hq.1
      have HKL := Lib.hid hKL; clear hKL
      have H60 := Lib.hid h60; clear h60
      have HL := Lib.hid (fun i u hu => RdAt.keep hbW (HX.out i u hu))
      clear HX HQL HS
      have f1 := under_tells HKL.out H60.out (sh := sh) (i := i) (by omega) (by omega)
      have f2 := undX_all HKL.out
      have f3 := mp_kn HKL.out (sh := sh) (i := i) (by omega) (by omega)
      have F1 := Lib.hid f1; clear f1
      have F2 := Lib.hid f2; clear f2
      have F3 := Lib.hid f3; clear f3
      have hwu : wrap64 (sh + 1) = sh + 1 := wrap_small (by omega) (by omega)
      have hwi : wrap64 (i + 1) = i + 1 := wrap_small (by omega) (by omega)
      have HWU := Lib.hid hwu; clear hwu
      have hndL : ∀ t ∈ L, nd t ≤ 1048576 := fun x hx => by have := (HKL.out x hx).n4; omega
      have HND := Lib.hid hndL; clear hndL
      have hlen : L.length ≤ 1000000 := by have := H60.out; omega
      have HLE := Lib.hid hlen; clear hlen
      go_wp2_with fail
      obtain ⟨W4, hW⟩ : ∃ W, wr.alloc (.cells #[.slice Al j cl, .int .i64 sh] 45) = W := ⟨_, rfl⟩
      have hbA : Below wr.heap.size wr W4 := by rw [← hW]; exact (Below.refl _ _).alloc (Nat.le_refl _) _
      have bs : Box W4 wr.heap.size 45 #[.slice Al j cl, .int .i64 sh] := by rw [← hW]; exact Box.new _ _ _
      rw [hW]
      clear hW
      replace HL := Lib.hid (fun i u hu => RdAt.keep hbA (HL.out i u hu))
      replace hb := hbW.trans (hbA.mono hbW.size)
      clear hbA hbW hbr
      have hUn := UnderC (L := L) (A := Al) (n := j) (c := cl) (sh := sh) (w := W4) HN.out hc (by unfold maxLen; exact hm) HL.out HND.out (by have := HLE.out; have := HN.out; omega)
      rw [HWU.out] at hUn
      refine hUn.mono ?_
      clear hUn
      rintro e w5 ⟨Aw5, nw5, cw5, rfl, hrl, hb1⟩
      have HUw5 := Lib.hid (show ∀ i u, (undX L)[i]? = some u → RdAt w5 Aw5 i u from fun i u hu => rdFAt_rd (hrl.at_ i u hu))
      have HMw5 := Lib.hid (And.intro hrl.len (And.intro hrl.le hrl.cap)); clear hrl
      replace HL := Lib.hid (fun i u hu => RdAt.keep hb1 (HL.out i u hu))
      replace bs := bs.keep hb1 bs.lt
      replace hb := hb.trans (hb1.mono hb.size)
      clear hb1
      go_wp2_with fail
      refine (ApplyC (t := .node 4 0 []) (L := undX L) (sh := sh + 1) (rd_leaf (by decide) (by decide)) HMw5.out.1 HMw5.out.2.1 HMw5.out.2.2 HUw5.out (fun _ => lo_var (by omega)) (fun x hx _ => (F2.out x hx).2)).mono ?_
      rw [F1.out.1.1, F1.out.1.2]
      rintro e w6 ⟨ka, ha, Aa, na, ca, rfl, hrd, hb1⟩
      have HVa := Lib.hid (RdF.rd _ _ hrd); clear hrd
      replace HL := Lib.hid (fun i u hu => RdAt.keep hb1 (HL.out i u hu))
      replace bs := bs.keep hb1 bs.lt
      replace hb := hb.trans (hb1.mono hb.size)
      clear hb1
      obtain ⟨bs0, bs1⟩ := bs.two
      have bsl := bs.lt
      go_wp2_with fail
      clear bs0 bs1 bsl
      obtain ⟨W6, hW⟩ : ∃ W, w6.alloc (.cells #[.int .i64 ka, .int .i64 ha, .slice Aa na ca] 24) = W := ⟨_, rfl⟩
      have hb1 : Below w6.heap.size w6 W6 := by rw [← hW]; exact (Below.refl _ _).alloc (Nat.le_refl _) _
      have xa : Box W6 w6.heap.size 24 #[.int .i64 ka, .int .i64 ha, .slice Aa na ca] := by rw [← hW]; exact Box.new _ _ _
      rw [hW]
      clear hW
      replace HL := Lib.hid (fun i u hu => RdAt.keep hb1 (HL.out i u hu))
      replace bs := bs.keep hb1 bs.lt
      replace HVa := Lib.hid (Rd.keep hb1 _ _ HVa.out)
      replace hb := hb.trans (hb1.mono hb.size)
      clear hb1
      obtain ⟨bs0, bs1⟩ := bs.two
      have bsl := bs.lt
      obtain ⟨xa0, xa1, xa2⟩ := xa.three
      have xal := xa.lt
      clear bs0 bs1 bsl xa0 xa1 xa2 xal
      have hUn := UnderC (L := L) (A := Al) (n := j) (c := cl) (sh := sh) (w := W6) HN.out hc (by unfold maxLen; exact hm) HL.out HND.out (by have := HLE.out; have := HN.out; omega)
      rw [HWU.out] at hUn
      refine hUn.mono ?_
      clear hUn
      rintro e w7 ⟨Aw7, nw7, cw7, rfl, hrl, hb1⟩
      have HUw7 := Lib.hid (show ∀ i u, (undX L)[i]? = some u → RdAt w7 Aw7 i u from fun i u hu => rdFAt_rd (hrl.at_ i u hu))
      have HMw7 := Lib.hid (And.intro hrl.len (And.intro hrl.le hrl.cap)); clear hrl
      replace HL := Lib.hid (fun i u hu => RdAt.keep hb1 (HL.out i u hu))
      replace bs := bs.keep hb1 bs.lt
      replace xa := xa.keep hb1 xa.lt
      replace HVa := Lib.hid (Rd.keep hb1 _ _ HVa.out)
      replace hb := hb.trans (hb1.mono hb.size)
      clear hb1
      obtain ⟨bs0, bs1⟩ := bs.two
      have bsl := bs.lt
      obtain ⟨xa0, xa1, xa2⟩ := xa.three
      have xal := xa.lt
      clear HUw5 HMw5
      go_wp2_with fail
      refine (ApplyC (t := .node 4 (i + 1) []) (L := undX L) (sh := sh + 1) (rd_leaf (by decide) (wf_of (by omega) (by omega))) HMw7.out.1 HMw7.out.2.1 HMw7.out.2.2 HUw7.out (fun _ => lo_var (by omega)) (fun x hx _ => (F2.out x hx).2)).mono ?_
      rw [F1.out.2.1.1, F1.out.2.1.2]
      rintro e w8 ⟨kbb, hbb, Abb, nbb, cbb, rfl, hrd, hb1⟩
      have HVbb := Lib.hid (RdF.rd _ _ hrd); clear hrd
      clear bs0 bs1 bsl xa0 xa1 xa2 xal
      replace HL := Lib.hid (fun i u hu => RdAt.keep hb1 (HL.out i u hu))
      replace bs := bs.keep hb1 bs.lt
      replace xa := xa.keep hb1 xa.lt
      replace HVa := Lib.hid (Rd.keep hb1 _ _ HVa.out)
      replace hb := hb.trans (hb1.mono hb.size)
      clear hb1
      obtain ⟨bs0, bs1⟩ := bs.two
      have bsl := bs.lt
      obtain ⟨xa0, xa1, xa2⟩ := xa.three
      have xal := xa.lt
      go_wp2_with fail
      clear bs0 bs1 bsl xa0 xa1 xa2 xal
      obtain ⟨W8, hW⟩ : ∃ W, w8.alloc (.cells #[.int .i64 kbb, .int .i64 hbb, .slice Abb nbb cbb] 24) = W := ⟨_, rfl⟩
      have hb1 : Below w8.heap.size w8 W8 := by rw [← hW]; exact (Below.refl _ _).alloc (Nat.le_refl _) _
      have xb : Box W8 w8.heap.size 24 #[.int .i64 kbb, .int .i64 hbb, .slice Abb nbb cbb] := by rw [← hW]; exact Box.new _ _ _
      rw [hW]
      clear hW
      replace HL := Lib.hid (fun i u hu => RdAt.keep hb1 (HL.out i u hu))
      replace bs := bs.keep hb1 bs.lt
      replace xa := xa.keep hb1 xa.lt
      replace HVa := Lib.hid (Rd.keep hb1 _ _ HVa.out)
      replace HVbb := Lib.hid (Rd.keep hb1 _ _ HVbb.out)
      replace hb := hb.trans (hb1.mono hb.size)
      clear hb1
      obtain ⟨bs0, bs1⟩ := bs.two
      have bsl := bs.lt
      obtain ⟨xa0, xa1, xa2⟩ := xa.three
      have xal := xa.lt
      obtain ⟨xb0, xb1, xb2⟩ := xb.three
      have xbl := xb.lt
      clear HUw7 HMw7
      go_wp2_with fail
      refine (ApplyC (t := .node 4 i []) (L := L) (sh := sh) (rd_leaf (by decide) (wf_of (by omega) (by omega))) HN.out hc (by unfold maxLen; exact hm) HL.out (fun _ => lo_var (by omega)) (fun x hx _ => (HKL.out x hx).low)).mono ?_
      rw [F1.out.2.2.1, F1.out.2.2.2]
      rintro e w9 ⟨kc, hc, Ac, nc, cc, rfl, hrd, hb1⟩
      have HVc := Lib.hid (RdF.rd _ _ hrd); clear hrd
      clear bs0 bs1 bsl xa0 xa1 xa2 xal xb0 xb1 xb2 xbl
      replace HL := Lib.hid (fun i u hu => RdAt.keep hb1 (HL.out i u hu))
      replace bs := bs.keep hb1 bs.lt
      replace xa := xa.keep hb1 xa.lt
      replace xb := xb.keep hb1 xb.lt
      replace HVa := Lib.hid (Rd.keep hb1 _ _ HVa.out)
      replace HVbb := Lib.hid (Rd.keep hb1 _ _ HVbb.out)
      replace hb := hb.trans (hb1.mono hb.size)
      clear hb1
      obtain ⟨bs0, bs1⟩ := bs.two
      have bsl := bs.lt
      obtain ⟨xa0, xa1, xa2⟩ := xa.three
      have xal := xa.lt
      obtain ⟨xb0, xb1, xb2⟩ := xb.three
      have xbl := xb.lt
      go_wp2_with fail
      clear bs0 bs1 bsl xa0 xa1 xa2 xal xb0 xb1 xb2 xbl
      obtain ⟨W9, hW⟩ : ∃ W, w9.alloc (.cells #[.int .i64 kc, .int .i64 hc, .slice Ac nc cc] 24) = W := ⟨_, rfl⟩
      have hb1 : Below w9.heap.size w9 W9 := by rw [← hW]; exact (Below.refl _ _).alloc (Nat.le_refl _) _
      have xc : Box W9 w9.heap.size 24 #[.int .i64 kc, .int .i64 hc, .slice Ac nc cc] := by rw [← hW]; exact Box.new _ _ _
      rw [hW]
      clear hW
      replace HL := Lib.hid (fun i u hu => RdAt.keep hb1 (HL.out i u hu))
      replace bs := bs.keep hb1 bs.lt
      replace xa := xa.keep hb1 xa.lt
      replace xb := xb.keep hb1 xb.lt
      replace HVa := Lib.hid (Rd.keep hb1 _ _ HVa.out)
      replace HVbb := Lib.hid (Rd.keep hb1 _ _ HVbb.out)
      replace HVc := Lib.hid (Rd.keep hb1 _ _ HVc.out)
      replace hb := hb.trans (hb1.mono hb.size)
      clear hb1
      obtain ⟨bs0, bs1⟩ := bs.two
      have bsl := bs.lt
      obtain ⟨xa0, xa1, xa2⟩ := xa.three
      have xal := xa.lt
      obtain ⟨xb0, xb1, xb2⟩ := xb.three
      have xbl := xb.lt
      obtain ⟨xc0, xc1, xc2⟩ := xc.three
      have xcl := xc.lt
      clear bs0 bs1 bsl xa0 xa1 xa2 xal xb0 xb1 xb2 xbl xc0 xc1 xc2 xcl
      clear bs HL
      have hnd4 : nd (mpT L sh i 0) ≤ 1048576 := by have := F3.out.n4; omega
      have hup := F3.out.upX (b := 1) (f := 0) (by omega) (by omega)
      have HUC : Hid (∀ W, Hid (Below W9.heap.size W9 W) → Calls Try.prog 58 #[.agg #[.int .i64 kc, .int .i64 hc, .slice Ac nc cc], .int .i64 1, .int .i64 0] W (fun e w' => OEnd (upT 1 (mpT L sh i 0) 0) W e w' ∧ Hid (Below W9.heap.size W9 w'))) := Lib.hid fun W h => by
        have := upC (mpT L sh i 0) 1 0 _ W (Rd.keep h.out _ _ HVc.out) hnd4
        rw [hup] at this
        exact this.mono fun e w' h' => ⟨h', by obtain ⟨_, _, _, hb'⟩ := h'; exact cur_trans h hb'⟩
      clear hnd4 hup
      obtain ⟨xa0, xa1, xa2⟩ := xa.three
      have xal := xa.lt
      obtain ⟨xb0, xb1, xb2⟩ := xb.three
      have xbl := xb.lt
      obtain ⟨xc0, xc1, xc2⟩ := xc.three
      have xcl := xc.lt
      go_wp2_with fail
      have HK : Hid (∀ w', Hid (Below W9.heap.size W9 w') → (w'.cell? ⟨w6.heap.size, 0, none⟩ = some (.int .i64 ka) ∧ w'.cell? ⟨w6.heap.size, 1, none⟩ = some (.int .i64 ha) ∧ w'.cell? ⟨w6.heap.size, 2, none⟩ = some (.slice Aa na ca) ∧ w'.cell? ⟨w8.heap.size, 0, none⟩ = some (.int .i64 kbb) ∧ w'.cell? ⟨w8.heap.size, 1, none⟩ = some (.int .i64 hbb) ∧ w'.cell? ⟨w8.heap.size, 2, none⟩ = some (.slice Abb nbb cbb) ∧ w'.cell? ⟨w9.heap.size, 0, none⟩ = some (.int .i64 kc) ∧ w'.cell? ⟨w9.heap.size, 1, none⟩ = some (.int .i64 hc) ∧ w'.cell? ⟨w9.heap.size, 2, none⟩ = some (.slice Ac nc cc) ∧ Hid (Below W9.heap.size W9 w'))) := Lib.hid fun w' h => by
        have s0 := xa.keep h.out xa.lt
        have s1 := xb.keep h.out xb.lt
        have s2 := xc.keep h.out xc.lt
        exact ⟨s0.three.1, s0.three.2.1, s0.three.2.2, s1.three.1, s1.three.2.1, s1.three.2.2, s2.three.1, s2.three.2.1, s2.three.2.2, h⟩
      have hcu0 : Hid (Below W9.heap.size W9 W9.drew) := cur_drew
      go_region_held3 (fun w' => w'.cell? ⟨w6.heap.size, 0, none⟩ = some (.int .i64 ka) ∧ w'.cell? ⟨w6.heap.size, 1, none⟩ = some (.int .i64 ha) ∧ w'.cell? ⟨w6.heap.size, 2, none⟩ = some (.slice Aa na ca) ∧ w'.cell? ⟨w8.heap.size, 0, none⟩ = some (.int .i64 kbb) ∧ w'.cell? ⟨w8.heap.size, 1, none⟩ = some (.int .i64 hbb) ∧ w'.cell? ⟨w8.heap.size, 2, none⟩ = some (.slice Abb nbb cbb) ∧ w'.cell? ⟨w9.heap.size, 0, none⟩ = some (.int .i64 kc) ∧ w'.cell? ⟨w9.heap.size, 1, none⟩ = some (.int .i64 hc) ∧ w'.cell? ⟨w9.heap.size, 2, none⟩ = some (.slice Ac nc cc) ∧ Hid (Below W9.heap.size W9 w'))
        (first | exact HK.out _ (by assumption) | exact HK.out _ (cur_alloc (by assumption) _) | exact HK.out _ (cur_alloc (cur_alloc (by assumption) _) _) | exact HK.out _ (Lib.hid (((Below.refl _ _).alloc (Nat.le_refl _) _).drew)) | exact HK.out _ (Lib.hid ((((Below.refl _ _).alloc (Nat.le_refl _) _).alloc (by simp) _).drew)) | exact HK.out _ (cur_set3 (by assumption) (by omega) _ _ _))
        (first
          | (go_at_call 58
             with_reducible refine Calls.mono (HUC.out _ ?hh) ?_
             case hh => assumption
             rintro e v8 ⟨⟨v1, rfl, how, hb8⟩, hcu8⟩
             obtain ⟨kq, hq, Aq, nq, cq, rfl⟩ := how.full
             have HVq := Lib.hid (RdF.rd _ _ how.rdF)
             clear how hb8)
          | (go_at_call 33
             with_reducible refine (termSame (.node 4 0 []) (.node 4 0 []) _ _ _ (Rd.keep (Hid.out (by assumption)) _ _ HVa.out) (rd_leaf (by decide) (by decide))).mono ?_
             rw [sam_refl]
             rintro e v9 ⟨rfl, hb9⟩
             have hcu9 := cur_trans (by assumption) hb9
             clear hb9)
          | (go_at_call 33
             with_reducible refine (termSame (upT 1 (mpT L sh i 0) 0) (upT 1 (mpT L sh i 0) 0) _ _ _ (Rd.keep (Hid.out hcu8) _ _ HVbb.out) HVq.out).mono ?_
             rw [sam_refl]
             rintro e v10 ⟨rfl, hb9⟩
             have hcu10 := cur_trans hcu8 hb9
             clear hb9))
      all_goals
        go_wp2_with fail
        go_ret
        first | exact ⟨rfl, hb.trans (hcu10.out.mono hb.size)⟩ | exact ⟨rfl, hb.trans (hcu9.out.mono hb.size)⟩
end Go.Proofs.Ytinjeocfnhhlmaa
