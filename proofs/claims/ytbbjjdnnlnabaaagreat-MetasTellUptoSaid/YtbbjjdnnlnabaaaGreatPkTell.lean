/- Texts of one proof, put together. No statement is proved here. -/
import Derived.Test.YtbbjjdnnlnabaaaGreatPkFi
import Derived.Test.YtbbjjdnnlnabaaaGreatPkNn
import Derived.Test.YtbbjjdnnlnabaaaGreatPkY
import Derived.Test.YtbbjjdnnlnabaaaGreatPkNj
import Derived.Test.YtbbjjdnnlnabaaaGreatPkNl
import Derived.Test.YtbbjjdnnlnabaaaGreatPkN
import Derived.Test.YtbbjjdnnlnabaaaGreatZt
namespace Go.Proofs.YtbbjjdnnlnabaaaGreat
open Go.ChangeShapes Go.WideShapes Go.ChangeAt Go.RowKit
set_option linter.unusedVariables false
set_option linter.unusedSimpArgs false
set_option maxRecDepth 100000
set_option maxHeartbeats 16000000
theorem lo_pN {sg : List T} {ds : List MP} {cx : List T} {ns nm : Nat} (h : fwV ⟨sg, msP ds⟩ cx ns nm = true) : LoP ds := fun d hd => by
  have hL := loV_of h
  have hm : d.1 ∈ msP ds := List.mem_map_of_mem hd
  obtain ⟨h1, h2⟩ := hL.ms d.1 hm
  refine ⟨h1, h2, ?_⟩
  simp only [fwV, fmB, lsB, Bool.and_eq_true, decide_eq_true_eq, List.all_eq_true] at h
  have := (h.2.2.1 d.1 hm).1.1
  omega
theorem lw_lsN {xs : List T} {s d : Int} (h : lsB xs s d = true) : LwV xs ∧ xs.length ≤ 60 := by
  simp only [lsB, Bool.and_eq_true, decide_eq_true_eq, List.all_eq_true] at h
  exact ⟨fun t ht => lo_lt (h.2 t ht), h.1⟩
theorem dcD (sg : List T) (ds : List MP) (As : Option Addr) (ns cs : Nat) (Am : Option Addr) (nm cm : Nat) (w : World) (hs : DL w sg As ns cs) (hm : PL w ds Am nm cm) (hls : LwV sg) (hlp : LoP ds) {i e : Int} (hi : ((dcV sg ds).1 : Int) = i) (he : (dcV sg ds).2 = e) :
    Calls Tryz.prog 9 #[.slice As ns cs, .slice Am nm cm] w fun x w' => x = .returned (.tuple #[.int .i64 i, .int .i64 e]) ∧ Below w.heap.size w w' := by
  subst hi; subst he
  exact dcC sg ds As ns cs Am nm cm w hs hm hls hlp
theorem eDcD (sg : List T) (ds : List MP) (As : Option Addr) (ns cs : Nat) (Am : Option Addr) (nm cm : Nat) (w : World) (hs : DL w sg As ns cs) (hm : PL w ds Am nm cm) (hls : LwV sg) (hlp : LoP ds) (hz : ∀ t ∈ sg, nd t ≤ 1048576) (hzp : SzP ds) {i e : Int} (hi : ((dcV sg ds).1 : Int) = i) (he : (dcV sg ds).2 = e) :
    Calls Tryz.prog 10 #[.slice As ns cs, .slice Am nm cm] w fun x w' => x = .returned (.tuple #[.int .i64 i, .int .i64 e]) ∧ Below w.heap.size w w' := by
  subst hi; subst he
  exact eDcC sg ds As ns cs Am nm cm w hs hm hls hlp hz hzp
theorem metasTellC (sg : List T) (l : List MP) (ext : List T) (ds : List MP) (theta : List T) (As : Option Addr) (ns cs : Nat) (Am : Option Addr) (nm cm : Nat) (Ac : Option Addr) (nc cc : Nat) (Ad : Option Addr) (ndd cd : Nat) (At : Option Addr) (nt ct : Nat) (w : World) (hs : DL w sg As ns cs) (hm : PL w l Am nm cm) (hx : CLV w ext Ac nc cc) (hd : PL w ds Ad ndd cd) (ht : CLV w theta At nt ct)
    (hz : SzE ⟨sg, msP l⟩ ext) (hzp : SzP ds) (hzt : ∀ x ∈ theta, nd x ≤ 1048576) :
    Calls Tryz.prog 3 #[.slice As ns cs, .slice Am nm cm, .slice Ac nc cc, .slice Ad ndd cd, .slice At nt ct] w fun e w' => e = .returned (.bool true) ∧ Below w.heap.size w w' := by
  have hcl := hx.len
  have hdl := hd.len
  have hdle := hd.le
  have hdcap := hd.cap
  unfold maxLen at hdcap
  have HS := Lib.hid hs; clear hs
  have HM := Lib.hid hm; clear hm
  have HX := Lib.hid hx; clear hx
  have HD := Lib.hid hd; clear hd
  have HT := Lib.hid ht; clear ht
  have HZ := Lib.hid hz; clear hz
  have HZP := Lib.hid hzp; clear hzp
  have HZT := Lib.hid hzt; clear hzt
  have HB := Lib.hid (Below.refl w.heap.size w)
  obtain ⟨rf, hrf⟩ : ∃ r, fwV ⟨sg, msP l⟩ ext ns nm = r := ⟨_, rfl⟩
  have HRF := Lib.hid hrf; clear hrf
  obtain ⟨rb, hrb⟩ : ∃ r, fwV ⟨[], msP ds⟩ [] 0 ndd = r := ⟨_, rfl⟩
  have HRB := Lib.hid hrb; clear hrb
  obtain ⟨rc, hrc⟩ : ∃ r, lsB theta 500 80 = r := ⟨_, rfl⟩
  have HRC := Lib.hid hrc; clear hrc
  go_enter Tryz.func3, Tryz.ntmps3
  go_wp2_with fail
  have HC := Lib.hid (nAwakeC w)
  refine HC.out.mono ?_
  rintro e w1 ⟨rfl, hb1⟩
  replace HB := Lib.hid (HB.out.trans (hb1.mono HB.out.size))
  clear hb1 HC
  go_wp2_with fail
  have HC := Lib.hid (vFewC ⟨sg, msP l⟩ ext As Am Ac ns cs nm cm nc cc w1 ⟨HS.out.keep HB.out, HM.out.ml.keep HB.out, HX.out.keep HB.out⟩)
  rw [HRF.out] at HC
  refine HC.out.mono ?_
  rintro e w2 ⟨rfl, hb1⟩
  replace HB := Lib.hid (HB.out.trans (hb1.mono HB.out.size))
  clear hb1 HC
  go_wp2_with fail
  have HC := Lib.hid (nFewC ds Ad ndd cd w2 (HD.out.keep HB.out))
  rw [HRB.out] at HC
  refine HC.out.mono ?_
  rintro e w3 ⟨rfl, hb1⟩
  replace HB := Lib.hid (HB.out.trans (hb1.mono HB.out.size))
  clear hb1 HC
  go_wp2_with fail
  have HC := Lib.hid (lightsC theta At nt ct 500 80 w3 (HT.out.keep HB.out).len (HT.out.keep HB.out).le (HT.out.keep HB.out).cap (HT.out.keep HB.out).at_)
  rw [HRC.out] at HC
  refine HC.out.mono ?_
  rintro e w4 ⟨rfl, hb1⟩
  replace HB := Lib.hid (HB.out.trans (hb1.mono HB.out.size))
  clear hb1 HC
  cases rf
  · go_wp2_with fail
    go_ret
    exact ⟨rfl, HB.out⟩
  cases rb
  · go_wp2_with fail
    go_ret
    exact ⟨rfl, HB.out⟩
  cases rc
  · go_wp2_with fail
    go_ret
    exact ⟨rfl, HB.out⟩
  have HL := Lib.hid (loV_of HRF.out)
  have HLD := Lib.hid (lo_pN HRB.out)
  have HLT := Lib.hid (lw_lsN HRC.out).1
  have h30 : ndd ≤ 30 := (few_len HRB.out).2.1
  have hnc := (few_len HRF.out).2.2
  obtain ⟨i1, hi1⟩ : ∃ i, ((dcV sg ds).1 : Int) = i := ⟨_, rfl⟩
  obtain ⟨e1, he1⟩ : ∃ e, (dcV sg ds).2 = e := ⟨_, rfl⟩
  have HI1 := Lib.hid hi1
  have HE1 := Lib.hid he1
  clear hi1 he1 HRF HRB HRC
  obtain ⟨R3, hR3⟩ : ∃ e, suV sg l ext ds theta = e := ⟨_, rfl⟩
  have HR3 := Lib.hid hR3; clear hR3
  go_wp2_with fail
  have HC := Lib.hid (dcD sg ds As ns cs Ad ndd cd w4 (HS.out.keep HB.out) (HD.out.keep HB.out) HL.out.sg HLD.out HI1.out HE1.out)
  refine HC.out.mono ?_
  rintro e w5 ⟨rfl, hb1⟩
  replace HB := Lib.hid (HB.out.trans (hb1.mono HB.out.size))
  clear hb1 HC
  go_wp2_with fail
  have HC := Lib.hid (eDcD sg ds As ns cs Ad ndd cd w5 (HS.out.keep HB.out) (HD.out.keep HB.out) HL.out.sg HLD.out HZ.out.sg HZP.out HI1.out HE1.out)
  refine HC.out.mono ?_
  rintro e w6 ⟨rfl, hb1⟩
  replace HB := Lib.hid (HB.out.trans (hb1.mono HB.out.size))
  clear hb1 HC
  go_wp2_with fail
  have HC := Lib.hid (szC ds Ad ndd cd w6 (HD.out.keep HB.out) (by omega))
  refine HC.out.mono ?_
  rintro e w7 ⟨q1, rfl, hq, hb1⟩
  have HQ1 := Lib.hid hq
  replace HB := Lib.hid (HB.out.trans (hb1.mono HB.out.size))
  clear hb1 HC hq
  go_wp2_with fail
  have HC := Lib.hid (eSzC ds Ad ndd cd w7 (HD.out.keep HB.out) (by omega))
  refine HC.out.mono ?_
  rintro e w8 ⟨A2q, c2q, rfl, hq, hb1⟩
  replace HQ1 := Lib.hid (show ∀ i d, ds[i]? = some d → w8.cell? ⟨q1, i, none⟩ = some (szF d) from fun i d hi => (hb1.cell (cell_lt (HQ1.out i d hi))).trans (HQ1.out i d hi))
  have HQ2 := Lib.hid hq
  replace HB := Lib.hid (HB.out.trans (hb1.mono HB.out.size))
  clear hb1 HC hq
  go_wp2_with fail
  have HC := Lib.hid (paC ds Ad ndd cd w8 (HD.out.keep HB.out) (by omega))
  refine HC.out.mono ?_
  rintro e w9 ⟨q3, rfl, hq, hb1⟩
  replace HQ1 := Lib.hid (show ∀ i d, ds[i]? = some d → w9.cell? ⟨q1, i, none⟩ = some (szF d) from fun i d hi => (hb1.cell (cell_lt (HQ1.out i d hi))).trans (HQ1.out i d hi))
  replace HQ2 := Lib.hid (show ∀ i d, ds[i]? = some d → ∃ g, A2q = some ⟨g, 0, none⟩ ∧ w9.cell? ⟨g, i, none⟩ = some (szF d) from fun i d hi => by
    obtain ⟨g, e, c⟩ := HQ2.out i d hi
    exact ⟨g, e, (hb1.cell (cell_lt c)).trans c⟩)
  have HQ3 := Lib.hid hq
  replace HB := Lib.hid (HB.out.trans (hb1.mono HB.out.size))
  clear hb1 HC hq
  go_wp2_with fail
  have HC := Lib.hid (ePaC ds Ad ndd cd w9 (HD.out.keep HB.out) (by omega))
  refine HC.out.mono ?_
  rintro e w10 ⟨A4q, c4q, rfl, hq, hb1⟩
  replace HQ1 := Lib.hid (show ∀ i d, ds[i]? = some d → w10.cell? ⟨q1, i, none⟩ = some (szF d) from fun i d hi => (hb1.cell (cell_lt (HQ1.out i d hi))).trans (HQ1.out i d hi))
  replace HQ2 := Lib.hid (show ∀ i d, ds[i]? = some d → ∃ g, A2q = some ⟨g, 0, none⟩ ∧ w10.cell? ⟨g, i, none⟩ = some (szF d) from fun i d hi => by
    obtain ⟨g, e, c⟩ := HQ2.out i d hi
    exact ⟨g, e, (hb1.cell (cell_lt c)).trans c⟩)
  replace HQ3 := Lib.hid (show ∀ i d, ds[i]? = some d → w10.cell? ⟨q3, i, none⟩ = some (paF d) from fun i d hi => (hb1.cell (cell_lt (HQ3.out i d hi))).trans (HQ3.out i d hi))
  have HQ4 := Lib.hid hq
  replace HB := Lib.hid (HB.out.trans (hb1.mono HB.out.size))
  clear hb1 HC hq
  go_wp2_with fail
  go_loopw [23] (fun i wr => ∃ (j : Nat), j ≤ ndd ∧ i = .int .i64 j ∧ Hid (Below w.heap.size w wr) ∧ Hid ((∀ i d, ds[i]? = some d → wr.cell? ⟨q1, i, none⟩ = some (szF d)) ∧ (∀ i d, ds[i]? = some d → ∃ g, A2q = some ⟨g, 0, none⟩ ∧ wr.cell? ⟨g, i, none⟩ = some (szF d)) ∧ (∀ i d, ds[i]? = some d → wr.cell? ⟨q3, i, none⟩ = some (paF d)) ∧ (∀ i d, ds[i]? = some d → ∃ g, A4q = some ⟨g, 0, none⟩ ∧ wr.cell? ⟨g, i, none⟩ = some (paF d)))) (fun i _ => ndd - (Go.RowKit.intOf i).toNat)
  case atStart => exact ⟨0, Nat.zero_le _, rfl, HB, Lib.hid ⟨HQ1.out, HQ2.out, HQ3.out, HQ4.out⟩⟩
  case round =>
    clear HQ1 HQ2 HQ3 HQ4
    obtain ⟨j, hj, rfl, HBr, HQ⟩ := hrel
    by_cases hlt : j < ndd
    · obtain ⟨d, hd⟩ := at_of hdl hlt
      have c1' : wr.cell? ⟨q1, j, none⟩ = some (.int .i64 (d.1.1.length : Int)) := HQ.out.1 j d hd
      obtain ⟨g2, eg2, c2'⟩ := HQ.out.2.1 j d hd
      have c3' : wr.cell? ⟨q3, j, none⟩ = some (.bool d.2) := HQ.out.2.2.1 j d hd
      obtain ⟨g4, eg4, c4'⟩ := HQ.out.2.2.2 j d hd
      subst eg2
      subst eg4
      rw [show szF d = .int .i64 (d.1.1.length : Int) from rfl] at c2'
      rw [show paF d = .bool d.2 from rfl] at c4'
      have hi0 : (0 : Int) ≤ (j : Int) := by omega
      have hi1 : (j : Int) < (ndd : Int) := by omega
      obtain ⟨pd, hpd⟩ : ∃ p, d.2 = p := ⟨_, rfl⟩
      obtain ⟨sz, hsz⟩ : ∃ s : Nat, d.1.1.length = s := ⟨_, rfl⟩
      rw [hpd] at c3' c4'
      rw [hsz] at c1' c2'
      clear hd hpd hsz
      go_wp2_with fail
      have HKS : Hid (∀ w' : World, Below wr.heap.size wr w' → (fun w' => w'.cell? ⟨q1, j, none⟩ = some (.int .i64 (sz : Int)) ∧ w'.cell? ⟨g2, j, none⟩ = some (.int .i64 (sz : Int)) ∧ w'.cell? ⟨q3, j, none⟩ = some (.bool pd) ∧ w'.cell? ⟨g4, j, none⟩ = some (.bool pd)) w') := Lib.hid fun w' h => ⟨(h.cell (cell_lt c1')).trans c1', (h.cell (cell_lt c2')).trans c2', (h.cell (cell_lt c3')).trans c3', (h.cell (cell_lt c4')).trans c4'⟩
      have hbd : Below wr.heap.size wr wr.drew := (Below.refl _ wr).drew
      refine zzR HKS hbd (fun hS => ?_)
      simp only [List.size_toArray, List.length_cons, List.length_nil, Nat.reduceAdd]
      refine zzT (i := 0) (v := .slice (some ⟨q1, 0, none⟩) ndd ndd) rfl hS ?_
      try simp only [Act.put, zzP]
      refine zzT (i := 1) (v := .int .i64 j) rfl hS ?_
      try simp only [Act.put, zzP]
      refine wpAnyH_take (i := 2) (v := .pointer (some ⟨q1, j, none⟩)) rfl (by kernel_rfl) (by kernel_rfl) (by kernel_rfl) (fun _ _ _ h => h) (Or.inl ⟨by kernel_rfl, ?_⟩) hS ?_
      · intro w' hSw
        obtain ⟨s0, s1, s2, s3⟩ := hSw
        go_simp
        try (intro h; exact absurd h (by omega))
      try simp only [Act.put, zzP]
      refine zzT (i := 3) (v := .int .i64 sz) rfl hS ?_
      try simp only [Act.put, zzP]
      refine zzT (i := 4) (v := .slice (some ⟨g2, 0, none⟩) ndd c2q) rfl hS ?_
      try simp only [Act.put, zzP]
      refine zzT (i := 5) (v := .int .i64 j) rfl hS ?_
      try simp only [Act.put, zzP]
      refine wpAnyH_take (i := 6) (v := .pointer (some ⟨g2, j, none⟩)) rfl (by kernel_rfl) (by kernel_rfl) (by kernel_rfl) (fun _ _ _ h => h) (Or.inl ⟨by kernel_rfl, ?_⟩) hS ?_
      · intro w' hSw
        obtain ⟨s0, s1, s2, s3⟩ := hSw
        go_simp
        try (intro h; exact absurd h (by omega))
      try simp only [Act.put, zzP]
      refine zzT (i := 7) (v := .int .i64 sz) rfl hS ?_
      try simp only [Act.put, zzP]
      refine zzT (i := 8) (v := .bool false) rfl hS ?_
      try simp only [Act.put, zzP]
      refine zzT (i := 9) (v := .bool false) rfl hS ?_
      try simp only [Act.put, zzP]
      refine zzT (i := 10) (v := .slice (some ⟨q3, 0, none⟩) ndd ndd) rfl hS ?_
      try simp only [Act.put, zzP]
      refine zzT (i := 11) (v := .int .i64 j) rfl hS ?_
      try simp only [Act.put, zzP]
      refine wpAnyH_take (i := 12) (v := .pointer (some ⟨q3, j, none⟩)) rfl (by kernel_rfl) (by kernel_rfl) (by kernel_rfl) (fun _ _ _ h => h) (Or.inl ⟨by kernel_rfl, ?_⟩) hS ?_
      · intro w' hSw
        obtain ⟨s0, s1, s2, s3⟩ := hSw
        go_simp
        try (intro h; exact absurd h (by omega))
      try simp only [Act.put, zzP]
      refine zzT (i := 13) (v := .bool pd) rfl hS ?_
      try simp only [Act.put, zzP]
      refine zzT (i := 14) (v := .slice (some ⟨g4, 0, none⟩) ndd c4q) rfl hS ?_
      try simp only [Act.put, zzP]
      refine zzT (i := 15) (v := .int .i64 j) rfl hS ?_
      try simp only [Act.put, zzP]
      refine wpAnyH_take (i := 16) (v := .pointer (some ⟨g4, j, none⟩)) rfl (by kernel_rfl) (by kernel_rfl) (by kernel_rfl) (fun _ _ _ h => h) (Or.inl ⟨by kernel_rfl, ?_⟩) hS ?_
      · intro w' hSw
        obtain ⟨s0, s1, s2, s3⟩ := hSw
        go_simp
        try (intro h; exact absurd h (by omega))
      try simp only [Act.put, zzP]
      refine zzT (i := 17) (v := .bool pd) rfl hS ?_
      try simp only [Act.put, zzP]
      refine zzT (i := 18) (v := .bool false) rfl hS ?_
      try simp only [Act.put, zzP]
      refine zzT (i := 19) (v := .bool false) rfl hS ?_
      try simp only [Act.put, zzP]
      refine wpAnyH_done (by kernel_rfl) ?_ _
      try simp only [List.setIfInBounds_toArray]
      try simp only [zzP]
      replace HBr := Lib.hid (HBr.out.trans (hbd.mono HBr.out.size))
      replace HQ := Lib.hid (show (∀ i d, ds[i]? = some d → wr.drew.cell? ⟨q1, i, none⟩ = some (szF d)) ∧ (∀ i d, ds[i]? = some d → ∃ g, (some ⟨g2, 0, none⟩ : Option Addr) = some ⟨g, 0, none⟩ ∧ wr.drew.cell? ⟨g, i, none⟩ = some (szF d)) ∧ (∀ i d, ds[i]? = some d → wr.drew.cell? ⟨q3, i, none⟩ = some (paF d)) ∧ (∀ i d, ds[i]? = some d → ∃ g, (some ⟨g4, 0, none⟩ : Option Addr) = some ⟨g, 0, none⟩ ∧ wr.drew.cell? ⟨g, i, none⟩ = some (paF d)) from HQ.out)
      clear hS HKS hbd c1' c2' c3' c4'
      go_wp2_with fail
      go_roundw
      case rel => exact ⟨j + 1, by omega, by go_num, HBr, HQ⟩
      case measure => simp [Go.RowKit.intOf]; omega
    · clear HQ HB
      have HB := Lib.hid HBr.out
      clear HBr
      go_wp2_with fail
      have HC := Lib.hid (suC sg l ext ds theta As ns cs Am nm cm Ac nc cc Ad ndd cd At nt ct wr (HS.out.keep HB.out) (HM.out.keep HB.out) (HX.out.keep HB.out) (HD.out.keep HB.out) (HT.out.keep HB.out) HL.out HLD.out HLT.out (by omega))
      rw [HR3.out] at HC
      refine HC.out.mono ?_
      rintro e w11 ⟨rfl, hb1⟩
      replace HB := Lib.hid (HB.out.trans (hb1.mono HB.out.size))
      clear hb1 HC
      go_wp2_with fail
      have HC := Lib.hid (eSuC sg l ext ds theta As ns cs Am nm cm Ac nc cc Ad ndd cd At nt ct w11 (HS.out.keep HB.out) (HM.out.keep HB.out) (HX.out.keep HB.out) (HD.out.keep HB.out) (HT.out.keep HB.out) HL.out HLD.out HLT.out (by omega) HZ.out HZP.out HZT.out)
      rw [HR3.out] at HC
      refine HC.out.mono ?_
      rintro e w12 ⟨rfl, hb1⟩
      replace HB := Lib.hid (HB.out.trans (hb1.mono HB.out.size))
      clear hb1 HC
      go_wp2_with fail
      go_ret
      exact ⟨by simp, HB.out⟩
theorem szP_of {ds : List MP} {ms : List (List T × T)} (he : msP ds = ms) (h : ∀ x ∈ ms, (∀ z ∈ x.1, nd z ≤ 1048576) ∧ nd x.2 ≤ 1048576) : SzP ds := fun d hd => h d.1 (by rw [← he]; exact List.mem_map_of_mem hd)
theorem metasTellM (sg : List T) (mo : List (List T × T)) (ext : List T) (md : List (List T × T)) (theta : List T) (As : Option Addr) (ns cs : Nat) (Am : Option Addr) (nm cm : Nat) (Ac : Option Addr) (nc cc : Nat) (Ad : Option Addr) (ndd cd : Nat) (At : Option Addr) (nt ct : Nat) (w : World) (hs : DL w sg As ns cs) (hm : ML w mo Am nm cm) (hx : CLV w ext Ac nc cc) (hd : ML w md Ad ndd cd) (ht : CLV w theta At nt ct)
    (hzs : ∀ t ∈ sg, nd t ≤ 1048576) (hzm : ∀ x ∈ mo, (∀ z ∈ x.1, nd z ≤ 1048576) ∧ nd x.2 ≤ 1048576) (hzx : ∀ t ∈ ext, nd t ≤ 1048576) (hzd : ∀ x ∈ md, (∀ z ∈ x.1, nd z ≤ 1048576) ∧ nd x.2 ≤ 1048576) (hzt : ∀ x ∈ theta, nd x ≤ 1048576) :
    Calls Tryz.prog 3 #[.slice As ns cs, .slice Am nm cm, .slice Ac nc cc, .slice Ad ndd cd, .slice At nt ct] w fun e w' => e = .returned (.bool true) ∧ Below w.heap.size w w' := by
  obtain ⟨l, hl, he⟩ := hm.pl
  obtain ⟨ds, hds, he2⟩ := hd.pl
  exact metasTellC sg l ext ds theta As ns cs Am nm cm Ac nc cc Ad ndd cd At nt ct w hs hl hx hds ht ⟨hzs, (fun m hm => hzm m (by rw [← he]; exact hm)), hzx⟩ (szP_of he2 hzd) hzt
end Go.Proofs.YtbbjjdnnlnabaaaGreat
