/- Texts of one proof, put together. No statement is proved here. -/
import Derived.Test.YtbbjjdnnlnabaaaGreatPkFi
import Derived.Test.YtbbjjdnnlnabaaaGreatPkNn
import Derived.Test.YtbbjjdnnlnabaaaGreatPkY
import Derived.Test.YtbbjjdnnlnabaaaGreatPkNj
import Derived.Test.YtbbjjdnnlnabaaaGreatPkNl
import Derived.Test.YtbbjjdnnlnabaaaGreatPkN
namespace Go.Proofs.YtbbjjdnnlnabaaaGreat
open Go.ChangeShapes Go.WideShapes Go.ChangeAt Go.RowKit
set_option linter.unusedVariables false
set_option linter.unusedSimpArgs false
set_option maxRecDepth 100000
set_option maxHeartbeats 16000000
theorem lo_pN {sg : List T} {ds : List MP} {cx : List T} {ns nm : Nat} (h : fwV ⟨sg, msP ds⟩ cx ns nm = true) : LoP ds := fun d hd => by
  have hL := loV_of h
  have hm : d.1 ∈ msP ds := List.mem_map_of_mem hd
  obtain ⟨h1, h2⟩ := hL.ms d.1 hm
  refine ⟨h1, h2, ?_⟩
  simp only [fwV, fmB, lsB, Bool.and_eq_true, decide_eq_true_eq, List.all_eq_true] at h
  have := (h.2.2.1 d.1 hm).1.1
  omega
theorem lw_lsN {xs : List T} {s d : Int} (h : lsB xs s d = true) : LwV xs ∧ xs.length ≤ 60 := by
  simp only [lsB, Bool.and_eq_true, decide_eq_true_eq, List.all_eq_true] at h
  exact ⟨fun t ht => lo_lt (h.2 t ht), h.1⟩
theorem rd_piM {w : World} {b : Nat} {ty : TypeId} {u0 u1 u2 : Value} {x : T} (hB : Box w b ty #[u0, u1, u2, u0, u1, u2]) (hx : Rd w x (.agg #[u0, u1, u2])) : Rd w (.node 1 0 [x, x]) (.agg #[.int .i64 1, .int .i64 0, .slice (some ⟨b, 0, none⟩) 2 2]) := by
  refine Rd_node.2 ⟨_, 2, 2, rfl, by decide, by decide, rfl, Nat.le_refl _, by decide, fun i t ht => ?_⟩
  match i, ht with
  | 0, ht => cases ht; exact ⟨b, 0, u0, u1, u2, rfl, hB.cell 0, hB.cell 1, hB.cell 2, hx⟩
  | 1, ht => cases ht; exact ⟨b, 0, u0, u1, u2, rfl, hB.cell 3, hB.cell 4, hB.cell 5, hx⟩
  | i + 2, ht => simp at ht
theorem pl_oneM {w : World} {P : Nat} {d : MP} {A1 : Option Addr} {n1 c1 : Nat} {k h : Int} {A2 : Option Addr} {n2 c2 : Nat} (hb : Box w P 42 #[.slice A1 n1 c1, .int .i64 k, .int .i64 h, .slice A2 n2 c2, .bool d.2]) (hl : CLV w d.1.1 A1 n1 c1) (hr : Rd w d.1.2 (.agg #[.int .i64 k, .int .i64 h, .slice A2 n2 c2])) : PL w [d] (some ⟨P, 0, none⟩) 1 1 :=
  ⟨rfl, Nat.le_refl _, by decide, fun i x hx => by
    match i, hx with
    | 0, hx =>
      cases hx
      exact ⟨P, 0, A1, n1, c1, k, h, A2, n2, c2, rfl, hb.cell 0, hb.cell 1, hb.cell 2, hb.cell 3, hb.cell 4, hl, hr⟩
    | i + 1, hx => simp at hx⟩
theorem setCell_sameM {w : World} {b i : Nat} {ty : TypeId} {cs : Array Value} {v : Value} (h : Box w b ty cs) (hv : cs[i]? = some v) : w.setCell ⟨b, i, none⟩ v = w := by
  have hcs : cs.setIfInBounds i v = cs := by
    apply Array.ext_getElem?
    intro j
    rw [Array.getElem?_setIfInBounds]
    by_cases hij : i = j
    · subst hij
      have := (Array.getElem?_eq_some_iff.1 hv).1
      rw [if_pos rfl, if_pos this, hv]
    · rw [if_neg hij]
  have hh : (w.setCell ⟨b, i, none⟩ v).heap = w.heap := by
    apply Array.ext_getElem?
    intro j
    by_cases hj : j = b
    · subst hj
      have h2 : (w.setCell ⟨j, i, none⟩ v).heap[j]? = some (.cells (cs.setIfInBounds i v) ty (0, 0)) := h.setAt i v
      rw [h2, hcs]
      exact h.symm
    · exact Below.heap_setCell _ _ _ _ hj
  have he : w.setCell ⟨b, i, none⟩ v = { w with heap := (w.setCell ⟨b, i, none⟩ v).heap } := rfl
  rw [he, hh]
theorem my_partM {x : T} (h : myB (.node 1 0 [x, x]) = true) : myB x = true := by
  obtain ⟨h1, h2, h3⟩ := (myB_iff _).1 h
  simp [nodB, nodL, okN] at h1
  simp only [nd, ndL] at h2
  simp only [dp, dpL] at h3
  exact (myB_iff _).2 ⟨h1, by omega, by omega⟩
theorem dc_piM (sg : List T) (x : T) (h : LoP [(([], .node 1 0 [x, x]), false)]) : (dcV sg [(([], .node 1 0 [x, x]), false)]).2 ≠ 0 := by
  unfold dcV
  rw [if_neg (by simp)]
  simp only [fiG]
  intro e
  have hne : deV ⟨sg, msP (([(([], .node 1 0 [x, x]), false)] : List MP).take 0)⟩ (([], .node 1 0 [x, x]), false) ≠ 0 := by
    unfold deV
    split
    · rw [if_neg (by simp [kdQ])]; decide
    · assumption
  rw [if_neg hne] at e
  exact hne e
theorem dc_paM (sg : List T) (x : T) : (dcV sg [(([x], x), true)]).2 ≠ 0 := by
  unfold dcV
  rw [if_neg (by simp)]
  simp only [fiG]
  intro e
  have hne : deV ⟨sg, msP (([(([x], x), true)] : List MP).take 0)⟩ (([x], x), true) ≠ 0 := by
    unfold deV
    split
    · rw [if_neg (by simp)]; decide
    · assumption
  rw [if_neg hne] at e
  exact hne e
theorem dcN (sg : List T) (ds : List MP) (As : Option Addr) (ns cs : Nat) (Am : Option Addr) (nm cm : Nat) (w : World) (hs : DL w sg As ns cs) (hm : PL w ds Am nm cm) (hls : LwV sg) (hlp : LoP ds) (hne : (dcV sg ds).2 ≠ 0) :
    Calls Tryz.prog 9 #[.slice As ns cs, .slice Am nm cm] w fun x w' => (∃ (i e : Int), x = .returned (.tuple #[.int .i64 i, .int .i64 e]) ∧ (e != 0) = true) ∧ Below w.heap.size w w' := by
  refine (dcC sg ds As ns cs Am nm cm w hs hm hls hlp).mono ?_
  rintro x w' ⟨rfl, hb⟩
  exact ⟨⟨_, _, rfl, by simpa using hne⟩, hb⟩
theorem su_lenM {sg : List T} {ds : List MP} {theta : List T} (h : ¬ theta.length = ds.length) (h30 : ds.length ≤ 30) : suV sg [] [] ds theta = 3 := by
  unfold suV
  rw [if_neg (by omega), if_neg h]
theorem metasCountC (sg : List T) (ds : List MP) (theta : List T) (a : T) (As : Option Addr) (ns cs : Nat) (Ad : Option Addr) (ndd cd : Nat) (At : Option Addr) (nt ct : Nat) (va : Value) (w : World) (hs : DL w sg As ns cs) (hd : PL w ds Ad ndd cd) (ht : CLV w theta At nt ct) (hva : Rd w a va)
    (hz : ∀ t ∈ sg, nd t ≤ 1048576) (hzp : SzP ds) (hzt : ∀ x ∈ theta, nd x ≤ 1048576) :
    Calls Tryz.prog 4 #[.slice As ns cs, .slice Ad ndd cd, .slice At nt ct, va] w fun e w' => e = .returned (.bool true) ∧ Below w.heap.size w w' := by
  obtain ⟨k, h, A2, n2, c2, rfl⟩ := hva.full
  have hdl := hd.len
  have htl := ht.len
  have HS := Lib.hid hs; clear hs
  have HD := Lib.hid hd; clear hd
  have HT := Lib.hid ht; clear ht
  have HVA := Lib.hid hva; clear hva
  have HZ := Lib.hid hz; clear hz
  have HZP := Lib.hid hzp; clear hzp
  have HZT := Lib.hid hzt; clear hzt
  obtain ⟨w0, hW⟩ : ∃ w0, w.alloc (.cells #[.int .i64 k, .int .i64 h, .slice A2 n2 c2] 39) = w0 := ⟨_, rfl⟩
  have hb0 : Below w.heap.size w w0 := by rw [← hW]; exact (Below.refl _ _).alloc (Nat.le_refl _) _
  have XA := Lib.hid (show Box w0 w.heap.size 39 #[.int .i64 k, .int .i64 h, .slice A2 n2 c2] by rw [← hW]; exact Box.new _ _ _)
  have HB := Lib.hid hb0; clear hb0
  obtain ⟨rf, hrf⟩ : ∃ r, fwV ⟨sg, msP ds⟩ [] ns ndd = r := ⟨_, rfl⟩
  have HRF := Lib.hid hrf; clear hrf
  obtain ⟨rc, hrc⟩ : ∃ r, lsB theta 500 80 = r := ⟨_, rfl⟩
  have HRC := Lib.hid hrc; clear hrc
  obtain ⟨rt, hrt⟩ : ∃ r, ltB a 300 60 = r := ⟨_, rfl⟩
  have HRT := Lib.hid hrt; clear hrt
  have b0 : w0.cell? ⟨w.heap.size, 0, none⟩ = some (.int .i64 k) := XA.out.cell 0
  have b1 : w0.cell? ⟨w.heap.size, 1, none⟩ = some (.int .i64 h) := XA.out.cell 1
  have b2 : w0.cell? ⟨w.heap.size, 2, none⟩ = some (.slice A2 n2 c2) := XA.out.cell 2
  go_enter Tryz.func4, Tryz.ntmps4
  go_wp2_with fail
  try rw [hW]
  clear hW
  try go_wp2_with fail
  clear b0 b1 b2
  have HC := Lib.hid (nAwakeC w0)
  refine HC.out.mono ?_
  rintro e w1 ⟨rfl, hb1⟩
  replace XA := Lib.hid (XA.out.keep hb1 XA.out.lt)
  replace HB := Lib.hid (HB.out.trans (hb1.mono HB.out.size))
  clear hb1 HC
  have b0 : w1.cell? ⟨w.heap.size, 0, none⟩ = some (.int .i64 k) := XA.out.cell 0
  have b1 : w1.cell? ⟨w.heap.size, 1, none⟩ = some (.int .i64 h) := XA.out.cell 1
  have b2 : w1.cell? ⟨w.heap.size, 2, none⟩ = some (.slice A2 n2 c2) := XA.out.cell 2
  go_wp2_with fail
  clear b0 b1 b2
  have HC := Lib.hid (vFewC ⟨sg, msP ds⟩ [] As Ad none ns cs ndd cd 0 0 w1 ⟨HS.out.keep HB.out, HD.out.ml.keep HB.out, clv_nil _ _ _ (Nat.zero_le _)⟩)
  rw [HRF.out] at HC
  refine HC.out.mono ?_
  rintro e w2 ⟨rfl, hb1⟩
  replace XA := Lib.hid (XA.out.keep hb1 XA.out.lt)
  replace HB := Lib.hid (HB.out.trans (hb1.mono HB.out.size))
  clear hb1 HC
  have b0 : w2.cell? ⟨w.heap.size, 0, none⟩ = some (.int .i64 k) := XA.out.cell 0
  have b1 : w2.cell? ⟨w.heap.size, 1, none⟩ = some (.int .i64 h) := XA.out.cell 1
  have b2 : w2.cell? ⟨w.heap.size, 2, none⟩ = some (.slice A2 n2 c2) := XA.out.cell 2
  go_wp2_with fail
  clear b0 b1 b2
  have HC := Lib.hid (lightsC theta At nt ct 500 80 w2 (HT.out.keep HB.out).len (HT.out.keep HB.out).le (HT.out.keep HB.out).cap (HT.out.keep HB.out).at_)
  rw [HRC.out] at HC
  refine HC.out.mono ?_
  rintro e w3 ⟨rfl, hb1⟩
  replace XA := Lib.hid (XA.out.keep hb1 XA.out.lt)
  replace HB := Lib.hid (HB.out.trans (hb1.mono HB.out.size))
  clear hb1 HC
  have b0 : w3.cell? ⟨w.heap.size, 0, none⟩ = some (.int .i64 k) := XA.out.cell 0
  have b1 : w3.cell? ⟨w.heap.size, 1, none⟩ = some (.int .i64 h) := XA.out.cell 1
  have b2 : w3.cell? ⟨w.heap.size, 2, none⟩ = some (.slice A2 n2 c2) := XA.out.cell 2
  go_wp2_with fail
  clear b0 b1 b2
  have HC := Lib.hid (refLight a 300 60 _ w3 (Rd.keep HB.out _ _ HVA.out))
  rw [HRT.out] at HC
  refine HC.out.mono ?_
  rintro e w4 ⟨rfl, hb1⟩
  replace XA := Lib.hid (XA.out.keep hb1 XA.out.lt)
  replace HB := Lib.hid (HB.out.trans (hb1.mono HB.out.size))
  clear hb1 HC
  have b0 : w4.cell? ⟨w.heap.size, 0, none⟩ = some (.int .i64 k) := XA.out.cell 0
  have b1 : w4.cell? ⟨w.heap.size, 1, none⟩ = some (.int .i64 h) := XA.out.cell 1
  have b2 : w4.cell? ⟨w.heap.size, 2, none⟩ = some (.slice A2 n2 c2) := XA.out.cell 2
  cases rf
  · go_wp2_with fail
    go_ret
    exact ⟨rfl, HB.out⟩
  clear b0 b1 b2
  have b0 : w4.cell? ⟨w.heap.size, 0, none⟩ = some (.int .i64 k) := XA.out.cell 0
  have b1 : w4.cell? ⟨w.heap.size, 1, none⟩ = some (.int .i64 h) := XA.out.cell 1
  have b2 : w4.cell? ⟨w.heap.size, 2, none⟩ = some (.slice A2 n2 c2) := XA.out.cell 2
  cases rc
  · go_wp2_with fail
    go_ret
    exact ⟨rfl, HB.out⟩
  clear b0 b1 b2
  have b0 : w4.cell? ⟨w.heap.size, 0, none⟩ = some (.int .i64 k) := XA.out.cell 0
  have b1 : w4.cell? ⟨w.heap.size, 1, none⟩ = some (.int .i64 h) := XA.out.cell 1
  have b2 : w4.cell? ⟨w.heap.size, 2, none⟩ = some (.slice A2 n2 c2) := XA.out.cell 2
  cases rt
  · go_wp2_with fail
    go_ret
    exact ⟨rfl, HB.out⟩
  clear b0 b1 b2
  have HL := Lib.hid (loV_of HRF.out)
  have HLD := Lib.hid (lo_pN HRF.out)
  have HLT := Lib.hid (lw_lsN HRC.out).1
  have h30 : ndd ≤ 30 := (few_len HRF.out).2.1
  have hla : myB a = true → okT loV a := lo_lt HRT.out
  have HLA := Lib.hid hla
  clear hla HRF HRC HRT
  have HP1 : Hid (LoP [(([], .node 1 0 [a, a]), false)]) := Lib.hid fun d hd => by
    rw [List.mem_singleton] at hd
    subst hd
    exact ⟨(fun t ht => by cases ht), (fun hm => ⟨(fun e => by cases e), HLA.out (my_partM hm), HLA.out (my_partM hm), trivial⟩), by simp⟩
  have HP2 : Hid (LoP [(([a], a), true)]) := Lib.hid fun d hd => by
    rw [List.mem_singleton] at hd
    subst hd
    exact ⟨(fun t ht => by rw [List.mem_singleton] at ht; subst ht; exact HLA.out), HLA.out, by simp⟩
  have HN1 := Lib.hid (dc_piM sg a HP1.out)
  have HN2 := Lib.hid (dc_paM sg a)
  have hva := Rd.keep HB.out _ _ HVA.out
  obtain ⟨V1, hV1⟩ : ∃ V, w4.alloc (.cells #[.int .i64 k, .int .i64 h, .slice A2 n2 c2, .int .i64 k, .int .i64 h, .slice A2 n2 c2] 39) = V := ⟨_, rfl⟩
  have g1 : Below w4.heap.size w4 V1 := by rw [← hV1]; exact (Below.refl _ _).alloc (Nat.le_refl _) _
  have x1 : Box V1 w4.heap.size 39 #[.int .i64 k, .int .i64 h, .slice A2 n2 c2, .int .i64 k, .int .i64 h, .slice A2 n2 c2] := by rw [← hV1]; exact Box.new _ _ _
  obtain ⟨V2, hV2⟩ : ∃ V, V1.alloc (.cells #[.slice none 0 0, .int .i64 1, .int .i64 0, .slice (some ⟨w4.heap.size, 0, none⟩) 2 2, .bool false] 42) = V := ⟨_, rfl⟩
  have g2 : Below V1.heap.size V1 V2 := by rw [← hV2]; exact (Below.refl _ _).alloc (Nat.le_refl _) _
  have x2 : Box V2 V1.heap.size 42 #[.slice none 0 0, .int .i64 1, .int .i64 0, .slice (some ⟨w4.heap.size, 0, none⟩) 2 2, .bool false] := by rw [← hV2]; exact Box.new _ _ _
  obtain ⟨V3, hV3⟩ : ∃ V, V2.alloc (.cells #[.int .i64 k, .int .i64 h, .slice A2 n2 c2] 39) = V := ⟨_, rfl⟩
  have g3 : Below V2.heap.size V2 V3 := by rw [← hV3]; exact (Below.refl _ _).alloc (Nat.le_refl _) _
  have x3 : Box V3 V2.heap.size 39 #[.int .i64 k, .int .i64 h, .slice A2 n2 c2] := by rw [← hV3]; exact Box.new _ _ _
  obtain ⟨V4, hV4⟩ : ∃ V, V3.alloc (.cells #[.slice (some ⟨V2.heap.size, 0, none⟩) 1 1, .int .i64 k, .int .i64 h, .slice A2 n2 c2, .bool true] 42) = V := ⟨_, rfl⟩
  have g4 : Below V3.heap.size V3 V4 := by rw [← hV4]; exact (Below.refl _ _).alloc (Nat.le_refl _) _
  have x4 : Box V4 V3.heap.size 42 #[.slice (some ⟨V2.heap.size, 0, none⟩) 1 1, .int .i64 k, .int .i64 h, .slice A2 n2 c2, .bool true] := by rw [← hV4]; exact Box.new _ _ _
  obtain ⟨V5, hV5⟩ : ∃ V, V4.alloc (.cells #[.slice none 0 0, .int .i64 1, .int .i64 0, .slice (some ⟨w4.heap.size, 0, none⟩) 2 2, .bool false] 42) = V := ⟨_, rfl⟩
  have g5 : Below V4.heap.size V4 V5 := by rw [← hV5]; exact (Below.refl _ _).alloc (Nat.le_refl _) _
  have x5 : Box V5 V4.heap.size 42 #[.slice none 0 0, .int .i64 1, .int .i64 0, .slice (some ⟨w4.heap.size, 0, none⟩) 2 2, .bool false] := by rw [← hV5]; exact Box.new _ _ _
  have z4 : V2.cell? ⟨V1.heap.size, 4, none⟩ = some (.bool false) := x2.cell 4
  have z4f := x2.frozen 4
  have z4s : V2.setCell ⟨V1.heap.size, 4, none⟩ (.bool false) = V2 := setCell_sameM x2 rfl
  have k2 := g1.trans (g2.mono g1.size)
  have k3 := k2.trans (g3.mono k2.size)
  have k4 := k3.trans (g4.mono k3.size)
  have k5 := k4.trans (g5.mono k4.size)
  have j3 := g3
  have j4 := g3.trans (g4.mono g3.size)
  have x1' := x1.keep (g2.trans ((g3.trans ((g4.trans (g5.mono g4.size)).mono g3.size)).mono g2.size)) x1.lt
  have x3' := x3.keep (g4.trans (g5.mono g4.size)) x3.lt
  have x4' := x4.keep g5 x4.lt
  have x2' := x2.keep j4 x2.lt
  have PL1 : PL V5 [(([], .node 1 0 [a, a]), false)] (some ⟨V4.heap.size, 0, none⟩) 1 1 := pl_oneM (d := (([], .node 1 0 [a, a]), false)) x5 (clv_nil _ _ _ (Nat.zero_le _)) (rd_piM x1' (Rd.keep k5 _ _ hva))
  have HC1 := Lib.hid (dcN sg _ As ns cs _ 1 1 V5 (HS.out.keep (HB.out.trans (k5.mono HB.out.size))) PL1 HL.out.sg HP1.out HN1.out)
  have XA2 := XA.out.keep k2 XA.out.lt
  have XA3 := XA.out.keep k3 XA.out.lt
  have s0 : V2.cell? ⟨w.heap.size, 0, none⟩ = some (.int .i64 k) := XA2.cell 0
  have s1 : V2.cell? ⟨w.heap.size, 1, none⟩ = some (.int .i64 h) := XA2.cell 1
  have s2 : V2.cell? ⟨w.heap.size, 2, none⟩ = some (.slice A2 n2 c2) := XA2.cell 2
  have t0 : V3.cell? ⟨w.heap.size, 0, none⟩ = some (.int .i64 k) := XA3.cell 0
  have t1 : V3.cell? ⟨w.heap.size, 1, none⟩ = some (.int .i64 h) := XA3.cell 1
  have t2 : V3.cell? ⟨w.heap.size, 2, none⟩ = some (.slice A2 n2 c2) := XA3.cell 2
  have m0 : V4.cell? ⟨V1.heap.size, 0, none⟩ = some (.slice none 0 0) := x2'.cell 0
  have m1 : V4.cell? ⟨V1.heap.size, 1, none⟩ = some (.int .i64 1) := x2'.cell 1
  have m2 : V4.cell? ⟨V1.heap.size, 2, none⟩ = some (.int .i64 0) := x2'.cell 2
  have m3 : V4.cell? ⟨V1.heap.size, 3, none⟩ = some (.slice (some ⟨w4.heap.size, 0, none⟩) 2 2) := x2'.cell 3
  have m4 : V4.cell? ⟨V1.heap.size, 4, none⟩ = some (.bool false) := x2'.cell 4
  have X4 := Lib.hid x4'
  have X3 := Lib.hid x3'
  have HB5 := Lib.hid (HB.out.trans (k5.mono HB.out.size))
  clear x1 x2 x3 x4 x5 x1' x2' x3' x4' g1 g2 g3 g4 g5 k2 k3 k4 k5 j3 j4 XA2 XA3 PL1 hva
  have b0 : w4.cell? ⟨w.heap.size, 0, none⟩ = some (.int .i64 k) := XA.out.cell 0
  have b1 : w4.cell? ⟨w.heap.size, 1, none⟩ = some (.int .i64 h) := XA.out.cell 1
  have b2 : w4.cell? ⟨w.heap.size, 2, none⟩ = some (.slice A2 n2 c2) := XA.out.cell 2
  go_wp2_with fail
  refine HC1.out.mono ?_
  rintro e w9 ⟨⟨i1, e1, rfl, hne1⟩, hb1⟩
  clear hV1 hV2 hV3 hV4 hV5 s0 s1 s2 t0 t1 t2 m0 m1 m2 m3 m4 b0 b1 b2 HC1 z4 z4f z4s
  have HB9 := Lib.hid (HB5.out.trans (hb1.mono HB5.out.size))
  have y4 := X4.out.keep hb1 X4.out.lt
  have y3 := X3.out.keep hb1 X3.out.lt
  obtain ⟨V6, hV6⟩ : ∃ V, w9.alloc (.cells #[.slice (some ⟨V2.heap.size, 0, none⟩) 1 1, .int .i64 k, .int .i64 h, .slice A2 n2 c2, .bool true] 42) = V := ⟨_, rfl⟩
  have g6 : Below w9.heap.size w9 V6 := by rw [← hV6]; exact (Below.refl _ _).alloc (Nat.le_refl _) _
  have x6 : Box V6 w9.heap.size 42 #[.slice (some ⟨V2.heap.size, 0, none⟩) 1 1, .int .i64 k, .int .i64 h, .slice A2 n2 c2, .bool true] := by rw [← hV6]; exact Box.new _ _ _
  have HB6 := Lib.hid (HB9.out.trans (g6.mono HB9.out.size))
  have hva6 := Rd.keep HB6.out _ _ HVA.out
  have PL2 : PL V6 [(([a], a), true)] (some ⟨w9.heap.size, 0, none⟩) 1 1 := pl_oneM (d := (([a], a), true)) x6 ⟨rfl, Nat.le_refl _, by decide, rd_one (k := 0) (h := 0) (y3.keep g6 y3.lt) hva6⟩ hva6
  have HC2 := Lib.hid (dcN sg _ As ns cs _ 1 1 V6 (HS.out.keep HB6.out) PL2 HL.out.sg HP2.out HN2.out)
  have m0 : w9.cell? ⟨V3.heap.size, 0, none⟩ = some (.slice (some ⟨V2.heap.size, 0, none⟩) 1 1) := y4.cell 0
  have m1 : w9.cell? ⟨V3.heap.size, 1, none⟩ = some (.int .i64 k) := y4.cell 1
  have m2 : w9.cell? ⟨V3.heap.size, 2, none⟩ = some (.int .i64 h) := y4.cell 2
  have m3 : w9.cell? ⟨V3.heap.size, 3, none⟩ = some (.slice A2 n2 c2) := y4.cell 3
  have m4 : w9.cell? ⟨V3.heap.size, 4, none⟩ = some (.bool true) := y4.cell 4
  clear g6 x6 hva6 PL2 y3 y4 hb1 X3 X4 HB5
  go_wp2_with fail
  refine HC2.out.mono ?_
  rintro e w10 ⟨⟨i2, e2, rfl, hne2⟩, hb1⟩
  replace HB := Lib.hid (HB6.out.trans (hb1.mono HB6.out.size))
  clear hb1 HC2 hV6 m0 m1 m2 m3 m4 HB6 HB9 XA HP1 HP2 HN1 HN2
  obtain ⟨R3, hR3⟩ : ∃ e, suV sg [] [] ds theta = e := ⟨_, rfl⟩
  have HR3 := Lib.hid hR3; clear hR3
  go_wp2_with fail
  have HC := Lib.hid (suC sg [] [] ds theta As ns cs none 0 0 none 0 0 Ad ndd cd At nt ct w10 (HS.out.keep HB.out) (pl_nil _) (clv_nil _ _ _ (Nat.zero_le _)) (HD.out.keep HB.out) (HT.out.keep HB.out) ⟨HL.out.sg, (fun m hm => absurd hm (by simp [msP])), (fun t ht => by cases ht)⟩ HLD.out HLT.out (by omega))
  rw [HR3.out] at HC
  refine HC.out.mono ?_
  rintro e w11 ⟨rfl, hb1⟩
  replace HB := Lib.hid (HB.out.trans (hb1.mono HB.out.size))
  clear hb1 HC
  go_wp2_with fail
  have HC := Lib.hid (eSuC sg [] [] ds theta As ns cs none 0 0 none 0 0 Ad ndd cd At nt ct w11 (HS.out.keep HB.out) (pl_nil _) (clv_nil _ _ _ (Nat.zero_le _)) (HD.out.keep HB.out) (HT.out.keep HB.out) ⟨HL.out.sg, (fun m hm => absurd hm (by simp [msP])), (fun t ht => by cases ht)⟩ HLD.out HLT.out (by omega) ⟨HZ.out, (fun m hm => absurd hm (by simp [msP])), (fun t ht => by cases ht)⟩ HZP.out HZT.out)
  rw [HR3.out] at HC
  refine HC.out.mono ?_
  rintro e w12 ⟨rfl, hb1⟩
  replace HB := Lib.hid (HB.out.trans (hb1.mono HB.out.size))
  clear hb1 HC
  by_cases hq : nt = ndd
  · subst hq
    go_wp2_with fail
    go_ret
    exact ⟨by simp, HB.out⟩
  · have hR : R3 = 3 := by rw [← HR3.out]; exact su_lenM (by omega) (by omega)
    have dq : ((nt : Int) == (ndd : Int)) = false := by simp; omega
    subst hR
    clear HR3
    go_wp2_with fail
    go_ret
    exact ⟨by simp, HB.out⟩
theorem metasCountM (sg : List T) (md : List (List T × T)) (theta : List T) (a : T) (As : Option Addr) (ns cs : Nat) (Ad : Option Addr) (ndd cd : Nat) (At : Option Addr) (nt ct : Nat) (va : Value) (w : World) (hs : DL w sg As ns cs) (hd : ML w md Ad ndd cd) (ht : CLV w theta At nt ct) (hva : Rd w a va)
    (hzs : ∀ t ∈ sg, nd t ≤ 1048576) (hzd : ∀ x ∈ md, (∀ z ∈ x.1, nd z ≤ 1048576) ∧ nd x.2 ≤ 1048576) (hzt : ∀ x ∈ theta, nd x ≤ 1048576) :
    Calls Tryz.prog 4 #[.slice As ns cs, .slice Ad ndd cd, .slice At nt ct, va] w fun e w' => e = .returned (.bool true) ∧ Below w.heap.size w w' := by
  obtain ⟨ds, hds, he2⟩ := hd.pl
  exact metasCountC sg ds theta a As ns cs Ad ndd cd At nt ct va w hs hds ht hva hzs (fun d hd => hzd d.1 (by rw [← he2]; exact List.mem_map_of_mem hd)) hzt
end Go.Proofs.YtbbjjdnnlnabaaaGreat
