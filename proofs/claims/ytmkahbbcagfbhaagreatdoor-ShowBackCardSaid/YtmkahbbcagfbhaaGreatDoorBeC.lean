/-
  Contracts of package parse's take, named and atAtom. No statement is proved here.
-/
import Derived.Test.YtmkahbbcagfbhaaGreatDoorBdC
import Derived.Test.YtmkahbbcagfbhaaGreatDoorZt
namespace Go.Proofs.YtmkahbbcagfbhaaGreatDoor
open Go.ChangeShapes Go.WideShapes Go.ChangeAt Go.RowKit
set_option linter.unusedVariables false
theorem bytes_eqB (a b : ByteArray) : (a.toList == b.toList) = decide (a = b) := by
  rw [← beq_toListBytes, Bool.eq_iff_iff, decide_eq_true_eq]
  obtain ⟨⟨x⟩⟩ := a
  obtain ⟨⟨y⟩⟩ := b
  show ((⟨x⟩ : Array UInt8) == ⟨y⟩) = true ↔ _
  rw [beq_iff_eq]
  simp
theorem run_eqB (w : World) (k1 k2 : Int) (s1 s2 : ByteArray) :
    (Op.equalIn 10000 79 (.agg #[.int .i64 k1, .string s1]) (.agg #[.int .i64 k2, .string s2])).run Tryz.prog w = .ok (decide (((k1, s1) : Tk) = (k2, s2))) w := by
  rw [run_equalIn_struct w 9999 _ _ _ (by kernel_rfl) (by kernel_rfl)]
  have hf : (Tryz.prog.fieldsOf 79).toList.map (fun f => (f.name, f.type, f.offset)) = [("Kind", 3, 0), ("Text", 9, 1)] := by kernel_rfl
  have hs : s1.toList = s2.toList ↔ s1 = s2 := by
    have := bytes_eqB s1 s2
    rw [Bool.eq_iff_iff, decide_eq_true_eq, beq_iff_eq] at this
    exact this
  cases hl : (Tryz.prog.fieldsOf 79).toList with
  | nil => rw [hl] at hf; cases hf
  | cons f l =>
    cases l with
    | nil => rw [hl] at hf; simp at hf
    | cons g l =>
      cases l with
      | cons g' l => rw [hl] at hf; simp at hf
      | nil =>
        rw [hl] at hf
        simp at hf
        obtain ⟨⟨h1, h2, h3⟩, h4, h5, h6⟩ := hf
        simp [Op.eqFields, h1, h2, h3, h4, h5, h6, part, go_sem, Tryz.underlying3, Tryz.underlying9, Tryz.sizeOf3, Tryz.isAgg3, Tryz.sizeOf9, Tryz.isAgg9]
        by_cases e1 : k1 = k2 <;> by_cases e2 : s1 = s2 <;> simp [e1, hs, e2]
theorem zzB {P : Program} {Q : Exit → Act → World → Prop} {ops : Array Oper} {S : World → Prop} {id R : Nat} {a : Act} {v w : World} (hk : Hid (∀ w' : World, FrB R v w' → S w')) (hb : FrB R v w.drew)
    (h : S w.drew → wpAnyH P .any ops Q S ops.size (Array.replicate ops.size false) a w.drew) (hm : P.follows .mixedOrders = true := by kernel_rfl) : (Code.region id ops true).wp P Q a w :=
  wp_region_held_drew hm (hk.out _ hb) h
theorem FrB.cell {R b i : Nat} {w w' : World} {v : Value} (f : FrB R w w') (h : w.cell? ⟨b, i, none⟩ = some v) (hb : b ≠ R) : w'.cell? ⟨b, i, none⟩ = some v :=
  (World.cell?_of_block (w := w) (f.block b (cell_ltX h) hb)).trans h
theorem FrB.drew {R : Nat} {w w' : World} (f : FrB R w w') : FrB R w w'.drew := f.then (Below.refl _ _).drew
theorem hd_take {m : Tk} {x : List Tk} (hm : m ≠ (1, ⟨#[]⟩)) : (hdT x = m ∧ takeM m x = .ok x.tail) ∨ (hdT x ≠ m ∧ takeM m x = .error 8) := by
  cases x with
  | nil => exact .inr ⟨fun e => hm e.symm, rfl⟩
  | cons t x =>
    by_cases e : t = m
    · exact .inl ⟨e, by rw [takeM, if_pos e]; rfl⟩
    · exact .inr ⟨e, by rw [takeM, if_neg e]⟩
theorem beg_hd (x : List Tk) : begM x = (decide ((hdT x).1 = 0) || decide (hdT x = mO)) := by
  cases x with
  | nil => rfl
  | cons t x => rw [begM, Bool.or_comm]; rfl
set_option maxRecDepth 100000 in
set_option maxHeartbeats 4000000 in
theorem pTakeC {b0 R K : Nat} {SA : Option Addr} {sn sc : Nat} {sg : List (ByteArray × T)} {x : List Tk} {w : World} (h : PS b0 R K SA sn sc sg x w) (s : ByteArray) : Calls Tryz.prog 25 #[.pointer (some ⟨R, 0, none⟩), .string s] w fun e w' => e = .returned (.bool (decide (hdT x = (1, s)))) ∧ RdE b0 R K SA sn sc sg (if hdT x = (1, s) then x.tail else x) w w' := by
  obtain ⟨q, hq⟩ : ∃ q, decide (hdT x = (1, s)) = q := ⟨_, rfl⟩
  have hE : ∀ W, (Op.equalIn 10000 79 (.agg #[.int .i64 (hdT x).1, .string (hdT x).2]) (.agg #[.int .i64 1, .string s])).run Tryz.prog W = .ok q W := fun W => by rw [run_eqB, ← hq]
  obtain ⟨y, hy⟩ : ∃ y, (if hdT x = (1, s) then x.tail else x) = y := ⟨_, rfl⟩
  rw [hq, hy]
  have HQ := Lib.hid hq
  have HY := Lib.hid hy
  have HN := Lib.hid (pNextC h)
  have HP := Lib.hid h
  clear h hq hy
  go_enter Tryz.func25, Tryz.ntmps25
  go_wp2_with fail
  refine HN.out.mono ?_
  rintro e w1 ⟨rfl, hb1⟩
  have HB1 := Lib.hid hb1
  clear hb1 HN
  go_wp2_with fail
  refine (pMarkC _ _).mono ?_
  rintro e w2 ⟨rfl, hb2⟩
  have HB2 := Lib.hid (HB1.out.trans (hb2.mono HB1.out.size))
  clear hb2 HB1
  cases q with
  | false =>
    have hne : hdT x ≠ (1, s) := of_decide_eq_false HQ.out
    have hy := HY.out
    rw [if_neg hne] at hy
    subst hy
    clear hne HY
    go_wp2_with fail
    go_ret
    exact ⟨rfl, HP.out.keep HB2.out, FrB.below HB2.out⟩
  | true =>
    have he : hdT x = (1, s) := of_decide_eq_true HQ.out
    have hy := HY.out
    rw [if_pos he] at hy
    subst hy
    clear he HY
    go_wp2_with fail
    refine (pSkipC (HP.out.keep HB2.out)).mono ?_
    rintro e w3 ⟨rfl, hp3, hf3⟩
    have HR := Lib.hid (And.intro hp3 ((FrB.below HB2.out).trans hf3))
    clear hp3 hf3
    go_wp2_with fail
    go_ret
    exact ⟨rfl, HR.out⟩
/-- a name, and the mark that must stand behind it -/
def namedM (m : Tk) (x : List Tk) : Except Int (ByteArray × List Tk) :=
  match nameM x with
  | .error e => .error e
  | .ok (s, r1) => match takeM m r1 with
    | .error e => .error e
    | .ok r2 => .ok (s, r2)
/-- what named tells -/
def NmE (b0 R K : Nat) (SA : Option Addr) (sn sc : Nat) (sg : List (ByteArray × T)) (x : List Tk) (m : Tk) (w : World) (e : Ending) (w' : World) : Prop :=
  FrB R w w' ∧ ∃ s q, e = .returned (.tuple #[.string s, .bool q]) ∧ s.size ≤ maxLen ∧ ((∃ y, q = true ∧ namedM m x = .ok (s, y) ∧ PS b0 R K SA sn sc sg y w') ∨ (q = false ∧ namedM m x = .error 8 ∧ ∃ y, PS b0 R K SA sn sc sg y w'))
set_option maxRecDepth 100000 in
set_option maxHeartbeats 4000000 in
theorem pNamedC {b0 R K : Nat} {SA : Option Addr} {sn sc : Nat} {sg : List (ByteArray × T)} {x : List Tk} {w : World} (h : PS b0 R K SA sn sc sg x w) (s : ByteArray) (hs : s ≠ ⟨#[]⟩) : Calls Tryz.prog 48 #[.pointer (some ⟨R, 0, none⟩), .string s] w (NmE b0 R K SA sn sc sg x (1, s) w) := by
  have HN := Lib.hid (pNextC h)
  have HP := Lib.hid h
  have HS := Lib.hid (show ((1, s) : Tk) ≠ (1, ⟨#[]⟩) from fun e => hs (congrArg Prod.snd e))
  have hlt := h.lt
  clear h hs
  go_enter Tryz.func48, Tryz.ntmps48
  go_wp2_with fail
  refine HN.out.mono ?_
  rintro e w1 ⟨rfl, hb1⟩
  obtain ⟨t1, ht1⟩ : ∃ t1, (hdT x).1 = t1 := ⟨_, rfl⟩
  obtain ⟨t2, ht2⟩ : ∃ t2, (hdT x).2 = t2 := ⟨_, rfl⟩
  rw [ht1, ht2]
  have HT := Lib.hid (show hdT x = (t1, t2) from Prod.ext ht1 ht2)
  have HTS := Lib.hid (show t2.size ≤ maxLen by
    rw [← ht2]
    cases x with
    | nil => exact Nat.zero_le _
    | cons t r => exact (HP.out.good t List.mem_cons_self).sz)
  clear ht1 ht2
  have hbA : Below w.heap.size w (w1.alloc (.cells #[.int .i64 t1, .string t2] 79)) := hb1.alloc hb1.size _
  have x0 := BoxX.new w1 79 #[.int .i64 t1, .string t2]
  have hR1 := hb1.size
  have HB := Lib.hid hbA
  have hPne : w1.heap.size ≠ R := by omega
  have HX := Lib.hid x0
  clear hb1 hbA HN x0
  by_cases h0 : t1 = 0
  · subst h0
    go_wp2_with fail
    refine (pSkipC (HP.out.keep HB.out)).mono ?_
    rintro e w2 ⟨rfl, hp2, hf2⟩
    have hx2 := HX.out.fr hf2 hPne
    have c1 := hx2.cell 1
    simp only [List.getElem?_toArray, List.getElem?_cons_zero, List.getElem?_cons_succ] at c1
    have HP2 := Lib.hid hp2
    have HF2 := Lib.hid (FrB.after HB.out hf2)
    clear hx2 hp2 hf2 HX
    go_wp2_with fail
    have hfd : FrB R w2 w2.drew := (FrB.refl R w2).drew
    have HKS : Hid (∀ w' : World, FrB R w2 w' → (fun w' => w'.cell? ⟨w1.heap.size, 1, none⟩ = some (.string t2)) w') := Lib.hid fun w' h => h.cell c1 hPne
    refine zzB HKS hfd (fun hS => ?_)
    simp only [List.size_toArray, List.length_cons, List.length_nil, Nat.reduceAdd]
    refine wpAnyH_take (i := 0) (v := .pointer (some ⟨w1.heap.size, 1, none⟩)) rfl (by kernel_rfl) (by kernel_rfl) (by kernel_rfl) (fun _ _ _ h => h) (Or.inl ⟨by kernel_rfl, ?_⟩) hS ?_
    · intro w' hSw
      go_simp
    try simp only [Act.put, List.getElem_toArray, List.getElem_cons_zero, List.setIfInBounds_toArray, List.set_cons_zero, List.set_cons_succ]
    refine wpAnyH_take (i := 1) (v := .string t2) rfl (by kernel_rfl) (by kernel_rfl) (by kernel_rfl) (fun _ _ _ h => h) (Or.inl ⟨by kernel_rfl, ?_⟩) hS ?_
    · intro w' hSw
      go_simp
    try simp only [Act.put, List.getElem_toArray, List.getElem_cons_succ, List.getElem_cons_zero, List.setIfInBounds_toArray, List.set_cons_zero, List.set_cons_succ]
    refine wpAnyH_take (i := 2) (v := .pointer (some ⟨R, 0, none⟩)) rfl (by kernel_rfl) (by kernel_rfl) (by kernel_rfl) (fun _ _ _ h => h) (Or.inl ⟨by kernel_rfl, ?_⟩) hS ?_
    · intro w' hSw
      go_simp
    try simp only [Act.put, List.getElem_toArray, List.getElem_cons_succ, List.getElem_cons_zero, List.setIfInBounds_toArray, List.set_cons_zero, List.set_cons_succ]
    refine wpAnyH_take (i := 3) (v := .string s) rfl (by kernel_rfl) (by kernel_rfl) (by kernel_rfl) (fun _ _ _ h => h) (Or.inl ⟨by kernel_rfl, ?_⟩) hS ?_
    · intro w' hSw
      go_simp
    try simp only [Act.put, List.getElem_toArray, List.getElem_cons_succ, List.getElem_cons_zero, List.setIfInBounds_toArray, List.set_cons_zero, List.set_cons_succ]
    refine wpAnyH_ready (rs := [4]) (by kernel_rfl) (by simp) ?_
    refine AllReadyH.cons rfl (fun KN hK => ?_) AllReadyH.nil
    go_simp
    refine (pTakeC (HP2.out.keep (Below.refl _ _).drew) s).mono ?_
    rintro e w3 ⟨rfl, hp3, hf3⟩
    have hf3' := hfd.trans hf3
    obtain ⟨q, hq⟩ : ∃ q, decide (hdT x.tail = (1, s)) = q := ⟨_, rfl⟩
    rw [hq]
    refine hK.out _ _ (HKS.out _ hf3') (fun hS => ?_)
    clear hK KN
    try simp only [Act.put, zzP]
    refine wpAnyH_take (i := 5) (v := .string t2) rfl (by kernel_rfl) (by kernel_rfl) (by kernel_rfl) (fun _ _ _ h => h) (Or.inl ⟨by kernel_rfl, ?_⟩) hS ?_
    · intro w' hSw
      go_simp
    try simp only [Act.put, List.getElem_toArray, List.getElem_cons_succ, List.getElem_cons_zero, List.setIfInBounds_toArray, List.set_cons_zero, List.set_cons_succ]
    refine wpAnyH_take (i := 6) (v := .bool q) rfl (by kernel_rfl) (by kernel_rfl) (by kernel_rfl) (fun _ _ _ h => h) (Or.inl ⟨by kernel_rfl, ?_⟩) hS ?_
    · intro w' hSw
      go_simp
    try simp only [Act.put, List.getElem_toArray, List.getElem_cons_succ, List.getElem_cons_zero, List.setIfInBounds_toArray, List.set_cons_zero, List.set_cons_succ]
    refine wpAnyH_done (by kernel_rfl) ?_ _
    try simp only [zzP]
    go_wp2_with fail
    go_ret2
    refine ⟨HF2.out.trans hf3', t2, q, rfl, HTS.out, ?_⟩
    have hT := HT.out
    cases x with
    | nil => exact absurd (congrArg Prod.fst hT) (by simp [hdT])
    | cons t x =>
      have ht : t = (0, t2) := hT
      have hnm : namedM (1, s) (t :: x) = match takeM (1, s) x with | .error e => .error e | .ok r2 => .ok (t2, r2) := by rw [ht, namedM, name_at]
      rw [hnm]
      cases q with
      | true =>
        have hh : hdT x = (1, s) := of_decide_eq_true hq
        rcases hd_take (x := x) HS.out with ⟨_, e2⟩ | ⟨e1, _⟩
        · rw [e2]
          refine .inl ⟨x.tail, rfl, rfl, ?_⟩
          have h9 : PS b0 R K SA sn sc sg (if hdT x = (1, s) then x.tail else x) w3 := hp3
          rw [if_pos hh] at h9
          exact h9
        · exact absurd hh e1
      | false =>
        have hh : hdT x ≠ (1, s) := of_decide_eq_false hq
        rcases hd_take (x := x) HS.out with ⟨e1, _⟩ | ⟨_, e2⟩
        · exact absurd e1 hh
        · rw [e2]
          exact .inr ⟨rfl, rfl, _, hp3⟩
  · have d0 : (t1 == 0) = false := by simpa using h0
    go_wp2_with fail
    go_ret2
    refine ⟨FrB.below HB.out, ⟨#[]⟩, false, rfl, Nat.zero_le _, .inr ⟨rfl, ?_, x, HP.out.keep HB.out⟩⟩
    have hT := HT.out
    unfold namedM
    cases x with
    | nil => rfl
    | cons t x => rw [show t = (t1, t2) from hT, nameM, if_neg h0]
set_option maxRecDepth 100000 in
set_option maxHeartbeats 4000000 in
theorem pAtC {b0 R K : Nat} {SA : Option Addr} {sn sc : Nat} {sg : List (ByteArray × T)} {x : List Tk} {w : World} (h : PS b0 R K SA sn sc sg x w) : Calls Tryz.prog 96 #[.pointer (some ⟨R, 0, none⟩)] w fun e w' => e = .returned (.bool (begM x)) ∧ Below w.heap.size w w' := by
  rw [beg_hd]
  have hn := pNextC h
  obtain ⟨t1, ht1⟩ : ∃ t1, (hdT x).1 = t1 := ⟨_, rfl⟩
  obtain ⟨t2, ht2⟩ : ∃ t2, (hdT x).2 = t2 := ⟨_, rfl⟩
  rw [ht1, ht2] at hn
  rw [ht1, show hdT x = (t1, t2) from Prod.ext ht1 ht2]
  obtain ⟨q, hq⟩ : ∃ q, decide (((t1, t2) : Tk) = mO) = q := ⟨_, rfl⟩
  rw [hq]
  have hE : ∀ W, (Op.equalIn 10000 79 (.agg #[.int .i64 t1, .string t2]) (.agg #[.int .i64 1, .string ⟨#[40]⟩])).run Tryz.prog W = .ok q W := fun W => by rw [run_eqB, ← hq]; rfl
  have HN := Lib.hid hn
  clear h ht1 ht2 hq hn
  go_enter Tryz.func96, Tryz.ntmps96
  go_wp2_with fail
  refine HN.out.mono ?_
  rintro e w1 ⟨rfl, hb1⟩
  obtain ⟨W, hW⟩ : ∃ W, w1.alloc (.cells #[.int .i64 t1, .string t2] 79) = W := ⟨_, rfl⟩
  have hbA : Below w.heap.size w W := by rw [← hW]; exact hb1.alloc hb1.size _
  have x0 : BoxX W w1.heap.size 79 #[.int .i64 t1, .string t2] := by rw [← hW]; exact BoxX.new w1 79 #[.int .i64 t1, .string t2]
  have c0 := x0.cell 0
  have c1 := x0.cell 1
  simp only [List.getElem?_toArray, List.getElem?_cons_zero, List.getElem?_cons_succ] at c0 c1
  have HB := Lib.hid hbA
  clear hb1 hbA HN x0
  have HW := Lib.hid hW
  clear hW
  go_wp2_with fail
  rw [HW.out]
  clear HW
  by_cases h0 : t1 = 0
  · subst h0
    have HKS : Hid (∀ w' : World, Below W.heap.size W w' → (fun w' => w'.cell? ⟨w1.heap.size, 0, none⟩ = some (.int .i64 0) ∧ w'.cell? ⟨w1.heap.size, 1, none⟩ = some (.string t2)) w') := Lib.hid fun w' h => ⟨(h.cell (cell_ltX c0)).trans c0, (h.cell (cell_ltX c1)).trans c1⟩
    have hbd : Below W.heap.size W W.drew := (Below.refl _ W).drew
    refine zzR HKS hbd (fun hS => ?_)
    simp only [List.size_toArray, List.length_cons, List.length_nil, Nat.reduceAdd]
    refine wpAnyH_take (i := 0) (v := .pointer (some ⟨w1.heap.size, 0, none⟩)) rfl (by kernel_rfl) (by kernel_rfl) (by kernel_rfl) (fun _ _ _ h => h) (Or.inl ⟨by kernel_rfl, ?_⟩) hS ?_
    · intro w' hSw
      obtain ⟨s0, s1⟩ := hSw
      go_simp
    try simp only [Act.put, List.getElem_toArray, List.getElem_cons_zero, List.setIfInBounds_toArray, List.set_cons_zero, List.set_cons_succ]
    refine wpAnyH_take (i := 1) (v := .int .i64 0) rfl (by kernel_rfl) (by kernel_rfl) (by kernel_rfl) (fun _ _ _ h => h) (Or.inl ⟨by kernel_rfl, ?_⟩) hS ?_
    · intro w' hSw
      obtain ⟨s0, s1⟩ := hSw
      go_simp
    try simp only [Act.put, List.getElem_toArray, List.getElem_cons_succ, List.getElem_cons_zero, List.setIfInBounds_toArray, List.set_cons_zero, List.set_cons_succ]
    refine wpAnyH_take (i := 2) (v := .bool true) rfl (by kernel_rfl) (by kernel_rfl) (by kernel_rfl) (fun _ _ _ h => h) (Or.inl ⟨by kernel_rfl, ?_⟩) hS ?_
    · intro w' hSw
      obtain ⟨s0, s1⟩ := hSw
      go_simp
    try simp only [Act.put, List.getElem_toArray, List.getElem_cons_succ, List.getElem_cons_zero, List.setIfInBounds_toArray, List.set_cons_zero, List.set_cons_succ]
    refine wpAnyH_take (i := 3) (v := .bool true) rfl (by kernel_rfl) (by kernel_rfl) (by kernel_rfl) (fun _ _ _ h => h) (Or.inl ⟨by kernel_rfl, ?_⟩) hS ?_
    · intro w' hSw
      obtain ⟨s0, s1⟩ := hSw
      go_simp
    try simp only [Act.put, List.getElem_toArray, List.getElem_cons_succ, List.getElem_cons_zero, List.setIfInBounds_toArray, List.set_cons_zero, List.set_cons_succ]
    refine wpAnyH_take (i := 4) (v := undef) rfl (by kernel_rfl) (by kernel_rfl) (by kernel_rfl) (fun _ _ _ h => h) (Or.inr ⟨by kernel_rfl, rfl⟩) hS ?_
    try simp only [Act.put, zzP]
    refine wpAnyH_take (i := 5) (v := undef) rfl (by kernel_rfl) (by kernel_rfl) (by kernel_rfl) (fun _ _ _ h => h) (Or.inr ⟨by kernel_rfl, rfl⟩) hS ?_
    try simp only [Act.put, zzP]
    refine wpAnyH_take (i := 6) (v := undef) rfl (by kernel_rfl) (by kernel_rfl) (by kernel_rfl) (fun _ _ _ h => h) (Or.inr ⟨by kernel_rfl, rfl⟩) hS ?_
    try simp only [Act.put, zzP]
    refine wpAnyH_take (i := 7) (v := .bool true) rfl (by kernel_rfl) (by kernel_rfl) (by kernel_rfl) (fun _ _ _ h => h) (Or.inl ⟨by kernel_rfl, ?_⟩) hS ?_
    · intro w' hSw
      obtain ⟨s0, s1⟩ := hSw
      go_simp
    try simp only [Act.put, List.getElem_toArray, List.getElem_cons_succ, List.getElem_cons_zero, List.setIfInBounds_toArray, List.set_cons_zero, List.set_cons_succ]
    refine wpAnyH_take (i := 8) (v := .bool true) rfl (by kernel_rfl) (by kernel_rfl) (by kernel_rfl) (fun _ _ _ h => h) (Or.inl ⟨by kernel_rfl, ?_⟩) hS ?_
    · intro w' hSw
      obtain ⟨s0, s1⟩ := hSw
      go_simp
    try simp only [Act.put, List.getElem_toArray, List.getElem_cons_succ, List.getElem_cons_zero, List.setIfInBounds_toArray, List.set_cons_zero, List.set_cons_succ]
    refine wpAnyH_done (by kernel_rfl) ?_ _
    try simp only [zzP]
    go_wp2_with fail
    go_ret
    exact ⟨rfl, HB.out.trans (hbd.mono HB.out.size)⟩
  · have d0 : (t1 == 0) = false := by simpa using h0
    have HKS : Hid (∀ w' : World, Below W.heap.size W w' → (fun w' => w'.cell? ⟨w1.heap.size, 0, none⟩ = some (.int .i64 t1) ∧ w'.cell? ⟨w1.heap.size, 1, none⟩ = some (.string t2)) w') := Lib.hid fun w' h => ⟨(h.cell (cell_ltX c0)).trans c0, (h.cell (cell_ltX c1)).trans c1⟩
    have hbd : Below W.heap.size W W.drew := (Below.refl _ W).drew
    refine zzR HKS hbd (fun hS => ?_)
    simp only [List.size_toArray, List.length_cons, List.length_nil, Nat.reduceAdd]
    refine wpAnyH_take (i := 0) (v := .pointer (some ⟨w1.heap.size, 0, none⟩)) rfl (by kernel_rfl) (by kernel_rfl) (by kernel_rfl) (fun _ _ _ h => h) (Or.inl ⟨by kernel_rfl, ?_⟩) hS ?_
    · intro w' hSw
      obtain ⟨s0, s1⟩ := hSw
      go_simp
    try simp only [Act.put, List.getElem_toArray, List.getElem_cons_zero, List.setIfInBounds_toArray, List.set_cons_zero, List.set_cons_succ]
    refine wpAnyH_take (i := 1) (v := .int .i64 t1) rfl (by kernel_rfl) (by kernel_rfl) (by kernel_rfl) (fun _ _ _ h => h) (Or.inl ⟨by kernel_rfl, ?_⟩) hS ?_
    · intro w' hSw
      obtain ⟨s0, s1⟩ := hSw
      go_simp
    try simp only [Act.put, List.getElem_toArray, List.getElem_cons_succ, List.getElem_cons_zero, List.setIfInBounds_toArray, List.set_cons_zero, List.set_cons_succ]
    refine wpAnyH_take (i := 2) (v := .bool false) rfl (by kernel_rfl) (by kernel_rfl) (by kernel_rfl) (fun _ _ _ h => h) (Or.inl ⟨by kernel_rfl, ?_⟩) hS ?_
    · intro w' hSw
      obtain ⟨s0, s1⟩ := hSw
      go_simp
    try simp only [Act.put, List.getElem_toArray, List.getElem_cons_succ, List.getElem_cons_zero, List.setIfInBounds_toArray, List.set_cons_zero, List.set_cons_succ]
    refine wpAnyH_take (i := 3) (v := .bool false) rfl (by kernel_rfl) (by kernel_rfl) (by kernel_rfl) (fun _ _ _ h => h) (Or.inl ⟨by kernel_rfl, ?_⟩) hS ?_
    · intro w' hSw
      obtain ⟨s0, s1⟩ := hSw
      go_simp
    try simp only [Act.put, List.getElem_toArray, List.getElem_cons_succ, List.getElem_cons_zero, List.setIfInBounds_toArray, List.set_cons_zero, List.set_cons_succ]
    refine wpAnyH_take (i := 4) (v := .agg #[.int .i64 t1, .string t2]) rfl (by kernel_rfl) (by kernel_rfl) (by kernel_rfl) (fun _ _ _ h => h) (Or.inl ⟨by kernel_rfl, ?_⟩) hS ?_
    · intro w' hSw
      obtain ⟨s0, s1⟩ := hSw
      go_simp
    try simp only [Act.put, List.getElem_toArray, List.getElem_cons_succ, List.getElem_cons_zero, List.setIfInBounds_toArray, List.set_cons_zero, List.set_cons_succ]
    refine wpAnyH_ready (rs := [5]) (by kernel_rfl) (by simp) ?_
    refine AllReadyH.cons rfl (fun KN hK => ?_) AllReadyH.nil
    go_simp
    refine (pMarkC _ _).mono ?_
    rintro e w3 ⟨rfl, hb3⟩
    have hb3' := hbd.trans (hb3.mono hbd.size)
    refine hK.out _ _ (HKS.out _ hb3') (fun hS => ?_)
    clear hK KN
    try simp only [Act.put, zzP]
    refine wpAnyH_take (i := 6) (v := .bool q) rfl (by kernel_rfl) (by kernel_rfl) (by kernel_rfl) (fun _ _ _ h => h) (Or.inl ⟨by kernel_rfl, ?_⟩) hS ?_
    · intro w' hSw
      obtain ⟨s0, s1⟩ := hSw
      go_simp
    try simp only [Act.put, List.getElem_toArray, List.getElem_cons_succ, List.getElem_cons_zero, List.setIfInBounds_toArray, List.set_cons_zero, List.set_cons_succ]
    refine wpAnyH_take (i := 7) (v := .bool q) rfl (by kernel_rfl) (by kernel_rfl) (by kernel_rfl) (fun _ _ _ h => h) (Or.inl ⟨by kernel_rfl, ?_⟩) hS ?_
    · intro w' hSw
      obtain ⟨s0, s1⟩ := hSw
      go_simp
    try simp only [Act.put, List.getElem_toArray, List.getElem_cons_succ, List.getElem_cons_zero, List.setIfInBounds_toArray, List.set_cons_zero, List.set_cons_succ]
    refine wpAnyH_take (i := 8) (v := .bool q) rfl (by kernel_rfl) (by kernel_rfl) (by kernel_rfl) (fun _ _ _ h => h) (Or.inl ⟨by kernel_rfl, ?_⟩) hS ?_
    · intro w' hSw
      obtain ⟨s0, s1⟩ := hSw
      go_simp
    try simp only [Act.put, List.getElem_toArray, List.getElem_cons_succ, List.getElem_cons_zero, List.setIfInBounds_toArray, List.set_cons_zero, List.set_cons_succ]
    refine wpAnyH_done (by kernel_rfl) ?_ _
    try simp only [zzP]
    go_wp2_with fail
    go_ret
    exact ⟨rfl, HB.out.trans (hb3'.mono HB.out.size)⟩
end Go.Proofs.YtmkahbbcagfbhaaGreatDoor
