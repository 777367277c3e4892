/-
  Contracts of package lex's endName and next. No statement is proved here.
-/
import Derived.Test.YtmkahbbcagfbhaaGreatDoorXd
import Derived.Test.YtmkahbbcagfbhaaGreatDoorXl
import Derived.Deep.RegionHeld3
import Derived.Lib.AppendZeros
import Derived.Scope
namespace Go.Proofs.YtmkahbbcagfbhaaGreatDoor
open Go.ChangeShapes Go.WideShapes Go.ChangeAt Go.RowKit
set_option linter.unusedVariables false

/-- how far a text has been read, in memory -/
structure RdX (w : World) (R : Nat) (l : List UInt8) (lv : Value) (n : Nat) (o : List Tk) (fr : Int) (nt : Bool) : Prop where
  box : BoxX w R 106 #[.string ⟨l.toArray⟩, lv, .int .i64 fr, .bool nt]
  row : TRow w (R + 1) lv n o
/-- what is told behind a step -/
def NdX (w : World) (R : Nat) (l : List UInt8) (lv : Value) (o : List Tk) (fr : Int) (nt : Bool) (w' : World) : Prop :=
  ∃ lv' n', RdX w' R l lv' n' o fr nt ∧ KpX w w' R lv.ownBlock ∧ NwX w lv lv' ∧ n' ≤ o.length
theorem RdX.below {w w' : World} {R : Nat} {l : List UInt8} {lv : Value} {n : Nat} {o : List Tk} {fr : Int} {nt : Bool} (h : RdX w R l lv n o fr nt) (hb : Below w.heap.size w w') : RdX w' R l lv n o fr nt :=
  ⟨h.box.keep hb h.box.lt, h.row.keep hb⟩
theorem RdX.cells4 {w : World} {R : Nat} {l : List UInt8} {lv : Value} {n : Nat} {o : List Tk} {fr : Int} {nt : Bool} (h : RdX w R l lv n o fr nt) :
    w.cell? ⟨R, 0, none⟩ = some (.string ⟨l.toArray⟩) ∧ w.cell? ⟨R, 1, none⟩ = some lv ∧ w.cell? ⟨R, 2, none⟩ = some (.int .i64 fr) ∧ w.cell? ⟨R, 3, none⟩ = some (.bool nt) := ⟨h.box.cell 0, h.box.cell 1, h.box.cell 2, h.box.cell 3⟩
/-- one token more -/
theorem RdX.app {w w2 : World} {R P : Nat} {l : List UInt8} {lv : Value} {n : Nat} {o : List Tk} {fr : Int} {nt : Bool} {k : Int} {s : ByteArray} (h : RdX w R l lv n o fr nt)
    (hb : Below w.heap.size w w2) (hP : w2.heap[P]? = some (.cells #[.int .i64 k, .string s] 79 (0, 0))) (hn : n ≤ 1000000) :
    ∃ g cap w3, (Builtin.append_ #[57, 57] 57 #[lv, .slice (some ⟨P, 0, none⟩) 1 1]).run Tryz.prog w2 = .ok (.slice (some ⟨g, 0, none⟩) (n + 1) cap) w3 ∧
      BoxX w3 R 106 #[.string ⟨l.toArray⟩, lv, .int .i64 fr, .bool nt] ∧ TRow w3 (R + 1) (.slice (some ⟨g, 0, none⟩) (n + 1) cap) (n + 1) (o ++ [(k, s)]) ∧ KpX w w3 R lv.ownBlock ∧ NwX w lv (.slice (some ⟨g, 0, none⟩) (n + 1) cap) ∧ Below (R + 1) w w3 := by
  have hlt := h.box.lt
  have hsz := hb.size
  obtain ⟨g, cap, w3, hrun, hrow, hgr, hnw⟩ := (h.row.keep hb).app hP (by omega) hn
  have hrR : ∀ r, lv.ownBlock = some r → R + 1 ≤ r := fun r hr => (h.row.lt hr).1
  refine ⟨g, cap, w3, hrun, ?_, hrow, ⟨hgr.os.trans hb.os, hgr.tape.trans hb.tape, hgr.output.trans hb.output, Nat.le_trans hb.size hgr.size, fun q hq hR hr => (hgr.block q (by omega) hr).trans (hb.block q hq)⟩, fun r hr => ?_, ?_⟩
  · exact (hgr.block R (by omega) (fun e => by have := hrR R e.symm; omega)).trans (h.box.keep hb hlt)
  · rcases hnw r hr with e | e
    · exact .inl e
    · exact .inr (by omega)
  · exact (hb.mono (by omega)).grown hgr (by omega) hrR
theorem RdX.put {w : World} {R : Nat} {l : List UInt8} {lv lv' : Value} {n : Nat} {o : List Tk} {fr : Int} {nt : Bool} (hb : BoxX w R 106 #[.string ⟨l.toArray⟩, lv, .int .i64 fr, .bool nt]) (hr : TRow w (R + 1) lv' n o) :
    RdX (w.setCell ⟨R, 1, none⟩ lv') R l lv' n o fr nt :=
  ⟨hb.put 1 lv', hr.move fun g hg => Below.heap_setCell _ _ _ _ (by have := (hr.lt hg).1; dsimp only; omega)⟩
theorem RdX.putFrom {w : World} {R : Nat} {l : List UInt8} {lv : Value} {n : Nat} {o : List Tk} {fr : Int} {nt : Bool} (h : RdX w R l lv n o fr nt) (fr' : Int) :
    RdX (w.setCell ⟨R, 2, none⟩ (.int .i64 fr')) R l lv n o fr' nt :=
  ⟨h.box.put 2 _, h.row.move fun g hg => Below.heap_setCell _ _ _ _ (by have := (h.row.lt hg).1; dsimp only; omega)⟩
theorem RdX.putNote {w : World} {R : Nat} {l : List UInt8} {lv : Value} {n : Nat} {o : List Tk} {fr : Int} {nt : Bool} (h : RdX w R l lv n o fr nt) (nt' : Bool) :
    RdX (w.setCell ⟨R, 3, none⟩ (.bool nt')) R l lv n o fr nt' :=
  ⟨h.box.put 3 _, h.row.move fun g hg => Below.heap_setCell _ _ _ _ (by have := (h.row.lt hg).1; dsimp only; omega)⟩

set_option maxRecDepth 100000 in
set_option maxHeartbeats 4000000 in
theorem xEndNameC (l : List UInt8) (o : List Tk) (fr : Int) (nt : Bool) (R : Nat) (lv : Value) (n pos : Nat) (w : World) (h : RdX w R l lv n o fr nt) (hf : fr = -1 ∨ ∃ f : Nat, fr = (f : Int) ∧ f ≤ pos) (hp : pos ≤ l.length) (hn : n ≤ 1000000) :
    Calls Tryz.prog 69 #[.pointer (some ⟨R, 0, none⟩), .int .i64 pos] w fun e w' => e = .returned (.tuple #[]) ∧ NdX w R l lv (fluP l pos o fr) (-1) nt w' := by
  obtain ⟨A, c, rfl, hnc, hcm⟩ := h.row.full
  have hlen := h.row.len
  have hlt := h.box.lt
  obtain ⟨p0, p1, p2, p3⟩ := h.cells4
  have HH := Lib.hid h
  have HL := Lib.hid hlen
  clear h hlen
  rcases hf with rfl | ⟨f, rfl, hfp⟩
  · clear hp
    go_enter Tryz.func69, Tryz.ntmps69
    go_wp2_with fail
    refine bodyPost_ret (results_none rfl _ _ _) rfl ?_
    exact ⟨rfl, _, n, HH.out, KpX.refl _ _ _, NwX.refl _ _, by rw [fluP, if_pos rfl, HL.out]; exact Nat.le_refl _⟩
  · have HE := Lib.hid (show fluP l pos o (f : Int) = o ++ [(0, ⟨((l.drop f).take (pos - f)).toArray⟩)] from if_neg (by omega))
    have hf1 : ((f : Int) == -1) = false := by simp
    have hf2 : ¬ ((f : Int) = -1) := by omega
    obtain ⟨tx, htx⟩ : ∃ tx, ByteArray.mk l.toArray = tx := ⟨_, rfl⟩
    obtain ⟨sx, hsx⟩ : ∃ sx, ByteArray.mk ((l.drop f).take (pos - f)).toArray = sx := ⟨_, rfl⟩
    have hsl : ∀ W, (Instr.slice 9 (.string tx) (some (.int .i64 (f : Int))) (some (.int .i64 (pos : Int))) none).run Tryz.prog W = .ok (.string sx) W := fun W => by
      rw [← htx, ← hsx, run_slice_string W _ _ .i64 .i64 f pos Tryz.underlying9 (by omega) (by omega) (by show (pos : Int) ≤ (l.length : Int); omega)]
      rw [ByteArray.extract_mk]
      rfl
    rw [htx] at p0
    rw [hsx] at HE
    have HTX := Lib.hid htx
    clear htx hsx hp hfp
    go_enter Tryz.func69, Tryz.ntmps69
    go_wp2_with fail
    have HKS : Hid (∀ w' : World, Below (R + 1) w w' → (fun w' => w'.cell? ⟨R, 0, none⟩ = some (.string tx) ∧ w'.cell? ⟨R, 1, none⟩ = some (.slice A n c) ∧ w'.cell? ⟨R, 2, none⟩ = some (.int .i64 (f : Int))) w') := Lib.hid fun w' h => ⟨(h.cell (by dsimp only; omega)).trans p0, (h.cell (by dsimp only; omega)).trans p1, (h.cell (by dsimp only; omega)).trans p2⟩
    have hbd : Below (R + 1) w w.drew := (Below.refl _ w).drew
    have hS := HKS.out _ hbd
    refine wp_region_cutX rfl (by kernel_rfl) (by kernel_rfl) ?_
    refine wpAny_of_held (S := fun w' => w'.cell? ⟨R, 0, none⟩ = some (.string tx) ∧ w'.cell? ⟨R, 1, none⟩ = some (.slice A n c) ∧ w'.cell? ⟨R, 2, none⟩ = some (.int .i64 (f : Int))) _ _ _ _ ?_
    simp only [List.pop_toArray, List.dropLast, List.size_toArray, List.length_cons, List.length_nil, Nat.reduceAdd, Nat.reduceSub]
    refine wpAnyH_take (i := 0) (v := .pointer (some ⟨R, 0, none⟩)) rfl (by kernel_rfl) (by kernel_rfl) (by kernel_rfl) (fun _ _ _ h => h) (Or.inl ⟨by kernel_rfl, ?_⟩) hS ?_
    · intro w' hSw
      obtain ⟨s0, s1, s2⟩ := hSw
      go_simp
    try simp only [Act.put, List.getElem_toArray, List.getElem_cons_succ, List.getElem_cons_zero, List.setIfInBounds_toArray, List.set_cons_zero, List.set_cons_succ]
    refine wpAnyH_take (i := 1) (v := .pointer (some ⟨R, 0, none⟩)) rfl (by kernel_rfl) (by kernel_rfl) (by kernel_rfl) (fun _ _ _ h => h) (Or.inl ⟨by kernel_rfl, ?_⟩) hS ?_
    · intro w' hSw
      obtain ⟨s0, s1, s2⟩ := hSw
      go_simp
    try simp only [Act.put, List.getElem_toArray, List.getElem_cons_succ, List.getElem_cons_zero, List.setIfInBounds_toArray, List.set_cons_zero, List.set_cons_succ]
    refine wpAnyH_take (i := 2) (v := .pointer (some ⟨R, 0, none⟩)) rfl (by kernel_rfl) (by kernel_rfl) (by kernel_rfl) (fun _ _ _ h => h) (Or.inl ⟨by kernel_rfl, ?_⟩) hS ?_
    · intro w' hSw
      obtain ⟨s0, s1, s2⟩ := hSw
      go_simp
    try simp only [Act.put, List.getElem_toArray, List.getElem_cons_succ, List.getElem_cons_zero, List.setIfInBounds_toArray, List.set_cons_zero, List.set_cons_succ]
    refine wpAnyH_take (i := 3) (v := .pointer (some ⟨R, 1, none⟩)) rfl (by kernel_rfl) (by kernel_rfl) (by kernel_rfl) (fun _ _ _ h => h) (Or.inl ⟨by kernel_rfl, ?_⟩) hS ?_
    · intro w' hSw
      obtain ⟨s0, s1, s2⟩ := hSw
      go_simp
    try simp only [Act.put, List.getElem_toArray, List.getElem_cons_succ, List.getElem_cons_zero, List.setIfInBounds_toArray, List.set_cons_zero, List.set_cons_succ]
    refine wpAnyH_take (i := 4) (v := .slice A n c) rfl (by kernel_rfl) (by kernel_rfl) (by kernel_rfl) (fun _ _ _ h => h) (Or.inl ⟨by kernel_rfl, ?_⟩) hS ?_
    · intro w' hSw
      obtain ⟨s0, s1, s2⟩ := hSw
      go_simp
    try simp only [Act.put, List.getElem_toArray, List.getElem_cons_succ, List.getElem_cons_zero, List.setIfInBounds_toArray, List.set_cons_zero, List.set_cons_succ]
    refine wpAnyH_take (i := 5) (v := .pointer (some ⟨R, 0, none⟩)) rfl (by kernel_rfl) (by kernel_rfl) (by kernel_rfl) (fun _ _ _ h => h) (Or.inl ⟨by kernel_rfl, ?_⟩) hS ?_
    · intro w' hSw
      obtain ⟨s0, s1, s2⟩ := hSw
      go_simp
    try simp only [Act.put, List.getElem_toArray, List.getElem_cons_succ, List.getElem_cons_zero, List.setIfInBounds_toArray, List.set_cons_zero, List.set_cons_succ]
    refine wpAnyH_take (i := 6) (v := .pointer (some ⟨R, 0, none⟩)) rfl (by kernel_rfl) (by kernel_rfl) (by kernel_rfl) (fun _ _ _ h => h) (Or.inl ⟨by kernel_rfl, ?_⟩) hS ?_
    · intro w' hSw
      obtain ⟨s0, s1, s2⟩ := hSw
      go_simp
    try simp only [Act.put, List.getElem_toArray, List.getElem_cons_succ, List.getElem_cons_zero, List.setIfInBounds_toArray, List.set_cons_zero, List.set_cons_succ]
    refine wpAnyH_take (i := 7) (v := .pointer (some ⟨R, 0, none⟩)) rfl (by kernel_rfl) (by kernel_rfl) (by kernel_rfl) (fun _ _ _ h => h) (Or.inl ⟨by kernel_rfl, ?_⟩) hS ?_
    · intro w' hSw
      obtain ⟨s0, s1, s2⟩ := hSw
      go_simp
    try simp only [Act.put, List.getElem_toArray, List.getElem_cons_succ, List.getElem_cons_zero, List.setIfInBounds_toArray, List.set_cons_zero, List.set_cons_succ]
    refine wpAnyH_take (i := 8) (v := .string tx) rfl (by kernel_rfl) (by kernel_rfl) (by kernel_rfl) (fun _ _ _ h => h) (Or.inl ⟨by kernel_rfl, ?_⟩) hS ?_
    · intro w' hSw
      obtain ⟨s0, s1, s2⟩ := hSw
      go_simp
    try simp only [Act.put, List.getElem_toArray, List.getElem_cons_succ, List.getElem_cons_zero, List.setIfInBounds_toArray, List.set_cons_zero, List.set_cons_succ]
    refine wpAnyH_take (i := 9) (v := .pointer (some ⟨R, 0, none⟩)) rfl (by kernel_rfl) (by kernel_rfl) (by kernel_rfl) (fun _ _ _ h => h) (Or.inl ⟨by kernel_rfl, ?_⟩) hS ?_
    · intro w' hSw
      obtain ⟨s0, s1, s2⟩ := hSw
      go_simp
    try simp only [Act.put, List.getElem_toArray, List.getElem_cons_succ, List.getElem_cons_zero, List.setIfInBounds_toArray, List.set_cons_zero, List.set_cons_succ]
    refine wpAnyH_take (i := 10) (v := .pointer (some ⟨R, 0, none⟩)) rfl (by kernel_rfl) (by kernel_rfl) (by kernel_rfl) (fun _ _ _ h => h) (Or.inl ⟨by kernel_rfl, ?_⟩) hS ?_
    · intro w' hSw
      obtain ⟨s0, s1, s2⟩ := hSw
      go_simp
    try simp only [Act.put, List.getElem_toArray, List.getElem_cons_succ, List.getElem_cons_zero, List.setIfInBounds_toArray, List.set_cons_zero, List.set_cons_succ]
    refine wpAnyH_take (i := 11) (v := .pointer (some ⟨R, 2, none⟩)) rfl (by kernel_rfl) (by kernel_rfl) (by kernel_rfl) (fun _ _ _ h => h) (Or.inl ⟨by kernel_rfl, ?_⟩) hS ?_
    · intro w' hSw
      obtain ⟨s0, s1, s2⟩ := hSw
      go_simp
    try simp only [Act.put, List.getElem_toArray, List.getElem_cons_succ, List.getElem_cons_zero, List.setIfInBounds_toArray, List.set_cons_zero, List.set_cons_succ]
    refine wpAnyH_take (i := 12) (v := .int .i64 (f : Int)) rfl (by kernel_rfl) (by kernel_rfl) (by kernel_rfl) (fun _ _ _ h => h) (Or.inl ⟨by kernel_rfl, ?_⟩) hS ?_
    · intro w' hSw
      obtain ⟨s0, s1, s2⟩ := hSw
      go_simp
    try simp only [Act.put, List.getElem_toArray, List.getElem_cons_succ, List.getElem_cons_zero, List.setIfInBounds_toArray, List.set_cons_zero, List.set_cons_succ]
    refine wpAnyH_take (i := 13) (v := .int .i64 (pos : Int)) rfl (by kernel_rfl) (by kernel_rfl) (by kernel_rfl) (fun _ _ _ h => h) (Or.inl ⟨by kernel_rfl, ?_⟩) hS ?_
    · intro w' hSw
      obtain ⟨s0, s1, s2⟩ := hSw
      go_simp
    try simp only [Act.put, List.getElem_toArray, List.getElem_cons_succ, List.getElem_cons_zero, List.setIfInBounds_toArray, List.set_cons_zero, List.set_cons_succ]
    refine wpAnyH_take (i := 14) (v := .string sx) rfl (by kernel_rfl) (by kernel_rfl) (by kernel_rfl) (fun _ _ _ h => h) (Or.inl ⟨by kernel_rfl, ?_⟩) hS ?_
    · intro w' hSw
      obtain ⟨s0, s1, s2⟩ := hSw
      go_simp
    try simp only [Act.put, List.getElem_toArray, List.getElem_cons_succ, List.getElem_cons_zero, List.setIfInBounds_toArray, List.set_cons_zero, List.set_cons_succ]
    refine wpAnyH_take (i := 15) (v := .agg #[.int .i64 0, .string sx]) rfl (by kernel_rfl) (by kernel_rfl) (by kernel_rfl) (fun _ _ _ h => h) (Or.inl ⟨by kernel_rfl, ?_⟩) hS ?_
    · intro w' hSw
      obtain ⟨s0, s1, s2⟩ := hSw
      go_simp
    try simp only [Act.put, List.getElem_toArray, List.getElem_cons_succ, List.getElem_cons_zero, List.setIfInBounds_toArray, List.set_cons_zero, List.set_cons_succ]
    refine wpAnyH_ready (rs := [16]) (by kernel_rfl) (by simp) ?_
    refine AllReadyH.cons rfl (fun KN hK => ?_) AllReadyH.nil
    go_simp
    have hb5 : Below w.heap.size w (w.alloc (.cells #[.int .i64 0, .string sx] 79)).drew := ((Below.refl _ w).alloc (Nat.le_refl _) _).drew
    refine hK.out _ _ (HKS.out _ (hb5.mono (by omega))) (fun hS => ?_)
    clear hK KN
    try simp only [Act.put, List.getElem_toArray, List.getElem_cons_succ, List.getElem_cons_zero, List.setIfInBounds_toArray, List.set_cons_zero, List.set_cons_succ]
    obtain ⟨W5, hW5⟩ : ∃ W5, (w.alloc (.cells #[.int .i64 0, .string sx] 79)).drew = W5 := ⟨_, rfl⟩
    have hbl : W5.heap[w.heap.size]? = some (.cells #[.int .i64 0, .string sx] 79 (0, 0)) := by rw [← hW5]; exact heap_alloc_new w _
    rw [hW5] at hb5 hS ⊢
    clear hW5
    refine wpAnyH_ready (rs := [17]) (by kernel_rfl) (by simp) ?_
    refine AllReadyH.cons rfl (fun KN hK => ?_) AllReadyH.nil
    obtain ⟨g7, cap7, w7, hrun7, hbx7, hrow7, hkp7, hnw7, hbw7⟩ := HH.out.app hb5 hbl hn
    refine Lib.wp_append_run _ (.tmp 13) (.tmp 25) 57 57 rfl _ _ rfl rfl _ _ hrun7 ?_
    refine hK.out _ _ (HKS.out _ hbw7) (fun hS => ?_)
    clear hK KN
    try simp only [Act.put, List.getElem_toArray, List.getElem_cons_succ, List.getElem_cons_zero, List.setIfInBounds_toArray, List.set_cons_zero, List.set_cons_succ]
    refine wpAnyH_take (i := 18) (v := .pointer (some ⟨R, 0, none⟩)) rfl (by kernel_rfl) (by kernel_rfl) (by kernel_rfl) (fun _ _ _ h => h) (Or.inl ⟨by kernel_rfl, ?_⟩) hS ?_
    · intro w' hSw
      obtain ⟨s0, s1, s2⟩ := hSw
      go_simp
    try simp only [Act.put, List.getElem_toArray, List.getElem_cons_succ, List.getElem_cons_zero, List.setIfInBounds_toArray, List.set_cons_zero, List.set_cons_succ]
    refine wpAnyH_take (i := 19) (v := .pointer (some ⟨R, 1, none⟩)) rfl (by kernel_rfl) (by kernel_rfl) (by kernel_rfl) (fun _ _ _ h => h) (Or.inl ⟨by kernel_rfl, ?_⟩) hS ?_
    · intro w' hSw
      obtain ⟨s0, s1, s2⟩ := hSw
      go_simp
    try simp only [Act.put, List.getElem_toArray, List.getElem_cons_succ, List.getElem_cons_zero, List.setIfInBounds_toArray, List.set_cons_zero, List.set_cons_succ]
    refine wpAnyH_done (by kernel_rfl) ?_ _
    show wpList _ _ _ _ _ _
    have b1 : w7.cell? ⟨R, 1, none⟩ = some (.slice A n c) := hbx7.cell 1
    have f1 := hbx7.frozen 1
    have hrd := RdX.put hbx7 hrow7
    have hkp := hkp7.setCell 1 (.slice (some ⟨g7, 0, none⟩) (n + 1) cap7)
    have HR := Lib.hid hrd
    have HK := Lib.hid hkp
    have HN := Lib.hid hnw7
    obtain ⟨W8, hW8⟩ : ∃ W8, w7.setCell ⟨R, 1, none⟩ (.slice (some ⟨g7, 0, none⟩) (n + 1) cap7) = W8 := ⟨_, rfl⟩
    have b2 : W8.cell? ⟨R, 2, none⟩ = some (.int .i64 (f : Int)) := by rw [← hW8]; exact hrd.cells4.2.2.1
    have f2 : W8.frozen? ⟨R, 2, none⟩ = false := by rw [← hW8]; exact hrd.box.frozen 2
    rw [hW8] at HR HK
    clear hrd hkp hbw7 hkp7 hnw7 hrow7 hrun7 hbx7 hS HKS hbl hb5 hbd p0 p1 p2 p3 hsl hf1 hf2
    go_wp2_with fail
    go_end0
    refine ⟨rfl, _, n + 1, HE.out ▸ HR.out.putFrom (-1), HK.out.setCell 2 _, HN.out, ?_⟩
    rw [HE.out, List.length_append, HL.out]
    exact Nat.le_refl _

/-! ### A scope whose jumps go on, and never jump again -/
section
variable {P : Program} {a : Act} {w : World} {Q : Exit → Act → World → Prop}
def fwdX (P : Program) (c : Code) (Q : Exit → Act → World → Prop) : Exit → Act → World → Prop
  | .goto l, a, w => ∃ rest, findLabel c l = some rest ∧ rest.wp P (Exit.noGoto Q) a w
  | e, a, w => Q e a w
theorem wp_scope_fwd {c : Code} (h : c.wp P (fwdX P c Q) a w) : (Code.scope c).wp P Q a w := by
  intro b k cs
  obtain ⟨e, a₁, w₁, hq, harr⟩ := h b (.inScope c :: k) cs
  cases e with
  | normal => exact ⟨.normal, a₁, w₁, hq, .head step_scope (Steps.trans harr (.one step_inScope))⟩
  | exit id => exact ⟨.exit id, a₁, w₁, hq, fun k' hk => .head step_scope (harr k' (by simp [exitTo, hk]))⟩
  | goto l =>
    obtain ⟨rest, hf, hr⟩ := hq
    have hg : gotoIn l (.inScope c :: k) = some (.code rest :: .inScope c :: k) := by simp [gotoIn, hf]
    obtain ⟨e₂, a₂, w₂, hq₂, harr₂⟩ := hr b (.inScope c :: k) cs
    cases e₂ with
    | normal => exact ⟨.normal, a₂, w₂, hq₂, .head step_scope (Steps.trans (harr _ hg) (Steps.trans harr₂ (.one step_inScope)))⟩
    | exit id => exact ⟨.exit id, a₂, w₂, hq₂, fun k' hk => .head step_scope (Steps.trans (harr _ hg) (harr₂ k' (by simp [exitTo, hk])))⟩
    | goto l' => exact hq₂.elim
    | ret => exact ⟨_, a₂, w₂, hq₂, .of_steps (.head step_scope (harr _ hg)) harr₂⟩
    | panic ch => exact ⟨_, a₂, w₂, hq₂, .of_steps (.head step_scope (harr _ hg)) harr₂⟩
    | outgrown => exact ⟨_, a₂, w₂, hq₂, .of_steps (.head step_scope (harr _ hg)) harr₂⟩
  | ret => exact ⟨_, a₁, w₁, hq, .of_steps (.one step_scope) harr⟩
  | panic ch => exact ⟨_, a₁, w₁, hq, .of_steps (.one step_scope) harr⟩
  | outgrown => exact ⟨_, a₁, w₁, hq, .of_steps (.one step_scope) harr⟩
end

end Go.Proofs.YtmkahbbcagfbhaaGreatDoor
