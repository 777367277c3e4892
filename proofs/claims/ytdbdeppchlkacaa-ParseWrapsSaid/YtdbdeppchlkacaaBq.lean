/-
  Contract of package parse's begin. No statement is proved here.
-/
import Derived.Carry
import Derived.Test.YtdbdeppchlkacaaBp
namespace Go.Proofs.Ytdbdeppchlkacaa
open Go.ChangeShapes Go.WideShapes Go.ChangeAt Go.RowKit
set_option linter.unusedVariables false


/-- what begin tells -/
def BgE (l : List UInt8) (ds : List (ByteArray × T)) (SA : Option Addr) (sn sc : Nat) (w : World) (e : Ending) (w' : World) : Prop :=
  Below w.heap.size w w' ∧ ((lexE l ≠ 0 ∧ e = .returned (.tuple #[.pointer none, .int .i64 (lexE l)])) ∨ (lexE l = 0 ∧ ∃ R K, w.heap.size ≤ K ∧ K < R ∧ e = .returned (.tuple #[.pointer (some ⟨R, 0, none⟩), .int .i64 0]) ∧ PS R R K SA sn sc ds (lexT l) w'))
/-- what holds at the head of its loop -/
structure BgI (ds : List (ByteArray × T)) (R K : Nat) (w3 : World) (j : Nat) (wr : World) : Prop where
  mp : ∃ es cl, wr.heap[K]? = some (.map es cl) ∧ NumOk es (ds.take j)
  fr : FrB K w3 wr
set_option maxRecDepth 100000 in
set_option maxHeartbeats 2000000 in
theorem pBeginC (l : List UInt8) (A : Option Addr) (n c : Nat) (ds : List (ByteArray × T)) (SA : Option Addr) (sn sc : Nat) (w : World) (hY : YL w l A n c) (hD : DS w ds SA sn sc) (hds : ds.length ≤ 1000) :
    Calls Try.prog 18 #[.slice A n c, .slice SA sn sc] w (BgE l ds SA sn sc w) := by
  have HT := Lib.hid (xTokensC l A n c w hY)
  have HD := Lib.hid hD
  have hdl := hD.len
  have hdle := hD.le
  have hdc := hD.cap
  unfold maxLen at hdc
  clear hY hD
  go_enter Try.func18, Try.ntmps18
  go_wp2_with fail
  refine HT.out.mono ?_
  rintro e w1 ⟨A1, n1, c1, rfl, hrow, hb1⟩
  have HB1 := Lib.hid hb1
  have HRow := Lib.hid hrow
  have hs1 := hb1.size
  clear hrow hb1 HT
  by_cases he : lexE l = 0
  rotate_left
  · have d9 : (lexE l == 0) = false := by simpa using he
    go_wp2_with fail
    go_ret2
    exact ⟨HB1.out, .inl ⟨he, rfl⟩⟩
  rw [he]
  have hmm := @run_makeMap Try.prog
  obtain ⟨W3, hW3⟩ : ∃ W3, (w1.alloc (.map #[] 0)).alloc (.cells #[.slice A1 n1 c1, .slice SA sn sc, .map (some w1.heap.size)] 53) = W3 := ⟨_, rfl⟩
  have hb3 : Below w1.heap.size w1 W3 := by rw [← hW3]; exact ((Below.refl _ _).alloc (Nat.le_refl _) _).alloc (by simp) _
  have hl3 : W3.heap.size = w1.heap.size + 2 := by rw [← hW3]; simp
  have hbx : BoxX W3 (w1.heap.size + 1) 53 #[.slice A1 n1 c1, .slice SA sn sc, .map (some w1.heap.size)] := by
    have := BoxX.new (w1.alloc (.map #[] 0)) 53 #[.slice A1 n1 c1, .slice SA sn sc, .map (some w1.heap.size)]
    rw [← hW3]; simpa using this
  have hmp : W3.heap[w1.heap.size]? = some (.map #[] 0) := by
    rw [← hW3]; exact (Below.heap_alloc _ _ _ (by simp)).trans (World.alloc_heap_new w1 _)
  have HBX := Lib.hid hbx
  have HB3 := Lib.hid hb3
  have HI0 := Lib.hid (show BgI ds (w1.heap.size + 1) w1.heap.size W3 0 W3 from ⟨⟨_, _, hmp, NumOk.nil⟩, FrB.refl _ _⟩)
  have hd0 : (0 : Int) ≤ (sn : Int) := by omega
  clear hb3 hbx hmp
  subst hW3
  go_wp2_with fail
  clear hmm
  generalize ((w1.alloc (.map #[] 0)).alloc (.cells #[.slice A1 n1 c1, .slice SA sn sc, .map (some w1.heap.size)] 53)) = W3 at *
  go_loopw [28] (fun i wr => ∃ j, j ≤ sn ∧ i = .int .i64 (j : Nat) ∧ Hid (BgI ds (w1.heap.size + 1) w1.heap.size W3 j wr)) (fun i _ => sn - (Go.RowKit.intOf i).toNat)
  case atStart => exact ⟨0, Nat.zero_le _, rfl, HI0⟩
  case round =>
    clear HI0
    obtain ⟨j, hj, rfl, HI⟩ := hrel
    have hsr := HI.out.fr.size
    by_cases hlt : j < sn
    · obtain ⟨d, hd⟩ := at_ofX hdl hlt
      have hDr := HD.out.at_ j d hd
      have hdsz := HD.out.sz d (List.mem_of_getElem? hd)
      obtain ⟨b, o, k, g, A', n', c', hA, e0, e1, e2, e3, hr⟩ := hDr
      subst hA
      have hbl := cell_ltX e0
      dsimp only at hbl
      have hsame : ∀ q, wr.cell? ⟨b, q, none⟩ = w.cell? ⟨b, q, none⟩ := fun q => World.cell?_of_block (w := w) ((HI.out.fr.block b (by omega) (by omega)).trans ((HB3.out.block b (by omega)).trans (HB1.out.block b hbl)))
      rw [← hsame] at e0 e1 e2 e3
      obtain ⟨d1, dT⟩ := d
      dsimp only at e0 hdsz
      have htk : ds.take (j + 1) = ds.take j ++ [(d1, dT)] := by rw [List.take_add_one, hd]; rfl
      obtain ⟨es, cl, hmp, hnum⟩ := HI.out.mp
      have hbxr : BoxX wr (w1.heap.size + 1) 53 #[.slice A1 n1 c1, .slice (some ⟨b, o, none⟩) sn sc, .map (some w1.heap.size)] := HBX.out.fr HI.out.fr (by omega)
      obtain ⟨W5, hW5⟩ : ∃ W5, wr.alloc (.cells #[.string d1, .int .i64 k, .int .i64 g, .slice A' n' c'] 33) = W5 := ⟨_, rfl⟩
      have hb5 : Below wr.heap.size wr W5 := by rw [← hW5]; exact (Below.refl _ _).alloc (Nat.le_refl _) _
      have hx5 : BoxX W5 wr.heap.size 33 #[.string d1, .int .i64 k, .int .i64 g, .slice A' n' c'] := by rw [← hW5]; exact BoxX.new _ _ _
      have hm5 : W5.heap[w1.heap.size]? = some (.map es cl) := (hb5.block _ (by omega)).trans hmp
      have c0 : W5.cell? ⟨wr.heap.size, 0, none⟩ = some (.string d1) := hx5.cell 0
      have cR : W5.cell? ⟨w1.heap.size + 1, 2, none⟩ = some (.map (some w1.heap.size)) := (hbxr.keep hb5 hbxr.lt).cell 2
      have hfr5 : FrB w1.heap.size W3 W5 := HI.out.fr.then hb5
      have HX := Lib.hid (And.intro hnum (And.intro hm5 hfr5))
      have HLK := Lib.hid (fun (w' : World) (hm : w'.heap[w1.heap.size]? = some (.map es cl)) => look_num hdsz hm hnum)
      have HTK := Lib.hid htk
      have HSZ := Lib.hid hdsz
      have hi0 : (0 : Int) ≤ (j : Int) := by omega
      have hi1 : (j : Int) < (sn : Int) := by omega
      have hlj : (ds.take j).length = j := by rw [List.length_take]; omega
      clear hr hsame hd hb5 hx5 hfr5 hbxr hmp hnum HI htk hdsz hbl
      subst hW5
      cases hpd : posD d1 (ds.take j) with
      | some p =>
        obtain ⟨i5, t5⟩ := p
        rw [numD, hpd] at HLK
        have HI5 := Lib.hid (show BgI ds (w1.heap.size + 1) w1.heap.size W3 (j + 1) (wr.alloc (.cells #[.string d1, .int .i64 k, .int .i64 g, .slice A' n' c'] 33)).drew from
          ⟨⟨es, cl, HX.out.2.1, by rw [HTK.out]; exact HX.out.1.same (by dsimp only; rw [hpd]; rfl)⟩, HX.out.2.2.drew⟩)
        clear hpd
        dsimp only at HLK
        go_wp2_with fail
        have HKS : Hid (∀ w' : World, Below (wr.alloc (.cells #[.string d1, .int .i64 k, .int .i64 g, .slice A' n' c'] 33)).heap.size (wr.alloc (.cells #[.string d1, .int .i64 k, .int .i64 g, .slice A' n' c'] 33)) w' → (fun w' => w'.cell? ⟨w1.heap.size + 1, 2, none⟩ = some (.map (some w1.heap.size)) ∧ w'.cell? ⟨wr.heap.size, 0, none⟩ = some (.string d1) ∧ w'.heap[w1.heap.size]? = some (.map es cl)) w') := Lib.hid fun w' h => ⟨(h.cell (cell_ltX cR)).trans cR, (h.cell (cell_ltX c0)).trans c0, (h.block _ (Array.getElem?_eq_some_iff.1 HX.out.2.1).1).trans HX.out.2.1⟩
        have hbd : Below (wr.alloc (.cells #[.string d1, .int .i64 k, .int .i64 g, .slice A' n' c'] 33)).heap.size (wr.alloc (.cells #[.string d1, .int .i64 k, .int .i64 g, .slice A' n' c'] 33)) (wr.alloc (.cells #[.string d1, .int .i64 k, .int .i64 g, .slice A' n' c'] 33)).drew := (Below.refl _ (wr.alloc (.cells #[.string d1, .int .i64 k, .int .i64 g, .slice A' n' c'] 33))).drew
        refine wp_region_held_drew (S := fun w' => w'.cell? ⟨w1.heap.size + 1, 2, none⟩ = some (.map (some w1.heap.size)) ∧ w'.cell? ⟨wr.heap.size, 0, none⟩ = some (.string d1) ∧ w'.heap[w1.heap.size]? = some (.map es cl)) (by kernel_rfl) (HKS.out _ hbd) (fun hS => ?_)
        simp only [List.size_toArray, List.length_cons, List.length_nil, Nat.reduceAdd]
        refine wpAnyH_take (i := 0) (v := .pointer (some ⟨w1.heap.size + 1, 0, none⟩)) rfl (by kernel_rfl) (by kernel_rfl) (by kernel_rfl) (fun _ _ _ h => h) (Or.inl ⟨by kernel_rfl, ?_⟩) hS ?_
        · intro w' hSw
          obtain ⟨s0, s1, s2⟩ := hSw
          go_simp
        try simp only [Act.put, List.getElem_toArray, List.getElem_cons_zero, List.setIfInBounds_toArray, List.set_cons_zero, List.set_cons_succ]
        refine wpAnyH_take (i := 1) (v := .pointer (some ⟨w1.heap.size + 1, 0, none⟩)) rfl (by kernel_rfl) (by kernel_rfl) (by kernel_rfl) (fun _ _ _ h => h) (Or.inl ⟨by kernel_rfl, ?_⟩) hS ?_
        · intro w' hSw
          obtain ⟨s0, s1, s2⟩ := hSw
          go_simp
        try simp only [Act.put, List.getElem_toArray, List.getElem_cons_succ, List.getElem_cons_zero, List.setIfInBounds_toArray, List.set_cons_zero, List.set_cons_succ]
        refine wpAnyH_take (i := 2) (v := .pointer (some ⟨w1.heap.size + 1, 2, none⟩)) rfl (by kernel_rfl) (by kernel_rfl) (by kernel_rfl) (fun _ _ _ h => h) (Or.inl ⟨by kernel_rfl, ?_⟩) hS ?_
        · intro w' hSw
          obtain ⟨s0, s1, s2⟩ := hSw
          go_simp
        try simp only [Act.put, List.getElem_toArray, List.getElem_cons_succ, List.getElem_cons_zero, List.setIfInBounds_toArray, List.set_cons_zero, List.set_cons_succ]
        refine wpAnyH_take (i := 3) (v := .map (some w1.heap.size)) rfl (by kernel_rfl) (by kernel_rfl) (by kernel_rfl) (fun _ _ _ h => h) (Or.inl ⟨by kernel_rfl, ?_⟩) hS ?_
        · intro w' hSw
          obtain ⟨s0, s1, s2⟩ := hSw
          go_simp
        try simp only [Act.put, List.getElem_toArray, List.getElem_cons_succ, List.getElem_cons_zero, List.setIfInBounds_toArray, List.set_cons_zero, List.set_cons_succ]
        refine wpAnyH_take (i := 4) (v := .pointer (some ⟨wr.heap.size, 0, none⟩)) rfl (by kernel_rfl) (by kernel_rfl) (by kernel_rfl) (fun _ _ _ h => h) (Or.inl ⟨by kernel_rfl, ?_⟩) hS ?_
        · intro w' hSw
          obtain ⟨s0, s1, s2⟩ := hSw
          go_simp
        try simp only [Act.put, List.getElem_toArray, List.getElem_cons_succ, List.getElem_cons_zero, List.setIfInBounds_toArray, List.set_cons_zero, List.set_cons_succ]
        refine wpAnyH_take (i := 5) (v := .string d1) rfl (by kernel_rfl) (by kernel_rfl) (by kernel_rfl) (fun _ _ _ h => h) (Or.inl ⟨by kernel_rfl, ?_⟩) hS ?_
        · intro w' hSw
          obtain ⟨s0, s1, s2⟩ := hSw
          go_simp
        try simp only [Act.put, List.getElem_toArray, List.getElem_cons_succ, List.getElem_cons_zero, List.setIfInBounds_toArray, List.set_cons_zero, List.set_cons_succ]
        refine wpAnyH_take (i := 6) (v := .tuple #[.int .i64 (i5 : Nat), .bool true]) rfl (by kernel_rfl) (by kernel_rfl) (by kernel_rfl) (fun _ _ _ h => h) (Or.inl ⟨by kernel_rfl, ?_⟩) hS ?_
        · intro w' hSw
          obtain ⟨s0, s1, s2⟩ := hSw
          have s3 := HLK.out w' s2
          go_simp
        try simp only [Act.put, List.getElem_toArray, List.getElem_cons_succ, List.getElem_cons_zero, List.setIfInBounds_toArray, List.set_cons_zero, List.set_cons_succ]
        refine wpAnyH_take (i := 7) (v := .tuple #[.int .i64 (i5 : Nat), .bool true]) rfl (by kernel_rfl) (by kernel_rfl) (by kernel_rfl) (fun _ _ _ h => h) (Or.inl ⟨by kernel_rfl, ?_⟩) hS ?_
        · intro w' hSw
          obtain ⟨s0, s1, s2⟩ := hSw
          go_simp
        try simp only [Act.put, List.getElem_toArray, List.getElem_cons_succ, List.getElem_cons_zero, List.setIfInBounds_toArray, List.set_cons_zero, List.set_cons_succ]
        refine wpAnyH_take (i := 8) (v := .int .i64 (i5 : Nat)) rfl (by kernel_rfl) (by kernel_rfl) (by kernel_rfl) (fun _ _ _ h => h) (Or.inl ⟨by kernel_rfl, ?_⟩) hS ?_
        · intro w' hSw
          obtain ⟨s0, s1, s2⟩ := hSw
          go_simp
        try simp only [Act.put, List.getElem_toArray, List.getElem_cons_succ, List.getElem_cons_zero, List.setIfInBounds_toArray, List.set_cons_zero, List.set_cons_succ]
        refine wpAnyH_take (i := 9) (v := .bool true) rfl (by kernel_rfl) (by kernel_rfl) (by kernel_rfl) (fun _ _ _ h => h) (Or.inl ⟨by kernel_rfl, ?_⟩) hS ?_
        · intro w' hSw
          obtain ⟨s0, s1, s2⟩ := hSw
          go_simp
        try simp only [Act.put, List.getElem_toArray, List.getElem_cons_succ, List.getElem_cons_zero, List.setIfInBounds_toArray, List.set_cons_zero, List.set_cons_succ]
        refine wpAnyH_take (i := 10) (v := .int .i64 (i5 : Nat)) rfl (by kernel_rfl) (by kernel_rfl) (by kernel_rfl) (fun _ _ _ h => h) (Or.inl ⟨by kernel_rfl, ?_⟩) hS ?_
        · intro w' hSw
          obtain ⟨s0, s1, s2⟩ := hSw
          go_simp
        try simp only [Act.put, List.getElem_toArray, List.getElem_cons_succ, List.getElem_cons_zero, List.setIfInBounds_toArray, List.set_cons_zero, List.set_cons_succ]
        refine wpAnyH_take (i := 11) (v := .bool true) rfl (by kernel_rfl) (by kernel_rfl) (by kernel_rfl) (fun _ _ _ h => h) (Or.inl ⟨by kernel_rfl, ?_⟩) hS ?_
        · intro w' hSw
          obtain ⟨s0, s1, s2⟩ := hSw
          go_simp
        try simp only [Act.put, List.getElem_toArray, List.getElem_cons_succ, List.getElem_cons_zero, List.setIfInBounds_toArray, List.set_cons_zero, List.set_cons_succ]
        refine wpAnyH_done (by kernel_rfl) ?_ _
        try simp only [zzP]
        go_wp2_with fail
        go_roundw
        case rel => exact ⟨j + 1, by omega, by go_num, HI5⟩
        case measure => simp [Go.RowKit.intOf]; omega
      | none =>
        rw [numD, hpd] at HLK
        have HPD := Lib.hid hpd
        clear hpd
        dsimp only at HLK
        go_wp2_with fail
        have HKS : Hid (∀ w' : World, Below (wr.alloc (.cells #[.string d1, .int .i64 k, .int .i64 g, .slice A' n' c'] 33)).heap.size (wr.alloc (.cells #[.string d1, .int .i64 k, .int .i64 g, .slice A' n' c'] 33)) w' → (fun w' => w'.cell? ⟨w1.heap.size + 1, 2, none⟩ = some (.map (some w1.heap.size)) ∧ w'.cell? ⟨wr.heap.size, 0, none⟩ = some (.string d1) ∧ w'.heap[w1.heap.size]? = some (.map es cl)) w') := Lib.hid fun w' h => ⟨(h.cell (cell_ltX cR)).trans cR, (h.cell (cell_ltX c0)).trans c0, (h.block _ (Array.getElem?_eq_some_iff.1 HX.out.2.1).1).trans HX.out.2.1⟩
        have hbd : Below (wr.alloc (.cells #[.string d1, .int .i64 k, .int .i64 g, .slice A' n' c'] 33)).heap.size (wr.alloc (.cells #[.string d1, .int .i64 k, .int .i64 g, .slice A' n' c'] 33)) (wr.alloc (.cells #[.string d1, .int .i64 k, .int .i64 g, .slice A' n' c'] 33)).drew := (Below.refl _ (wr.alloc (.cells #[.string d1, .int .i64 k, .int .i64 g, .slice A' n' c'] 33))).drew
        refine wp_region_held_drew (S := fun w' => w'.cell? ⟨w1.heap.size + 1, 2, none⟩ = some (.map (some w1.heap.size)) ∧ w'.cell? ⟨wr.heap.size, 0, none⟩ = some (.string d1) ∧ w'.heap[w1.heap.size]? = some (.map es cl)) (by kernel_rfl) (HKS.out _ hbd) (fun hS => ?_)
        simp only [List.size_toArray, List.length_cons, List.length_nil, Nat.reduceAdd]
        refine wpAnyH_take (i := 0) (v := .pointer (some ⟨w1.heap.size + 1, 0, none⟩)) rfl (by kernel_rfl) (by kernel_rfl) (by kernel_rfl) (fun _ _ _ h => h) (Or.inl ⟨by kernel_rfl, ?_⟩) hS ?_
        · intro w' hSw
          obtain ⟨s0, s1, s2⟩ := hSw
          go_simp
        try simp only [Act.put, List.getElem_toArray, List.getElem_cons_zero, List.setIfInBounds_toArray, List.set_cons_zero, List.set_cons_succ]
        refine wpAnyH_take (i := 1) (v := .pointer (some ⟨w1.heap.size + 1, 0, none⟩)) rfl (by kernel_rfl) (by kernel_rfl) (by kernel_rfl) (fun _ _ _ h => h) (Or.inl ⟨by kernel_rfl, ?_⟩) hS ?_
        · intro w' hSw
          obtain ⟨s0, s1, s2⟩ := hSw
          go_simp
        try simp only [Act.put, List.getElem_toArray, List.getElem_cons_succ, List.getElem_cons_zero, List.setIfInBounds_toArray, List.set_cons_zero, List.set_cons_succ]
        refine wpAnyH_take (i := 2) (v := .pointer (some ⟨w1.heap.size + 1, 2, none⟩)) rfl (by kernel_rfl) (by kernel_rfl) (by kernel_rfl) (fun _ _ _ h => h) (Or.inl ⟨by kernel_rfl, ?_⟩) hS ?_
        · intro w' hSw
          obtain ⟨s0, s1, s2⟩ := hSw
          go_simp
        try simp only [Act.put, List.getElem_toArray, List.getElem_cons_succ, List.getElem_cons_zero, List.setIfInBounds_toArray, List.set_cons_zero, List.set_cons_succ]
        refine wpAnyH_take (i := 3) (v := .map (some w1.heap.size)) rfl (by kernel_rfl) (by kernel_rfl) (by kernel_rfl) (fun _ _ _ h => h) (Or.inl ⟨by kernel_rfl, ?_⟩) hS ?_
        · intro w' hSw
          obtain ⟨s0, s1, s2⟩ := hSw
          go_simp
        try simp only [Act.put, List.getElem_toArray, List.getElem_cons_succ, List.getElem_cons_zero, List.setIfInBounds_toArray, List.set_cons_zero, List.set_cons_succ]
        refine wpAnyH_take (i := 4) (v := .pointer (some ⟨wr.heap.size, 0, none⟩)) rfl (by kernel_rfl) (by kernel_rfl) (by kernel_rfl) (fun _ _ _ h => h) (Or.inl ⟨by kernel_rfl, ?_⟩) hS ?_
        · intro w' hSw
          obtain ⟨s0, s1, s2⟩ := hSw
          go_simp
        try simp only [Act.put, List.getElem_toArray, List.getElem_cons_succ, List.getElem_cons_zero, List.setIfInBounds_toArray, List.set_cons_zero, List.set_cons_succ]
        refine wpAnyH_take (i := 5) (v := .string d1) rfl (by kernel_rfl) (by kernel_rfl) (by kernel_rfl) (fun _ _ _ h => h) (Or.inl ⟨by kernel_rfl, ?_⟩) hS ?_
        · intro w' hSw
          obtain ⟨s0, s1, s2⟩ := hSw
          go_simp
        try simp only [Act.put, List.getElem_toArray, List.getElem_cons_succ, List.getElem_cons_zero, List.setIfInBounds_toArray, List.set_cons_zero, List.set_cons_succ]
        refine wpAnyH_take (i := 6) (v := .tuple #[.int .i64 (0 : Nat), .bool false]) rfl (by kernel_rfl) (by kernel_rfl) (by kernel_rfl) (fun _ _ _ h => h) (Or.inl ⟨by kernel_rfl, ?_⟩) hS ?_
        · intro w' hSw
          obtain ⟨s0, s1, s2⟩ := hSw
          have s3 := HLK.out w' s2
          go_simp
        try simp only [Act.put, List.getElem_toArray, List.getElem_cons_succ, List.getElem_cons_zero, List.setIfInBounds_toArray, List.set_cons_zero, List.set_cons_succ]
        refine wpAnyH_take (i := 7) (v := .tuple #[.int .i64 (0 : Nat), .bool false]) rfl (by kernel_rfl) (by kernel_rfl) (by kernel_rfl) (fun _ _ _ h => h) (Or.inl ⟨by kernel_rfl, ?_⟩) hS ?_
        · intro w' hSw
          obtain ⟨s0, s1, s2⟩ := hSw
          go_simp
        try simp only [Act.put, List.getElem_toArray, List.getElem_cons_succ, List.getElem_cons_zero, List.setIfInBounds_toArray, List.set_cons_zero, List.set_cons_succ]
        refine wpAnyH_take (i := 8) (v := .int .i64 (0 : Nat)) rfl (by kernel_rfl) (by kernel_rfl) (by kernel_rfl) (fun _ _ _ h => h) (Or.inl ⟨by kernel_rfl, ?_⟩) hS ?_
        · intro w' hSw
          obtain ⟨s0, s1, s2⟩ := hSw
          go_simp
        try simp only [Act.put, List.getElem_toArray, List.getElem_cons_succ, List.getElem_cons_zero, List.setIfInBounds_toArray, List.set_cons_zero, List.set_cons_succ]
        refine wpAnyH_take (i := 9) (v := .bool false) rfl (by kernel_rfl) (by kernel_rfl) (by kernel_rfl) (fun _ _ _ h => h) (Or.inl ⟨by kernel_rfl, ?_⟩) hS ?_
        · intro w' hSw
          obtain ⟨s0, s1, s2⟩ := hSw
          go_simp
        try simp only [Act.put, List.getElem_toArray, List.getElem_cons_succ, List.getElem_cons_zero, List.setIfInBounds_toArray, List.set_cons_zero, List.set_cons_succ]
        refine wpAnyH_take (i := 10) (v := .int .i64 (0 : Nat)) rfl (by kernel_rfl) (by kernel_rfl) (by kernel_rfl) (fun _ _ _ h => h) (Or.inl ⟨by kernel_rfl, ?_⟩) hS ?_
        · intro w' hSw
          obtain ⟨s0, s1, s2⟩ := hSw
          go_simp
        try simp only [Act.put, List.getElem_toArray, List.getElem_cons_succ, List.getElem_cons_zero, List.setIfInBounds_toArray, List.set_cons_zero, List.set_cons_succ]
        refine wpAnyH_take (i := 11) (v := .bool false) rfl (by kernel_rfl) (by kernel_rfl) (by kernel_rfl) (fun _ _ _ h => h) (Or.inl ⟨by kernel_rfl, ?_⟩) hS ?_
        · intro w' hSw
          obtain ⟨s0, s1, s2⟩ := hSw
          go_simp
        try simp only [Act.put, List.getElem_toArray, List.getElem_cons_succ, List.getElem_cons_zero, List.setIfInBounds_toArray, List.set_cons_zero, List.set_cons_succ]
        refine wpAnyH_done (by kernel_rfl) ?_ _
        try simp only [zzP]
        have hm6 : (wr.alloc (.cells #[.string d1, .int .i64 k, .int .i64 g, .slice A' n' c'] 33)).drew.heap[w1.heap.size]? = some (.map es cl) := hS.2.2
        have c0 := hS.2.1
        have cR := hS.1
        clear hS HKS hbd
        obtain ⟨W6, hW6⟩ : ∃ W6, (wr.alloc (.cells #[.string d1, .int .i64 k, .int .i64 g, .slice A' n' c'] 33)).drew = W6 := ⟨_, rfl⟩
        have hfr6 : FrB w1.heap.size W3 W6 := by rw [← hW6]; exact HX.out.2.2.drew
        rw [hW6] at hm6 c0 cR ⊢
        clear hW6
        have hput := put_num HSZ.out (show W6.drew.heap[w1.heap.size]? = some (.map es cl) from hm6) HX.out.1 HPD.out (.int .i64 (j : Nat))
        have hfr7 := hfr6.drew
        have HI7 := Lib.hid (show BgI ds (w1.heap.size + 1) w1.heap.size W3 (j + 1) { W6.drew with heap := W6.drew.heap.setIfInBounds w1.heap.size (.map (es.push ⟨.string d1, .int .i64 (j : Nat), cl⟩) (cl + 1)) } from
          ⟨⟨_, _, by
            show (W6.drew.heap.setIfInBounds w1.heap.size _)[w1.heap.size]? = _
            rw [Array.getElem?_setIfInBounds_self_of_lt (by have := (Array.getElem?_eq_some_iff.1 hm6).1; exact this)], by rw [HTK.out]; have := HX.out.1.push (cl := cl) (d := (d1, dT)) HPD.out HSZ.out; rw [hlj] at this; exact this⟩,
            ⟨hfr7.os, hfr7.tape, hfr7.output, by simpa using hfr7.size, fun q hq hne => by
              show (W6.drew.heap.setIfInBounds w1.heap.size _)[q]? = _
              rw [Array.getElem?_setIfInBounds_ne (by omega)]; exact hfr7.block q hq hne⟩⟩)
        clear hfr6 hfr7
        go_wp2_with fail
        have HKS : Hid (∀ w' : World, Below W6.heap.size W6 w' → (fun w' => w'.cell? ⟨w1.heap.size + 1, 2, none⟩ = some (.map (some w1.heap.size)) ∧ w'.cell? ⟨wr.heap.size, 0, none⟩ = some (.string d1) ∧ w'.heap[w1.heap.size]? = some (.map es cl)) w') := Lib.hid fun w' h => ⟨(h.cell (cell_ltX cR)).trans cR, (h.cell (cell_ltX c0)).trans c0, (h.block _ (Array.getElem?_eq_some_iff.1 hm6).1).trans hm6⟩
        have hbd : Below W6.heap.size W6 W6.drew := (Below.refl _ W6).drew
        have hS := HKS.out _ hbd
        refine wp_region_cutX rfl (by kernel_rfl) (by kernel_rfl) ?_
        refine wpAny_of_held (S := fun w' => w'.cell? ⟨w1.heap.size + 1, 2, none⟩ = some (.map (some w1.heap.size)) ∧ w'.cell? ⟨wr.heap.size, 0, none⟩ = some (.string d1) ∧ w'.heap[w1.heap.size]? = some (.map es cl)) _ _ _ _ ?_
        simp only [List.pop_toArray, List.dropLast, List.size_toArray, List.length_cons, List.length_nil, Nat.reduceAdd, Nat.reduceSub]
        refine wpAnyH_take (i := 0) (v := .pointer (some ⟨w1.heap.size + 1, 0, none⟩)) rfl (by kernel_rfl) (by kernel_rfl) (by kernel_rfl) (fun _ _ _ h => h) (Or.inl ⟨by kernel_rfl, ?_⟩) hS ?_
        · intro w' hSw
          obtain ⟨s0, s1, s2⟩ := hSw
          go_simp
        try simp only [Act.put, List.getElem_toArray, List.getElem_cons_succ, List.getElem_cons_zero, List.setIfInBounds_toArray, List.set_cons_zero, List.set_cons_succ]
        refine wpAnyH_take (i := 1) (v := .pointer (some ⟨w1.heap.size + 1, 0, none⟩)) rfl (by kernel_rfl) (by kernel_rfl) (by kernel_rfl) (fun _ _ _ h => h) (Or.inl ⟨by kernel_rfl, ?_⟩) hS ?_
        · intro w' hSw
          obtain ⟨s0, s1, s2⟩ := hSw
          go_simp
        try simp only [Act.put, List.getElem_toArray, List.getElem_cons_succ, List.getElem_cons_zero, List.setIfInBounds_toArray, List.set_cons_zero, List.set_cons_succ]
        refine wpAnyH_take (i := 2) (v := .pointer (some ⟨w1.heap.size + 1, 2, none⟩)) rfl (by kernel_rfl) (by kernel_rfl) (by kernel_rfl) (fun _ _ _ h => h) (Or.inl ⟨by kernel_rfl, ?_⟩) hS ?_
        · intro w' hSw
          obtain ⟨s0, s1, s2⟩ := hSw
          go_simp
        try simp only [Act.put, List.getElem_toArray, List.getElem_cons_succ, List.getElem_cons_zero, List.setIfInBounds_toArray, List.set_cons_zero, List.set_cons_succ]
        refine wpAnyH_take (i := 3) (v := .map (some w1.heap.size)) rfl (by kernel_rfl) (by kernel_rfl) (by kernel_rfl) (fun _ _ _ h => h) (Or.inl ⟨by kernel_rfl, ?_⟩) hS ?_
        · intro w' hSw
          obtain ⟨s0, s1, s2⟩ := hSw
          go_simp
        try simp only [Act.put, List.getElem_toArray, List.getElem_cons_succ, List.getElem_cons_zero, List.setIfInBounds_toArray, List.set_cons_zero, List.set_cons_succ]
        refine wpAnyH_take (i := 4) (v := .pointer (some ⟨wr.heap.size, 0, none⟩)) rfl (by kernel_rfl) (by kernel_rfl) (by kernel_rfl) (fun _ _ _ h => h) (Or.inl ⟨by kernel_rfl, ?_⟩) hS ?_
        · intro w' hSw
          obtain ⟨s0, s1, s2⟩ := hSw
          go_simp
        try simp only [Act.put, List.getElem_toArray, List.getElem_cons_succ, List.getElem_cons_zero, List.setIfInBounds_toArray, List.set_cons_zero, List.set_cons_succ]
        refine wpAnyH_take (i := 5) (v := .string d1) rfl (by kernel_rfl) (by kernel_rfl) (by kernel_rfl) (fun _ _ _ h => h) (Or.inl ⟨by kernel_rfl, ?_⟩) hS ?_
        · intro w' hSw
          obtain ⟨s0, s1, s2⟩ := hSw
          go_simp
        try simp only [Act.put, List.getElem_toArray, List.getElem_cons_succ, List.getElem_cons_zero, List.setIfInBounds_toArray, List.set_cons_zero, List.set_cons_succ]
        refine wpAnyH_take (i := 6) (v := .int .i64 (j : Nat)) rfl (by kernel_rfl) (by kernel_rfl) (by kernel_rfl) (fun _ _ _ h => h) (Or.inl ⟨by kernel_rfl, ?_⟩) hS ?_
        · intro w' hSw
          obtain ⟨s0, s1, s2⟩ := hSw
          go_simp
        try simp only [Act.put, List.getElem_toArray, List.getElem_cons_succ, List.getElem_cons_zero, List.setIfInBounds_toArray, List.set_cons_zero, List.set_cons_succ]
        refine wpAnyH_done (by kernel_rfl) ?_ _
        show wpList _ _ _ _ _ _
        go_wp2_with fail
        go_roundw
        case rel => exact ⟨j + 1, by omega, by go_num, HI7⟩
        case measure => simp [Go.RowKit.intOf]; omega
    · obtain rfl : j = sn := by omega
      have hfr := HI.out.fr
      obtain ⟨es, cl, hmp, hnum⟩ := HI.out.mp
      rw [List.take_of_length_le (by omega)] at hnum
      have hbxr : BoxX wr (w1.heap.size + 1) 53 #[.slice A1 n1 c1, .slice SA j sc, .map (some w1.heap.size)] := HBX.out.fr hfr (by omega)
      have hbW : Below w.heap.size w wr := FrB.toBelow (HB1.out.trans (HB3.out.mono HB1.out.size)) hfr (by omega) hs1
      have htl := HRow.out.tl
      have hps : PS (w1.heap.size + 1) (w1.heap.size + 1) w1.heap.size SA j sc ds (lexT l) wr :=
        ⟨⟨A1, n1, c1, hbxr, ⟨htl.len, htl.le, htl.cap, fun i t ht => by
            obtain ⟨b, o, e, q0, q1⟩ := htl.at_ i t ht
            have hbl := cell_ltX q0
            dsimp only at hbl
            have e' : ∀ q, wr.cell? ⟨b, q, none⟩ = w1.cell? ⟨b, q, none⟩ := fun q => World.cell?_of_block (w := w1) ((hfr.block b (by omega) (by omega)).trans (HB3.out.block b hbl))
            exact ⟨b, o, e, (e' _).trans q0, (e' _).trans q1⟩⟩, fun b o e => by
              cases hx : lexT l with
              | nil => exact .inr rfl
              | cons t x =>
                obtain ⟨b', o', e', q0, _⟩ := htl.at_ 0 t (by rw [hx]; rfl)
                rw [e] at e'
                cases e'
                have := cell_ltX q0
                dsimp only at this
                exact .inl (by omega)⟩,
          HD.out.dln (fun b hb => hbW.block b hb) (by omega) (by omega), ⟨es, cl, hmp, hnum⟩, by omega, by omega, Nat.le_refl _, by omega, by
            have := tok_len l
            by_cases hl : 20000 < l.length
            · rw [lexT, if_pos hl]; simp
            · omega, lex_good l, hds⟩
      have HF := Lib.hid (And.intro hbW hps)
      clear hfr hmp hnum hbxr hbW htl hps HI
      go_wp2_with fail
      go_ret2
      exact ⟨HF.out.1, .inr ⟨he, _, _, hs1, by omega, rfl, HF.out.2⟩⟩
end Go.Proofs.Ytdbdeppchlkacaa
