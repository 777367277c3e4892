/-
  Texts of one proof, put together. No statement is proved here.
-/
import Derived.Carry
import Derived.Test.YtmkahbbcagfbhaaDoorPkB
import Derived.Test.YtmkahbbcagfbhaaDoorBr
import Derived.Test.YtmkahbbcagfbhaaDoorPkA

/-
  Contract of package parse's begin. No statement is proved here.
-/
namespace Go.Proofs.YtmkahbbcagfbhaaDoor
open Go.ChangeShapes Go.WideShapes Go.ChangeAt Go.RowKit
set_option linter.unusedVariables false


/-- what begin tells -/
def BgE (l : List UInt8) (ds : List (ByteArray × T)) (SA : Option Addr) (sn sc : Nat) (w : World) (e : Ending) (w' : World) : Prop :=
  Below w.heap.size w w' ∧ ((lexE l ≠ 0 ∧ e = .returned (.tuple #[.pointer none, .int .i64 (lexE l)])) ∨ (lexE l = 0 ∧ ∃ R K, w.heap.size ≤ K ∧ K < R ∧ e = .returned (.tuple #[.pointer (some ⟨R, 0, none⟩), .int .i64 0]) ∧ PS R R K SA sn sc ds (lexT l) w'))
/-- what holds at the head of its loop -/
structure BgI (ds : List (ByteArray × T)) (R K : Nat) (w3 : World) (j : Nat) (wr : World) : Prop where
  mp : ∃ es cl, wr.heap[K]? = some (.map es cl) ∧ NumOk es (ds.take j)
  fr : FrB K w3 wr
set_option maxRecDepth 100000 in
set_option maxHeartbeats 2000000 in
theorem pBeginC (l : List UInt8) (A : Option Addr) (n c : Nat) (ds : List (ByteArray × T)) (SA : Option Addr) (sn sc : Nat) (w : World) (hY : YL w l A n c) (hD : DS w ds SA sn sc) (hds : ds.length ≤ 1000) :
    Calls Tryd.prog 34 #[.slice A n c, .slice SA sn sc] w (BgE l ds SA sn sc w) := by
  have HT := Lib.hid (xTokensC l A n c w hY)
  have HD := Lib.hid hD
  have hdl := hD.len
  have hdle := hD.le
  have hdc := hD.cap
  unfold maxLen at hdc
  clear hY hD
  go_enter Tryd.func34, Tryd.ntmps34
  go_wp2_with fail
  refine HT.out.mono ?_
  rintro e w1 ⟨A1, n1, c1, rfl, hrow, hb1⟩
  have HB1 := Lib.hid hb1
  have HRow := Lib.hid hrow
  have hs1 := hb1.size
  clear hrow hb1 HT
  by_cases he : lexE l = 0
  rotate_left
  · have d9 : (lexE l == 0) = false := by simpa using he
    go_wp2_with fail
    go_ret2
    exact ⟨HB1.out, .inl ⟨he, rfl⟩⟩
  rw [he]
  have hmm := @run_makeMap Tryd.prog
  obtain ⟨W3, hW3⟩ : ∃ W3, (w1.alloc (.map #[] 0)).alloc (.cells #[.slice A1 n1 c1, .slice SA sn sc, .map (some w1.heap.size)] 76) = W3 := ⟨_, rfl⟩
  have hb3 : Below w1.heap.size w1 W3 := by rw [← hW3]; exact ((Below.refl _ _).alloc (Nat.le_refl _) _).alloc (by simp) _
  have hl3 : W3.heap.size = w1.heap.size + 2 := by rw [← hW3]; simp
  have hbx : BoxX W3 (w1.heap.size + 1) 76 #[.slice A1 n1 c1, .slice SA sn sc, .map (some w1.heap.size)] := by
    have := BoxX.new (w1.alloc (.map #[] 0)) 76 #[.slice A1 n1 c1, .slice SA sn sc, .map (some w1.heap.size)]
    rw [← hW3]; simpa using this
  have hmp : W3.heap[w1.heap.size]? = some (.map #[] 0) := by
    rw [← hW3]; exact (Below.heap_alloc _ _ _ (by simp)).trans (World.alloc_heap_new w1 _)
  have HBX := Lib.hid hbx
  have HB3 := Lib.hid hb3
  have HI0 := Lib.hid (show BgI ds (w1.heap.size + 1) w1.heap.size W3 0 W3 from ⟨⟨_, _, hmp, NumOk.nil⟩, FrB.refl _ _⟩)
  have hd0 : (0 : Int) ≤ (sn : Int) := by omega
  clear hb3 hbx hmp
  subst hW3
  go_wp2_with fail
  clear hmm
  generalize ((w1.alloc (.map #[] 0)).alloc (.cells #[.slice A1 n1 c1, .slice SA sn sc, .map (some w1.heap.size)] 76)) = W3 at *
  go_loopw [28] (fun i wr => ∃ j, j ≤ sn ∧ i = .int .i64 (j : Nat) ∧ Hid (BgI ds (w1.heap.size + 1) w1.heap.size W3 j wr)) (fun i _ => sn - (Go.RowKit.intOf i).toNat)
  case atStart => exact ⟨0, Nat.zero_le _, rfl, HI0⟩
  case round =>
    clear HI0
    obtain ⟨j, hj, rfl, HI⟩ := hrel
    have hsr := HI.out.fr.size
    by_cases hlt : j < sn
    · obtain ⟨d, hd⟩ := at_ofX hdl hlt
      have hDr := HD.out.at_ j d hd
      have hdsz := HD.out.sz d (List.mem_of_getElem? hd)
      obtain ⟨b, o, k, g, A', n', c', hA, e0, e1, e2, e3, hr⟩ := hDr
      subst hA
      have hbl := cell_ltX e0
      dsimp only at hbl
      have hsame : ∀ q, wr.cell? ⟨b, q, none⟩ = w.cell? ⟨b, q, none⟩ := fun q => World.cell?_of_block (w := w) ((HI.out.fr.block b (by omega) (by omega)).trans ((HB3.out.block b (by omega)).trans (HB1.out.block b hbl)))
      rw [← hsame] at e0 e1 e2 e3
      obtain ⟨d1, dT⟩ := d
      dsimp only at e0 hdsz
      have htk : ds.take (j + 1) = ds.take j ++ [(d1, dT)] := by rw [List.take_add_one, hd]; rfl
      obtain ⟨es, cl, hmp, hnum⟩ := HI.out.mp
      have hbxr : BoxX wr (w1.heap.size + 1) 76 #[.slice A1 n1 c1, .slice (some ⟨b, o, none⟩) sn sc, .map (some w1.heap.size)] := HBX.out.fr HI.out.fr (by omega)
      obtain ⟨W5, hW5⟩ : ∃ W5, wr.alloc (.cells #[.string d1, .int .i64 k, .int .i64 g, .slice A' n' c'] 41) = W5 := ⟨_, rfl⟩
      have hb5 : Below wr.heap.size wr W5 := by rw [← hW5]; exact (Below.refl _ _).alloc (Nat.le_refl _) _
      have hx5 : BoxX W5 wr.heap.size 41 #[.string d1, .int .i64 k, .int .i64 g, .slice A' n' c'] := by rw [← hW5]; exact BoxX.new _ _ _
      have hm5 : W5.heap[w1.heap.size]? = some (.map es cl) := (hb5.block _ (by omega)).trans hmp
      have c0 : W5.cell? ⟨wr.heap.size, 0, none⟩ = some (.string d1) := hx5.cell 0
      have cR : W5.cell? ⟨w1.heap.size + 1, 2, none⟩ = some (.map (some w1.heap.size)) := (hbxr.keep hb5 hbxr.lt).cell 2
      have hfr5 : FrB w1.heap.size W3 W5 := HI.out.fr.then hb5
      have HX := Lib.hid (And.intro hnum (And.intro hm5 hfr5))
      have HLK := Lib.hid (fun (w' : World) (hm : w'.heap[w1.heap.size]? = some (.map es cl)) => look_num hdsz hm hnum)
      have HTK := Lib.hid htk
      have HSZ := Lib.hid hdsz
      have hi0 : (0 : Int) ≤ (j : Int) := by omega
      have hi1 : (j : Int) < (sn : Int) := by omega
      have hlj : (ds.take j).length = j := by rw [List.length_take]; omega
      clear hr hsame hd hb5 hx5 hfr5 hbxr hmp hnum HI htk hdsz hbl
      subst hW5
      cases hpd : posD d1 (ds.take j) with
      | some p =>
        obtain ⟨i5, t5⟩ := p
        rw [numD, hpd] at HLK
        have HI5 := Lib.hid (show BgI ds (w1.heap.size + 1) w1.heap.size W3 (j + 1) (wr.alloc (.cells #[.string d1, .int .i64 k, .int .i64 g, .slice A' n' c'] 41)).drew from
          ⟨⟨es, cl, HX.out.2.1, by rw [HTK.out]; exact HX.out.1.same (by dsimp only; rw [hpd]; rfl)⟩, HX.out.2.2.drew⟩)
        clear hpd
        dsimp only at HLK
        go_wp2_with fail
        have HKS : Hid (∀ w' : World, Below (wr.alloc (.cells #[.string d1, .int .i64 k, .int .i64 g, .slice A' n' c'] 41)).heap.size (wr.alloc (.cells #[.string d1, .int .i64 k, .int .i64 g, .slice A' n' c'] 41)) w' → (fun w' => w'.cell? ⟨w1.heap.size + 1, 2, none⟩ = some (.map (some w1.heap.size)) ∧ w'.cell? ⟨wr.heap.size, 0, none⟩ = some (.string d1) ∧ w'.heap[w1.heap.size]? = some (.map es cl)) w') := Lib.hid fun w' h => ⟨(h.cell (cell_ltX cR)).trans cR, (h.cell (cell_ltX c0)).trans c0, (h.block _ (Array.getElem?_eq_some_iff.1 HX.out.2.1).1).trans HX.out.2.1⟩
        have hbd : Below (wr.alloc (.cells #[.string d1, .int .i64 k, .int .i64 g, .slice A' n' c'] 41)).heap.size (wr.alloc (.cells #[.string d1, .int .i64 k, .int .i64 g, .slice A' n' c'] 41)) (wr.alloc (.cells #[.string d1, .int .i64 k, .int .i64 g, .slice A' n' c'] 41)).drew := (Below.refl _ (wr.alloc (.cells #[.string d1, .int .i64 k, .int .i64 g, .slice A' n' c'] 41))).drew
        refine wp_region_held_drew (S := fun w' => w'.cell? ⟨w1.heap.size + 1, 2, none⟩ = some (.map (some w1.heap.size)) ∧ w'.cell? ⟨wr.heap.size, 0, none⟩ = some (.string d1) ∧ w'.heap[w1.heap.size]? = some (.map es cl)) (by kernel_rfl) (HKS.out _ hbd) (fun hS => ?_)
        simp only [List.size_toArray, List.length_cons, List.length_nil, Nat.reduceAdd]
        refine wpAnyH_take (i := 0) (v := .pointer (some ⟨w1.heap.size + 1, 0, none⟩)) rfl (by kernel_rfl) (by kernel_rfl) (by kernel_rfl) (fun _ _ _ h => h) (Or.inl ⟨by kernel_rfl, ?_⟩) hS ?_
        · intro w' hSw
          obtain ⟨s0, s1, s2⟩ := hSw
          go_simp
        try simp only [Act.put, List.getElem_toArray, List.getElem_cons_zero, List.setIfInBounds_toArray, List.set_cons_zero, List.set_cons_succ]
        refine wpAnyH_take (i := 1) (v := .pointer (some ⟨w1.heap.size + 1, 0, none⟩)) rfl (by kernel_rfl) (by kernel_rfl) (by kernel_rfl) (fun _ _ _ h => h) (Or.inl ⟨by kernel_rfl, ?_⟩) hS ?_
        · intro w' hSw
          obtain ⟨s0, s1, s2⟩ := hSw
          go_simp
        try simp only [Act.put, List.getElem_toArray, List.getElem_cons_succ, List.getElem_cons_zero, List.setIfInBounds_toArray, List.set_cons_zero, List.set_cons_succ]
        refine wpAnyH_take (i := 2) (v := .pointer (some ⟨w1.heap.size + 1, 2, none⟩)) rfl (by kernel_rfl) (by kernel_rfl) (by kernel_rfl) (fun _ _ _ h => h) (Or.inl ⟨by kernel_rfl, ?_⟩) hS ?_
        · intro w' hSw
          obtain ⟨s0, s1, s2⟩ := hSw
          go_simp
        try simp only [Act.put, List.getElem_toArray, List.getElem_cons_succ, List.getElem_cons_zero, List.setIfInBounds_toArray, List.set_cons_zero, List.set_cons_succ]
        refine wpAnyH_take (i := 3) (v := .map (some w1.heap.size)) rfl (by kernel_rfl) (by kernel_rfl) (by kernel_rfl) (fun _ _ _ h => h) (Or.inl ⟨by kernel_rfl, ?_⟩) hS ?_
        · intro w' hSw
          obtain ⟨s0, s1, s2⟩ := hSw
          go_simp
        try simp only [Act.put, List.getElem_toArray, List.getElem_cons_succ, List.getElem_cons_zero, List.setIfInBounds_toArray, List.set_cons_zero, List.set_cons_succ]
        refine wpAnyH_take (i := 4) (v := .pointer (some ⟨wr.heap.size, 0, none⟩)) rfl (by kernel_rfl) (by kernel_rfl) (by kernel_rfl) (fun _ _ _ h => h) (Or.inl ⟨by kernel_rfl, ?_⟩) hS ?_
        · intro w' hSw
          obtain ⟨s0, s1, s2⟩ := hSw
          go_simp
        try simp only [Act.put, List.getElem_toArray, List.getElem_cons_succ, List.getElem_cons_zero, List.setIfInBounds_toArray, List.set_cons_zero, List.set_cons_succ]
        refine wpAnyH_take (i := 5) (v := .string d1) rfl (by kernel_rfl) (by kernel_rfl) (by kernel_rfl) (fun _ _ _ h => h) (Or.inl ⟨by kernel_rfl, ?_⟩) hS ?_
        · intro w' hSw
          obtain ⟨s0, s1, s2⟩ := hSw
          go_simp
        try simp only [Act.put, List.getElem_toArray, List.getElem_cons_succ, List.getElem_cons_zero, List.setIfInBounds_toArray, List.set_cons_zero, List.set_cons_succ]
        refine wpAnyH_take (i := 6) (v := .tuple #[.int .i64 (i5 : Nat), .bool true]) rfl (by kernel_rfl) (by kernel_rfl) (by kernel_rfl) (fun _ _ _ h => h) (Or.inl ⟨by kernel_rfl, ?_⟩) hS ?_
        · intro w' hSw
          obtain ⟨s0, s1, s2⟩ := hSw
          have s3 := HLK.out w' s2
          go_simp
        try simp only [Act.put, List.getElem_toArray, List.getElem_cons_succ, List.getElem_cons_zero, List.setIfInBounds_toArray, List.set_cons_zero, List.set_cons_succ]
        refine wpAnyH_take (i := 7) (v := .tuple #[.int .i64 (i5 : Nat), .bool true]) rfl (by kernel_rfl) (by kernel_rfl) (by kernel_rfl) (fun _ _ _ h => h) (Or.inl ⟨by kernel_rfl, ?_⟩) hS ?_
        · intro w' hSw
          obtain ⟨s0, s1, s2⟩ := hSw
          go_simp
        try simp only [Act.put, List.getElem_toArray, List.getElem_cons_succ, List.getElem_cons_zero, List.setIfInBounds_toArray, List.set_cons_zero, List.set_cons_succ]
        refine wpAnyH_take (i := 8) (v := .int .i64 (i5 : Nat)) rfl (by kernel_rfl) (by kernel_rfl) (by kernel_rfl) (fun _ _ _ h => h) (Or.inl ⟨by kernel_rfl, ?_⟩) hS ?_
        · intro w' hSw
          obtain ⟨s0, s1, s2⟩ := hSw
          go_simp
        try simp only [Act.put, List.getElem_toArray, List.getElem_cons_succ, List.getElem_cons_zero, List.setIfInBounds_toArray, List.set_cons_zero, List.set_cons_succ]
        refine wpAnyH_take (i := 9) (v := .bool true) rfl (by kernel_rfl) (by kernel_rfl) (by kernel_rfl) (fun _ _ _ h => h) (Or.inl ⟨by kernel_rfl, ?_⟩) hS ?_
        · intro w' hSw
          obtain ⟨s0, s1, s2⟩ := hSw
          go_simp
        try simp only [Act.put, List.getElem_toArray, List.getElem_cons_succ, List.getElem_cons_zero, List.setIfInBounds_toArray, List.set_cons_zero, List.set_cons_succ]
        refine wpAnyH_take (i := 10) (v := .int .i64 (i5 : Nat)) rfl (by kernel_rfl) (by kernel_rfl) (by kernel_rfl) (fun _ _ _ h => h) (Or.inl ⟨by kernel_rfl, ?_⟩) hS ?_
        · intro w' hSw
          obtain ⟨s0, s1, s2⟩ := hSw
          go_simp
        try simp only [Act.put, List.getElem_toArray, List.getElem_cons_succ, List.getElem_cons_zero, List.setIfInBounds_toArray, List.set_cons_zero, List.set_cons_succ]
        refine wpAnyH_take (i := 11) (v := .bool true) rfl (by kernel_rfl) (by kernel_rfl) (by kernel_rfl) (fun _ _ _ h => h) (Or.inl ⟨by kernel_rfl, ?_⟩) hS ?_
        · intro w' hSw
          obtain ⟨s0, s1, s2⟩ := hSw
          go_simp
        try simp only [Act.put, List.getElem_toArray, List.getElem_cons_succ, List.getElem_cons_zero, List.setIfInBounds_toArray, List.set_cons_zero, List.set_cons_succ]
        refine wpAnyH_done (by kernel_rfl) ?_ _
        try simp only [zzP]
        go_wp2_with fail
        go_roundw
        case rel => exact ⟨j + 1, by omega, by go_num, HI5⟩
        case measure => simp [Go.RowKit.intOf]; omega
      | none =>
        rw [numD, hpd] at HLK
        have HPD := Lib.hid hpd
        clear hpd
        dsimp only at HLK
        go_wp2_with fail
        have HKS : Hid (∀ w' : World, Below (wr.alloc (.cells #[.string d1, .int .i64 k, .int .i64 g, .slice A' n' c'] 41)).heap.size (wr.alloc (.cells #[.string d1, .int .i64 k, .int .i64 g, .slice A' n' c'] 41)) w' → (fun w' => w'.cell? ⟨w1.heap.size + 1, 2, none⟩ = some (.map (some w1.heap.size)) ∧ w'.cell? ⟨wr.heap.size, 0, none⟩ = some (.string d1) ∧ w'.heap[w1.heap.size]? = some (.map es cl)) w') := Lib.hid fun w' h => ⟨(h.cell (cell_ltX cR)).trans cR, (h.cell (cell_ltX c0)).trans c0, (h.block _ (Array.getElem?_eq_some_iff.1 HX.out.2.1).1).trans HX.out.2.1⟩
        have hbd : Below (wr.alloc (.cells #[.string d1, .int .i64 k, .int .i64 g, .slice A' n' c'] 41)).heap.size (wr.alloc (.cells #[.string d1, .int .i64 k, .int .i64 g, .slice A' n' c'] 41)) (wr.alloc (.cells #[.string d1, .int .i64 k, .int .i64 g, .slice A' n' c'] 41)).drew := (Below.refl _ (wr.alloc (.cells #[.string d1, .int .i64 k, .int .i64 g, .slice A' n' c'] 41))).drew
        refine wp_region_held_drew (S := fun w' => w'.cell? ⟨w1.heap.size + 1, 2, none⟩ = some (.map (some w1.heap.size)) ∧ w'.cell? ⟨wr.heap.size, 0, none⟩ = some (.string d1) ∧ w'.heap[w1.heap.size]? = some (.map es cl)) (by kernel_rfl) (HKS.out _ hbd) (fun hS => ?_)
        simp only [List.size_toArray, List.length_cons, List.length_nil, Nat.reduceAdd]
        refine wpAnyH_take (i := 0) (v := .pointer (some ⟨w1.heap.size + 1, 0, none⟩)) rfl (by kernel_rfl) (by kernel_rfl) (by kernel_rfl) (fun _ _ _ h => h) (Or.inl ⟨by kernel_rfl, ?_⟩) hS ?_
        · intro w' hSw
          obtain ⟨s0, s1, s2⟩ := hSw
          go_simp
        try simp only [Act.put, List.getElem_toArray, List.getElem_cons_zero, List.setIfInBounds_toArray, List.set_cons_zero, List.set_cons_succ]
        refine wpAnyH_take (i := 1) (v := .pointer (some ⟨w1.heap.size + 1, 0, none⟩)) rfl (by kernel_rfl) (by kernel_rfl) (by kernel_rfl) (fun _ _ _ h => h) (Or.inl ⟨by kernel_rfl, ?_⟩) hS ?_
        · intro w' hSw
          obtain ⟨s0, s1, s2⟩ := hSw
          go_simp
        try simp only [Act.put, List.getElem_toArray, List.getElem_cons_succ, List.getElem_cons_zero, List.setIfInBounds_toArray, List.set_cons_zero, List.set_cons_succ]
        refine wpAnyH_take (i := 2) (v := .pointer (some ⟨w1.heap.size + 1, 2, none⟩)) rfl (by kernel_rfl) (by kernel_rfl) (by kernel_rfl) (fun _ _ _ h => h) (Or.inl ⟨by kernel_rfl, ?_⟩) hS ?_
        · intro w' hSw
          obtain ⟨s0, s1, s2⟩ := hSw
          go_simp
        try simp only [Act.put, List.getElem_toArray, List.getElem_cons_succ, List.getElem_cons_zero, List.setIfInBounds_toArray, List.set_cons_zero, List.set_cons_succ]
        refine wpAnyH_take (i := 3) (v := .map (some w1.heap.size)) rfl (by kernel_rfl) (by kernel_rfl) (by kernel_rfl) (fun _ _ _ h => h) (Or.inl ⟨by kernel_rfl, ?_⟩) hS ?_
        · intro w' hSw
          obtain ⟨s0, s1, s2⟩ := hSw
          go_simp
        try simp only [Act.put, List.getElem_toArray, List.getElem_cons_succ, List.getElem_cons_zero, List.setIfInBounds_toArray, List.set_cons_zero, List.set_cons_succ]
        refine wpAnyH_take (i := 4) (v := .pointer (some ⟨wr.heap.size, 0, none⟩)) rfl (by kernel_rfl) (by kernel_rfl) (by kernel_rfl) (fun _ _ _ h => h) (Or.inl ⟨by kernel_rfl, ?_⟩) hS ?_
        · intro w' hSw
          obtain ⟨s0, s1, s2⟩ := hSw
          go_simp
        try simp only [Act.put, List.getElem_toArray, List.getElem_cons_succ, List.getElem_cons_zero, List.setIfInBounds_toArray, List.set_cons_zero, List.set_cons_succ]
        refine wpAnyH_take (i := 5) (v := .string d1) rfl (by kernel_rfl) (by kernel_rfl) (by kernel_rfl) (fun _ _ _ h => h) (Or.inl ⟨by kernel_rfl, ?_⟩) hS ?_
        · intro w' hSw
          obtain ⟨s0, s1, s2⟩ := hSw
          go_simp
        try simp only [Act.put, List.getElem_toArray, List.getElem_cons_succ, List.getElem_cons_zero, List.setIfInBounds_toArray, List.set_cons_zero, List.set_cons_succ]
        refine wpAnyH_take (i := 6) (v := .tuple #[.int .i64 (0 : Nat), .bool false]) rfl (by kernel_rfl) (by kernel_rfl) (by kernel_rfl) (fun _ _ _ h => h) (Or.inl ⟨by kernel_rfl, ?_⟩) hS ?_
        · intro w' hSw
          obtain ⟨s0, s1, s2⟩ := hSw
          have s3 := HLK.out w' s2
          go_simp
        try simp only [Act.put, List.getElem_toArray, List.getElem_cons_succ, List.getElem_cons_zero, List.setIfInBounds_toArray, List.set_cons_zero, List.set_cons_succ]
        refine wpAnyH_take (i := 7) (v := .tuple #[.int .i64 (0 : Nat), .bool false]) rfl (by kernel_rfl) (by kernel_rfl) (by kernel_rfl) (fun _ _ _ h => h) (Or.inl ⟨by kernel_rfl, ?_⟩) hS ?_
        · intro w' hSw
          obtain ⟨s0, s1, s2⟩ := hSw
          go_simp
        try simp only [Act.put, List.getElem_toArray, List.getElem_cons_succ, List.getElem_cons_zero, List.setIfInBounds_toArray, List.set_cons_zero, List.set_cons_succ]
        refine wpAnyH_take (i := 8) (v := .int .i64 (0 : Nat)) rfl (by kernel_rfl) (by kernel_rfl) (by kernel_rfl) (fun _ _ _ h => h) (Or.inl ⟨by kernel_rfl, ?_⟩) hS ?_
        · intro w' hSw
          obtain ⟨s0, s1, s2⟩ := hSw
          go_simp
        try simp only [Act.put, List.getElem_toArray, List.getElem_cons_succ, List.getElem_cons_zero, List.setIfInBounds_toArray, List.set_cons_zero, List.set_cons_succ]
        refine wpAnyH_take (i := 9) (v := .bool false) rfl (by kernel_rfl) (by kernel_rfl) (by kernel_rfl) (fun _ _ _ h => h) (Or.inl ⟨by kernel_rfl, ?_⟩) hS ?_
        · intro w' hSw
          obtain ⟨s0, s1, s2⟩ := hSw
          go_simp
        try simp only [Act.put, List.getElem_toArray, List.getElem_cons_succ, List.getElem_cons_zero, List.setIfInBounds_toArray, List.set_cons_zero, List.set_cons_succ]
        refine wpAnyH_take (i := 10) (v := .int .i64 (0 : Nat)) rfl (by kernel_rfl) (by kernel_rfl) (by kernel_rfl) (fun _ _ _ h => h) (Or.inl ⟨by kernel_rfl, ?_⟩) hS ?_
        · intro w' hSw
          obtain ⟨s0, s1, s2⟩ := hSw
          go_simp
        try simp only [Act.put, List.getElem_toArray, List.getElem_cons_succ, List.getElem_cons_zero, List.setIfInBounds_toArray, List.set_cons_zero, List.set_cons_succ]
        refine wpAnyH_take (i := 11) (v := .bool false) rfl (by kernel_rfl) (by kernel_rfl) (by kernel_rfl) (fun _ _ _ h => h) (Or.inl ⟨by kernel_rfl, ?_⟩) hS ?_
        · intro w' hSw
          obtain ⟨s0, s1, s2⟩ := hSw
          go_simp
        try simp only [Act.put, List.getElem_toArray, List.getElem_cons_succ, List.getElem_cons_zero, List.setIfInBounds_toArray, List.set_cons_zero, List.set_cons_succ]
        refine wpAnyH_done (by kernel_rfl) ?_ _
        try simp only [zzP]
        have hm6 : (wr.alloc (.cells #[.string d1, .int .i64 k, .int .i64 g, .slice A' n' c'] 41)).drew.heap[w1.heap.size]? = some (.map es cl) := hS.2.2
        have c0 := hS.2.1
        have cR := hS.1
        clear hS HKS hbd
        obtain ⟨W6, hW6⟩ : ∃ W6, (wr.alloc (.cells #[.string d1, .int .i64 k, .int .i64 g, .slice A' n' c'] 41)).drew = W6 := ⟨_, rfl⟩
        have hfr6 : FrB w1.heap.size W3 W6 := by rw [← hW6]; exact HX.out.2.2.drew
        rw [hW6] at hm6 c0 cR ⊢
        clear hW6
        have hput := put_num HSZ.out (show W6.drew.heap[w1.heap.size]? = some (.map es cl) from hm6) HX.out.1 HPD.out (.int .i64 (j : Nat))
        have hfr7 := hfr6.drew
        have HI7 := Lib.hid (show BgI ds (w1.heap.size + 1) w1.heap.size W3 (j + 1) { W6.drew with heap := W6.drew.heap.setIfInBounds w1.heap.size (.map (es.push ⟨.string d1, .int .i64 (j : Nat), cl⟩) (cl + 1)) } from
          ⟨⟨_, _, by
            show (W6.drew.heap.setIfInBounds w1.heap.size _)[w1.heap.size]? = _
            rw [Array.getElem?_setIfInBounds_self_of_lt (by have := (Array.getElem?_eq_some_iff.1 hm6).1; exact this)], by rw [HTK.out]; have := HX.out.1.push (cl := cl) (d := (d1, dT)) HPD.out HSZ.out; rw [hlj] at this; exact this⟩,
            ⟨hfr7.os, hfr7.tape, hfr7.output, by simpa using hfr7.size, fun q hq hne => by
              show (W6.drew.heap.setIfInBounds w1.heap.size _)[q]? = _
              rw [Array.getElem?_setIfInBounds_ne (by omega)]; exact hfr7.block q hq hne⟩⟩)
        clear hfr6 hfr7
        go_wp2_with fail
        have HKS : Hid (∀ w' : World, Below W6.heap.size W6 w' → (fun w' => w'.cell? ⟨w1.heap.size + 1, 2, none⟩ = some (.map (some w1.heap.size)) ∧ w'.cell? ⟨wr.heap.size, 0, none⟩ = some (.string d1) ∧ w'.heap[w1.heap.size]? = some (.map es cl)) w') := Lib.hid fun w' h => ⟨(h.cell (cell_ltX cR)).trans cR, (h.cell (cell_ltX c0)).trans c0, (h.block _ (Array.getElem?_eq_some_iff.1 hm6).1).trans hm6⟩
        have hbd : Below W6.heap.size W6 W6.drew := (Below.refl _ W6).drew
        have hS := HKS.out _ hbd
        refine wp_region_cutX rfl (by kernel_rfl) (by kernel_rfl) ?_
        refine wpAny_of_held (S := fun w' => w'.cell? ⟨w1.heap.size + 1, 2, none⟩ = some (.map (some w1.heap.size)) ∧ w'.cell? ⟨wr.heap.size, 0, none⟩ = some (.string d1) ∧ w'.heap[w1.heap.size]? = some (.map es cl)) _ _ _ _ ?_
        simp only [List.pop_toArray, List.dropLast, List.size_toArray, List.length_cons, List.length_nil, Nat.reduceAdd, Nat.reduceSub]
        refine wpAnyH_take (i := 0) (v := .pointer (some ⟨w1.heap.size + 1, 0, none⟩)) rfl (by kernel_rfl) (by kernel_rfl) (by kernel_rfl) (fun _ _ _ h => h) (Or.inl ⟨by kernel_rfl, ?_⟩) hS ?_
        · intro w' hSw
          obtain ⟨s0, s1, s2⟩ := hSw
          go_simp
        try simp only [Act.put, List.getElem_toArray, List.getElem_cons_succ, List.getElem_cons_zero, List.setIfInBounds_toArray, List.set_cons_zero, List.set_cons_succ]
        refine wpAnyH_take (i := 1) (v := .pointer (some ⟨w1.heap.size + 1, 0, none⟩)) rfl (by kernel_rfl) (by kernel_rfl) (by kernel_rfl) (fun _ _ _ h => h) (Or.inl ⟨by kernel_rfl, ?_⟩) hS ?_
        · intro w' hSw
          obtain ⟨s0, s1, s2⟩ := hSw
          go_simp
        try simp only [Act.put, List.getElem_toArray, List.getElem_cons_succ, List.getElem_cons_zero, List.setIfInBounds_toArray, List.set_cons_zero, List.set_cons_succ]
        refine wpAnyH_take (i := 2) (v := .pointer (some ⟨w1.heap.size + 1, 2, none⟩)) rfl (by kernel_rfl) (by kernel_rfl) (by kernel_rfl) (fun _ _ _ h => h) (Or.inl ⟨by kernel_rfl, ?_⟩) hS ?_
        · intro w' hSw
          obtain ⟨s0, s1, s2⟩ := hSw
          go_simp
        try simp only [Act.put, List.getElem_toArray, List.getElem_cons_succ, List.getElem_cons_zero, List.setIfInBounds_toArray, List.set_cons_zero, List.set_cons_succ]
        refine wpAnyH_take (i := 3) (v := .map (some w1.heap.size)) rfl (by kernel_rfl) (by kernel_rfl) (by kernel_rfl) (fun _ _ _ h => h) (Or.inl ⟨by kernel_rfl, ?_⟩) hS ?_
        · intro w' hSw
          obtain ⟨s0, s1, s2⟩ := hSw
          go_simp
        try simp only [Act.put, List.getElem_toArray, List.getElem_cons_succ, List.getElem_cons_zero, List.setIfInBounds_toArray, List.set_cons_zero, List.set_cons_succ]
        refine wpAnyH_take (i := 4) (v := .pointer (some ⟨wr.heap.size, 0, none⟩)) rfl (by kernel_rfl) (by kernel_rfl) (by kernel_rfl) (fun _ _ _ h => h) (Or.inl ⟨by kernel_rfl, ?_⟩) hS ?_
        · intro w' hSw
          obtain ⟨s0, s1, s2⟩ := hSw
          go_simp
        try simp only [Act.put, List.getElem_toArray, List.getElem_cons_succ, List.getElem_cons_zero, List.setIfInBounds_toArray, List.set_cons_zero, List.set_cons_succ]
        refine wpAnyH_take (i := 5) (v := .string d1) rfl (by kernel_rfl) (by kernel_rfl) (by kernel_rfl) (fun _ _ _ h => h) (Or.inl ⟨by kernel_rfl, ?_⟩) hS ?_
        · intro w' hSw
          obtain ⟨s0, s1, s2⟩ := hSw
          go_simp
        try simp only [Act.put, List.getElem_toArray, List.getElem_cons_succ, List.getElem_cons_zero, List.setIfInBounds_toArray, List.set_cons_zero, List.set_cons_succ]
        refine wpAnyH_take (i := 6) (v := .int .i64 (j : Nat)) rfl (by kernel_rfl) (by kernel_rfl) (by kernel_rfl) (fun _ _ _ h => h) (Or.inl ⟨by kernel_rfl, ?_⟩) hS ?_
        · intro w' hSw
          obtain ⟨s0, s1, s2⟩ := hSw
          go_simp
        try simp only [Act.put, List.getElem_toArray, List.getElem_cons_succ, List.getElem_cons_zero, List.setIfInBounds_toArray, List.set_cons_zero, List.set_cons_succ]
        refine wpAnyH_done (by kernel_rfl) ?_ _
        show wpList _ _ _ _ _ _
        go_wp2_with fail
        go_roundw
        case rel => exact ⟨j + 1, by omega, by go_num, HI7⟩
        case measure => simp [Go.RowKit.intOf]; omega
    · obtain rfl : j = sn := by omega
      have hfr := HI.out.fr
      obtain ⟨es, cl, hmp, hnum⟩ := HI.out.mp
      rw [List.take_of_length_le (by omega)] at hnum
      have hbxr : BoxX wr (w1.heap.size + 1) 76 #[.slice A1 n1 c1, .slice SA j sc, .map (some w1.heap.size)] := HBX.out.fr hfr (by omega)
      have hbW : Below w.heap.size w wr := FrB.toBelow (HB1.out.trans (HB3.out.mono HB1.out.size)) hfr (by omega) hs1
      have htl := HRow.out.tl
      have hps : PS (w1.heap.size + 1) (w1.heap.size + 1) w1.heap.size SA j sc ds (lexT l) wr :=
        ⟨⟨A1, n1, c1, hbxr, ⟨htl.len, htl.le, htl.cap, fun i t ht => by
            obtain ⟨b, o, e, q0, q1⟩ := htl.at_ i t ht
            have hbl := cell_ltX q0
            dsimp only at hbl
            have e' : ∀ q, wr.cell? ⟨b, q, none⟩ = w1.cell? ⟨b, q, none⟩ := fun q => World.cell?_of_block (w := w1) ((hfr.block b (by omega) (by omega)).trans (HB3.out.block b hbl))
            exact ⟨b, o, e, (e' _).trans q0, (e' _).trans q1⟩⟩, fun b o e => by
              cases hx : lexT l with
              | nil => exact .inr rfl
              | cons t x =>
                obtain ⟨b', o', e', q0, _⟩ := htl.at_ 0 t (by rw [hx]; rfl)
                rw [e] at e'
                cases e'
                have := cell_ltX q0
                dsimp only at this
                exact .inl (by omega)⟩,
          HD.out.dln (fun b hb => hbW.block b hb) (by omega) (by omega), ⟨es, cl, hmp, hnum⟩, by omega, by omega, Nat.le_refl _, by omega, by
            have := tok_len l
            by_cases hl : 20000 < l.length
            · rw [lexT, if_pos hl]; simp
            · omega, lex_good l, hds⟩
      have HF := Lib.hid (And.intro hbW hps)
      clear hfr hmp hnum hbxr hbW htl hps HI
      go_wp2_with fail
      go_ret2
      exact ⟨HF.out.1, .inr ⟨he, _, _, hs1, by omega, rfl, HF.out.2⟩⟩
end Go.Proofs.YtmkahbbcagfbhaaDoor

/-
  A row of declarations that grows; contract of package parse's decl. No statement is proved here.
-/
namespace Go.Proofs.YtmkahbbcagfbhaaDoor
open Go.ChangeShapes Go.WideShapes Go.ChangeAt Go.RowKit
set_option linter.unusedVariables false


theorem infoDecl : (Tryd.prog.info? 41).map (fun i => (i.zero, i.size, i.bytes)) = some (some (.agg #[.string ⟨#[]⟩, .int .i64 0, .int .i64 0, .slice none 0 0]), 4, 56) := by kernel_rfl
theorem info_decl : ∃ i, Tryd.prog.info? 41 = some i ∧ i.zero = some (.agg #[.string ⟨#[]⟩, .int .i64 0, .int .i64 0, .slice none 0 0]) ∧ i.size = 4 ∧ i.bytes = 56 := by
  have hh := infoDecl
  cases hi : Tryd.prog.info? 41 with
  | none => rw [hi] at hh; cases hh
  | some i =>
    rw [hi] at hh
    simp at hh
    exact ⟨i, rfl, hh.1, hh.2.1, hh.2.2⟩
/-- a row of declarations of a call's own -/
structure DRow (R lo : Nat) (w : World) (A : Option Addr) (n c : Nat) (ds : List (ByteArray × T)) (cs : List Value) : Prop where
  own : w.ownsRow lo 41 4 (.slice A n c) n cs
  len : ds.length = n
  kids : ∀ i d, ds[i]? = some d → ∃ k h A' n' c', cs[i * 4]? = some (.string d.1) ∧ cs[i * 4 + 1]? = some (.int .i64 k) ∧ cs[i * 4 + 2]? = some (.int .i64 h) ∧ cs[i * 4 + 3]? = some (.slice A' n' c') ∧
    RdF (fun q => R < q ∧ some q ≠ (Value.slice A n c).ownBlock) w d.2 (.agg #[.int .i64 k, .int .i64 h, .slice A' n' c'])
theorem DRow.nil (R lo : Nat) (w : World) : DRow R lo w none 0 0 [] [] := ⟨World.ownsRow_nil _ _ _ _, rfl, fun i d hd => by simp at hd⟩
theorem DRow.cap {R lo : Nat} {w : World} {A : Option Addr} {n c : Nat} {ds : List (ByteArray × T)} {cs : List Value} (h : DRow R lo w A n c ds cs) : n ≤ c ∧ c ≤ maxLen := by
  rcases h.own.2 with ⟨e, _⟩ | ⟨g, cap, cur, e, _, _, h1, h2, _⟩
  · cases e; exact ⟨Nat.le_refl _, Nat.zero_le _⟩
  · cases e; exact ⟨h1, h2⟩
theorem DRow.mv {R lo : Nat} {w w' : World} {A : Option Addr} {n c : Nat} {ds : List (ByteArray × T)} {cs : List Value} (h : DRow R lo w A n c ds cs) (f : ∀ q, R < q → q < w.heap.size → w'.heap[q]? = w.heap[q]?) (hR : R < lo) : DRow R lo w' A n c ds cs := by
  refine ⟨⟨h.own.1, ?_⟩, h.len, fun i d hd => ?_⟩
  · rcases h.own.2 with h1 | ⟨g, cap, cur, e, hb, hg, h1⟩
    · exact .inl h1
    · have hlt := (h.own.lt g (by rw [e]; rfl)).2
      exact .inr ⟨g, cap, cur, e, hb, (f g (by omega) hlt).trans hg, h1⟩
  · obtain ⟨k, g, A', n', c', e0, e1, e2, e3, hr⟩ := h.kids i d hd
    exact ⟨k, g, A', n', c', e0, e1, e2, e3, RdF.moveQ (fun q hq hl => ⟨hq, f q hq.1 hl⟩) _ _ hr⟩
theorem DRow.dln {R lo : Nat} {w : World} {A : Option Addr} {n c : Nat} {ds : List (ByteArray × T)} {cs : List Value} (h : DRow R lo w A n c ds cs) (hR : R < lo) : DLn w.heap.size R w ds A n c := by
  refine ⟨h.len, h.cap.1, h.cap.2, fun i d hd => ?_⟩
  obtain ⟨k, g, A', n', c', e0, e1, e2, e3, hr⟩ := h.kids i d hd
  have hi := (List.getElem?_eq_some_iff.1 hd).1
  rcases h.own.2 with ⟨e, h0⟩ | ⟨gg, cap, cur, e, hb, hg, h1, h2, _⟩
  · have := h.len; omega
  · have hlt := (h.own.lt gg (by rw [e]; rfl)).2
    injection e with ea en ec
    subst ea
    have hc := fun j u (hu : cs[j]? = some u) => h.own.cells (g := gg) rfl j u hu
    have c0 := hc _ _ e0
    have c1 := hc _ _ e1
    have c2 := hc _ _ e2
    have c3 := hc _ _ e3
    rw [addr_addX] at c0 c1 c2 c3
    exact ⟨gg, 0, k, g, A', n', c', rfl, ⟨by omega, hlt⟩, c0, by rw [Nat.add_assoc]; exact c1, by rw [Nat.add_assoc]; exact c2, by rw [Nat.add_assoc]; exact c3, RdF.moveQ (fun q hq hl => ⟨⟨by have := hq.1; omega, hl⟩, rfl⟩) _ _ hr⟩
/-- one declaration is appended -/
theorem DRow.push {R lo : Nat} {w1 : World} {A : Option Addr} {n c : Nat} {ds : List (ByteArray × T)} {cs : List Value} (h : DRow R lo w1 A n c ds cs) {s : ByteArray} {t : T} {k g : Int} {A2 : Option Addr} {n2 c2 : Nat} (hr : RdF (fun q => R < q ∧ some q ≠ (Value.slice A n c).ownBlock) w1 t (.agg #[.int .i64 k, .int .i64 g, .slice A2 n2 c2]))
    (hlo : lo ≤ w1.heap.size) (hn : n ≤ 1000) {P : Nat} {w2 : World} (hb : Below w1.heap.size w1 w2) (hP : w2.heap[P]? = some (.cells #[.string s, .int .i64 k, .int .i64 g, .slice A2 n2 c2] 41 (0, 0))) (hRlo : R < lo) :
    ∃ gg cap w4, (Builtin.append_ #[25, 25] 25 #[.slice A n c, .slice (some ⟨P, 0, none⟩) 1 1]).run Tryd.prog w2 = .ok (.slice (some ⟨gg, 0, none⟩) (n + 1) cap) w4 ∧
      DRow R lo w4 (some ⟨gg, 0, none⟩) (n + 1) cap (ds ++ [(s, t)]) (cs ++ [.string s, .int .i64 k, .int .i64 g, .slice A2 n2 c2]) ∧ Below lo w2 w4 ∧ (∀ q, q < w1.heap.size → some q ≠ (Value.slice A n c).ownBlock → w4.heap[q]? = w1.heap[q]?) := by
  obtain ⟨i0, hi, hz0, hz1, hz2⟩ := info_decl
  have hown2 : w2.ownsRow lo 41 4 (.slice A n c) n cs := by
    refine ⟨h.own.1, ?_⟩
    rcases h.own.2 with h1 | ⟨g, cap, cur, e, hb', hg, h1⟩
    · exact .inl h1
    · have hlt := (h.own.lt g (by rw [e]; rfl)).2
      exact .inr ⟨g, cap, cur, e, hb', (hb.block g hlt).trans hg, h1⟩
  have hsz := hb.size
  obtain ⟨gg, cap, w4, hrun, how4, hgr, hg4, _⟩ := run_append_lies (P := Tryd.prog) w2 25 25 lo 41 i0 _ 4 56 Tryd.underlying25 hi hz0 hz1 hz2 rfl (by omega) (.slice A n c) n cs
    hown2 ⟨P, 0, none⟩ 1 1 [.string s, .int .i64 k, .int .i64 g, .slice A2 n2 c2] rfl (World.news_of_block hP) (by intro u hu; simp at hu; rcases hu with rfl | rfl | rfl | rfl <;> rfl) (by omega) (by unfold maxLen; omega) (by omega) (by omega) _ rfl
  have hgo : ∀ q, q < w1.heap.size → some q ≠ (Value.slice A n c).ownBlock → w4.heap[q]? = w1.heap[q]? := fun q hq hne => (hgr.block q (by omega) hne).trans (hb.block q hq)
  have hne : ∀ q, q < w1.heap.size → some q ≠ (Value.slice A n c).ownBlock → q ≠ gg := fun q hq hv e => by
    rcases hg4 with h4 | h4
    · rw [h4, e] at hv; exact hv rfl
    · omega
  have hm : ∀ b, (R < b ∧ some b ≠ (Value.slice A n c).ownBlock) → b < w1.heap.size → (R < b ∧ some b ≠ Value.ownBlock (.slice (some ⟨gg, 0, none⟩) (n + 1) cap)) ∧ w4.heap[b]? = w1.heap[b]? := fun b hb' hl =>
    ⟨⟨hb'.1, fun e => hne b hl hb'.2 (by simpa [Value.ownBlock] using e)⟩, hgo b hl hb'.2⟩
  have hcl : cs.length = n * 4 := h.own.1
  refine ⟨gg, cap, w4, hrun, ⟨how4, by rw [List.length_append, h.len]; rfl, fun i d hd => ?_⟩, below_grownQ ((Below.refl _ _).mono (show lo ≤ w2.heap.size by omega)) hgr (fun r hr => (hown2.lt r hr).1) (by omega), hgo⟩
  by_cases hin : i < n
  · rw [List.getElem?_append_left (by rw [h.len]; exact hin)] at hd
    obtain ⟨k', h', A', n', c', e0, e1, e2, e3, hr'⟩ := h.kids i d hd
    refine ⟨k', h', A', n', c', ?_, ?_, ?_, ?_, RdF.moveQ hm _ _ hr'⟩
    all_goals (rw [List.getElem?_append_left (by omega)]; assumption)
  · have hi' : i = n := by have := (List.getElem?_eq_some_iff.1 hd).1; rw [List.length_append, h.len] at this; simp at this; omega
    subst hi'
    rw [List.getElem?_append_right (by rw [h.len]; omega), h.len, Nat.sub_self] at hd
    obtain rfl : (s, t) = d := by simpa using hd
    refine ⟨k, g, A2, n2, c2, ?_, ?_, ?_, ?_, RdF.moveQ hm _ _ hr⟩
    · rw [List.getElem?_append_right (by omega), hcl, Nat.sub_self]; rfl
    · rw [List.getElem?_append_right (by omega), hcl, show i * 4 + 1 - i * 4 = 1 by omega]; rfl
    · rw [List.getElem?_append_right (by omega), hcl, show i * 4 + 2 - i * 4 = 2 by omega]; rfl
    · rw [List.getElem?_append_right (by omega), hcl, show i * 4 + 3 - i * 4 = 3 by omega]; rfl

theorem decl_bad {sg : List (ByteArray × T)} {x : List Tk} (h : namedM mK x = .error 8) : declM mayB nmB sg x = .error 8 := by
  unfold namedM at h
  unfold declM
  cases hn : nameM x with
  | error e => rw [hn] at h; dsimp only at h ⊢; cases h; rfl
  | ok p =>
    obtain ⟨s, r1⟩ := p
    rw [hn] at h
    dsimp only at h ⊢
    split
    · cases ht : takeM mK r1 with
      | error e => rw [ht] at h; dsimp only at h ⊢; cases h; rfl
      | ok r2 => rw [ht] at h; cases h
    · rfl
theorem decl_good {sg : List (ByteArray × T)} {x y : List Tk} {s : ByteArray} (h : namedM mK x = .ok (s, y)) : declM mayB nmB sg x = if nmB s = true ∧ posD s sg = none then (match wholeE sg ⟨#[46]⟩ y with
    | .error e => .error e
    | .ok (t, z) => .ok ((s, t), z)) else .error 8 := by
  unfold namedM at h
  unfold declM
  cases hn : nameM x with
  | error e => rw [hn] at h; cases h
  | ok p =>
    obtain ⟨s', r1⟩ := p
    rw [hn] at h
    dsimp only at h ⊢
    cases ht : takeM mK r1 with
    | error e => rw [ht] at h; cases h
    | ok r2 =>
      rw [ht] at h
      cases h
      split
      · dsimp only
        unfold wholeE
        cases wholeM mayB sg y with
        | error e => rfl
        | ok q =>
          obtain ⟨t, r3⟩ := q
          dsimp only
          rcases hd_take (m := mD) (x := r3) (by decide) with ⟨h1, h2⟩ | ⟨h1, h2⟩
          · rw [h2, if_pos (show hdT r3 = ((1, ⟨#[46]⟩) : Tk) from h1)]
          · rw [h2, if_neg (show ¬ hdT r3 = ((1, ⟨#[46]⟩) : Tk) from h1)]
      · rfl
/-- what decl tells -/
def DcE (R K lo : Nat) (SA : Option Addr) (sn sc : Nat) (sg : List (ByteArray × T)) (x : List Tk) (w : World) (e : Ending) (w' : World) : Prop :=
  Below K w w' ∧ w.heap.size ≤ w'.heap.size ∧ ∃ ec, e = .returned (.int .i64 ec) ∧ ((ec ≠ 0 ∧ (if 40 ≤ sg.length then (.error 4 : Except Int ((ByteArray × T) × List Tk)) else declM mayB nmB sg x) = .error ec) ∨
    (ec = 0 ∧ ∃ d y SA' sc' cs', (if 40 ≤ sg.length then (.error 4 : Except Int ((ByteArray × T) × List Tk)) else declM mayB nmB sg x) = .ok (d, y) ∧ PS w'.heap.size R K SA' (sn + 1) sc' (sg ++ [d]) y w' ∧ DRow R lo w' SA' (sn + 1) sc' (sg ++ [d]) cs' ∧ d.1.size ≤ maxLen))
end Go.Proofs.YtmkahbbcagfbhaaDoor

/-
  Lists of declarations with their names that are appended to rows of a call's own. No statement is proved here.
-/
namespace Go.Proofs.YtmkahbbcagfbhaaDoor
open Go.ChangeShapes Go.WideShapes Go.ChangeAt Go.RowKit
set_option linter.unusedVariables false

abbrev D4 := Value × Value × Value × Value
def cells4 (xs : List D4) : List Value := xs.flatMap fun y => [y.1, y.2.1, y.2.2.1, y.2.2.2]
theorem cells4_len : ∀ xs : List D4, (cells4 xs).length = xs.length * 4
  | [] => rfl
  | y :: xs => by
    rw [show cells4 (y :: xs) = y.1 :: y.2.1 :: y.2.2.1 :: y.2.2.2 :: cells4 xs from rfl]
    simp only [List.length_cons, cells4_len xs]
    omega
theorem cells4_at : ∀ (xs : List D4) (i : Nat) (y : D4), xs[i]? = some y → (cells4 xs)[i * 4]? = some y.1 ∧ (cells4 xs)[i * 4 + 1]? = some y.2.1 ∧ (cells4 xs)[i * 4 + 2]? = some y.2.2.1 ∧ (cells4 xs)[i * 4 + 3]? = some y.2.2.2
  | [], i, y, h => by simp at h
  | z :: xs, 0, y, h => by simp at h; subst h; exact ⟨rfl, rfl, rfl, rfl⟩
  | z :: xs, i + 1, y, h => by
    have := cells4_at xs i y (by simpa using h)
    rw [show cells4 (z :: xs) = z.1 :: z.2.1 :: z.2.2.1 :: z.2.2.2 :: cells4 xs from rfl, show (i + 1) * 4 = i * 4 + 1 + 1 + 1 + 1 by omega]
    exact this
theorem cells4_back : ∀ (xs : List D4) (j : Nat) (u : Value), (cells4 xs)[j]? = some u → ∃ i y, xs[i]? = some y ∧ ((j = i * 4 ∧ u = y.1) ∨ (j = i * 4 + 1 ∧ u = y.2.1) ∨ (j = i * 4 + 2 ∧ u = y.2.2.1) ∨ (j = i * 4 + 3 ∧ u = y.2.2.2))
  | [], j, u, h => by simp [cells4] at h
  | z :: xs, j, u, h => by
    rw [show cells4 (z :: xs) = z.1 :: z.2.1 :: z.2.2.1 :: z.2.2.2 :: cells4 xs from rfl] at h
    match j, h with
    | 0, h => exact ⟨0, z, rfl, .inl ⟨rfl, by simpa using h.symm⟩⟩
    | 1, h => exact ⟨0, z, rfl, .inr (.inl ⟨rfl, by simpa using h.symm⟩)⟩
    | 2, h => exact ⟨0, z, rfl, .inr (.inr (.inl ⟨rfl, by simpa using h.symm⟩))⟩
    | 3, h => exact ⟨0, z, rfl, .inr (.inr (.inr ⟨rfl, by simpa using h.symm⟩))⟩
    | j + 4, h =>
      obtain ⟨i, y, hy, h1⟩ := cells4_back xs j u (by simpa using h)
      refine ⟨i + 1, y, by simpa using hy, ?_⟩
      rcases h1 with ⟨h1, h2⟩ | ⟨h1, h2⟩ | ⟨h1, h2⟩ | ⟨h1, h2⟩
      · exact .inl ⟨by omega, h2⟩
      · exact .inr (.inl ⟨by omega, h2⟩)
      · exact .inr (.inr (.inl ⟨by omega, h2⟩))
      · exact .inr (.inr (.inr ⟨by omega, h2⟩))
/-- cells of declarations, as some world reads what they hold -/
def KDS (W0 : World) (cs : List Value) (ds : List (ByteArray × T)) : Prop :=
  ∀ i x, ds[i]? = some x → ∃ k g A0 n0 c0, cs[i * 4]? = some (.string x.1) ∧ cs[i * 4 + 1]? = some (.int .i64 k) ∧ cs[i * 4 + 2]? = some (.int .i64 g) ∧ cs[i * 4 + 3]? = some (.slice A0 n0 c0) ∧ Rd W0 x.2 (.agg #[.int .i64 k, .int .i64 g, .slice A0 n0 c0])
theorem KDS.app {W0 : World} {cs1 cs2 : List Value} {ds1 ds2 : List (ByteArray × T)} (h1 : KDS W0 cs1 ds1) (h2 : KDS W0 cs2 ds2) (hlen : cs1.length = ds1.length * 4) : KDS W0 (cs1 ++ cs2) (ds1 ++ ds2) := fun i x hx => by
  by_cases hi : i < ds1.length
  · rw [List.getElem?_append_left hi] at hx
    obtain ⟨k, g, A0, n0, c0, e0, e1, e2, e3, hr⟩ := h1 i x hx
    have up : ∀ j u, cs1[j]? = some u → (cs1 ++ cs2)[j]? = some u := fun j u hj => by
      rw [List.getElem?_append_left (List.getElem?_eq_some_iff.1 hj).1]; exact hj
    exact ⟨k, g, A0, n0, c0, up _ _ e0, up _ _ e1, up _ _ e2, up _ _ e3, hr⟩
  · rw [List.getElem?_append_right (by omega)] at hx
    obtain ⟨k, g, A0, n0, c0, e0, e1, e2, e3, hr⟩ := h2 _ x hx
    have up : ∀ q u, cs2[(i - ds1.length) * 4 + q]? = some u → (cs1 ++ cs2)[i * 4 + q]? = some u := fun q u hj => by
      rw [List.getElem?_append_right (by omega), hlen, show i * 4 + q - ds1.length * 4 = (i - ds1.length) * 4 + q by omega]; exact hj
    exact ⟨k, g, A0, n0, c0, up 0 _ e0, up 1 _ e1, up 2 _ e2, up 3 _ e3, hr⟩
theorem DS.raw {w : World} {ds : List (ByteArray × T)} {A : Option Addr} {n c : Nat} (h : DS w ds A n c) : ∃ cs : List Value, cs.length = n * 4 ∧ (∀ j u, cs[j]? = some u → ∃ b o, A = some ⟨b, o, none⟩ ∧ w.cell? ⟨b, o + j, none⟩ = some u) ∧ (∀ u ∈ cs, u.oneCell' = true) ∧ KDS w cs ds := by
  have each : ∀ i, i < n → ∃ y : D4, ∃ x, ds[i]? = some x ∧ ∃ b o k g A' n' c', A = some ⟨b, o, none⟩ ∧ y = (.string x.1, .int .i64 k, .int .i64 g, .slice A' n' c') ∧ w.cell? ⟨b, o + i * 4, none⟩ = some y.1 ∧ w.cell? ⟨b, o + i * 4 + 1, none⟩ = some y.2.1 ∧
      w.cell? ⟨b, o + i * 4 + 2, none⟩ = some y.2.2.1 ∧ w.cell? ⟨b, o + i * 4 + 3, none⟩ = some y.2.2.2 ∧ Rd w x.2 (.agg #[.int .i64 k, .int .i64 g, .slice A' n' c']) := fun i hi => by
    obtain ⟨x, hx⟩ := at_ofX h.len hi
    obtain ⟨b, o, k, g, A', n', c', e, c0, c1, c2, c3, hr⟩ := h.at_ i x hx
    exact ⟨_, x, hx, b, o, k, g, A', n', c', e, rfl, c0, c1, c2, c3, hr⟩
  obtain ⟨xs, hl, hxs⟩ := list_ofN n each
  refine ⟨cells4 xs, by rw [cells4_len, hl], fun j u hu => ?_, fun u hu => ?_, fun i x hx => ?_⟩
  · obtain ⟨i, y, hy, h1⟩ := cells4_back xs j u hu
    obtain ⟨x, hx, b, o, k, g, A', n', c', e, ey, c0, c1, c2, c3, hr⟩ := hxs i y hy
    refine ⟨b, o, e, ?_⟩
    rcases h1 with ⟨rfl, rfl⟩ | ⟨rfl, rfl⟩ | ⟨rfl, rfl⟩ | ⟨rfl, rfl⟩
    · exact c0
    · rw [← Nat.add_assoc]; exact c1
    · rw [← Nat.add_assoc]; exact c2
    · rw [← Nat.add_assoc]; exact c3
  · obtain ⟨j, hj⟩ := List.getElem?_of_mem hu
    obtain ⟨i, y, hy, h1⟩ := cells4_back xs j u hj
    obtain ⟨x, hx, b, o, k, g, A', n', c', e, ey, _⟩ := hxs i y hy
    subst ey
    rcases h1 with ⟨_, rfl⟩ | ⟨_, rfl⟩ | ⟨_, rfl⟩ | ⟨_, rfl⟩ <;> rfl
  · have hi : i < n := by have := (List.getElem?_eq_some_iff.1 hx).1; rw [h.len] at this; exact this
    obtain ⟨y, hy⟩ := at_ofX hl hi
    obtain ⟨x', hx', b, o, k, g, A', n', c', e, ey, _, _, _, _, hr⟩ := hxs i y hy
    rw [hx] at hx'
    cases hx'
    obtain ⟨e0, e1, e2, e3⟩ := cells4_at xs i y hy
    subst ey
    exact ⟨k, g, A', n', c', e0, e1, e2, e3, hr⟩
/-- a row of a call's own that holds declarations -/
structure RowDS (W0 w : World) (A : Option Addr) (n c : Nat) (ds : List (ByteArray × T)) (cs : List Value) : Prop where
  own : w.ownsRow W0.heap.size 41 4 (.slice A n c) n cs
  len : ds.length = n
  kids : KDS W0 cs ds
theorem RowDS.none (W0 w : World) : RowDS W0 w none 0 0 [] [] := ⟨World.ownsRow_nil _ _ _ _, rfl, fun i x hx => by simp at hx⟩
theorem RowDS.cap {W0 w : World} {A : Option Addr} {n c : Nat} {ds : List (ByteArray × T)} {cs : List Value} (h : RowDS W0 w A n c ds cs) : n ≤ c ∧ c ≤ maxLen := by
  rcases h.own.2 with ⟨e, h0⟩ | ⟨g', cap', cur, hv, _, _, h1, h2, _⟩
  · cases e; exact ⟨Nat.le_refl _, Nat.zero_le _⟩
  · cases hv; exact ⟨h1, h2⟩
theorem RowDS.lst {W0 w : World} {A : Option Addr} {n c : Nat} {ds : List (ByteArray × T)} {cs : List Value} (h : RowDS W0 w A n c ds cs) (hb : Below W0.heap.size W0 w) (hs : ∀ d ∈ ds, d.1.size ≤ maxLen) : DS w ds A n c := by
  refine ⟨h.len, h.cap.1, h.cap.2, hs, fun i x hx => ?_⟩
  have hi : i < n := by have := (List.getElem?_eq_some_iff.1 hx).1; rw [h.len] at this; exact this
  obtain ⟨k, g, A0, n0, c0, e0, e1, e2, e3, hr⟩ := h.kids i x hx
  obtain ⟨q, hq⟩ : ∃ q, A = some ⟨q, 0, Option.none⟩ := by
    rcases h.own.2 with ⟨e, h0⟩ | ⟨g', cap', cur, hv, _⟩
    · omega
    · cases hv; exact ⟨_, rfl⟩
  subst hq
  have get : ∀ j u, cs[j]? = some u → w.cell? ⟨q, 0 + j, Option.none⟩ = some u := fun j u hj => by
    have := h.own.cells (g := q) rfl j u hj
    rwa [addr_addX] at this
  exact ⟨q, 0, k, g, A0, n0, c0, rfl, get _ _ e0, (by rw [Nat.add_assoc]; exact get _ _ e1), (by rw [Nat.add_assoc]; exact get _ _ e2), (by rw [Nat.add_assoc]; exact get _ _ e3), Rd.keep hb _ _ hr⟩
theorem RowDS.kept {W0 w w' : World} {A : Option Addr} {n c : Nat} {ds : List (ByteArray × T)} {cs : List Value} (h : RowDS W0 w A n c ds cs) (hb : Below w.heap.size w w') : RowDS W0 w' A n c ds cs := by
  refine ⟨⟨h.own.1, ?_⟩, h.len, h.kids⟩
  rcases h.own.2 with h1 | ⟨g, cap, cur, e, hb1, hg, h1⟩
  · exact .inl h1
  · exact .inr ⟨g, cap, cur, e, hb1, (hb.block g (Array.getElem?_eq_some_iff.1 hg).1).trans hg, h1⟩
theorem rowS_new {W0 W : World} {A2 : Option Addr} {n2 c2 : Nat} {xs2 : List (ByteArray × T)} (h2 : DS W0 xs2 A2 n2 c2) (hn : n2 ≤ 1000) (hb : Below W0.heap.size W0 W) :
    ∃ A c w' cs, (Builtin.append_ #[25, 25] 25 #[.slice none 0 0, .slice A2 n2 c2]).run Tryd.prog W = .ok (.slice A n2 c) w' ∧ RowDS W0 w' A n2 c xs2 cs ∧ Below W.heap.size W w' := by
  rcases Nat.eq_zero_or_pos n2 with rfl | hp
  · obtain ⟨i0, hi, hz0, hz1, hz2⟩ := info_decl
    have hds : xs2 = [] := List.length_eq_zero_iff.1 h2.len
    subst hds
    refine ⟨none, 0, W, [], ?_, RowDS.none _ _, Below.refl _ _⟩
    cases A2 <;> simp [Builtin.append_, run_underlying Tryd.underlying25, sizeOf, typeInfo, hi, Builtin.lenOf, Builtin.firstCells, loadCells, loadCellsFrom]
  · obtain ⟨i0, hi, hz0, hz1, hz2⟩ := info_decl
    obtain ⟨cs2, g1, g2, g3, g4⟩ := h2.raw
    obtain ⟨x, hx⟩ := at_ofX h2.len hp
    obtain ⟨b, o, _, _, _, _, _, e, _⟩ := h2.at_ 0 x hx
    subst e
    obtain ⟨g, cap, w', hrun, how, hgr, _, _⟩ := run_append_lies (P := Tryd.prog) W 25 25 W0.heap.size 41 i0 _ 4 56 Tryd.underlying25 hi hz0 hz1 hz2 rfl (by omega) (.slice none 0 0) 0 []
      (World.ownsRow_nil _ _ _ _) ⟨b, o, none⟩ n2 c2 cs2 g1 (fun j u hu => by
        obtain ⟨b', o', e, hc⟩ := g2 j u hu
        cases e
        rw [addr_addX]
        exact (hb.cell (cell_ltX hc)).trans hc) g3 hp (by unfold maxLen; omega) (by omega) hb.size _ rfl
    rw [Nat.zero_add] at hrun how
    rw [List.nil_append] at how
    exact ⟨_, cap, w', cs2, hrun, ⟨how, h2.len, g4⟩, Below.grown (Below.refl _ _) hgr (Nat.le_refl _) (fun r h => by cases h)⟩
theorem rowS_one {W0 W : World} {A1 : Option Addr} {n1 c1 : Nat} {ds1 : List (ByteArray × T)} {cs1 : List Value} (h1 : RowDS W0 W A1 n1 c1 ds1 cs1) {P : Nat} {ty : TypeId} {s : ByteArray} {k g : Int} {A2 : Option Addr} {n2 c2 : Nat} {x : T} (hP : BoxX W P ty #[.string s, .int .i64 k, .int .i64 g, .slice A2 n2 c2]) (hx : Rd W0 x (.agg #[.int .i64 k, .int .i64 g, .slice A2 n2 c2]))
    (hn : n1 + 1 ≤ 1000) (hb : Below W0.heap.size W0 W) :
    ∃ q c w' cs, (Builtin.append_ #[25, 25] 25 #[.slice A1 n1 c1, .slice (some ⟨P, 0, none⟩) 1 1]).run Tryd.prog W = .ok (.slice (some ⟨q, 0, none⟩) (n1 + 1) c) w' ∧ RowDS W0 w' (some ⟨q, 0, none⟩) (n1 + 1) c (ds1 ++ [(s, x)]) cs ∧ Below W0.heap.size W0 w' := by
  obtain ⟨i0, hi, hz0, hz1, hz2⟩ := info_decl
  obtain ⟨q, cap, w', hrun, how, hgr, hfr, _⟩ := run_append_lies (P := Tryd.prog) W 25 25 W0.heap.size 41 i0 _ 4 56 Tryd.underlying25 hi hz0 hz1 hz2 rfl (by omega) (.slice A1 n1 c1) n1 cs1
    h1.own ⟨P, 0, none⟩ 1 1 [.string s, .int .i64 k, .int .i64 g, .slice A2 n2 c2] rfl (fun j u hu => by
      rw [addr_addX, Nat.zero_add]
      match j, hu with
      | 0, hu => cases hu; exact hP.cell 0
      | 1, hu => cases hu; exact hP.cell 1
      | 2, hu => cases hu; exact hP.cell 2
      | 3, hu => cases hu; exact hP.cell 3
      | j + 4, hu => simp at hu) (fun u hu => by
      simp at hu
      rcases hu with rfl | rfl | rfl | rfl <;> rfl) (by omega) (by unfold maxLen; omega) (by omega) hb.size _ rfl
  have hbw : Below W0.heap.size W0 w' := Below.grown hb hgr hb.size fun r hr' => (h1.own.lt r hr').1
  exact ⟨q, cap, w', _, hrun, ⟨how, by rw [List.length_append, h1.len]; rfl, h1.kids.app (cs2 := [.string s, .int .i64 k, .int .i64 g, .slice A2 n2 c2]) (ds2 := [(s, x)]) (fun i y hy => by
    match i, hy with
    | 0, hy => cases hy; exact ⟨k, g, A2, n2, c2, rfl, rfl, rfl, rfl, hx⟩
    | i + 1, hy => simp at hy) (by rw [h1.own.1, h1.len])⟩, hbw⟩
end Go.Proofs.YtmkahbbcagfbhaaDoor

/-
  An argument's reading that is one declaration with its name. No statement is proved here.
-/
namespace Go.Proofs.YtmkahbbcagfbhaaDoor
open Go.ChangeShapes Go.WideShapes Go.ChangeAt Go.RowKit Go.Deep
set_option linter.unusedVariables false
set_option maxRecDepth 100000
/-- one declaration as a value -/
structure DOne (w : World) (d : ByteArray × T) (v : Value) : Prop where
  val : ∃ k g A n c, v = .agg #[.string d.1, .int .i64 k, .int .i64 g, .slice A n c] ∧ Rd w d.2 (.agg #[.int .i64 k, .int .i64 g, .slice A n c])
  sz : d.1.size ≤ maxLen
section
variable {H : Type} {enc : TypeId × Value → H} {w : World} {base : Nat} {spare : Nat → Bool} {held : Bool}
theorem open_declN1 {r : Reach} {b0 : Nat} {v : Value} {d : DataW H} {p : List MemPlace} (hv : Value.okWide Tryd.prog w r b0 41 v) (h : DataW.Trod enc Tryd.prog w base spare held 41 v d p) :
    ∃ x : ByteArray × T, DOne w x v := by
  obtain ⟨cs0, rfl, _⟩ := okWide_struct Tryd.underlying41 hv
  obtain ⟨fuel, hf⟩ := h
  obtain ⟨y, s, v1, v2, v3, e, hr, hs⟩ := trod_declN hf
  obtain ⟨k, g, A, n, c, e1⟩ := hr.full
  simp only [Value.agg.injEq, Array.mk.injEq, List.cons.injEq, and_true] at e1
  obtain ⟨rfl, rfl, rfl⟩ := e1
  refine ⟨(s, y), ⟨k, g, A, n, c, ?_, hr⟩, hs⟩
  cases cs0
  simpa [Value.cells] using e
end
end Go.Proofs.YtmkahbbcagfbhaaDoor

/-
  The walk of ShowMore. No statement is proved here.
-/
namespace Go.Proofs.YtmkahbbcagfbhaaDoor
open Go.ChangeShapes Go.WideShapes Go.ChangeAt Go.RowKit
set_option linter.unusedVariables false

/-! ### More declarations -/
theorem sh_names {n1 n2 : Int → ByteArray} {n : Nat} (hn : ∀ h : Nat, h < n → n1 h = n2 h) (t : T) : ∀ d, Wr_ n d t → shT n1 t d = shT n2 t d := by
  refine T.ind (M := fun t => ∀ d, Wr_ n d t → shT n1 t d = shT n2 t d) ?_ t
  intro k h xs ih d hw
  rcases hw.cases with ⟨rfl, rfl, rfl⟩ | ⟨rfl, rfl, a, b, rfl⟩ | ⟨rfl, rfl, a, rfl⟩ | hc
  · rw [sh_sort, sh_sort]
  · obtain ⟨wa, wb⟩ := hw.pi
    rw [sh_pi, sh_pi, ih a (by simp) d wa, ih b (by simp) (d + 1) wb]
  · rw [sh_lam, sh_lam, ih a (by simp) (d + 1) hw.lam]
  · have h0 : k ≠ 0 := by omega
    have h1 : k ≠ 1 := by omega
    have h3 : k ≠ 3 := by omega
    have hwx := hw.args h1 h3
    have key : ∀ ys : List T, (∀ y ∈ ys, y ∈ xs) → ys.flatMap (argS n1 d) = ys.flatMap (argS n2 d) := by
      intro ys
      induction ys with
      | nil => intro _; rfl
      | cons y ys ihy =>
        intro hy
        rw [List.flatMap_cons, List.flatMap_cons, ihy fun z hz => hy z (List.mem_cons_of_mem _ hz)]
        congr 1
        rw [argS, argS, ih y (hy y List.mem_cons_self) d (hwx y (hy y List.mem_cons_self))]
    rw [sh_head n1 h xs d h0 h1 h3, sh_head n2 h xs d h0 h1 h3, key xs fun y hy => hy]
    congr 2
    rcases hc with ⟨rfl, e1, e2⟩ | ⟨e, e1, e2⟩
    · rw [hdS, hdS, if_pos rfl, if_pos rfl]
    · obtain ⟨g, rfl⟩ : ∃ g : Nat, h = g := ⟨h.toNat, by omega⟩
      have h4 : k ≠ 4 := by rcases e with rfl | rfl <;> decide
      rw [hdS, hdS, if_neg h4, if_neg h4]
      exact hn g (by omega)
mutual
theorem has_mono {n m : Int} (h : n ≤ m) : ∀ t : T, hasB n t = true → hasB m t = true
  | .node k g xs, e => by
    rw [hasB, Bool.and_eq_true] at e ⊢
    refine ⟨?_, hasL_mono h xs e.2⟩
    have h1 := e.1
    rw [Bool.not_eq_true', Bool.and_eq_false_iff] at h1 ⊢
    rcases h1 with h1 | h1
    · exact .inl h1
    · exact .inr (by simp at h1 ⊢; omega)
theorem hasL_mono {n m : Int} (h : n ≤ m) : ∀ xs : List T, hasL n xs = true → hasL m xs = true
  | [], _ => rfl
  | x :: xs, e => by
    rw [hasL, Bool.and_eq_true] at e ⊢
    exact ⟨has_mono h x e.1, hasL_mono h xs e.2⟩
end
theorem nmD_app {ds : List (ByteArray × T)} (d : ByteArray × T) (h : Nat) (hh : h < ds.length) : nmD ds h = nmD (ds ++ [d]) h := by
  rw [nmD, nmD, Int.toNat_natCast, List.getD_eq_getElem?_getD, List.getD_eq_getElem?_getD, List.getElem?_append_left hh]
theorem showT_more {ds : List (ByteArray × T)} {t : T} {l : List UInt8} (h : showT ds t = .ok l) (d : ByteArray × T) : showT (ds ++ [d]) t = .ok l := by
  obtain ⟨h1, h2, h3⟩ := showT_my h
  obtain ⟨hw, rfl, _⟩ := wr_of h
  rw [showT, if_pos h1, if_pos ⟨h2, has_mono (by rw [List.length_append, List.length_singleton]; omega) t h3⟩, sh_names (n1 := nmD ds) (n2 := nmD (ds ++ [d])) (fun g hg => nmD_app d g hg) t 0 hw]
theorem showL_more {ds : List (ByteArray × T)} {d : ByteArray × T} {nm : ByteArray → Bool} : ∀ (r : List (ByteArray × T)) (b x y : List UInt8), showL ds r b nm = .ok x → showL (ds ++ [d]) (r ++ [d]) b nm = .ok y → ∃ l, y = x ++ lineD d.1 l
  | [], b, x, y, h1, h2 => by
    rw [showL] at h1
    cases h1
    rw [List.nil_append, showL] at h2
    split at h2
    · split at h2
      · cases h2
      · rename_i l hl
        rw [showL] at h2
        cases h2
        exact ⟨l, rfl⟩
    · cases h2
  | d0 :: r, b, x, y, h1, h2 => by
    rw [showL] at h1
    rw [List.cons_append, showL] at h2
    split at h1
    · split at h1
      · cases h1
      · rename_i l hl
        rw [showT_more hl d] at h2
        split at h2
        · exact showL_more r _ x y h1 h2
        · cases h2
    · cases h1
theorem showD_more {ds : List (ByteArray × T)} {d : ByteArray × T} {x y : List UInt8} (h1 : showD ds = .ok x) (h2 : showD (ds ++ [d]) = .ok y) : ∃ l, y = x ++ lineD d.1 l := showL_more ds [] x y h1 h2
theorem YL.cut {w : World} {l : List UInt8} {A : Option Addr} {n c m : Nat} (h : YL w l A n c) (hm : m ≤ n) : YL w (l.take m) A m c :=
  ⟨by rw [List.length_take, h.len]; omega, by have := h.le; omega, h.cap, fun i u hu => by
    rw [List.getElem?_take] at hu
    split at hu
    · exact h.at_ i u hu
    · cases hu⟩
set_option maxRecDepth 100000 in
set_option maxHeartbeats 8000000 in
theorem showMoreC (t : T) (ds : List (ByteArray × T)) (d : ByteArray × T) (v vd : Value) (SA : Option Addr) (sn sc : Nat) (w : World) (hv : Rd w t v) (hD : DS w ds SA sn sc) (hd : DOne w d vd) :
    Calls Tryd.prog 6 #[v, .slice SA sn sc, vd] w fun e w' => e = .returned (.bool true) ∧ Below w.heap.size w w' := by
  obtain ⟨k, h, At, nt, ct, rfl⟩ := hv.full
  obtain ⟨⟨kd, gd, Ad, nd', cd, rfl, hrd⟩, hdz⟩ := hd
  obtain ⟨s, td⟩ := d
  dsimp only at hrd hdz ⊢
  obtain ⟨W, hW⟩ : ∃ W, (w.alloc (.cells #[.int .i64 k, .int .i64 h, .slice At nt ct] 24)).alloc (.cells #[.string s, .int .i64 kd, .int .i64 gd, .slice Ad nd' cd] 41) = W := ⟨_, rfl⟩
  have hb : Below w.heap.size w W := by rw [← hW]; exact ((Below.refl _ _).alloc (Nat.le_refl _) _).alloc (by simp) _
  have x0 : BoxX W w.heap.size 24 #[.int .i64 k, .int .i64 h, .slice At nt ct] := by rw [← hW]; exact (BoxX.new _ _ _).alloc _
  have z0 : BoxX W (w.heap.size + 1) 41 #[.string s, .int .i64 kd, .int .i64 gd, .slice Ad nd' cd] := by
    have := BoxX.new (w.alloc (.cells #[.int .i64 k, .int .i64 h, .slice At nt ct] 24)) 41 #[.string s, .int .i64 kd, .int .i64 gd, .slice Ad nd' cd]
    rw [← hW]; simpa using this
  have hsn := hD.len
  have hsc := hD.le
  have hsm := hD.cap
  have hdz2 := hdz
  unfold maxLen at hsm hdz2
  have HV := Lib.hid hv
  have HRD := Lib.hid hrd
  have HDZ := Lib.hid hdz
  have HD := Lib.hid hD
  have HB := Lib.hid hb
  have HX := Lib.hid (And.intro x0 z0)
  have HA := Lib.hid (sAwakeC W)
  clear hv hD hb x0 z0 hrd hdz
  subst hW
  go_enter Tryd.func6, Tryd.ntmps6
  go_wp2_with fail
  refine HA.out.mono ?_
  rintro e w1 ⟨rfl, hb1⟩
  have HB1 := Lib.hid (HB.out.trans (hb1.mono HB.out.size))
  have HX1 := Lib.hid (And.intro (HX.out.1.keep hb1 HX.out.1.lt) (HX.out.2.keep hb1 HX.out.2.lt))
  have HF := Lib.hid (fewN ds SA sn sc w1 (HD.out.keep HB1.out))
  clear HA hb1 HB HX
  go_wp2_with fail
  refine HF.out.mono ?_
  rintro e w2 ⟨r1, rfl, hr1, hb2⟩
  have HB2 := Lib.hid (HB1.out.trans (hb2.mono HB1.out.size))
  have HX2 := Lib.hid (And.intro (HX1.out.1.keep hb2 HX1.out.1.lt) (HX1.out.2.keep hb2 HX1.out.2.lt))
  have HR1 := Lib.hid hr1
  have c0 := HX2.out.1.cell 0
  have c1 := HX2.out.1.cell 1
  have c2 := HX2.out.1.cell 2
  have e0 := HX2.out.2.cell 0
  have e1 := HX2.out.2.cell 1
  have e2 := HX2.out.2.cell 2
  have e3 := HX2.out.2.cell 3
  simp only [List.getElem?_toArray, List.getElem?_cons_zero, List.getElem?_cons_succ] at c0 c1 c2 e0 e1 e2 e3
  have HL := Lib.hid (refLight t 1000 80 _ w2 (Rd.keep HB2.out _ _ HV.out))
  clear HF hb2 HB1 HX1 hr1
  generalize ltB t 1000 80 = r2 at *
  go_wp2_with fail
  refine HL.out.mono ?_
  rintro e w3 ⟨rfl, hb3⟩
  have HB3 := Lib.hid (HB2.out.trans (hb3.mono HB2.out.size))
  have HX3 := Lib.hid (And.intro (HX2.out.1.keep hb3 HX2.out.1.lt) (HX2.out.2.keep hb3 HX2.out.2.lt))
  clear HL hb3 HB2 HX2 c0 c1 c2 e0 e1 e2 e3
  have c0 := HX3.out.1.cell 0
  have c1 := HX3.out.1.cell 1
  have c2 := HX3.out.1.cell 2
  have e0 := HX3.out.2.cell 0
  have e1 := HX3.out.2.cell 1
  have e2 := HX3.out.2.cell 2
  have e3 := HX3.out.2.cell 3
  simp only [List.getElem?_toArray, List.getElem?_cons_zero, List.getElem?_cons_succ] at c0 c1 c2 e0 e1 e2 e3
  have HL := Lib.hid (refLight td 1000 80 _ w3 (Rd.keep HB3.out _ _ HRD.out))
  generalize ltB td 1000 80 = r5 at *
  go_wp2_with fail
  refine HL.out.mono ?_
  rintro e w4 ⟨rfl, hb4⟩
  have HB4 := Lib.hid (HB3.out.trans (hb4.mono HB3.out.size))
  have HX4 := Lib.hid (And.intro (HX3.out.1.keep hb4 HX3.out.1.lt) (HX3.out.2.keep hb4 HX3.out.2.lt))
  have HG := Lib.hid (sLightC ds SA sn sc w4 (HD.out.keep HB4.out))
  clear HL hb4 HB3 HX3 c0 c1 c2 e0 e1 e2 e3
  obtain ⟨r3, hr3⟩ : ∃ r, (ds.all fun d => decide (d.1.size ≤ 100)) = r := ⟨_, rfl⟩
  rw [hr3] at HG
  have HR3 := Lib.hid hr3
  clear hr3
  go_wp2_with fail
  refine HG.out.mono ?_
  rintro e w5 ⟨rfl, hb5⟩
  have HB5 := Lib.hid (HB4.out.trans (hb5.mono HB4.out.size))
  have HX5 := Lib.hid (And.intro (HX4.out.1.keep hb5 HX4.out.1.lt) (HX4.out.2.keep hb5 HX4.out.2.lt))
  clear HG hb5 HB4 HX4
  have c0 := HX5.out.1.cell 0
  have c1 := HX5.out.1.cell 1
  have c2 := HX5.out.1.cell 2
  have e0 := HX5.out.2.cell 0
  have e1 := HX5.out.2.cell 1
  have e2 := HX5.out.2.cell 2
  have e3 := HX5.out.2.cell 3
  simp only [List.getElem?_toArray, List.getElem?_cons_zero, List.getElem?_cons_succ] at c0 c1 c2 e0 e1 e2 e3
  cases r1 with
  | false =>
    go_wp2_with fail
    go_ret
    exact ⟨rfl, HB5.out⟩
  | true =>
  cases r2 with
  | false =>
    go_wp2_with fail
    go_ret
    exact ⟨rfl, HB5.out⟩
  | true =>
  cases r5 with
  | false =>
    go_wp2_with fail
    go_ret
    exact ⟨rfl, HB5.out⟩
  | true =>
  cases r3 with
  | false =>
    go_wp2_with fail
    go_ret
    exact ⟨rfl, HB5.out⟩
  | true =>
  by_cases hsz : s.size ≤ 100
  rotate_left
  · have d1 : decide ((100 : Int) < (s.size : Int)) = true := by simp; omega
    go_wp2_with fail
    go_ret
    exact ⟨rfl, HB5.out⟩
  have d1 : decide ((100 : Int) < (s.size : Int)) = false := by simp; omega
  have h30 := HR1.out rfl
  have hlt := light_of HR3.out
  have HS := Lib.hid hlt
  clear HR1 HR3 hlt
  go_wp2_with fail
  have HRD5 := Lib.hid (Rd.keep HB5.out _ _ HRD.out)
  have HKS : Hid (∀ w' : World, Below w5.heap.size w5 w' → (fun w' => w'.cell? ⟨w.heap.size + 1, 0, none⟩ = some (.string s) ∧ w'.cell? ⟨w.heap.size + 1, 1, none⟩ = some (.int .i64 kd) ∧ w'.cell? ⟨w.heap.size + 1, 2, none⟩ = some (.int .i64 gd) ∧ w'.cell? ⟨w.heap.size + 1, 3, none⟩ = some (.slice Ad nd' cd)) w') := Lib.hid fun w' h => ⟨(h.cell (cell_ltX e0)).trans e0, (h.cell (cell_ltX e1)).trans e1, (h.cell (cell_ltX e2)).trans e2, (h.cell (cell_ltX e3)).trans e3⟩
  have hbd : Below w5.heap.size w5 w5.drew := (Below.refl _ w5).drew
  refine zzR HKS hbd (fun hS => ?_)
  simp only [List.size_toArray, List.length_cons, List.length_nil, Nat.reduceAdd]
  refine wpAnyH_take (i := 0) (v := .slice SA sn sc) rfl (by kernel_rfl) (by kernel_rfl) (by kernel_rfl) (fun _ _ _ h => h) (Or.inl ⟨by kernel_rfl, ?_⟩) hS ?_
  · intro w' hSw
    obtain ⟨s0, s1, s2, s3⟩ := hSw
    go_simp
  try simp only [Act.put, List.getElem_toArray, List.getElem_cons_zero, List.setIfInBounds_toArray, List.set_cons_zero, List.set_cons_succ]
  refine wpAnyH_take (i := 2) (v := .agg #[.string s, .int .i64 kd, .int .i64 gd, .slice Ad nd' cd]) rfl (by kernel_rfl) (by kernel_rfl) (by kernel_rfl) (fun _ _ _ h => h) (Or.inl ⟨by kernel_rfl, ?_⟩) hS ?_
  · intro w' hSw
    obtain ⟨s0, s1, s2, s3⟩ := hSw
    go_simp
  try simp only [Act.put, List.getElem_toArray, List.getElem_cons_succ, List.getElem_cons_zero, List.setIfInBounds_toArray, List.set_cons_zero, List.set_cons_succ]
  refine wpAnyH_ready (rs := [1, 3]) (by kernel_rfl) (by simp) ?_
  refine AllReadyH.cons rfl (fun KN hK => ?_) (AllReadyH.cons rfl (fun KN hK => ?_) AllReadyH.nil)
  · obtain ⟨A5, c5, w55, cs55, hrun5, hrow5, hb55⟩ := rowS_new (HD.out.keep HB5.out) (by omega) hbd
    have hb5 := hbd.trans (hb55.mono hbd.size)
    clear hb55
    refine Lib.wp_append_run _ (.const (.slice none 0 0)) (.tmp 56) 25 25 rfl _ _ rfl rfl _ _ hrun5 ?_
    refine hK.out _ _ (HKS.out _ hb5) (fun hS => ?_)
    clear hK KN
    try simp only [Act.put, zzP]
    refine wpAnyH_ready (rs := [3]) (by kernel_rfl) (by simp) ?_
    refine AllReadyH.cons rfl (fun KN hK => ?_) AllReadyH.nil
    go_simp
    have hbB : Below w5.heap.size w5 (w55.alloc (.cells #[.string s, .int .i64 kd, .int .i64 gd, .slice Ad nd' cd] 41)) := hb5.alloc hb5.size _
    refine hK.out _ _ (HKS.out _ hbB) (fun hS => ?_)
    clear hK KN
    try simp only [Act.put, zzP]
    have hrowB := hrow5.kept (show Below w55.heap.size w55 (w55.alloc (.cells #[.string s, .int .i64 kd, .int .i64 gd, .slice Ad nd' cd] 41)) from (Below.refl _ _).alloc (Nat.le_refl _) _)
    have zB : BoxX (w55.alloc (.cells #[.string s, .int .i64 kd, .int .i64 gd, .slice Ad nd' cd] 41)) w55.heap.size 41 #[.string s, .int .i64 kd, .int .i64 gd, .slice Ad nd' cd] := BoxX.new _ _ _
    clear hrow5 hb5 hrun5
    generalize w55.alloc (.cells #[.string s, .int .i64 kd, .int .i64 gd, .slice Ad nd' cd] 41) = w66 at *
    generalize w55.heap.size = P6 at *
    refine wpAnyH_ready (rs := [4]) (by kernel_rfl) (by simp) ?_
    refine AllReadyH.cons rfl (fun KN hK => ?_) AllReadyH.nil
    obtain ⟨g7, cap7, w7, cs7, hrun7, hr7, hb7⟩ := rowS_one hrowB zB HRD5.out (by omega) hbB
    refine Lib.wp_append_run _ (.tmp 57) (.tmp 59) 25 25 rfl _ _ rfl rfl _ _ hrun7 ?_
    refine hK.out _ _ (HKS.out _ hb7) (fun hS => ?_)
    clear hK KN
    try simp only [Act.put, zzP]
    clear hbB hrowB zB hrun7
    refine wpAnyH_take (i := 5) (v := .slice (some ⟨g7, 0, none⟩) (sn + 1) cap7) rfl (by kernel_rfl) (by kernel_rfl) (by kernel_rfl) (fun _ _ _ h => h) (Or.inl ⟨by kernel_rfl, ?_⟩) hS ?_
    · intro w' hSw
      obtain ⟨s0, s1, s2, s3⟩ := hSw
      go_simp
    try simp only [Act.put, List.getElem_toArray, List.getElem_cons_succ, List.getElem_cons_zero, List.setIfInBounds_toArray, List.set_cons_zero, List.set_cons_succ]
    refine wpAnyH_done (by kernel_rfl) ?_ _
    try simp only [zzP]
    have hds7 : DS w7 (ds ++ [(s, td)]) (some ⟨g7, 0, none⟩) (sn + 1) cap7 := hr7.lst hb7 (fun d hd => by
      rcases List.mem_append.1 hd with h1 | h1
      · exact HD.out.sz d h1
      · rw [List.mem_singleton.1 h1]; exact HDZ.out)
    have HS7 := Lib.hid (show ∀ d ∈ ds ++ [(s, td)], d.1.size ≤ 100 from fun d hd => by
      rcases List.mem_append.1 hd with h1 | h1
      · exact HS.out d h1
      · rw [List.mem_singleton.1 h1]; exact hsz)
    have hcap7 := hds7.le
    have hcm7 := hds7.cap
    unfold maxLen at hcm7
    have HD7 := Lib.hid hds7
    have HB7 := Lib.hid (HB5.out.trans (hb7.mono HB5.out.size))
    have x7 := HX5.out.1.keep hb7 HX5.out.1.lt
    have q0 := x7.cell 0
    have q1 := x7.cell 1
    have q2 := x7.cell 2
    simp only [List.getElem?_toArray, List.getElem?_cons_zero, List.getElem?_cons_succ] at q0 q1 q2
    have HX7 := Lib.hid x7
    have HT := Lib.hid (sTermC ds t _ SA sn sc w7 (Rd.keep HB7.out _ _ HV.out) (HD.out.keep HB7.out) HS.out)
    clear hds7 hr7 hb7 x7 hS HKS hbd c0 c1 c2 e0 e1 e2 e3 HRD5 HX5 HB5
    go_wp2_with fail
    refine HT.out.mono ?_
    rintro e w8 ⟨hb8, A8, n8, c8, e8, rfl, hres8⟩
    have HB8 := Lib.hid (HB7.out.trans (hb8.mono HB7.out.size))
    have HD8 := Lib.hid (HD7.out.keep hb8)
    have x8 := HX7.out.keep hb8 HX7.out.lt
    clear HT q0 q1 q2
    have q0 := x8.cell 0
    have q1 := x8.cell 1
    have q2 := x8.cell 2
    simp only [List.getElem?_toArray, List.getElem?_cons_zero, List.getElem?_cons_succ] at q0 q1 q2
    have HT := Lib.hid (sTermC (ds ++ [(s, td)]) t _ (some ⟨g7, 0, none⟩) (sn + 1) cap7 w8 (Rd.keep HB8.out _ _ HV.out) HD8.out HS7.out)
    have H8 := Lib.hid hres8
    clear hb8 x8 HX7 HB7 HD7 hres8
    go_wp2_with fail
    refine HT.out.mono ?_
    rintro e w9 ⟨hb9, A9, n9, c9, e9, rfl, hres9⟩
    have HB9 := Lib.hid (HB8.out.trans (hb9.mono HB8.out.size))
    have HD9 := Lib.hid (HD8.out.keep hb9)
    have key : (e8 ≠ 0) ∨ (e8 = 0 ∧ e9 = 0 ∧ ∃ l, YL w9 l A8 n8 c8 ∧ YL w9 l A9 n9 c9) := by
      rcases H8.out with ⟨l, h1, h2, h3⟩ | ⟨_, h2, _⟩
      · right
        have h4 := showT_more h1 (s, td)
        rcases hres9 with ⟨l', h5, h6, h7⟩ | ⟨h5, _⟩
        · rw [h4] at h5; cases h5
          exact ⟨h2, h6, l, h3.yl.keep hb9, h7.yl⟩
        · rw [h4] at h5; cases h5
      · exact .inl h2
    clear HT q0 q1 q2 hb9 hres9 H8 HD8 HB8
    have HC := Lib.hid (sDeclsC ds SA sn sc w9 (HD.out.keep HB9.out) HS.out (by omega))
    have next : ∀ (a : Unit), True := fun _ => trivial
    clear next
    rcases key with he8 | ⟨rfl, rfl, l, hy8, hy9⟩
    · have d8 : (e8 == 0) = false := by simpa using he8
      clear he8
      go_wp2_with fail
      refine HC.out.mono ?_
      rintro e w10 ⟨hb10, Ax, nx, cx, g, rfl, hres10⟩
      have HB10 := Lib.hid (HB9.out.trans (hb10.mono HB9.out.size))
      have HD10 := Lib.hid (HD9.out.keep hb10)
      have HE := Lib.hid (sDeclsC (ds ++ [(s, td)]) (some ⟨g7, 0, none⟩) (sn + 1) cap7 w10 HD10.out HS7.out (by rw [List.length_append, List.length_singleton]; omega))
      have H10 := Lib.hid hres10
      clear HC hb10 hres10 HB9 HD9
      go_wp2_with fail
      refine HE.out.mono ?_
      rintro e w11 ⟨hb11, Ay, ny, cy, hh, rfl, hres11⟩
      have HB11 := Lib.hid (HB10.out.trans (hb11.mono HB10.out.size))
      by_cases hg : g = 0
      rotate_left
      · have dg : (g == 0) = false := by simpa using hg
        clear hres11 hb11 H10 HE HB10 HD10
        go_wp2_with fail
        have HKS : Hid (∀ w' : World, Below w11.heap.size w11 w' → (fun _ => True) w') := Lib.hid fun w' h => trivial
        have hbd : Below w11.heap.size w11 w11.drew := (Below.refl _ w11).drew
        refine zzR HKS hbd (fun hS => ?_)
        simp only [List.size_toArray, List.length_cons, List.length_nil, Nat.reduceAdd]
        refine wpAnyH_take (i := 0) (v := .int .i64 g) rfl (by kernel_rfl) (by kernel_rfl) (by kernel_rfl) (fun _ _ _ h => h) (Or.inl ⟨by kernel_rfl, ?_⟩) hS ?_
        · intro w' hSw
          go_simp
        try simp only [Act.put, List.getElem_toArray, List.getElem_cons_zero, List.setIfInBounds_toArray, List.set_cons_zero, List.set_cons_succ]
        refine wpAnyH_take (i := 1) (v := .bool true) rfl (by kernel_rfl) (by kernel_rfl) (by kernel_rfl) (fun _ _ _ h => h) (Or.inl ⟨by kernel_rfl, ?_⟩) hS ?_
        · intro w' hSw
          go_simp
        try simp only [Act.put, List.getElem_toArray, List.getElem_cons_succ, List.getElem_cons_zero, List.setIfInBounds_toArray, List.set_cons_zero, List.set_cons_succ]
        refine wpAnyH_take (i := 2) (v := .bool true) rfl (by kernel_rfl) (by kernel_rfl) (by kernel_rfl) (fun _ _ _ h => h) (Or.inl ⟨by kernel_rfl, ?_⟩) hS ?_
        · intro w' hSw
          go_simp
        try simp only [Act.put, List.getElem_toArray, List.getElem_cons_succ, List.getElem_cons_zero, List.setIfInBounds_toArray, List.set_cons_zero, List.set_cons_succ]
        refine wpAnyH_take (i := 3) (v := undef) rfl (by kernel_rfl) (by kernel_rfl) (by kernel_rfl) (fun _ _ _ h => h) (Or.inr ⟨by kernel_rfl, rfl⟩) hS ?_
        try simp only [Act.put, List.getElem_toArray, List.getElem_cons_succ, List.getElem_cons_zero, List.setIfInBounds_toArray, List.set_cons_zero, List.set_cons_succ]
        refine wpAnyH_take (i := 4) (v := undef) rfl (by kernel_rfl) (by kernel_rfl) (by kernel_rfl) (fun _ _ _ h => h) (Or.inr ⟨by kernel_rfl, rfl⟩) hS ?_
        try simp only [Act.put, List.getElem_toArray, List.getElem_cons_succ, List.getElem_cons_zero, List.setIfInBounds_toArray, List.set_cons_zero, List.set_cons_succ]
        refine wpAnyH_take (i := 5) (v := .bool true) rfl (by kernel_rfl) (by kernel_rfl) (by kernel_rfl) (fun _ _ _ h => h) (Or.inl ⟨by kernel_rfl, ?_⟩) hS ?_
        · intro w' hSw
          go_simp
        try simp only [Act.put, List.getElem_toArray, List.getElem_cons_succ, List.getElem_cons_zero, List.setIfInBounds_toArray, List.set_cons_zero, List.set_cons_succ]
        refine wpAnyH_take (i := 6) (v := .bool true) rfl (by kernel_rfl) (by kernel_rfl) (by kernel_rfl) (fun _ _ _ h => h) (Or.inl ⟨by kernel_rfl, ?_⟩) hS ?_
        · intro w' hSw
          go_simp
        try simp only [Act.put, List.getElem_toArray, List.getElem_cons_succ, List.getElem_cons_zero, List.setIfInBounds_toArray, List.set_cons_zero, List.set_cons_succ]
        refine wpAnyH_take (i := 7) (v := undef) rfl (by kernel_rfl) (by kernel_rfl) (by kernel_rfl) (fun _ _ _ h => h) (Or.inr ⟨by kernel_rfl, rfl⟩) hS ?_
        try simp only [Act.put, List.getElem_toArray, List.getElem_cons_succ, List.getElem_cons_zero, List.setIfInBounds_toArray, List.set_cons_zero, List.set_cons_succ]
        refine wpAnyH_take (i := 8) (v := undef) rfl (by kernel_rfl) (by kernel_rfl) (by kernel_rfl) (fun _ _ _ h => h) (Or.inr ⟨by kernel_rfl, rfl⟩) hS ?_
        try simp only [Act.put, List.getElem_toArray, List.getElem_cons_succ, List.getElem_cons_zero, List.setIfInBounds_toArray, List.set_cons_zero, List.set_cons_succ]
        refine wpAnyH_take (i := 9) (v := undef) rfl (by kernel_rfl) (by kernel_rfl) (by kernel_rfl) (fun _ _ _ h => h) (Or.inr ⟨by kernel_rfl, rfl⟩) hS ?_
        try simp only [Act.put, List.getElem_toArray, List.getElem_cons_succ, List.getElem_cons_zero, List.setIfInBounds_toArray, List.set_cons_zero, List.set_cons_succ]
        refine wpAnyH_take (i := 10) (v := undef) rfl (by kernel_rfl) (by kernel_rfl) (by kernel_rfl) (fun _ _ _ h => h) (Or.inr ⟨by kernel_rfl, rfl⟩) hS ?_
        try simp only [Act.put, List.getElem_toArray, List.getElem_cons_succ, List.getElem_cons_zero, List.setIfInBounds_toArray, List.set_cons_zero, List.set_cons_succ]
        refine wpAnyH_take (i := 11) (v := undef) rfl (by kernel_rfl) (by kernel_rfl) (by kernel_rfl) (fun _ _ _ h => h) (Or.inr ⟨by kernel_rfl, rfl⟩) hS ?_
        try simp only [Act.put, List.getElem_toArray, List.getElem_cons_succ, List.getElem_cons_zero, List.setIfInBounds_toArray, List.set_cons_zero, List.set_cons_succ]
        refine wpAnyH_take (i := 12) (v := undef) rfl (by kernel_rfl) (by kernel_rfl) (by kernel_rfl) (fun _ _ _ h => h) (Or.inr ⟨by kernel_rfl, rfl⟩) hS ?_
        try simp only [Act.put, List.getElem_toArray, List.getElem_cons_succ, List.getElem_cons_zero, List.setIfInBounds_toArray, List.set_cons_zero, List.set_cons_succ]
        refine wpAnyH_take (i := 13) (v := undef) rfl (by kernel_rfl) (by kernel_rfl) (by kernel_rfl) (fun _ _ _ h => h) (Or.inr ⟨by kernel_rfl, rfl⟩) hS ?_
        try simp only [Act.put, List.getElem_toArray, List.getElem_cons_succ, List.getElem_cons_zero, List.setIfInBounds_toArray, List.set_cons_zero, List.set_cons_succ]
        refine wpAnyH_take (i := 14) (v := undef) rfl (by kernel_rfl) (by kernel_rfl) (by kernel_rfl) (fun _ _ _ h => h) (Or.inr ⟨by kernel_rfl, rfl⟩) hS ?_
        try simp only [Act.put, List.getElem_toArray, List.getElem_cons_succ, List.getElem_cons_zero, List.setIfInBounds_toArray, List.set_cons_zero, List.set_cons_succ]
        refine wpAnyH_take (i := 15) (v := undef) rfl (by kernel_rfl) (by kernel_rfl) (by kernel_rfl) (fun _ _ _ h => h) (Or.inr ⟨by kernel_rfl, rfl⟩) hS ?_
        try simp only [Act.put, List.getElem_toArray, List.getElem_cons_succ, List.getElem_cons_zero, List.setIfInBounds_toArray, List.set_cons_zero, List.set_cons_succ]
        refine wpAnyH_take (i := 16) (v := undef) rfl (by kernel_rfl) (by kernel_rfl) (by kernel_rfl) (fun _ _ _ h => h) (Or.inr ⟨by kernel_rfl, rfl⟩) hS ?_
        try simp only [Act.put, List.getElem_toArray, List.getElem_cons_succ, List.getElem_cons_zero, List.setIfInBounds_toArray, List.set_cons_zero, List.set_cons_succ]
        refine wpAnyH_take (i := 17) (v := undef) rfl (by kernel_rfl) (by kernel_rfl) (by kernel_rfl) (fun _ _ _ h => h) (Or.inr ⟨by kernel_rfl, rfl⟩) hS ?_
        try simp only [Act.put, List.getElem_toArray, List.getElem_cons_succ, List.getElem_cons_zero, List.setIfInBounds_toArray, List.set_cons_zero, List.set_cons_succ]
        refine wpAnyH_take (i := 18) (v := undef) rfl (by kernel_rfl) (by kernel_rfl) (by kernel_rfl) (fun _ _ _ h => h) (Or.inr ⟨by kernel_rfl, rfl⟩) hS ?_
        try simp only [Act.put, List.getElem_toArray, List.getElem_cons_succ, List.getElem_cons_zero, List.setIfInBounds_toArray, List.set_cons_zero, List.set_cons_succ]
        refine wpAnyH_take (i := 19) (v := undef) rfl (by kernel_rfl) (by kernel_rfl) (by kernel_rfl) (fun _ _ _ h => h) (Or.inr ⟨by kernel_rfl, rfl⟩) hS ?_
        try simp only [Act.put, List.getElem_toArray, List.getElem_cons_succ, List.getElem_cons_zero, List.setIfInBounds_toArray, List.set_cons_zero, List.set_cons_succ]
        refine wpAnyH_take (i := 20) (v := undef) rfl (by kernel_rfl) (by kernel_rfl) (by kernel_rfl) (fun _ _ _ h => h) (Or.inr ⟨by kernel_rfl, rfl⟩) hS ?_
        try simp only [Act.put, List.getElem_toArray, List.getElem_cons_succ, List.getElem_cons_zero, List.setIfInBounds_toArray, List.set_cons_zero, List.set_cons_succ]
        refine wpAnyH_take (i := 21) (v := undef) rfl (by kernel_rfl) (by kernel_rfl) (by kernel_rfl) (fun _ _ _ h => h) (Or.inr ⟨by kernel_rfl, rfl⟩) hS ?_
        try simp only [Act.put, List.getElem_toArray, List.getElem_cons_succ, List.getElem_cons_zero, List.setIfInBounds_toArray, List.set_cons_zero, List.set_cons_succ]
        refine wpAnyH_take (i := 22) (v := .bool true) rfl (by kernel_rfl) (by kernel_rfl) (by kernel_rfl) (fun _ _ _ h => h) (Or.inl ⟨by kernel_rfl, ?_⟩) hS ?_
        · intro w' hSw
          go_simp
        try simp only [Act.put, List.getElem_toArray, List.getElem_cons_succ, List.getElem_cons_zero, List.setIfInBounds_toArray, List.set_cons_zero, List.set_cons_succ]
        refine wpAnyH_take (i := 23) (v := .bool true) rfl (by kernel_rfl) (by kernel_rfl) (by kernel_rfl) (fun _ _ _ h => h) (Or.inl ⟨by kernel_rfl, ?_⟩) hS ?_
        · intro w' hSw
          go_simp
        try simp only [Act.put, List.getElem_toArray, List.getElem_cons_succ, List.getElem_cons_zero, List.setIfInBounds_toArray, List.set_cons_zero, List.set_cons_succ]
        refine wpAnyH_done (by kernel_rfl) ?_ _
        try simp only [zzP]
        go_wp2_with fail
        go_ret
        exact ⟨rfl, HB11.out.drewX _⟩
      by_cases hk : hh = 0
      rotate_left
      · have dh : (hh == 0) = false := by simpa using hk
        subst hg
        clear hres11 hb11 H10 HE HB10 HD10
        go_wp2_with fail
        have HKS : Hid (∀ w' : World, Below w11.heap.size w11 w' → (fun _ => True) w') := Lib.hid fun w' h => trivial
        have hbd : Below w11.heap.size w11 w11.drew := (Below.refl _ w11).drew
        refine zzR HKS hbd (fun hS => ?_)
        simp only [List.size_toArray, List.length_cons, List.length_nil, Nat.reduceAdd]
        refine wpAnyH_take (i := 0) (v := .int .i64 0) rfl (by kernel_rfl) (by kernel_rfl) (by kernel_rfl) (fun _ _ _ h => h) (Or.inl ⟨by kernel_rfl, ?_⟩) hS ?_
        · intro w' hSw
          go_simp
        try simp only [Act.put, List.getElem_toArray, List.getElem_cons_zero, List.setIfInBounds_toArray, List.set_cons_zero, List.set_cons_succ]
        refine wpAnyH_take (i := 1) (v := .bool false) rfl (by kernel_rfl) (by kernel_rfl) (by kernel_rfl) (fun _ _ _ h => h) (Or.inl ⟨by kernel_rfl, ?_⟩) hS ?_
        · intro w' hSw
          go_simp
        try simp only [Act.put, List.getElem_toArray, List.getElem_cons_succ, List.getElem_cons_zero, List.setIfInBounds_toArray, List.set_cons_zero, List.set_cons_succ]
        refine wpAnyH_take (i := 2) (v := .bool false) rfl (by kernel_rfl) (by kernel_rfl) (by kernel_rfl) (fun _ _ _ h => h) (Or.inl ⟨by kernel_rfl, ?_⟩) hS ?_
        · intro w' hSw
          go_simp
        try simp only [Act.put, List.getElem_toArray, List.getElem_cons_succ, List.getElem_cons_zero, List.setIfInBounds_toArray, List.set_cons_zero, List.set_cons_succ]
        refine wpAnyH_take (i := 3) (v := .int .i64 hh) rfl (by kernel_rfl) (by kernel_rfl) (by kernel_rfl) (fun _ _ _ h => h) (Or.inl ⟨by kernel_rfl, ?_⟩) hS ?_
        · intro w' hSw
          go_simp
        try simp only [Act.put, List.getElem_toArray, List.getElem_cons_succ, List.getElem_cons_zero, List.setIfInBounds_toArray, List.set_cons_zero, List.set_cons_succ]
        refine wpAnyH_take (i := 4) (v := .bool true) rfl (by kernel_rfl) (by kernel_rfl) (by kernel_rfl) (fun _ _ _ h => h) (Or.inl ⟨by kernel_rfl, ?_⟩) hS ?_
        · intro w' hSw
          go_simp
        try simp only [Act.put, List.getElem_toArray, List.getElem_cons_succ, List.getElem_cons_zero, List.setIfInBounds_toArray, List.set_cons_zero, List.set_cons_succ]
        refine wpAnyH_take (i := 5) (v := .bool true) rfl (by kernel_rfl) (by kernel_rfl) (by kernel_rfl) (fun _ _ _ h => h) (Or.inl ⟨by kernel_rfl, ?_⟩) hS ?_
        · intro w' hSw
          go_simp
        try simp only [Act.put, List.getElem_toArray, List.getElem_cons_succ, List.getElem_cons_zero, List.setIfInBounds_toArray, List.set_cons_zero, List.set_cons_succ]
        refine wpAnyH_take (i := 6) (v := .bool true) rfl (by kernel_rfl) (by kernel_rfl) (by kernel_rfl) (fun _ _ _ h => h) (Or.inl ⟨by kernel_rfl, ?_⟩) hS ?_
        · intro w' hSw
          go_simp
        try simp only [Act.put, List.getElem_toArray, List.getElem_cons_succ, List.getElem_cons_zero, List.setIfInBounds_toArray, List.set_cons_zero, List.set_cons_succ]
        refine wpAnyH_take (i := 7) (v := undef) rfl (by kernel_rfl) (by kernel_rfl) (by kernel_rfl) (fun _ _ _ h => h) (Or.inr ⟨by kernel_rfl, rfl⟩) hS ?_
        try simp only [Act.put, List.getElem_toArray, List.getElem_cons_succ, List.getElem_cons_zero, List.setIfInBounds_toArray, List.set_cons_zero, List.set_cons_succ]
        refine wpAnyH_take (i := 8) (v := undef) rfl (by kernel_rfl) (by kernel_rfl) (by kernel_rfl) (fun _ _ _ h => h) (Or.inr ⟨by kernel_rfl, rfl⟩) hS ?_
        try simp only [Act.put, List.getElem_toArray, List.getElem_cons_succ, List.getElem_cons_zero, List.setIfInBounds_toArray, List.set_cons_zero, List.set_cons_succ]
        refine wpAnyH_take (i := 9) (v := undef) rfl (by kernel_rfl) (by kernel_rfl) (by kernel_rfl) (fun _ _ _ h => h) (Or.inr ⟨by kernel_rfl, rfl⟩) hS ?_
        try simp only [Act.put, List.getElem_toArray, List.getElem_cons_succ, List.getElem_cons_zero, List.setIfInBounds_toArray, List.set_cons_zero, List.set_cons_succ]
        refine wpAnyH_take (i := 10) (v := undef) rfl (by kernel_rfl) (by kernel_rfl) (by kernel_rfl) (fun _ _ _ h => h) (Or.inr ⟨by kernel_rfl, rfl⟩) hS ?_
        try simp only [Act.put, List.getElem_toArray, List.getElem_cons_succ, List.getElem_cons_zero, List.setIfInBounds_toArray, List.set_cons_zero, List.set_cons_succ]
        refine wpAnyH_take (i := 11) (v := undef) rfl (by kernel_rfl) (by kernel_rfl) (by kernel_rfl) (fun _ _ _ h => h) (Or.inr ⟨by kernel_rfl, rfl⟩) hS ?_
        try simp only [Act.put, List.getElem_toArray, List.getElem_cons_succ, List.getElem_cons_zero, List.setIfInBounds_toArray, List.set_cons_zero, List.set_cons_succ]
        refine wpAnyH_take (i := 12) (v := undef) rfl (by kernel_rfl) (by kernel_rfl) (by kernel_rfl) (fun _ _ _ h => h) (Or.inr ⟨by kernel_rfl, rfl⟩) hS ?_
        try simp only [Act.put, List.getElem_toArray, List.getElem_cons_succ, List.getElem_cons_zero, List.setIfInBounds_toArray, List.set_cons_zero, List.set_cons_succ]
        refine wpAnyH_take (i := 13) (v := undef) rfl (by kernel_rfl) (by kernel_rfl) (by kernel_rfl) (fun _ _ _ h => h) (Or.inr ⟨by kernel_rfl, rfl⟩) hS ?_
        try simp only [Act.put, List.getElem_toArray, List.getElem_cons_succ, List.getElem_cons_zero, List.setIfInBounds_toArray, List.set_cons_zero, List.set_cons_succ]
        refine wpAnyH_take (i := 14) (v := undef) rfl (by kernel_rfl) (by kernel_rfl) (by kernel_rfl) (fun _ _ _ h => h) (Or.inr ⟨by kernel_rfl, rfl⟩) hS ?_
        try simp only [Act.put, List.getElem_toArray, List.getElem_cons_succ, List.getElem_cons_zero, List.setIfInBounds_toArray, List.set_cons_zero, List.set_cons_succ]
        refine wpAnyH_take (i := 15) (v := undef) rfl (by kernel_rfl) (by kernel_rfl) (by kernel_rfl) (fun _ _ _ h => h) (Or.inr ⟨by kernel_rfl, rfl⟩) hS ?_
        try simp only [Act.put, List.getElem_toArray, List.getElem_cons_succ, List.getElem_cons_zero, List.setIfInBounds_toArray, List.set_cons_zero, List.set_cons_succ]
        refine wpAnyH_take (i := 16) (v := undef) rfl (by kernel_rfl) (by kernel_rfl) (by kernel_rfl) (fun _ _ _ h => h) (Or.inr ⟨by kernel_rfl, rfl⟩) hS ?_
        try simp only [Act.put, List.getElem_toArray, List.getElem_cons_succ, List.getElem_cons_zero, List.setIfInBounds_toArray, List.set_cons_zero, List.set_cons_succ]
        refine wpAnyH_take (i := 17) (v := undef) rfl (by kernel_rfl) (by kernel_rfl) (by kernel_rfl) (fun _ _ _ h => h) (Or.inr ⟨by kernel_rfl, rfl⟩) hS ?_
        try simp only [Act.put, List.getElem_toArray, List.getElem_cons_succ, List.getElem_cons_zero, List.setIfInBounds_toArray, List.set_cons_zero, List.set_cons_succ]
        refine wpAnyH_take (i := 18) (v := undef) rfl (by kernel_rfl) (by kernel_rfl) (by kernel_rfl) (fun _ _ _ h => h) (Or.inr ⟨by kernel_rfl, rfl⟩) hS ?_
        try simp only [Act.put, List.getElem_toArray, List.getElem_cons_succ, List.getElem_cons_zero, List.setIfInBounds_toArray, List.set_cons_zero, List.set_cons_succ]
        refine wpAnyH_take (i := 19) (v := undef) rfl (by kernel_rfl) (by kernel_rfl) (by kernel_rfl) (fun _ _ _ h => h) (Or.inr ⟨by kernel_rfl, rfl⟩) hS ?_
        try simp only [Act.put, List.getElem_toArray, List.getElem_cons_succ, List.getElem_cons_zero, List.setIfInBounds_toArray, List.set_cons_zero, List.set_cons_succ]
        refine wpAnyH_take (i := 20) (v := undef) rfl (by kernel_rfl) (by kernel_rfl) (by kernel_rfl) (fun _ _ _ h => h) (Or.inr ⟨by kernel_rfl, rfl⟩) hS ?_
        try simp only [Act.put, List.getElem_toArray, List.getElem_cons_succ, List.getElem_cons_zero, List.setIfInBounds_toArray, List.set_cons_zero, List.set_cons_succ]
        refine wpAnyH_take (i := 21) (v := undef) rfl (by kernel_rfl) (by kernel_rfl) (by kernel_rfl) (fun _ _ _ h => h) (Or.inr ⟨by kernel_rfl, rfl⟩) hS ?_
        try simp only [Act.put, List.getElem_toArray, List.getElem_cons_succ, List.getElem_cons_zero, List.setIfInBounds_toArray, List.set_cons_zero, List.set_cons_succ]
        refine wpAnyH_take (i := 22) (v := .bool true) rfl (by kernel_rfl) (by kernel_rfl) (by kernel_rfl) (fun _ _ _ h => h) (Or.inl ⟨by kernel_rfl, ?_⟩) hS ?_
        · intro w' hSw
          go_simp
        try simp only [Act.put, List.getElem_toArray, List.getElem_cons_succ, List.getElem_cons_zero, List.setIfInBounds_toArray, List.set_cons_zero, List.set_cons_succ]
        refine wpAnyH_take (i := 23) (v := .bool true) rfl (by kernel_rfl) (by kernel_rfl) (by kernel_rfl) (fun _ _ _ h => h) (Or.inl ⟨by kernel_rfl, ?_⟩) hS ?_
        · intro w' hSw
          go_simp
        try simp only [Act.put, List.getElem_toArray, List.getElem_cons_succ, List.getElem_cons_zero, List.setIfInBounds_toArray, List.set_cons_zero, List.set_cons_succ]
        refine wpAnyH_done (by kernel_rfl) ?_ _
        try simp only [zzP]
        go_wp2_with fail
        go_ret
        exact ⟨rfl, HB11.out.drewX _⟩
      subst hg hk
      obtain ⟨YX, hyx, hxx, hlt9, hle9⟩ : ∃ YX : List UInt8, YL w11 YX Ay nx cy ∧ YL w11 YX Ax nx cx ∧ nx < ny ∧ ny ≤ cy := by
        rcases H10.out with ⟨x, h1, _, _, h2⟩ | ⟨_, h1, _⟩
        rotate_left
        · exact absurd rfl h1
        rcases hres11 with ⟨y, h3, _, _, h4⟩ | ⟨_, h3, _⟩
        rotate_left
        · exact absurd rfl h3
        obtain ⟨l', rfl⟩ := showD_more h1 h3
        have hxl := h2.len
        have hyl := h4.len
        have hlen : 0 < (lineD s l').length := by simp [lineD]; omega
        rw [List.length_append] at hyl
        refine ⟨x, ?_, h2.yl.keep hb11, by dsimp only at hlen hyl ⊢; omega, h4.yl.le⟩
        have := h4.yl.cut (m := nx) (by dsimp only at hlen hyl ⊢; omega)
        rwa [List.take_append_of_le_length (by omega), List.take_of_length_le (by omega)] at this
      obtain ⟨X, hX⟩ : ∃ X : ByteArray, X = ⟨YX.toArray⟩ := ⟨_, rfl⟩
      have HYX := Lib.hid (And.intro hX (And.intro hyx hxx))
      have hxc := hxx.le
      have hn0 : (0 : Int) ≤ (nx : Int) := by omega
      have hn1 : (nx : Int) < (ny : Int) := by omega
      have hn2 : (nx : Int) ≤ (cy : Int) := by omega
      have dn : decide ((nx : Int) < (ny : Int)) = true := by simpa using hn1
      clear hX hyx hxx hres11 hb11 H10 HE HB10 HD10
      go_wp2_with fail
      have HKS : Hid (∀ w' : World, Below w11.heap.size w11 w' → (fun w' => (convert 29 9 (.slice Ay nx cy)).run Tryd.prog w' = .ok (.string X) w' ∧ (convert 29 9 (.slice Ax nx cx)).run Tryd.prog w' = .ok (.string X) w') w') := Lib.hid fun w' h => ⟨by rw [HYX.out.1]; exact run_string (HYX.out.2.1.keep h), by rw [HYX.out.1]; exact run_string (HYX.out.2.2.keep h)⟩
      have hbd : Below w11.heap.size w11 w11.drew := (Below.refl _ w11).drew
      refine zzR HKS hbd (fun hS => ?_)
      simp only [List.size_toArray, List.length_cons, List.length_nil, Nat.reduceAdd]
      refine wpAnyH_take (i := 0) (v := .int .i64 0) rfl (by kernel_rfl) (by kernel_rfl) (by kernel_rfl) (fun _ _ _ h => h) (Or.inl ⟨by kernel_rfl, ?_⟩) hS ?_
      · intro w' hSw
        obtain ⟨s0, s1⟩ := hSw
        go_simp
      try simp only [Act.put, List.getElem_toArray, List.getElem_cons_zero, List.setIfInBounds_toArray, List.set_cons_zero, List.set_cons_succ]
      refine wpAnyH_take (i := 1) (v := .bool false) rfl (by kernel_rfl) (by kernel_rfl) (by kernel_rfl) (fun _ _ _ h => h) (Or.inl ⟨by kernel_rfl, ?_⟩) hS ?_
      · intro w' hSw
        obtain ⟨s0, s1⟩ := hSw
        go_simp
      try simp only [Act.put, List.getElem_toArray, List.getElem_cons_succ, List.getElem_cons_zero, List.setIfInBounds_toArray, List.set_cons_zero, List.set_cons_succ]
      refine wpAnyH_take (i := 2) (v := .bool false) rfl (by kernel_rfl) (by kernel_rfl) (by kernel_rfl) (fun _ _ _ h => h) (Or.inl ⟨by kernel_rfl, ?_⟩) hS ?_
      · intro w' hSw
        obtain ⟨s0, s1⟩ := hSw
        go_simp
      try simp only [Act.put, List.getElem_toArray, List.getElem_cons_succ, List.getElem_cons_zero, List.setIfInBounds_toArray, List.set_cons_zero, List.set_cons_succ]
      refine wpAnyH_take (i := 3) (v := .int .i64 0) rfl (by kernel_rfl) (by kernel_rfl) (by kernel_rfl) (fun _ _ _ h => h) (Or.inl ⟨by kernel_rfl, ?_⟩) hS ?_
      · intro w' hSw
        obtain ⟨s0, s1⟩ := hSw
        go_simp
      try simp only [Act.put, List.getElem_toArray, List.getElem_cons_succ, List.getElem_cons_zero, List.setIfInBounds_toArray, List.set_cons_zero, List.set_cons_succ]
      refine wpAnyH_take (i := 4) (v := .bool false) rfl (by kernel_rfl) (by kernel_rfl) (by kernel_rfl) (fun _ _ _ h => h) (Or.inl ⟨by kernel_rfl, ?_⟩) hS ?_
      · intro w' hSw
        obtain ⟨s0, s1⟩ := hSw
        go_simp
      try simp only [Act.put, List.getElem_toArray, List.getElem_cons_succ, List.getElem_cons_zero, List.setIfInBounds_toArray, List.set_cons_zero, List.set_cons_succ]
      refine wpAnyH_take (i := 5) (v := .bool false) rfl (by kernel_rfl) (by kernel_rfl) (by kernel_rfl) (fun _ _ _ h => h) (Or.inl ⟨by kernel_rfl, ?_⟩) hS ?_
      · intro w' hSw
        obtain ⟨s0, s1⟩ := hSw
        go_simp
      try simp only [Act.put, List.getElem_toArray, List.getElem_cons_succ, List.getElem_cons_zero, List.setIfInBounds_toArray, List.set_cons_zero, List.set_cons_succ]
      refine wpAnyH_take (i := 6) (v := .bool false) rfl (by kernel_rfl) (by kernel_rfl) (by kernel_rfl) (fun _ _ _ h => h) (Or.inl ⟨by kernel_rfl, ?_⟩) hS ?_
      · intro w' hSw
        obtain ⟨s0, s1⟩ := hSw
        go_simp
      try simp only [Act.put, List.getElem_toArray, List.getElem_cons_succ, List.getElem_cons_zero, List.setIfInBounds_toArray, List.set_cons_zero, List.set_cons_succ]
      refine wpAnyH_take (i := 7) (v := .slice Ay ny cy) rfl (by kernel_rfl) (by kernel_rfl) (by kernel_rfl) (fun _ _ _ h => h) (Or.inl ⟨by kernel_rfl, ?_⟩) hS ?_
      · intro w' hSw
        obtain ⟨s0, s1⟩ := hSw
        go_simp
      try simp only [Act.put, List.getElem_toArray, List.getElem_cons_succ, List.getElem_cons_zero, List.setIfInBounds_toArray, List.set_cons_zero, List.set_cons_succ]
      refine wpAnyH_take (i := 8) (v := .int .i64 (ny : Nat)) rfl (by kernel_rfl) (by kernel_rfl) (by kernel_rfl) (fun _ _ _ h => h) (Or.inl ⟨by kernel_rfl, ?_⟩) hS ?_
      · intro w' hSw
        obtain ⟨s0, s1⟩ := hSw
        go_simp
      try simp only [Act.put, List.getElem_toArray, List.getElem_cons_succ, List.getElem_cons_zero, List.setIfInBounds_toArray, List.set_cons_zero, List.set_cons_succ]
      refine wpAnyH_take (i := 9) (v := .slice Ax nx cx) rfl (by kernel_rfl) (by kernel_rfl) (by kernel_rfl) (fun _ _ _ h => h) (Or.inl ⟨by kernel_rfl, ?_⟩) hS ?_
      · intro w' hSw
        obtain ⟨s0, s1⟩ := hSw
        go_simp
      try simp only [Act.put, List.getElem_toArray, List.getElem_cons_succ, List.getElem_cons_zero, List.setIfInBounds_toArray, List.set_cons_zero, List.set_cons_succ]
      refine wpAnyH_take (i := 10) (v := .int .i64 (nx : Nat)) rfl (by kernel_rfl) (by kernel_rfl) (by kernel_rfl) (fun _ _ _ h => h) (Or.inl ⟨by kernel_rfl, ?_⟩) hS ?_
      · intro w' hSw
        obtain ⟨s0, s1⟩ := hSw
        go_simp
      try simp only [Act.put, List.getElem_toArray, List.getElem_cons_succ, List.getElem_cons_zero, List.setIfInBounds_toArray, List.set_cons_zero, List.set_cons_succ]
      refine wpAnyH_take (i := 11) (v := .bool true) rfl (by kernel_rfl) (by kernel_rfl) (by kernel_rfl) (fun _ _ _ h => h) (Or.inl ⟨by kernel_rfl, ?_⟩) hS ?_
      · intro w' hSw
        obtain ⟨s0, s1⟩ := hSw
        go_simp
      try simp only [Act.put, List.getElem_toArray, List.getElem_cons_succ, List.getElem_cons_zero, List.setIfInBounds_toArray, List.set_cons_zero, List.set_cons_succ]
      refine wpAnyH_take (i := 12) (v := .bool true) rfl (by kernel_rfl) (by kernel_rfl) (by kernel_rfl) (fun _ _ _ h => h) (Or.inl ⟨by kernel_rfl, ?_⟩) hS ?_
      · intro w' hSw
        obtain ⟨s0, s1⟩ := hSw
        go_simp
      try simp only [Act.put, List.getElem_toArray, List.getElem_cons_succ, List.getElem_cons_zero, List.setIfInBounds_toArray, List.set_cons_zero, List.set_cons_succ]
      refine wpAnyH_take (i := 13) (v := .slice Ay ny cy) rfl (by kernel_rfl) (by kernel_rfl) (by kernel_rfl) (fun _ _ _ h => h) (Or.inl ⟨by kernel_rfl, ?_⟩) hS ?_
      · intro w' hSw
        obtain ⟨s0, s1⟩ := hSw
        go_simp
      try simp only [Act.put, List.getElem_toArray, List.getElem_cons_succ, List.getElem_cons_zero, List.setIfInBounds_toArray, List.set_cons_zero, List.set_cons_succ]
      refine wpAnyH_take (i := 14) (v := .slice Ax nx cx) rfl (by kernel_rfl) (by kernel_rfl) (by kernel_rfl) (fun _ _ _ h => h) (Or.inl ⟨by kernel_rfl, ?_⟩) hS ?_
      · intro w' hSw
        obtain ⟨s0, s1⟩ := hSw
        go_simp
      try simp only [Act.put, List.getElem_toArray, List.getElem_cons_succ, List.getElem_cons_zero, List.setIfInBounds_toArray, List.set_cons_zero, List.set_cons_succ]
      refine wpAnyH_take (i := 15) (v := .int .i64 (nx : Nat)) rfl (by kernel_rfl) (by kernel_rfl) (by kernel_rfl) (fun _ _ _ h => h) (Or.inl ⟨by kernel_rfl, ?_⟩) hS ?_
      · intro w' hSw
        obtain ⟨s0, s1⟩ := hSw
        go_simp
      try simp only [Act.put, List.getElem_toArray, List.getElem_cons_succ, List.getElem_cons_zero, List.setIfInBounds_toArray, List.set_cons_zero, List.set_cons_succ]
      refine wpAnyH_take (i := 16) (v := .slice Ay nx cy) rfl (by kernel_rfl) (by kernel_rfl) (by kernel_rfl) (fun _ _ _ h => h) (Or.inl ⟨by kernel_rfl, ?_⟩) hS ?_
      · intro w' hSw
        obtain ⟨s0, s1⟩ := hSw
        go_simp
      try simp only [Act.put, List.getElem_toArray, List.getElem_cons_succ, List.getElem_cons_zero, List.setIfInBounds_toArray, List.set_cons_zero, List.set_cons_succ]
      refine wpAnyH_take (i := 17) (v := .string X) rfl (by kernel_rfl) (by kernel_rfl) (by kernel_rfl) (fun _ _ _ h => h) (Or.inl ⟨by kernel_rfl, ?_⟩) hS ?_
      · intro w' hSw
        obtain ⟨s0, s1⟩ := hSw
        go_simp
      try simp only [Act.put, List.getElem_toArray, List.getElem_cons_succ, List.getElem_cons_zero, List.setIfInBounds_toArray, List.set_cons_zero, List.set_cons_succ]
      refine wpAnyH_take (i := 18) (v := .slice Ax nx cx) rfl (by kernel_rfl) (by kernel_rfl) (by kernel_rfl) (fun _ _ _ h => h) (Or.inl ⟨by kernel_rfl, ?_⟩) hS ?_
      · intro w' hSw
        obtain ⟨s0, s1⟩ := hSw
        go_simp
      try simp only [Act.put, List.getElem_toArray, List.getElem_cons_succ, List.getElem_cons_zero, List.setIfInBounds_toArray, List.set_cons_zero, List.set_cons_succ]
      refine wpAnyH_take (i := 19) (v := .string X) rfl (by kernel_rfl) (by kernel_rfl) (by kernel_rfl) (fun _ _ _ h => h) (Or.inl ⟨by kernel_rfl, ?_⟩) hS ?_
      · intro w' hSw
        obtain ⟨s0, s1⟩ := hSw
        go_simp
      try simp only [Act.put, List.getElem_toArray, List.getElem_cons_succ, List.getElem_cons_zero, List.setIfInBounds_toArray, List.set_cons_zero, List.set_cons_succ]
      refine wpAnyH_take (i := 20) (v := .bool true) rfl (by kernel_rfl) (by kernel_rfl) (by kernel_rfl) (fun _ _ _ h => h) (Or.inl ⟨by kernel_rfl, ?_⟩) hS ?_
      · intro w' hSw
        obtain ⟨s0, s1⟩ := hSw
        go_simp
      try simp only [Act.put, List.getElem_toArray, List.getElem_cons_succ, List.getElem_cons_zero, List.setIfInBounds_toArray, List.set_cons_zero, List.set_cons_succ]
      refine wpAnyH_take (i := 21) (v := .bool true) rfl (by kernel_rfl) (by kernel_rfl) (by kernel_rfl) (fun _ _ _ h => h) (Or.inl ⟨by kernel_rfl, ?_⟩) hS ?_
      · intro w' hSw
        obtain ⟨s0, s1⟩ := hSw
        go_simp
      try simp only [Act.put, List.getElem_toArray, List.getElem_cons_succ, List.getElem_cons_zero, List.setIfInBounds_toArray, List.set_cons_zero, List.set_cons_succ]
      refine wpAnyH_take (i := 22) (v := .bool true) rfl (by kernel_rfl) (by kernel_rfl) (by kernel_rfl) (fun _ _ _ h => h) (Or.inl ⟨by kernel_rfl, ?_⟩) hS ?_
      · intro w' hSw
        obtain ⟨s0, s1⟩ := hSw
        go_simp
      try simp only [Act.put, List.getElem_toArray, List.getElem_cons_succ, List.getElem_cons_zero, List.setIfInBounds_toArray, List.set_cons_zero, List.set_cons_succ]
      refine wpAnyH_take (i := 23) (v := .bool true) rfl (by kernel_rfl) (by kernel_rfl) (by kernel_rfl) (fun _ _ _ h => h) (Or.inl ⟨by kernel_rfl, ?_⟩) hS ?_
      · intro w' hSw
        obtain ⟨s0, s1⟩ := hSw
        go_simp
      try simp only [Act.put, List.getElem_toArray, List.getElem_cons_succ, List.getElem_cons_zero, List.setIfInBounds_toArray, List.set_cons_zero, List.set_cons_succ]
      refine wpAnyH_done (by kernel_rfl) ?_ _
      try simp only [zzP]
      go_wp2_with fail
      go_ret
      exact ⟨rfl, HB11.out.drewX _⟩

    · have hcv8 := run_string hy8
      have hcv9 := run_string hy9
      obtain ⟨tx, htx⟩ : ∃ tx : ByteArray, (⟨l.toArray⟩ : ByteArray) = tx := ⟨_, rfl⟩
      rw [htx] at hcv8 hcv9
      clear htx hy8 hy9
      go_wp2_with fail
      clear hcv8 hcv9
      refine HC.out.mono ?_
      rintro e w10 ⟨hb10, Ax, nx, cx, g, rfl, hres10⟩
      have HB10 := Lib.hid (HB9.out.trans (hb10.mono HB9.out.size))
      have HD10 := Lib.hid (HD9.out.keep hb10)
      have HE := Lib.hid (sDeclsC (ds ++ [(s, td)]) (some ⟨g7, 0, none⟩) (sn + 1) cap7 w10 HD10.out HS7.out (by rw [List.length_append, List.length_singleton]; omega))
      have H10 := Lib.hid hres10
      clear HC hb10 hres10 HB9 HD9
      go_wp2_with fail
      refine HE.out.mono ?_
      rintro e w11 ⟨hb11, Ay, ny, cy, hh, rfl, hres11⟩
      have HB11 := Lib.hid (HB10.out.trans (hb11.mono HB10.out.size))
      by_cases hg : g = 0
      rotate_left
      · have dg : (g == 0) = false := by simpa using hg
        clear hres11 hb11 H10 HE HB10 HD10
        go_wp2_with fail
        have HKS : Hid (∀ w' : World, Below w11.heap.size w11 w' → (fun _ => True) w') := Lib.hid fun w' h => trivial
        have hbd : Below w11.heap.size w11 w11.drew := (Below.refl _ w11).drew
        refine zzR HKS hbd (fun hS => ?_)
        simp only [List.size_toArray, List.length_cons, List.length_nil, Nat.reduceAdd]
        refine wpAnyH_take (i := 0) (v := .int .i64 g) rfl (by kernel_rfl) (by kernel_rfl) (by kernel_rfl) (fun _ _ _ h => h) (Or.inl ⟨by kernel_rfl, ?_⟩) hS ?_
        · intro w' hSw
          go_simp
        try simp only [Act.put, List.getElem_toArray, List.getElem_cons_zero, List.setIfInBounds_toArray, List.set_cons_zero, List.set_cons_succ]
        refine wpAnyH_take (i := 1) (v := .bool true) rfl (by kernel_rfl) (by kernel_rfl) (by kernel_rfl) (fun _ _ _ h => h) (Or.inl ⟨by kernel_rfl, ?_⟩) hS ?_
        · intro w' hSw
          go_simp
        try simp only [Act.put, List.getElem_toArray, List.getElem_cons_succ, List.getElem_cons_zero, List.setIfInBounds_toArray, List.set_cons_zero, List.set_cons_succ]
        refine wpAnyH_take (i := 2) (v := .bool true) rfl (by kernel_rfl) (by kernel_rfl) (by kernel_rfl) (fun _ _ _ h => h) (Or.inl ⟨by kernel_rfl, ?_⟩) hS ?_
        · intro w' hSw
          go_simp
        try simp only [Act.put, List.getElem_toArray, List.getElem_cons_succ, List.getElem_cons_zero, List.setIfInBounds_toArray, List.set_cons_zero, List.set_cons_succ]
        refine wpAnyH_take (i := 3) (v := undef) rfl (by kernel_rfl) (by kernel_rfl) (by kernel_rfl) (fun _ _ _ h => h) (Or.inr ⟨by kernel_rfl, rfl⟩) hS ?_
        try simp only [Act.put, List.getElem_toArray, List.getElem_cons_succ, List.getElem_cons_zero, List.setIfInBounds_toArray, List.set_cons_zero, List.set_cons_succ]
        refine wpAnyH_take (i := 4) (v := undef) rfl (by kernel_rfl) (by kernel_rfl) (by kernel_rfl) (fun _ _ _ h => h) (Or.inr ⟨by kernel_rfl, rfl⟩) hS ?_
        try simp only [Act.put, List.getElem_toArray, List.getElem_cons_succ, List.getElem_cons_zero, List.setIfInBounds_toArray, List.set_cons_zero, List.set_cons_succ]
        refine wpAnyH_take (i := 5) (v := .bool true) rfl (by kernel_rfl) (by kernel_rfl) (by kernel_rfl) (fun _ _ _ h => h) (Or.inl ⟨by kernel_rfl, ?_⟩) hS ?_
        · intro w' hSw
          go_simp
        try simp only [Act.put, List.getElem_toArray, List.getElem_cons_succ, List.getElem_cons_zero, List.setIfInBounds_toArray, List.set_cons_zero, List.set_cons_succ]
        refine wpAnyH_take (i := 6) (v := .bool true) rfl (by kernel_rfl) (by kernel_rfl) (by kernel_rfl) (fun _ _ _ h => h) (Or.inl ⟨by kernel_rfl, ?_⟩) hS ?_
        · intro w' hSw
          go_simp
        try simp only [Act.put, List.getElem_toArray, List.getElem_cons_succ, List.getElem_cons_zero, List.setIfInBounds_toArray, List.set_cons_zero, List.set_cons_succ]
        refine wpAnyH_take (i := 7) (v := undef) rfl (by kernel_rfl) (by kernel_rfl) (by kernel_rfl) (fun _ _ _ h => h) (Or.inr ⟨by kernel_rfl, rfl⟩) hS ?_
        try simp only [Act.put, List.getElem_toArray, List.getElem_cons_succ, List.getElem_cons_zero, List.setIfInBounds_toArray, List.set_cons_zero, List.set_cons_succ]
        refine wpAnyH_take (i := 8) (v := undef) rfl (by kernel_rfl) (by kernel_rfl) (by kernel_rfl) (fun _ _ _ h => h) (Or.inr ⟨by kernel_rfl, rfl⟩) hS ?_
        try simp only [Act.put, List.getElem_toArray, List.getElem_cons_succ, List.getElem_cons_zero, List.setIfInBounds_toArray, List.set_cons_zero, List.set_cons_succ]
        refine wpAnyH_take (i := 9) (v := undef) rfl (by kernel_rfl) (by kernel_rfl) (by kernel_rfl) (fun _ _ _ h => h) (Or.inr ⟨by kernel_rfl, rfl⟩) hS ?_
        try simp only [Act.put, List.getElem_toArray, List.getElem_cons_succ, List.getElem_cons_zero, List.setIfInBounds_toArray, List.set_cons_zero, List.set_cons_succ]
        refine wpAnyH_take (i := 10) (v := undef) rfl (by kernel_rfl) (by kernel_rfl) (by kernel_rfl) (fun _ _ _ h => h) (Or.inr ⟨by kernel_rfl, rfl⟩) hS ?_
        try simp only [Act.put, List.getElem_toArray, List.getElem_cons_succ, List.getElem_cons_zero, List.setIfInBounds_toArray, List.set_cons_zero, List.set_cons_succ]
        refine wpAnyH_take (i := 11) (v := undef) rfl (by kernel_rfl) (by kernel_rfl) (by kernel_rfl) (fun _ _ _ h => h) (Or.inr ⟨by kernel_rfl, rfl⟩) hS ?_
        try simp only [Act.put, List.getElem_toArray, List.getElem_cons_succ, List.getElem_cons_zero, List.setIfInBounds_toArray, List.set_cons_zero, List.set_cons_succ]
        refine wpAnyH_take (i := 12) (v := undef) rfl (by kernel_rfl) (by kernel_rfl) (by kernel_rfl) (fun _ _ _ h => h) (Or.inr ⟨by kernel_rfl, rfl⟩) hS ?_
        try simp only [Act.put, List.getElem_toArray, List.getElem_cons_succ, List.getElem_cons_zero, List.setIfInBounds_toArray, List.set_cons_zero, List.set_cons_succ]
        refine wpAnyH_take (i := 13) (v := undef) rfl (by kernel_rfl) (by kernel_rfl) (by kernel_rfl) (fun _ _ _ h => h) (Or.inr ⟨by kernel_rfl, rfl⟩) hS ?_
        try simp only [Act.put, List.getElem_toArray, List.getElem_cons_succ, List.getElem_cons_zero, List.setIfInBounds_toArray, List.set_cons_zero, List.set_cons_succ]
        refine wpAnyH_take (i := 14) (v := undef) rfl (by kernel_rfl) (by kernel_rfl) (by kernel_rfl) (fun _ _ _ h => h) (Or.inr ⟨by kernel_rfl, rfl⟩) hS ?_
        try simp only [Act.put, List.getElem_toArray, List.getElem_cons_succ, List.getElem_cons_zero, List.setIfInBounds_toArray, List.set_cons_zero, List.set_cons_succ]
        refine wpAnyH_take (i := 15) (v := undef) rfl (by kernel_rfl) (by kernel_rfl) (by kernel_rfl) (fun _ _ _ h => h) (Or.inr ⟨by kernel_rfl, rfl⟩) hS ?_
        try simp only [Act.put, List.getElem_toArray, List.getElem_cons_succ, List.getElem_cons_zero, List.setIfInBounds_toArray, List.set_cons_zero, List.set_cons_succ]
        refine wpAnyH_take (i := 16) (v := undef) rfl (by kernel_rfl) (by kernel_rfl) (by kernel_rfl) (fun _ _ _ h => h) (Or.inr ⟨by kernel_rfl, rfl⟩) hS ?_
        try simp only [Act.put, List.getElem_toArray, List.getElem_cons_succ, List.getElem_cons_zero, List.setIfInBounds_toArray, List.set_cons_zero, List.set_cons_succ]
        refine wpAnyH_take (i := 17) (v := undef) rfl (by kernel_rfl) (by kernel_rfl) (by kernel_rfl) (fun _ _ _ h => h) (Or.inr ⟨by kernel_rfl, rfl⟩) hS ?_
        try simp only [Act.put, List.getElem_toArray, List.getElem_cons_succ, List.getElem_cons_zero, List.setIfInBounds_toArray, List.set_cons_zero, List.set_cons_succ]
        refine wpAnyH_take (i := 18) (v := undef) rfl (by kernel_rfl) (by kernel_rfl) (by kernel_rfl) (fun _ _ _ h => h) (Or.inr ⟨by kernel_rfl, rfl⟩) hS ?_
        try simp only [Act.put, List.getElem_toArray, List.getElem_cons_succ, List.getElem_cons_zero, List.setIfInBounds_toArray, List.set_cons_zero, List.set_cons_succ]
        refine wpAnyH_take (i := 19) (v := undef) rfl (by kernel_rfl) (by kernel_rfl) (by kernel_rfl) (fun _ _ _ h => h) (Or.inr ⟨by kernel_rfl, rfl⟩) hS ?_
        try simp only [Act.put, List.getElem_toArray, List.getElem_cons_succ, List.getElem_cons_zero, List.setIfInBounds_toArray, List.set_cons_zero, List.set_cons_succ]
        refine wpAnyH_take (i := 20) (v := undef) rfl (by kernel_rfl) (by kernel_rfl) (by kernel_rfl) (fun _ _ _ h => h) (Or.inr ⟨by kernel_rfl, rfl⟩) hS ?_
        try simp only [Act.put, List.getElem_toArray, List.getElem_cons_succ, List.getElem_cons_zero, List.setIfInBounds_toArray, List.set_cons_zero, List.set_cons_succ]
        refine wpAnyH_take (i := 21) (v := undef) rfl (by kernel_rfl) (by kernel_rfl) (by kernel_rfl) (fun _ _ _ h => h) (Or.inr ⟨by kernel_rfl, rfl⟩) hS ?_
        try simp only [Act.put, List.getElem_toArray, List.getElem_cons_succ, List.getElem_cons_zero, List.setIfInBounds_toArray, List.set_cons_zero, List.set_cons_succ]
        refine wpAnyH_take (i := 22) (v := .bool true) rfl (by kernel_rfl) (by kernel_rfl) (by kernel_rfl) (fun _ _ _ h => h) (Or.inl ⟨by kernel_rfl, ?_⟩) hS ?_
        · intro w' hSw
          go_simp
        try simp only [Act.put, List.getElem_toArray, List.getElem_cons_succ, List.getElem_cons_zero, List.setIfInBounds_toArray, List.set_cons_zero, List.set_cons_succ]
        refine wpAnyH_take (i := 23) (v := .bool true) rfl (by kernel_rfl) (by kernel_rfl) (by kernel_rfl) (fun _ _ _ h => h) (Or.inl ⟨by kernel_rfl, ?_⟩) hS ?_
        · intro w' hSw
          go_simp
        try simp only [Act.put, List.getElem_toArray, List.getElem_cons_succ, List.getElem_cons_zero, List.setIfInBounds_toArray, List.set_cons_zero, List.set_cons_succ]
        refine wpAnyH_done (by kernel_rfl) ?_ _
        try simp only [zzP]
        go_wp2_with fail
        go_ret
        exact ⟨rfl, HB11.out.drewX _⟩
      by_cases hk : hh = 0
      rotate_left
      · have dh : (hh == 0) = false := by simpa using hk
        subst hg
        clear hres11 hb11 H10 HE HB10 HD10
        go_wp2_with fail
        have HKS : Hid (∀ w' : World, Below w11.heap.size w11 w' → (fun _ => True) w') := Lib.hid fun w' h => trivial
        have hbd : Below w11.heap.size w11 w11.drew := (Below.refl _ w11).drew
        refine zzR HKS hbd (fun hS => ?_)
        simp only [List.size_toArray, List.length_cons, List.length_nil, Nat.reduceAdd]
        refine wpAnyH_take (i := 0) (v := .int .i64 0) rfl (by kernel_rfl) (by kernel_rfl) (by kernel_rfl) (fun _ _ _ h => h) (Or.inl ⟨by kernel_rfl, ?_⟩) hS ?_
        · intro w' hSw
          go_simp
        try simp only [Act.put, List.getElem_toArray, List.getElem_cons_zero, List.setIfInBounds_toArray, List.set_cons_zero, List.set_cons_succ]
        refine wpAnyH_take (i := 1) (v := .bool false) rfl (by kernel_rfl) (by kernel_rfl) (by kernel_rfl) (fun _ _ _ h => h) (Or.inl ⟨by kernel_rfl, ?_⟩) hS ?_
        · intro w' hSw
          go_simp
        try simp only [Act.put, List.getElem_toArray, List.getElem_cons_succ, List.getElem_cons_zero, List.setIfInBounds_toArray, List.set_cons_zero, List.set_cons_succ]
        refine wpAnyH_take (i := 2) (v := .bool false) rfl (by kernel_rfl) (by kernel_rfl) (by kernel_rfl) (fun _ _ _ h => h) (Or.inl ⟨by kernel_rfl, ?_⟩) hS ?_
        · intro w' hSw
          go_simp
        try simp only [Act.put, List.getElem_toArray, List.getElem_cons_succ, List.getElem_cons_zero, List.setIfInBounds_toArray, List.set_cons_zero, List.set_cons_succ]
        refine wpAnyH_take (i := 3) (v := .int .i64 hh) rfl (by kernel_rfl) (by kernel_rfl) (by kernel_rfl) (fun _ _ _ h => h) (Or.inl ⟨by kernel_rfl, ?_⟩) hS ?_
        · intro w' hSw
          go_simp
        try simp only [Act.put, List.getElem_toArray, List.getElem_cons_succ, List.getElem_cons_zero, List.setIfInBounds_toArray, List.set_cons_zero, List.set_cons_succ]
        refine wpAnyH_take (i := 4) (v := .bool true) rfl (by kernel_rfl) (by kernel_rfl) (by kernel_rfl) (fun _ _ _ h => h) (Or.inl ⟨by kernel_rfl, ?_⟩) hS ?_
        · intro w' hSw
          go_simp
        try simp only [Act.put, List.getElem_toArray, List.getElem_cons_succ, List.getElem_cons_zero, List.setIfInBounds_toArray, List.set_cons_zero, List.set_cons_succ]
        refine wpAnyH_take (i := 5) (v := .bool true) rfl (by kernel_rfl) (by kernel_rfl) (by kernel_rfl) (fun _ _ _ h => h) (Or.inl ⟨by kernel_rfl, ?_⟩) hS ?_
        · intro w' hSw
          go_simp
        try simp only [Act.put, List.getElem_toArray, List.getElem_cons_succ, List.getElem_cons_zero, List.setIfInBounds_toArray, List.set_cons_zero, List.set_cons_succ]
        refine wpAnyH_take (i := 6) (v := .bool true) rfl (by kernel_rfl) (by kernel_rfl) (by kernel_rfl) (fun _ _ _ h => h) (Or.inl ⟨by kernel_rfl, ?_⟩) hS ?_
        · intro w' hSw
          go_simp
        try simp only [Act.put, List.getElem_toArray, List.getElem_cons_succ, List.getElem_cons_zero, List.setIfInBounds_toArray, List.set_cons_zero, List.set_cons_succ]
        refine wpAnyH_take (i := 7) (v := undef) rfl (by kernel_rfl) (by kernel_rfl) (by kernel_rfl) (fun _ _ _ h => h) (Or.inr ⟨by kernel_rfl, rfl⟩) hS ?_
        try simp only [Act.put, List.getElem_toArray, List.getElem_cons_succ, List.getElem_cons_zero, List.setIfInBounds_toArray, List.set_cons_zero, List.set_cons_succ]
        refine wpAnyH_take (i := 8) (v := undef) rfl (by kernel_rfl) (by kernel_rfl) (by kernel_rfl) (fun _ _ _ h => h) (Or.inr ⟨by kernel_rfl, rfl⟩) hS ?_
        try simp only [Act.put, List.getElem_toArray, List.getElem_cons_succ, List.getElem_cons_zero, List.setIfInBounds_toArray, List.set_cons_zero, List.set_cons_succ]
        refine wpAnyH_take (i := 9) (v := undef) rfl (by kernel_rfl) (by kernel_rfl) (by kernel_rfl) (fun _ _ _ h => h) (Or.inr ⟨by kernel_rfl, rfl⟩) hS ?_
        try simp only [Act.put, List.getElem_toArray, List.getElem_cons_succ, List.getElem_cons_zero, List.setIfInBounds_toArray, List.set_cons_zero, List.set_cons_succ]
        refine wpAnyH_take (i := 10) (v := undef) rfl (by kernel_rfl) (by kernel_rfl) (by kernel_rfl) (fun _ _ _ h => h) (Or.inr ⟨by kernel_rfl, rfl⟩) hS ?_
        try simp only [Act.put, List.getElem_toArray, List.getElem_cons_succ, List.getElem_cons_zero, List.setIfInBounds_toArray, List.set_cons_zero, List.set_cons_succ]
        refine wpAnyH_take (i := 11) (v := undef) rfl (by kernel_rfl) (by kernel_rfl) (by kernel_rfl) (fun _ _ _ h => h) (Or.inr ⟨by kernel_rfl, rfl⟩) hS ?_
        try simp only [Act.put, List.getElem_toArray, List.getElem_cons_succ, List.getElem_cons_zero, List.setIfInBounds_toArray, List.set_cons_zero, List.set_cons_succ]
        refine wpAnyH_take (i := 12) (v := undef) rfl (by kernel_rfl) (by kernel_rfl) (by kernel_rfl) (fun _ _ _ h => h) (Or.inr ⟨by kernel_rfl, rfl⟩) hS ?_
        try simp only [Act.put, List.getElem_toArray, List.getElem_cons_succ, List.getElem_cons_zero, List.setIfInBounds_toArray, List.set_cons_zero, List.set_cons_succ]
        refine wpAnyH_take (i := 13) (v := undef) rfl (by kernel_rfl) (by kernel_rfl) (by kernel_rfl) (fun _ _ _ h => h) (Or.inr ⟨by kernel_rfl, rfl⟩) hS ?_
        try simp only [Act.put, List.getElem_toArray, List.getElem_cons_succ, List.getElem_cons_zero, List.setIfInBounds_toArray, List.set_cons_zero, List.set_cons_succ]
        refine wpAnyH_take (i := 14) (v := undef) rfl (by kernel_rfl) (by kernel_rfl) (by kernel_rfl) (fun _ _ _ h => h) (Or.inr ⟨by kernel_rfl, rfl⟩) hS ?_
        try simp only [Act.put, List.getElem_toArray, List.getElem_cons_succ, List.getElem_cons_zero, List.setIfInBounds_toArray, List.set_cons_zero, List.set_cons_succ]
        refine wpAnyH_take (i := 15) (v := undef) rfl (by kernel_rfl) (by kernel_rfl) (by kernel_rfl) (fun _ _ _ h => h) (Or.inr ⟨by kernel_rfl, rfl⟩) hS ?_
        try simp only [Act.put, List.getElem_toArray, List.getElem_cons_succ, List.getElem_cons_zero, List.setIfInBounds_toArray, List.set_cons_zero, List.set_cons_succ]
        refine wpAnyH_take (i := 16) (v := undef) rfl (by kernel_rfl) (by kernel_rfl) (by kernel_rfl) (fun _ _ _ h => h) (Or.inr ⟨by kernel_rfl, rfl⟩) hS ?_
        try simp only [Act.put, List.getElem_toArray, List.getElem_cons_succ, List.getElem_cons_zero, List.setIfInBounds_toArray, List.set_cons_zero, List.set_cons_succ]
        refine wpAnyH_take (i := 17) (v := undef) rfl (by kernel_rfl) (by kernel_rfl) (by kernel_rfl) (fun _ _ _ h => h) (Or.inr ⟨by kernel_rfl, rfl⟩) hS ?_
        try simp only [Act.put, List.getElem_toArray, List.getElem_cons_succ, List.getElem_cons_zero, List.setIfInBounds_toArray, List.set_cons_zero, List.set_cons_succ]
        refine wpAnyH_take (i := 18) (v := undef) rfl (by kernel_rfl) (by kernel_rfl) (by kernel_rfl) (fun _ _ _ h => h) (Or.inr ⟨by kernel_rfl, rfl⟩) hS ?_
        try simp only [Act.put, List.getElem_toArray, List.getElem_cons_succ, List.getElem_cons_zero, List.setIfInBounds_toArray, List.set_cons_zero, List.set_cons_succ]
        refine wpAnyH_take (i := 19) (v := undef) rfl (by kernel_rfl) (by kernel_rfl) (by kernel_rfl) (fun _ _ _ h => h) (Or.inr ⟨by kernel_rfl, rfl⟩) hS ?_
        try simp only [Act.put, List.getElem_toArray, List.getElem_cons_succ, List.getElem_cons_zero, List.setIfInBounds_toArray, List.set_cons_zero, List.set_cons_succ]
        refine wpAnyH_take (i := 20) (v := undef) rfl (by kernel_rfl) (by kernel_rfl) (by kernel_rfl) (fun _ _ _ h => h) (Or.inr ⟨by kernel_rfl, rfl⟩) hS ?_
        try simp only [Act.put, List.getElem_toArray, List.getElem_cons_succ, List.getElem_cons_zero, List.setIfInBounds_toArray, List.set_cons_zero, List.set_cons_succ]
        refine wpAnyH_take (i := 21) (v := undef) rfl (by kernel_rfl) (by kernel_rfl) (by kernel_rfl) (fun _ _ _ h => h) (Or.inr ⟨by kernel_rfl, rfl⟩) hS ?_
        try simp only [Act.put, List.getElem_toArray, List.getElem_cons_succ, List.getElem_cons_zero, List.setIfInBounds_toArray, List.set_cons_zero, List.set_cons_succ]
        refine wpAnyH_take (i := 22) (v := .bool true) rfl (by kernel_rfl) (by kernel_rfl) (by kernel_rfl) (fun _ _ _ h => h) (Or.inl ⟨by kernel_rfl, ?_⟩) hS ?_
        · intro w' hSw
          go_simp
        try simp only [Act.put, List.getElem_toArray, List.getElem_cons_succ, List.getElem_cons_zero, List.setIfInBounds_toArray, List.set_cons_zero, List.set_cons_succ]
        refine wpAnyH_take (i := 23) (v := .bool true) rfl (by kernel_rfl) (by kernel_rfl) (by kernel_rfl) (fun _ _ _ h => h) (Or.inl ⟨by kernel_rfl, ?_⟩) hS ?_
        · intro w' hSw
          go_simp
        try simp only [Act.put, List.getElem_toArray, List.getElem_cons_succ, List.getElem_cons_zero, List.setIfInBounds_toArray, List.set_cons_zero, List.set_cons_succ]
        refine wpAnyH_done (by kernel_rfl) ?_ _
        try simp only [zzP]
        go_wp2_with fail
        go_ret
        exact ⟨rfl, HB11.out.drewX _⟩
      subst hg hk
      obtain ⟨YX, hyx, hxx, hlt9, hle9⟩ : ∃ YX : List UInt8, YL w11 YX Ay nx cy ∧ YL w11 YX Ax nx cx ∧ nx < ny ∧ ny ≤ cy := by
        rcases H10.out with ⟨x, h1, _, _, h2⟩ | ⟨_, h1, _⟩
        rotate_left
        · exact absurd rfl h1
        rcases hres11 with ⟨y, h3, _, _, h4⟩ | ⟨_, h3, _⟩
        rotate_left
        · exact absurd rfl h3
        obtain ⟨l', rfl⟩ := showD_more h1 h3
        have hxl := h2.len
        have hyl := h4.len
        have hlen : 0 < (lineD s l').length := by simp [lineD]; omega
        rw [List.length_append] at hyl
        refine ⟨x, ?_, h2.yl.keep hb11, by dsimp only at hlen hyl ⊢; omega, h4.yl.le⟩
        have := h4.yl.cut (m := nx) (by dsimp only at hlen hyl ⊢; omega)
        rwa [List.take_append_of_le_length (by omega), List.take_of_length_le (by omega)] at this
      obtain ⟨X, hX⟩ : ∃ X : ByteArray, X = ⟨YX.toArray⟩ := ⟨_, rfl⟩
      have HYX := Lib.hid (And.intro hX (And.intro hyx hxx))
      have hxc := hxx.le
      have hn0 : (0 : Int) ≤ (nx : Int) := by omega
      have hn1 : (nx : Int) < (ny : Int) := by omega
      have hn2 : (nx : Int) ≤ (cy : Int) := by omega
      have dn : decide ((nx : Int) < (ny : Int)) = true := by simpa using hn1
      clear hX hyx hxx hres11 hb11 H10 HE HB10 HD10
      go_wp2_with fail
      have HKS : Hid (∀ w' : World, Below w11.heap.size w11 w' → (fun w' => (convert 29 9 (.slice Ay nx cy)).run Tryd.prog w' = .ok (.string X) w' ∧ (convert 29 9 (.slice Ax nx cx)).run Tryd.prog w' = .ok (.string X) w') w') := Lib.hid fun w' h => ⟨by rw [HYX.out.1]; exact run_string (HYX.out.2.1.keep h), by rw [HYX.out.1]; exact run_string (HYX.out.2.2.keep h)⟩
      have hbd : Below w11.heap.size w11 w11.drew := (Below.refl _ w11).drew
      refine zzR HKS hbd (fun hS => ?_)
      simp only [List.size_toArray, List.length_cons, List.length_nil, Nat.reduceAdd]
      refine wpAnyH_take (i := 0) (v := .int .i64 0) rfl (by kernel_rfl) (by kernel_rfl) (by kernel_rfl) (fun _ _ _ h => h) (Or.inl ⟨by kernel_rfl, ?_⟩) hS ?_
      · intro w' hSw
        obtain ⟨s0, s1⟩ := hSw
        go_simp
      try simp only [Act.put, List.getElem_toArray, List.getElem_cons_zero, List.setIfInBounds_toArray, List.set_cons_zero, List.set_cons_succ]
      refine wpAnyH_take (i := 1) (v := .bool false) rfl (by kernel_rfl) (by kernel_rfl) (by kernel_rfl) (fun _ _ _ h => h) (Or.inl ⟨by kernel_rfl, ?_⟩) hS ?_
      · intro w' hSw
        obtain ⟨s0, s1⟩ := hSw
        go_simp
      try simp only [Act.put, List.getElem_toArray, List.getElem_cons_succ, List.getElem_cons_zero, List.setIfInBounds_toArray, List.set_cons_zero, List.set_cons_succ]
      refine wpAnyH_take (i := 2) (v := .bool false) rfl (by kernel_rfl) (by kernel_rfl) (by kernel_rfl) (fun _ _ _ h => h) (Or.inl ⟨by kernel_rfl, ?_⟩) hS ?_
      · intro w' hSw
        obtain ⟨s0, s1⟩ := hSw
        go_simp
      try simp only [Act.put, List.getElem_toArray, List.getElem_cons_succ, List.getElem_cons_zero, List.setIfInBounds_toArray, List.set_cons_zero, List.set_cons_succ]
      refine wpAnyH_take (i := 3) (v := .int .i64 0) rfl (by kernel_rfl) (by kernel_rfl) (by kernel_rfl) (fun _ _ _ h => h) (Or.inl ⟨by kernel_rfl, ?_⟩) hS ?_
      · intro w' hSw
        obtain ⟨s0, s1⟩ := hSw
        go_simp
      try simp only [Act.put, List.getElem_toArray, List.getElem_cons_succ, List.getElem_cons_zero, List.setIfInBounds_toArray, List.set_cons_zero, List.set_cons_succ]
      refine wpAnyH_take (i := 4) (v := .bool false) rfl (by kernel_rfl) (by kernel_rfl) (by kernel_rfl) (fun _ _ _ h => h) (Or.inl ⟨by kernel_rfl, ?_⟩) hS ?_
      · intro w' hSw
        obtain ⟨s0, s1⟩ := hSw
        go_simp
      try simp only [Act.put, List.getElem_toArray, List.getElem_cons_succ, List.getElem_cons_zero, List.setIfInBounds_toArray, List.set_cons_zero, List.set_cons_succ]
      refine wpAnyH_take (i := 5) (v := .bool false) rfl (by kernel_rfl) (by kernel_rfl) (by kernel_rfl) (fun _ _ _ h => h) (Or.inl ⟨by kernel_rfl, ?_⟩) hS ?_
      · intro w' hSw
        obtain ⟨s0, s1⟩ := hSw
        go_simp
      try simp only [Act.put, List.getElem_toArray, List.getElem_cons_succ, List.getElem_cons_zero, List.setIfInBounds_toArray, List.set_cons_zero, List.set_cons_succ]
      refine wpAnyH_take (i := 6) (v := .bool false) rfl (by kernel_rfl) (by kernel_rfl) (by kernel_rfl) (fun _ _ _ h => h) (Or.inl ⟨by kernel_rfl, ?_⟩) hS ?_
      · intro w' hSw
        obtain ⟨s0, s1⟩ := hSw
        go_simp
      try simp only [Act.put, List.getElem_toArray, List.getElem_cons_succ, List.getElem_cons_zero, List.setIfInBounds_toArray, List.set_cons_zero, List.set_cons_succ]
      refine wpAnyH_take (i := 7) (v := .slice Ay ny cy) rfl (by kernel_rfl) (by kernel_rfl) (by kernel_rfl) (fun _ _ _ h => h) (Or.inl ⟨by kernel_rfl, ?_⟩) hS ?_
      · intro w' hSw
        obtain ⟨s0, s1⟩ := hSw
        go_simp
      try simp only [Act.put, List.getElem_toArray, List.getElem_cons_succ, List.getElem_cons_zero, List.setIfInBounds_toArray, List.set_cons_zero, List.set_cons_succ]
      refine wpAnyH_take (i := 8) (v := .int .i64 (ny : Nat)) rfl (by kernel_rfl) (by kernel_rfl) (by kernel_rfl) (fun _ _ _ h => h) (Or.inl ⟨by kernel_rfl, ?_⟩) hS ?_
      · intro w' hSw
        obtain ⟨s0, s1⟩ := hSw
        go_simp
      try simp only [Act.put, List.getElem_toArray, List.getElem_cons_succ, List.getElem_cons_zero, List.setIfInBounds_toArray, List.set_cons_zero, List.set_cons_succ]
      refine wpAnyH_take (i := 9) (v := .slice Ax nx cx) rfl (by kernel_rfl) (by kernel_rfl) (by kernel_rfl) (fun _ _ _ h => h) (Or.inl ⟨by kernel_rfl, ?_⟩) hS ?_
      · intro w' hSw
        obtain ⟨s0, s1⟩ := hSw
        go_simp
      try simp only [Act.put, List.getElem_toArray, List.getElem_cons_succ, List.getElem_cons_zero, List.setIfInBounds_toArray, List.set_cons_zero, List.set_cons_succ]
      refine wpAnyH_take (i := 10) (v := .int .i64 (nx : Nat)) rfl (by kernel_rfl) (by kernel_rfl) (by kernel_rfl) (fun _ _ _ h => h) (Or.inl ⟨by kernel_rfl, ?_⟩) hS ?_
      · intro w' hSw
        obtain ⟨s0, s1⟩ := hSw
        go_simp
      try simp only [Act.put, List.getElem_toArray, List.getElem_cons_succ, List.getElem_cons_zero, List.setIfInBounds_toArray, List.set_cons_zero, List.set_cons_succ]
      refine wpAnyH_take (i := 11) (v := .bool true) rfl (by kernel_rfl) (by kernel_rfl) (by kernel_rfl) (fun _ _ _ h => h) (Or.inl ⟨by kernel_rfl, ?_⟩) hS ?_
      · intro w' hSw
        obtain ⟨s0, s1⟩ := hSw
        go_simp
      try simp only [Act.put, List.getElem_toArray, List.getElem_cons_succ, List.getElem_cons_zero, List.setIfInBounds_toArray, List.set_cons_zero, List.set_cons_succ]
      refine wpAnyH_take (i := 12) (v := .bool true) rfl (by kernel_rfl) (by kernel_rfl) (by kernel_rfl) (fun _ _ _ h => h) (Or.inl ⟨by kernel_rfl, ?_⟩) hS ?_
      · intro w' hSw
        obtain ⟨s0, s1⟩ := hSw
        go_simp
      try simp only [Act.put, List.getElem_toArray, List.getElem_cons_succ, List.getElem_cons_zero, List.setIfInBounds_toArray, List.set_cons_zero, List.set_cons_succ]
      refine wpAnyH_take (i := 13) (v := .slice Ay ny cy) rfl (by kernel_rfl) (by kernel_rfl) (by kernel_rfl) (fun _ _ _ h => h) (Or.inl ⟨by kernel_rfl, ?_⟩) hS ?_
      · intro w' hSw
        obtain ⟨s0, s1⟩ := hSw
        go_simp
      try simp only [Act.put, List.getElem_toArray, List.getElem_cons_succ, List.getElem_cons_zero, List.setIfInBounds_toArray, List.set_cons_zero, List.set_cons_succ]
      refine wpAnyH_take (i := 14) (v := .slice Ax nx cx) rfl (by kernel_rfl) (by kernel_rfl) (by kernel_rfl) (fun _ _ _ h => h) (Or.inl ⟨by kernel_rfl, ?_⟩) hS ?_
      · intro w' hSw
        obtain ⟨s0, s1⟩ := hSw
        go_simp
      try simp only [Act.put, List.getElem_toArray, List.getElem_cons_succ, List.getElem_cons_zero, List.setIfInBounds_toArray, List.set_cons_zero, List.set_cons_succ]
      refine wpAnyH_take (i := 15) (v := .int .i64 (nx : Nat)) rfl (by kernel_rfl) (by kernel_rfl) (by kernel_rfl) (fun _ _ _ h => h) (Or.inl ⟨by kernel_rfl, ?_⟩) hS ?_
      · intro w' hSw
        obtain ⟨s0, s1⟩ := hSw
        go_simp
      try simp only [Act.put, List.getElem_toArray, List.getElem_cons_succ, List.getElem_cons_zero, List.setIfInBounds_toArray, List.set_cons_zero, List.set_cons_succ]
      refine wpAnyH_take (i := 16) (v := .slice Ay nx cy) rfl (by kernel_rfl) (by kernel_rfl) (by kernel_rfl) (fun _ _ _ h => h) (Or.inl ⟨by kernel_rfl, ?_⟩) hS ?_
      · intro w' hSw
        obtain ⟨s0, s1⟩ := hSw
        go_simp
      try simp only [Act.put, List.getElem_toArray, List.getElem_cons_succ, List.getElem_cons_zero, List.setIfInBounds_toArray, List.set_cons_zero, List.set_cons_succ]
      refine wpAnyH_take (i := 17) (v := .string X) rfl (by kernel_rfl) (by kernel_rfl) (by kernel_rfl) (fun _ _ _ h => h) (Or.inl ⟨by kernel_rfl, ?_⟩) hS ?_
      · intro w' hSw
        obtain ⟨s0, s1⟩ := hSw
        go_simp
      try simp only [Act.put, List.getElem_toArray, List.getElem_cons_succ, List.getElem_cons_zero, List.setIfInBounds_toArray, List.set_cons_zero, List.set_cons_succ]
      refine wpAnyH_take (i := 18) (v := .slice Ax nx cx) rfl (by kernel_rfl) (by kernel_rfl) (by kernel_rfl) (fun _ _ _ h => h) (Or.inl ⟨by kernel_rfl, ?_⟩) hS ?_
      · intro w' hSw
        obtain ⟨s0, s1⟩ := hSw
        go_simp
      try simp only [Act.put, List.getElem_toArray, List.getElem_cons_succ, List.getElem_cons_zero, List.setIfInBounds_toArray, List.set_cons_zero, List.set_cons_succ]
      refine wpAnyH_take (i := 19) (v := .string X) rfl (by kernel_rfl) (by kernel_rfl) (by kernel_rfl) (fun _ _ _ h => h) (Or.inl ⟨by kernel_rfl, ?_⟩) hS ?_
      · intro w' hSw
        obtain ⟨s0, s1⟩ := hSw
        go_simp
      try simp only [Act.put, List.getElem_toArray, List.getElem_cons_succ, List.getElem_cons_zero, List.setIfInBounds_toArray, List.set_cons_zero, List.set_cons_succ]
      refine wpAnyH_take (i := 20) (v := .bool true) rfl (by kernel_rfl) (by kernel_rfl) (by kernel_rfl) (fun _ _ _ h => h) (Or.inl ⟨by kernel_rfl, ?_⟩) hS ?_
      · intro w' hSw
        obtain ⟨s0, s1⟩ := hSw
        go_simp
      try simp only [Act.put, List.getElem_toArray, List.getElem_cons_succ, List.getElem_cons_zero, List.setIfInBounds_toArray, List.set_cons_zero, List.set_cons_succ]
      refine wpAnyH_take (i := 21) (v := .bool true) rfl (by kernel_rfl) (by kernel_rfl) (by kernel_rfl) (fun _ _ _ h => h) (Or.inl ⟨by kernel_rfl, ?_⟩) hS ?_
      · intro w' hSw
        obtain ⟨s0, s1⟩ := hSw
        go_simp
      try simp only [Act.put, List.getElem_toArray, List.getElem_cons_succ, List.getElem_cons_zero, List.setIfInBounds_toArray, List.set_cons_zero, List.set_cons_succ]
      refine wpAnyH_take (i := 22) (v := .bool true) rfl (by kernel_rfl) (by kernel_rfl) (by kernel_rfl) (fun _ _ _ h => h) (Or.inl ⟨by kernel_rfl, ?_⟩) hS ?_
      · intro w' hSw
        obtain ⟨s0, s1⟩ := hSw
        go_simp
      try simp only [Act.put, List.getElem_toArray, List.getElem_cons_succ, List.getElem_cons_zero, List.setIfInBounds_toArray, List.set_cons_zero, List.set_cons_succ]
      refine wpAnyH_take (i := 23) (v := .bool true) rfl (by kernel_rfl) (by kernel_rfl) (by kernel_rfl) (fun _ _ _ h => h) (Or.inl ⟨by kernel_rfl, ?_⟩) hS ?_
      · intro w' hSw
        obtain ⟨s0, s1⟩ := hSw
        go_simp
      try simp only [Act.put, List.getElem_toArray, List.getElem_cons_succ, List.getElem_cons_zero, List.setIfInBounds_toArray, List.set_cons_zero, List.set_cons_succ]
      refine wpAnyH_done (by kernel_rfl) ?_ _
      try simp only [zzP]
      go_wp2_with fail
      go_ret
      exact ⟨rfl, HB11.out.drewX _⟩

  · go_simp
    have hb5 : Below w5.heap.size w5 ((w5.alloc (.cells #[.string s, .int .i64 kd, .int .i64 gd, .slice Ad nd' cd] 41)).drew) := ((Below.refl _ w5).alloc (Nat.le_refl _) _).drew
    refine hK.out _ _ (HKS.out _ hb5) (fun hS => ?_)
    clear hK KN
    try simp only [Act.put, zzP]
    have z5 : BoxX ((w5.alloc (.cells #[.string s, .int .i64 kd, .int .i64 gd, .slice Ad nd' cd] 41)).drew) w5.heap.size 41 #[.string s, .int .i64 kd, .int .i64 gd, .slice Ad nd' cd] := BoxX.new w5 _ _
    obtain ⟨P6, hP6⟩ : ∃ p, w5.heap.size = p := ⟨_, rfl⟩
    obtain ⟨w55, hw55⟩ : ∃ z, (w5.alloc (.cells #[.string s, .int .i64 kd, .int .i64 gd, .slice Ad nd' cd] 41)).drew = z := ⟨_, rfl⟩
    rw [hw55] at hb5 hS z5
    try rw [hw55]
    clear hw55
    rw [hP6] at z5
    try rw [hP6]
    clear hP6
    refine wpAnyH_ready (rs := [1]) (by kernel_rfl) (by simp) ?_
    refine AllReadyH.cons rfl (fun KN hK => ?_) AllReadyH.nil
    obtain ⟨A5, c5, w66, cs55, hrun5, hrowB, hb66⟩ := rowS_new (HD.out.keep HB5.out) (by omega) hb5
    have hbB := hb5.trans (hb66.mono hb5.size)
    have zB : BoxX w66 P6 41 #[.string s, .int .i64 kd, .int .i64 gd, .slice Ad nd' cd] := z5.keep hb66 z5.lt
    clear hb66
    refine Lib.wp_append_run _ (.const (.slice none 0 0)) (.tmp 56) 25 25 rfl _ _ rfl rfl _ _ hrun5 ?_
    refine hK.out _ _ (HKS.out _ hbB) (fun hS => ?_)
    clear hK KN
    try simp only [Act.put, zzP]
    clear hb5 z5 hrun5
    refine wpAnyH_ready (rs := [4]) (by kernel_rfl) (by simp) ?_
    refine AllReadyH.cons rfl (fun KN hK => ?_) AllReadyH.nil
    obtain ⟨g7, cap7, w7, cs7, hrun7, hr7, hb7⟩ := rowS_one hrowB zB HRD5.out (by omega) hbB
    refine Lib.wp_append_run _ (.tmp 57) (.tmp 59) 25 25 rfl _ _ rfl rfl _ _ hrun7 ?_
    refine hK.out _ _ (HKS.out _ hb7) (fun hS => ?_)
    clear hK KN
    try simp only [Act.put, zzP]
    clear hbB hrowB zB hrun7
    refine wpAnyH_take (i := 5) (v := .slice (some ⟨g7, 0, none⟩) (sn + 1) cap7) rfl (by kernel_rfl) (by kernel_rfl) (by kernel_rfl) (fun _ _ _ h => h) (Or.inl ⟨by kernel_rfl, ?_⟩) hS ?_
    · intro w' hSw
      obtain ⟨s0, s1, s2, s3⟩ := hSw
      go_simp
    try simp only [Act.put, List.getElem_toArray, List.getElem_cons_succ, List.getElem_cons_zero, List.setIfInBounds_toArray, List.set_cons_zero, List.set_cons_succ]
    refine wpAnyH_done (by kernel_rfl) ?_ _
    try simp only [zzP]
    have hds7 : DS w7 (ds ++ [(s, td)]) (some ⟨g7, 0, none⟩) (sn + 1) cap7 := hr7.lst hb7 (fun d hd => by
      rcases List.mem_append.1 hd with h1 | h1
      · exact HD.out.sz d h1
      · rw [List.mem_singleton.1 h1]; exact HDZ.out)
    have HS7 := Lib.hid (show ∀ d ∈ ds ++ [(s, td)], d.1.size ≤ 100 from fun d hd => by
      rcases List.mem_append.1 hd with h1 | h1
      · exact HS.out d h1
      · rw [List.mem_singleton.1 h1]; exact hsz)
    have hcap7 := hds7.le
    have hcm7 := hds7.cap
    unfold maxLen at hcm7
    have HD7 := Lib.hid hds7
    have HB7 := Lib.hid (HB5.out.trans (hb7.mono HB5.out.size))
    have x7 := HX5.out.1.keep hb7 HX5.out.1.lt
    have q0 := x7.cell 0
    have q1 := x7.cell 1
    have q2 := x7.cell 2
    simp only [List.getElem?_toArray, List.getElem?_cons_zero, List.getElem?_cons_succ] at q0 q1 q2
    have HX7 := Lib.hid x7
    have HT := Lib.hid (sTermC ds t _ SA sn sc w7 (Rd.keep HB7.out _ _ HV.out) (HD.out.keep HB7.out) HS.out)
    clear hds7 hr7 hb7 x7 hS HKS hbd c0 c1 c2 e0 e1 e2 e3 HRD5 HX5 HB5
    go_wp2_with fail
    refine HT.out.mono ?_
    rintro e w8 ⟨hb8, A8, n8, c8, e8, rfl, hres8⟩
    have HB8 := Lib.hid (HB7.out.trans (hb8.mono HB7.out.size))
    have HD8 := Lib.hid (HD7.out.keep hb8)
    have x8 := HX7.out.keep hb8 HX7.out.lt
    clear HT q0 q1 q2
    have q0 := x8.cell 0
    have q1 := x8.cell 1
    have q2 := x8.cell 2
    simp only [List.getElem?_toArray, List.getElem?_cons_zero, List.getElem?_cons_succ] at q0 q1 q2
    have HT := Lib.hid (sTermC (ds ++ [(s, td)]) t _ (some ⟨g7, 0, none⟩) (sn + 1) cap7 w8 (Rd.keep HB8.out _ _ HV.out) HD8.out HS7.out)
    have H8 := Lib.hid hres8
    clear hb8 x8 HX7 HB7 HD7 hres8
    go_wp2_with fail
    refine HT.out.mono ?_
    rintro e w9 ⟨hb9, A9, n9, c9, e9, rfl, hres9⟩
    have HB9 := Lib.hid (HB8.out.trans (hb9.mono HB8.out.size))
    have HD9 := Lib.hid (HD8.out.keep hb9)
    have key : (e8 ≠ 0) ∨ (e8 = 0 ∧ e9 = 0 ∧ ∃ l, YL w9 l A8 n8 c8 ∧ YL w9 l A9 n9 c9) := by
      rcases H8.out with ⟨l, h1, h2, h3⟩ | ⟨_, h2, _⟩
      · right
        have h4 := showT_more h1 (s, td)
        rcases hres9 with ⟨l', h5, h6, h7⟩ | ⟨h5, _⟩
        · rw [h4] at h5; cases h5
          exact ⟨h2, h6, l, h3.yl.keep hb9, h7.yl⟩
        · rw [h4] at h5; cases h5
      · exact .inl h2
    clear HT q0 q1 q2 hb9 hres9 H8 HD8 HB8
    have HC := Lib.hid (sDeclsC ds SA sn sc w9 (HD.out.keep HB9.out) HS.out (by omega))
    have next : ∀ (a : Unit), True := fun _ => trivial
    clear next
    rcases key with he8 | ⟨rfl, rfl, l, hy8, hy9⟩
    · have d8 : (e8 == 0) = false := by simpa using he8
      clear he8
      go_wp2_with fail
      refine HC.out.mono ?_
      rintro e w10 ⟨hb10, Ax, nx, cx, g, rfl, hres10⟩
      have HB10 := Lib.hid (HB9.out.trans (hb10.mono HB9.out.size))
      have HD10 := Lib.hid (HD9.out.keep hb10)
      have HE := Lib.hid (sDeclsC (ds ++ [(s, td)]) (some ⟨g7, 0, none⟩) (sn + 1) cap7 w10 HD10.out HS7.out (by rw [List.length_append, List.length_singleton]; omega))
      have H10 := Lib.hid hres10
      clear HC hb10 hres10 HB9 HD9
      go_wp2_with fail
      refine HE.out.mono ?_
      rintro e w11 ⟨hb11, Ay, ny, cy, hh, rfl, hres11⟩
      have HB11 := Lib.hid (HB10.out.trans (hb11.mono HB10.out.size))
      by_cases hg : g = 0
      rotate_left
      · have dg : (g == 0) = false := by simpa using hg
        clear hres11 hb11 H10 HE HB10 HD10
        go_wp2_with fail
        have HKS : Hid (∀ w' : World, Below w11.heap.size w11 w' → (fun _ => True) w') := Lib.hid fun w' h => trivial
        have hbd : Below w11.heap.size w11 w11.drew := (Below.refl _ w11).drew
        refine zzR HKS hbd (fun hS => ?_)
        simp only [List.size_toArray, List.length_cons, List.length_nil, Nat.reduceAdd]
        refine wpAnyH_take (i := 0) (v := .int .i64 g) rfl (by kernel_rfl) (by kernel_rfl) (by kernel_rfl) (fun _ _ _ h => h) (Or.inl ⟨by kernel_rfl, ?_⟩) hS ?_
        · intro w' hSw
          go_simp
        try simp only [Act.put, List.getElem_toArray, List.getElem_cons_zero, List.setIfInBounds_toArray, List.set_cons_zero, List.set_cons_succ]
        refine wpAnyH_take (i := 1) (v := .bool true) rfl (by kernel_rfl) (by kernel_rfl) (by kernel_rfl) (fun _ _ _ h => h) (Or.inl ⟨by kernel_rfl, ?_⟩) hS ?_
        · intro w' hSw
          go_simp
        try simp only [Act.put, List.getElem_toArray, List.getElem_cons_succ, List.getElem_cons_zero, List.setIfInBounds_toArray, List.set_cons_zero, List.set_cons_succ]
        refine wpAnyH_take (i := 2) (v := .bool true) rfl (by kernel_rfl) (by kernel_rfl) (by kernel_rfl) (fun _ _ _ h => h) (Or.inl ⟨by kernel_rfl, ?_⟩) hS ?_
        · intro w' hSw
          go_simp
        try simp only [Act.put, List.getElem_toArray, List.getElem_cons_succ, List.getElem_cons_zero, List.setIfInBounds_toArray, List.set_cons_zero, List.set_cons_succ]
        refine wpAnyH_take (i := 3) (v := undef) rfl (by kernel_rfl) (by kernel_rfl) (by kernel_rfl) (fun _ _ _ h => h) (Or.inr ⟨by kernel_rfl, rfl⟩) hS ?_
        try simp only [Act.put, List.getElem_toArray, List.getElem_cons_succ, List.getElem_cons_zero, List.setIfInBounds_toArray, List.set_cons_zero, List.set_cons_succ]
        refine wpAnyH_take (i := 4) (v := undef) rfl (by kernel_rfl) (by kernel_rfl) (by kernel_rfl) (fun _ _ _ h => h) (Or.inr ⟨by kernel_rfl, rfl⟩) hS ?_
        try simp only [Act.put, List.getElem_toArray, List.getElem_cons_succ, List.getElem_cons_zero, List.setIfInBounds_toArray, List.set_cons_zero, List.set_cons_succ]
        refine wpAnyH_take (i := 5) (v := .bool true) rfl (by kernel_rfl) (by kernel_rfl) (by kernel_rfl) (fun _ _ _ h => h) (Or.inl ⟨by kernel_rfl, ?_⟩) hS ?_
        · intro w' hSw
          go_simp
        try simp only [Act.put, List.getElem_toArray, List.getElem_cons_succ, List.getElem_cons_zero, List.setIfInBounds_toArray, List.set_cons_zero, List.set_cons_succ]
        refine wpAnyH_take (i := 6) (v := .bool true) rfl (by kernel_rfl) (by kernel_rfl) (by kernel_rfl) (fun _ _ _ h => h) (Or.inl ⟨by kernel_rfl, ?_⟩) hS ?_
        · intro w' hSw
          go_simp
        try simp only [Act.put, List.getElem_toArray, List.getElem_cons_succ, List.getElem_cons_zero, List.setIfInBounds_toArray, List.set_cons_zero, List.set_cons_succ]
        refine wpAnyH_take (i := 7) (v := undef) rfl (by kernel_rfl) (by kernel_rfl) (by kernel_rfl) (fun _ _ _ h => h) (Or.inr ⟨by kernel_rfl, rfl⟩) hS ?_
        try simp only [Act.put, List.getElem_toArray, List.getElem_cons_succ, List.getElem_cons_zero, List.setIfInBounds_toArray, List.set_cons_zero, List.set_cons_succ]
        refine wpAnyH_take (i := 8) (v := undef) rfl (by kernel_rfl) (by kernel_rfl) (by kernel_rfl) (fun _ _ _ h => h) (Or.inr ⟨by kernel_rfl, rfl⟩) hS ?_
        try simp only [Act.put, List.getElem_toArray, List.getElem_cons_succ, List.getElem_cons_zero, List.setIfInBounds_toArray, List.set_cons_zero, List.set_cons_succ]
        refine wpAnyH_take (i := 9) (v := undef) rfl (by kernel_rfl) (by kernel_rfl) (by kernel_rfl) (fun _ _ _ h => h) (Or.inr ⟨by kernel_rfl, rfl⟩) hS ?_
        try simp only [Act.put, List.getElem_toArray, List.getElem_cons_succ, List.getElem_cons_zero, List.setIfInBounds_toArray, List.set_cons_zero, List.set_cons_succ]
        refine wpAnyH_take (i := 10) (v := undef) rfl (by kernel_rfl) (by kernel_rfl) (by kernel_rfl) (fun _ _ _ h => h) (Or.inr ⟨by kernel_rfl, rfl⟩) hS ?_
        try simp only [Act.put, List.getElem_toArray, List.getElem_cons_succ, List.getElem_cons_zero, List.setIfInBounds_toArray, List.set_cons_zero, List.set_cons_succ]
        refine wpAnyH_take (i := 11) (v := undef) rfl (by kernel_rfl) (by kernel_rfl) (by kernel_rfl) (fun _ _ _ h => h) (Or.inr ⟨by kernel_rfl, rfl⟩) hS ?_
        try simp only [Act.put, List.getElem_toArray, List.getElem_cons_succ, List.getElem_cons_zero, List.setIfInBounds_toArray, List.set_cons_zero, List.set_cons_succ]
        refine wpAnyH_take (i := 12) (v := undef) rfl (by kernel_rfl) (by kernel_rfl) (by kernel_rfl) (fun _ _ _ h => h) (Or.inr ⟨by kernel_rfl, rfl⟩) hS ?_
        try simp only [Act.put, List.getElem_toArray, List.getElem_cons_succ, List.getElem_cons_zero, List.setIfInBounds_toArray, List.set_cons_zero, List.set_cons_succ]
        refine wpAnyH_take (i := 13) (v := undef) rfl (by kernel_rfl) (by kernel_rfl) (by kernel_rfl) (fun _ _ _ h => h) (Or.inr ⟨by kernel_rfl, rfl⟩) hS ?_
        try simp only [Act.put, List.getElem_toArray, List.getElem_cons_succ, List.getElem_cons_zero, List.setIfInBounds_toArray, List.set_cons_zero, List.set_cons_succ]
        refine wpAnyH_take (i := 14) (v := undef) rfl (by kernel_rfl) (by kernel_rfl) (by kernel_rfl) (fun _ _ _ h => h) (Or.inr ⟨by kernel_rfl, rfl⟩) hS ?_
        try simp only [Act.put, List.getElem_toArray, List.getElem_cons_succ, List.getElem_cons_zero, List.setIfInBounds_toArray, List.set_cons_zero, List.set_cons_succ]
        refine wpAnyH_take (i := 15) (v := undef) rfl (by kernel_rfl) (by kernel_rfl) (by kernel_rfl) (fun _ _ _ h => h) (Or.inr ⟨by kernel_rfl, rfl⟩) hS ?_
        try simp only [Act.put, List.getElem_toArray, List.getElem_cons_succ, List.getElem_cons_zero, List.setIfInBounds_toArray, List.set_cons_zero, List.set_cons_succ]
        refine wpAnyH_take (i := 16) (v := undef) rfl (by kernel_rfl) (by kernel_rfl) (by kernel_rfl) (fun _ _ _ h => h) (Or.inr ⟨by kernel_rfl, rfl⟩) hS ?_
        try simp only [Act.put, List.getElem_toArray, List.getElem_cons_succ, List.getElem_cons_zero, List.setIfInBounds_toArray, List.set_cons_zero, List.set_cons_succ]
        refine wpAnyH_take (i := 17) (v := undef) rfl (by kernel_rfl) (by kernel_rfl) (by kernel_rfl) (fun _ _ _ h => h) (Or.inr ⟨by kernel_rfl, rfl⟩) hS ?_
        try simp only [Act.put, List.getElem_toArray, List.getElem_cons_succ, List.getElem_cons_zero, List.setIfInBounds_toArray, List.set_cons_zero, List.set_cons_succ]
        refine wpAnyH_take (i := 18) (v := undef) rfl (by kernel_rfl) (by kernel_rfl) (by kernel_rfl) (fun _ _ _ h => h) (Or.inr ⟨by kernel_rfl, rfl⟩) hS ?_
        try simp only [Act.put, List.getElem_toArray, List.getElem_cons_succ, List.getElem_cons_zero, List.setIfInBounds_toArray, List.set_cons_zero, List.set_cons_succ]
        refine wpAnyH_take (i := 19) (v := undef) rfl (by kernel_rfl) (by kernel_rfl) (by kernel_rfl) (fun _ _ _ h => h) (Or.inr ⟨by kernel_rfl, rfl⟩) hS ?_
        try simp only [Act.put, List.getElem_toArray, List.getElem_cons_succ, List.getElem_cons_zero, List.setIfInBounds_toArray, List.set_cons_zero, List.set_cons_succ]
        refine wpAnyH_take (i := 20) (v := undef) rfl (by kernel_rfl) (by kernel_rfl) (by kernel_rfl) (fun _ _ _ h => h) (Or.inr ⟨by kernel_rfl, rfl⟩) hS ?_
        try simp only [Act.put, List.getElem_toArray, List.getElem_cons_succ, List.getElem_cons_zero, List.setIfInBounds_toArray, List.set_cons_zero, List.set_cons_succ]
        refine wpAnyH_take (i := 21) (v := undef) rfl (by kernel_rfl) (by kernel_rfl) (by kernel_rfl) (fun _ _ _ h => h) (Or.inr ⟨by kernel_rfl, rfl⟩) hS ?_
        try simp only [Act.put, List.getElem_toArray, List.getElem_cons_succ, List.getElem_cons_zero, List.setIfInBounds_toArray, List.set_cons_zero, List.set_cons_succ]
        refine wpAnyH_take (i := 22) (v := .bool true) rfl (by kernel_rfl) (by kernel_rfl) (by kernel_rfl) (fun _ _ _ h => h) (Or.inl ⟨by kernel_rfl, ?_⟩) hS ?_
        · intro w' hSw
          go_simp
        try simp only [Act.put, List.getElem_toArray, List.getElem_cons_succ, List.getElem_cons_zero, List.setIfInBounds_toArray, List.set_cons_zero, List.set_cons_succ]
        refine wpAnyH_take (i := 23) (v := .bool true) rfl (by kernel_rfl) (by kernel_rfl) (by kernel_rfl) (fun _ _ _ h => h) (Or.inl ⟨by kernel_rfl, ?_⟩) hS ?_
        · intro w' hSw
          go_simp
        try simp only [Act.put, List.getElem_toArray, List.getElem_cons_succ, List.getElem_cons_zero, List.setIfInBounds_toArray, List.set_cons_zero, List.set_cons_succ]
        refine wpAnyH_done (by kernel_rfl) ?_ _
        try simp only [zzP]
        go_wp2_with fail
        go_ret
        exact ⟨rfl, HB11.out.drewX _⟩
      by_cases hk : hh = 0
      rotate_left
      · have dh : (hh == 0) = false := by simpa using hk
        subst hg
        clear hres11 hb11 H10 HE HB10 HD10
        go_wp2_with fail
        have HKS : Hid (∀ w' : World, Below w11.heap.size w11 w' → (fun _ => True) w') := Lib.hid fun w' h => trivial
        have hbd : Below w11.heap.size w11 w11.drew := (Below.refl _ w11).drew
        refine zzR HKS hbd (fun hS => ?_)
        simp only [List.size_toArray, List.length_cons, List.length_nil, Nat.reduceAdd]
        refine wpAnyH_take (i := 0) (v := .int .i64 0) rfl (by kernel_rfl) (by kernel_rfl) (by kernel_rfl) (fun _ _ _ h => h) (Or.inl ⟨by kernel_rfl, ?_⟩) hS ?_
        · intro w' hSw
          go_simp
        try simp only [Act.put, List.getElem_toArray, List.getElem_cons_zero, List.setIfInBounds_toArray, List.set_cons_zero, List.set_cons_succ]
        refine wpAnyH_take (i := 1) (v := .bool false) rfl (by kernel_rfl) (by kernel_rfl) (by kernel_rfl) (fun _ _ _ h => h) (Or.inl ⟨by kernel_rfl, ?_⟩) hS ?_
        · intro w' hSw
          go_simp
        try simp only [Act.put, List.getElem_toArray, List.getElem_cons_succ, List.getElem_cons_zero, List.setIfInBounds_toArray, List.set_cons_zero, List.set_cons_succ]
        refine wpAnyH_take (i := 2) (v := .bool false) rfl (by kernel_rfl) (by kernel_rfl) (by kernel_rfl) (fun _ _ _ h => h) (Or.inl ⟨by kernel_rfl, ?_⟩) hS ?_
        · intro w' hSw
          go_simp
        try simp only [Act.put, List.getElem_toArray, List.getElem_cons_succ, List.getElem_cons_zero, List.setIfInBounds_toArray, List.set_cons_zero, List.set_cons_succ]
        refine wpAnyH_take (i := 3) (v := .int .i64 hh) rfl (by kernel_rfl) (by kernel_rfl) (by kernel_rfl) (fun _ _ _ h => h) (Or.inl ⟨by kernel_rfl, ?_⟩) hS ?_
        · intro w' hSw
          go_simp
        try simp only [Act.put, List.getElem_toArray, List.getElem_cons_succ, List.getElem_cons_zero, List.setIfInBounds_toArray, List.set_cons_zero, List.set_cons_succ]
        refine wpAnyH_take (i := 4) (v := .bool true) rfl (by kernel_rfl) (by kernel_rfl) (by kernel_rfl) (fun _ _ _ h => h) (Or.inl ⟨by kernel_rfl, ?_⟩) hS ?_
        · intro w' hSw
          go_simp
        try simp only [Act.put, List.getElem_toArray, List.getElem_cons_succ, List.getElem_cons_zero, List.setIfInBounds_toArray, List.set_cons_zero, List.set_cons_succ]
        refine wpAnyH_take (i := 5) (v := .bool true) rfl (by kernel_rfl) (by kernel_rfl) (by kernel_rfl) (fun _ _ _ h => h) (Or.inl ⟨by kernel_rfl, ?_⟩) hS ?_
        · intro w' hSw
          go_simp
        try simp only [Act.put, List.getElem_toArray, List.getElem_cons_succ, List.getElem_cons_zero, List.setIfInBounds_toArray, List.set_cons_zero, List.set_cons_succ]
        refine wpAnyH_take (i := 6) (v := .bool true) rfl (by kernel_rfl) (by kernel_rfl) (by kernel_rfl) (fun _ _ _ h => h) (Or.inl ⟨by kernel_rfl, ?_⟩) hS ?_
        · intro w' hSw
          go_simp
        try simp only [Act.put, List.getElem_toArray, List.getElem_cons_succ, List.getElem_cons_zero, List.setIfInBounds_toArray, List.set_cons_zero, List.set_cons_succ]
        refine wpAnyH_take (i := 7) (v := undef) rfl (by kernel_rfl) (by kernel_rfl) (by kernel_rfl) (fun _ _ _ h => h) (Or.inr ⟨by kernel_rfl, rfl⟩) hS ?_
        try simp only [Act.put, List.getElem_toArray, List.getElem_cons_succ, List.getElem_cons_zero, List.setIfInBounds_toArray, List.set_cons_zero, List.set_cons_succ]
        refine wpAnyH_take (i := 8) (v := undef) rfl (by kernel_rfl) (by kernel_rfl) (by kernel_rfl) (fun _ _ _ h => h) (Or.inr ⟨by kernel_rfl, rfl⟩) hS ?_
        try simp only [Act.put, List.getElem_toArray, List.getElem_cons_succ, List.getElem_cons_zero, List.setIfInBounds_toArray, List.set_cons_zero, List.set_cons_succ]
        refine wpAnyH_take (i := 9) (v := undef) rfl (by kernel_rfl) (by kernel_rfl) (by kernel_rfl) (fun _ _ _ h => h) (Or.inr ⟨by kernel_rfl, rfl⟩) hS ?_
        try simp only [Act.put, List.getElem_toArray, List.getElem_cons_succ, List.getElem_cons_zero, List.setIfInBounds_toArray, List.set_cons_zero, List.set_cons_succ]
        refine wpAnyH_take (i := 10) (v := undef) rfl (by kernel_rfl) (by kernel_rfl) (by kernel_rfl) (fun _ _ _ h => h) (Or.inr ⟨by kernel_rfl, rfl⟩) hS ?_
        try simp only [Act.put, List.getElem_toArray, List.getElem_cons_succ, List.getElem_cons_zero, List.setIfInBounds_toArray, List.set_cons_zero, List.set_cons_succ]
        refine wpAnyH_take (i := 11) (v := undef) rfl (by kernel_rfl) (by kernel_rfl) (by kernel_rfl) (fun _ _ _ h => h) (Or.inr ⟨by kernel_rfl, rfl⟩) hS ?_
        try simp only [Act.put, List.getElem_toArray, List.getElem_cons_succ, List.getElem_cons_zero, List.setIfInBounds_toArray, List.set_cons_zero, List.set_cons_succ]
        refine wpAnyH_take (i := 12) (v := undef) rfl (by kernel_rfl) (by kernel_rfl) (by kernel_rfl) (fun _ _ _ h => h) (Or.inr ⟨by kernel_rfl, rfl⟩) hS ?_
        try simp only [Act.put, List.getElem_toArray, List.getElem_cons_succ, List.getElem_cons_zero, List.setIfInBounds_toArray, List.set_cons_zero, List.set_cons_succ]
        refine wpAnyH_take (i := 13) (v := undef) rfl (by kernel_rfl) (by kernel_rfl) (by kernel_rfl) (fun _ _ _ h => h) (Or.inr ⟨by kernel_rfl, rfl⟩) hS ?_
        try simp only [Act.put, List.getElem_toArray, List.getElem_cons_succ, List.getElem_cons_zero, List.setIfInBounds_toArray, List.set_cons_zero, List.set_cons_succ]
        refine wpAnyH_take (i := 14) (v := undef) rfl (by kernel_rfl) (by kernel_rfl) (by kernel_rfl) (fun _ _ _ h => h) (Or.inr ⟨by kernel_rfl, rfl⟩) hS ?_
        try simp only [Act.put, List.getElem_toArray, List.getElem_cons_succ, List.getElem_cons_zero, List.setIfInBounds_toArray, List.set_cons_zero, List.set_cons_succ]
        refine wpAnyH_take (i := 15) (v := undef) rfl (by kernel_rfl) (by kernel_rfl) (by kernel_rfl) (fun _ _ _ h => h) (Or.inr ⟨by kernel_rfl, rfl⟩) hS ?_
        try simp only [Act.put, List.getElem_toArray, List.getElem_cons_succ, List.getElem_cons_zero, List.setIfInBounds_toArray, List.set_cons_zero, List.set_cons_succ]
        refine wpAnyH_take (i := 16) (v := undef) rfl (by kernel_rfl) (by kernel_rfl) (by kernel_rfl) (fun _ _ _ h => h) (Or.inr ⟨by kernel_rfl, rfl⟩) hS ?_
        try simp only [Act.put, List.getElem_toArray, List.getElem_cons_succ, List.getElem_cons_zero, List.setIfInBounds_toArray, List.set_cons_zero, List.set_cons_succ]
        refine wpAnyH_take (i := 17) (v := undef) rfl (by kernel_rfl) (by kernel_rfl) (by kernel_rfl) (fun _ _ _ h => h) (Or.inr ⟨by kernel_rfl, rfl⟩) hS ?_
        try simp only [Act.put, List.getElem_toArray, List.getElem_cons_succ, List.getElem_cons_zero, List.setIfInBounds_toArray, List.set_cons_zero, List.set_cons_succ]
        refine wpAnyH_take (i := 18) (v := undef) rfl (by kernel_rfl) (by kernel_rfl) (by kernel_rfl) (fun _ _ _ h => h) (Or.inr ⟨by kernel_rfl, rfl⟩) hS ?_
        try simp only [Act.put, List.getElem_toArray, List.getElem_cons_succ, List.getElem_cons_zero, List.setIfInBounds_toArray, List.set_cons_zero, List.set_cons_succ]
        refine wpAnyH_take (i := 19) (v := undef) rfl (by kernel_rfl) (by kernel_rfl) (by kernel_rfl) (fun _ _ _ h => h) (Or.inr ⟨by kernel_rfl, rfl⟩) hS ?_
        try simp only [Act.put, List.getElem_toArray, List.getElem_cons_succ, List.getElem_cons_zero, List.setIfInBounds_toArray, List.set_cons_zero, List.set_cons_succ]
        refine wpAnyH_take (i := 20) (v := undef) rfl (by kernel_rfl) (by kernel_rfl) (by kernel_rfl) (fun _ _ _ h => h) (Or.inr ⟨by kernel_rfl, rfl⟩) hS ?_
        try simp only [Act.put, List.getElem_toArray, List.getElem_cons_succ, List.getElem_cons_zero, List.setIfInBounds_toArray, List.set_cons_zero, List.set_cons_succ]
        refine wpAnyH_take (i := 21) (v := undef) rfl (by kernel_rfl) (by kernel_rfl) (by kernel_rfl) (fun _ _ _ h => h) (Or.inr ⟨by kernel_rfl, rfl⟩) hS ?_
        try simp only [Act.put, List.getElem_toArray, List.getElem_cons_succ, List.getElem_cons_zero, List.setIfInBounds_toArray, List.set_cons_zero, List.set_cons_succ]
        refine wpAnyH_take (i := 22) (v := .bool true) rfl (by kernel_rfl) (by kernel_rfl) (by kernel_rfl) (fun _ _ _ h => h) (Or.inl ⟨by kernel_rfl, ?_⟩) hS ?_
        · intro w' hSw
          go_simp
        try simp only [Act.put, List.getElem_toArray, List.getElem_cons_succ, List.getElem_cons_zero, List.setIfInBounds_toArray, List.set_cons_zero, List.set_cons_succ]
        refine wpAnyH_take (i := 23) (v := .bool true) rfl (by kernel_rfl) (by kernel_rfl) (by kernel_rfl) (fun _ _ _ h => h) (Or.inl ⟨by kernel_rfl, ?_⟩) hS ?_
        · intro w' hSw
          go_simp
        try simp only [Act.put, List.getElem_toArray, List.getElem_cons_succ, List.getElem_cons_zero, List.setIfInBounds_toArray, List.set_cons_zero, List.set_cons_succ]
        refine wpAnyH_done (by kernel_rfl) ?_ _
        try simp only [zzP]
        go_wp2_with fail
        go_ret
        exact ⟨rfl, HB11.out.drewX _⟩
      subst hg hk
      obtain ⟨YX, hyx, hxx, hlt9, hle9⟩ : ∃ YX : List UInt8, YL w11 YX Ay nx cy ∧ YL w11 YX Ax nx cx ∧ nx < ny ∧ ny ≤ cy := by
        rcases H10.out with ⟨x, h1, _, _, h2⟩ | ⟨_, h1, _⟩
        rotate_left
        · exact absurd rfl h1
        rcases hres11 with ⟨y, h3, _, _, h4⟩ | ⟨_, h3, _⟩
        rotate_left
        · exact absurd rfl h3
        obtain ⟨l', rfl⟩ := showD_more h1 h3
        have hxl := h2.len
        have hyl := h4.len
        have hlen : 0 < (lineD s l').length := by simp [lineD]; omega
        rw [List.length_append] at hyl
        refine ⟨x, ?_, h2.yl.keep hb11, by dsimp only at hlen hyl ⊢; omega, h4.yl.le⟩
        have := h4.yl.cut (m := nx) (by dsimp only at hlen hyl ⊢; omega)
        rwa [List.take_append_of_le_length (by omega), List.take_of_length_le (by omega)] at this
      obtain ⟨X, hX⟩ : ∃ X : ByteArray, X = ⟨YX.toArray⟩ := ⟨_, rfl⟩
      have HYX := Lib.hid (And.intro hX (And.intro hyx hxx))
      have hxc := hxx.le
      have hn0 : (0 : Int) ≤ (nx : Int) := by omega
      have hn1 : (nx : Int) < (ny : Int) := by omega
      have hn2 : (nx : Int) ≤ (cy : Int) := by omega
      have dn : decide ((nx : Int) < (ny : Int)) = true := by simpa using hn1
      clear hX hyx hxx hres11 hb11 H10 HE HB10 HD10
      go_wp2_with fail
      have HKS : Hid (∀ w' : World, Below w11.heap.size w11 w' → (fun w' => (convert 29 9 (.slice Ay nx cy)).run Tryd.prog w' = .ok (.string X) w' ∧ (convert 29 9 (.slice Ax nx cx)).run Tryd.prog w' = .ok (.string X) w') w') := Lib.hid fun w' h => ⟨by rw [HYX.out.1]; exact run_string (HYX.out.2.1.keep h), by rw [HYX.out.1]; exact run_string (HYX.out.2.2.keep h)⟩
      have hbd : Below w11.heap.size w11 w11.drew := (Below.refl _ w11).drew
      refine zzR HKS hbd (fun hS => ?_)
      simp only [List.size_toArray, List.length_cons, List.length_nil, Nat.reduceAdd]
      refine wpAnyH_take (i := 0) (v := .int .i64 0) rfl (by kernel_rfl) (by kernel_rfl) (by kernel_rfl) (fun _ _ _ h => h) (Or.inl ⟨by kernel_rfl, ?_⟩) hS ?_
      · intro w' hSw
        obtain ⟨s0, s1⟩ := hSw
        go_simp
      try simp only [Act.put, List.getElem_toArray, List.getElem_cons_zero, List.setIfInBounds_toArray, List.set_cons_zero, List.set_cons_succ]
      refine wpAnyH_take (i := 1) (v := .bool false) rfl (by kernel_rfl) (by kernel_rfl) (by kernel_rfl) (fun _ _ _ h => h) (Or.inl ⟨by kernel_rfl, ?_⟩) hS ?_
      · intro w' hSw
        obtain ⟨s0, s1⟩ := hSw
        go_simp
      try simp only [Act.put, List.getElem_toArray, List.getElem_cons_succ, List.getElem_cons_zero, List.setIfInBounds_toArray, List.set_cons_zero, List.set_cons_succ]
      refine wpAnyH_take (i := 2) (v := .bool false) rfl (by kernel_rfl) (by kernel_rfl) (by kernel_rfl) (fun _ _ _ h => h) (Or.inl ⟨by kernel_rfl, ?_⟩) hS ?_
      · intro w' hSw
        obtain ⟨s0, s1⟩ := hSw
        go_simp
      try simp only [Act.put, List.getElem_toArray, List.getElem_cons_succ, List.getElem_cons_zero, List.setIfInBounds_toArray, List.set_cons_zero, List.set_cons_succ]
      refine wpAnyH_take (i := 3) (v := .int .i64 0) rfl (by kernel_rfl) (by kernel_rfl) (by kernel_rfl) (fun _ _ _ h => h) (Or.inl ⟨by kernel_rfl, ?_⟩) hS ?_
      · intro w' hSw
        obtain ⟨s0, s1⟩ := hSw
        go_simp
      try simp only [Act.put, List.getElem_toArray, List.getElem_cons_succ, List.getElem_cons_zero, List.setIfInBounds_toArray, List.set_cons_zero, List.set_cons_succ]
      refine wpAnyH_take (i := 4) (v := .bool false) rfl (by kernel_rfl) (by kernel_rfl) (by kernel_rfl) (fun _ _ _ h => h) (Or.inl ⟨by kernel_rfl, ?_⟩) hS ?_
      · intro w' hSw
        obtain ⟨s0, s1⟩ := hSw
        go_simp
      try simp only [Act.put, List.getElem_toArray, List.getElem_cons_succ, List.getElem_cons_zero, List.setIfInBounds_toArray, List.set_cons_zero, List.set_cons_succ]
      refine wpAnyH_take (i := 5) (v := .bool false) rfl (by kernel_rfl) (by kernel_rfl) (by kernel_rfl) (fun _ _ _ h => h) (Or.inl ⟨by kernel_rfl, ?_⟩) hS ?_
      · intro w' hSw
        obtain ⟨s0, s1⟩ := hSw
        go_simp
      try simp only [Act.put, List.getElem_toArray, List.getElem_cons_succ, List.getElem_cons_zero, List.setIfInBounds_toArray, List.set_cons_zero, List.set_cons_succ]
      refine wpAnyH_take (i := 6) (v := .bool false) rfl (by kernel_rfl) (by kernel_rfl) (by kernel_rfl) (fun _ _ _ h => h) (Or.inl ⟨by kernel_rfl, ?_⟩) hS ?_
      · intro w' hSw
        obtain ⟨s0, s1⟩ := hSw
        go_simp
      try simp only [Act.put, List.getElem_toArray, List.getElem_cons_succ, List.getElem_cons_zero, List.setIfInBounds_toArray, List.set_cons_zero, List.set_cons_succ]
      refine wpAnyH_take (i := 7) (v := .slice Ay ny cy) rfl (by kernel_rfl) (by kernel_rfl) (by kernel_rfl) (fun _ _ _ h => h) (Or.inl ⟨by kernel_rfl, ?_⟩) hS ?_
      · intro w' hSw
        obtain ⟨s0, s1⟩ := hSw
        go_simp
      try simp only [Act.put, List.getElem_toArray, List.getElem_cons_succ, List.getElem_cons_zero, List.setIfInBounds_toArray, List.set_cons_zero, List.set_cons_succ]
      refine wpAnyH_take (i := 8) (v := .int .i64 (ny : Nat)) rfl (by kernel_rfl) (by kernel_rfl) (by kernel_rfl) (fun _ _ _ h => h) (Or.inl ⟨by kernel_rfl, ?_⟩) hS ?_
      · intro w' hSw
        obtain ⟨s0, s1⟩ := hSw
        go_simp
      try simp only [Act.put, List.getElem_toArray, List.getElem_cons_succ, List.getElem_cons_zero, List.setIfInBounds_toArray, List.set_cons_zero, List.set_cons_succ]
      refine wpAnyH_take (i := 9) (v := .slice Ax nx cx) rfl (by kernel_rfl) (by kernel_rfl) (by kernel_rfl) (fun _ _ _ h => h) (Or.inl ⟨by kernel_rfl, ?_⟩) hS ?_
      · intro w' hSw
        obtain ⟨s0, s1⟩ := hSw
        go_simp
      try simp only [Act.put, List.getElem_toArray, List.getElem_cons_succ, List.getElem_cons_zero, List.setIfInBounds_toArray, List.set_cons_zero, List.set_cons_succ]
      refine wpAnyH_take (i := 10) (v := .int .i64 (nx : Nat)) rfl (by kernel_rfl) (by kernel_rfl) (by kernel_rfl) (fun _ _ _ h => h) (Or.inl ⟨by kernel_rfl, ?_⟩) hS ?_
      · intro w' hSw
        obtain ⟨s0, s1⟩ := hSw
        go_simp
      try simp only [Act.put, List.getElem_toArray, List.getElem_cons_succ, List.getElem_cons_zero, List.setIfInBounds_toArray, List.set_cons_zero, List.set_cons_succ]
      refine wpAnyH_take (i := 11) (v := .bool true) rfl (by kernel_rfl) (by kernel_rfl) (by kernel_rfl) (fun _ _ _ h => h) (Or.inl ⟨by kernel_rfl, ?_⟩) hS ?_
      · intro w' hSw
        obtain ⟨s0, s1⟩ := hSw
        go_simp
      try simp only [Act.put, List.getElem_toArray, List.getElem_cons_succ, List.getElem_cons_zero, List.setIfInBounds_toArray, List.set_cons_zero, List.set_cons_succ]
      refine wpAnyH_take (i := 12) (v := .bool true) rfl (by kernel_rfl) (by kernel_rfl) (by kernel_rfl) (fun _ _ _ h => h) (Or.inl ⟨by kernel_rfl, ?_⟩) hS ?_
      · intro w' hSw
        obtain ⟨s0, s1⟩ := hSw
        go_simp
      try simp only [Act.put, List.getElem_toArray, List.getElem_cons_succ, List.getElem_cons_zero, List.setIfInBounds_toArray, List.set_cons_zero, List.set_cons_succ]
      refine wpAnyH_take (i := 13) (v := .slice Ay ny cy) rfl (by kernel_rfl) (by kernel_rfl) (by kernel_rfl) (fun _ _ _ h => h) (Or.inl ⟨by kernel_rfl, ?_⟩) hS ?_
      · intro w' hSw
        obtain ⟨s0, s1⟩ := hSw
        go_simp
      try simp only [Act.put, List.getElem_toArray, List.getElem_cons_succ, List.getElem_cons_zero, List.setIfInBounds_toArray, List.set_cons_zero, List.set_cons_succ]
      refine wpAnyH_take (i := 14) (v := .slice Ax nx cx) rfl (by kernel_rfl) (by kernel_rfl) (by kernel_rfl) (fun _ _ _ h => h) (Or.inl ⟨by kernel_rfl, ?_⟩) hS ?_
      · intro w' hSw
        obtain ⟨s0, s1⟩ := hSw
        go_simp
      try simp only [Act.put, List.getElem_toArray, List.getElem_cons_succ, List.getElem_cons_zero, List.setIfInBounds_toArray, List.set_cons_zero, List.set_cons_succ]
      refine wpAnyH_take (i := 15) (v := .int .i64 (nx : Nat)) rfl (by kernel_rfl) (by kernel_rfl) (by kernel_rfl) (fun _ _ _ h => h) (Or.inl ⟨by kernel_rfl, ?_⟩) hS ?_
      · intro w' hSw
        obtain ⟨s0, s1⟩ := hSw
        go_simp
      try simp only [Act.put, List.getElem_toArray, List.getElem_cons_succ, List.getElem_cons_zero, List.setIfInBounds_toArray, List.set_cons_zero, List.set_cons_succ]
      refine wpAnyH_take (i := 16) (v := .slice Ay nx cy) rfl (by kernel_rfl) (by kernel_rfl) (by kernel_rfl) (fun _ _ _ h => h) (Or.inl ⟨by kernel_rfl, ?_⟩) hS ?_
      · intro w' hSw
        obtain ⟨s0, s1⟩ := hSw
        go_simp
      try simp only [Act.put, List.getElem_toArray, List.getElem_cons_succ, List.getElem_cons_zero, List.setIfInBounds_toArray, List.set_cons_zero, List.set_cons_succ]
      refine wpAnyH_take (i := 17) (v := .string X) rfl (by kernel_rfl) (by kernel_rfl) (by kernel_rfl) (fun _ _ _ h => h) (Or.inl ⟨by kernel_rfl, ?_⟩) hS ?_
      · intro w' hSw
        obtain ⟨s0, s1⟩ := hSw
        go_simp
      try simp only [Act.put, List.getElem_toArray, List.getElem_cons_succ, List.getElem_cons_zero, List.setIfInBounds_toArray, List.set_cons_zero, List.set_cons_succ]
      refine wpAnyH_take (i := 18) (v := .slice Ax nx cx) rfl (by kernel_rfl) (by kernel_rfl) (by kernel_rfl) (fun _ _ _ h => h) (Or.inl ⟨by kernel_rfl, ?_⟩) hS ?_
      · intro w' hSw
        obtain ⟨s0, s1⟩ := hSw
        go_simp
      try simp only [Act.put, List.getElem_toArray, List.getElem_cons_succ, List.getElem_cons_zero, List.setIfInBounds_toArray, List.set_cons_zero, List.set_cons_succ]
      refine wpAnyH_take (i := 19) (v := .string X) rfl (by kernel_rfl) (by kernel_rfl) (by kernel_rfl) (fun _ _ _ h => h) (Or.inl ⟨by kernel_rfl, ?_⟩) hS ?_
      · intro w' hSw
        obtain ⟨s0, s1⟩ := hSw
        go_simp
      try simp only [Act.put, List.getElem_toArray, List.getElem_cons_succ, List.getElem_cons_zero, List.setIfInBounds_toArray, List.set_cons_zero, List.set_cons_succ]
      refine wpAnyH_take (i := 20) (v := .bool true) rfl (by kernel_rfl) (by kernel_rfl) (by kernel_rfl) (fun _ _ _ h => h) (Or.inl ⟨by kernel_rfl, ?_⟩) hS ?_
      · intro w' hSw
        obtain ⟨s0, s1⟩ := hSw
        go_simp
      try simp only [Act.put, List.getElem_toArray, List.getElem_cons_succ, List.getElem_cons_zero, List.setIfInBounds_toArray, List.set_cons_zero, List.set_cons_succ]
      refine wpAnyH_take (i := 21) (v := .bool true) rfl (by kernel_rfl) (by kernel_rfl) (by kernel_rfl) (fun _ _ _ h => h) (Or.inl ⟨by kernel_rfl, ?_⟩) hS ?_
      · intro w' hSw
        obtain ⟨s0, s1⟩ := hSw
        go_simp
      try simp only [Act.put, List.getElem_toArray, List.getElem_cons_succ, List.getElem_cons_zero, List.setIfInBounds_toArray, List.set_cons_zero, List.set_cons_succ]
      refine wpAnyH_take (i := 22) (v := .bool true) rfl (by kernel_rfl) (by kernel_rfl) (by kernel_rfl) (fun _ _ _ h => h) (Or.inl ⟨by kernel_rfl, ?_⟩) hS ?_
      · intro w' hSw
        obtain ⟨s0, s1⟩ := hSw
        go_simp
      try simp only [Act.put, List.getElem_toArray, List.getElem_cons_succ, List.getElem_cons_zero, List.setIfInBounds_toArray, List.set_cons_zero, List.set_cons_succ]
      refine wpAnyH_take (i := 23) (v := .bool true) rfl (by kernel_rfl) (by kernel_rfl) (by kernel_rfl) (fun _ _ _ h => h) (Or.inl ⟨by kernel_rfl, ?_⟩) hS ?_
      · intro w' hSw
        obtain ⟨s0, s1⟩ := hSw
        go_simp
      try simp only [Act.put, List.getElem_toArray, List.getElem_cons_succ, List.getElem_cons_zero, List.setIfInBounds_toArray, List.set_cons_zero, List.set_cons_succ]
      refine wpAnyH_done (by kernel_rfl) ?_ _
      try simp only [zzP]
      go_wp2_with fail
      go_ret
      exact ⟨rfl, HB11.out.drewX _⟩

    · have hcv8 := run_string hy8
      have hcv9 := run_string hy9
      obtain ⟨tx, htx⟩ : ∃ tx : ByteArray, (⟨l.toArray⟩ : ByteArray) = tx := ⟨_, rfl⟩
      rw [htx] at hcv8 hcv9
      clear htx hy8 hy9
      go_wp2_with fail
      clear hcv8 hcv9
      refine HC.out.mono ?_
      rintro e w10 ⟨hb10, Ax, nx, cx, g, rfl, hres10⟩
      have HB10 := Lib.hid (HB9.out.trans (hb10.mono HB9.out.size))
      have HD10 := Lib.hid (HD9.out.keep hb10)
      have HE := Lib.hid (sDeclsC (ds ++ [(s, td)]) (some ⟨g7, 0, none⟩) (sn + 1) cap7 w10 HD10.out HS7.out (by rw [List.length_append, List.length_singleton]; omega))
      have H10 := Lib.hid hres10
      clear HC hb10 hres10 HB9 HD9
      go_wp2_with fail
      refine HE.out.mono ?_
      rintro e w11 ⟨hb11, Ay, ny, cy, hh, rfl, hres11⟩
      have HB11 := Lib.hid (HB10.out.trans (hb11.mono HB10.out.size))
      by_cases hg : g = 0
      rotate_left
      · have dg : (g == 0) = false := by simpa using hg
        clear hres11 hb11 H10 HE HB10 HD10
        go_wp2_with fail
        have HKS : Hid (∀ w' : World, Below w11.heap.size w11 w' → (fun _ => True) w') := Lib.hid fun w' h => trivial
        have hbd : Below w11.heap.size w11 w11.drew := (Below.refl _ w11).drew
        refine zzR HKS hbd (fun hS => ?_)
        simp only [List.size_toArray, List.length_cons, List.length_nil, Nat.reduceAdd]
        refine wpAnyH_take (i := 0) (v := .int .i64 g) rfl (by kernel_rfl) (by kernel_rfl) (by kernel_rfl) (fun _ _ _ h => h) (Or.inl ⟨by kernel_rfl, ?_⟩) hS ?_
        · intro w' hSw
          go_simp
        try simp only [Act.put, List.getElem_toArray, List.getElem_cons_zero, List.setIfInBounds_toArray, List.set_cons_zero, List.set_cons_succ]
        refine wpAnyH_take (i := 1) (v := .bool true) rfl (by kernel_rfl) (by kernel_rfl) (by kernel_rfl) (fun _ _ _ h => h) (Or.inl ⟨by kernel_rfl, ?_⟩) hS ?_
        · intro w' hSw
          go_simp
        try simp only [Act.put, List.getElem_toArray, List.getElem_cons_succ, List.getElem_cons_zero, List.setIfInBounds_toArray, List.set_cons_zero, List.set_cons_succ]
        refine wpAnyH_take (i := 2) (v := .bool true) rfl (by kernel_rfl) (by kernel_rfl) (by kernel_rfl) (fun _ _ _ h => h) (Or.inl ⟨by kernel_rfl, ?_⟩) hS ?_
        · intro w' hSw
          go_simp
        try simp only [Act.put, List.getElem_toArray, List.getElem_cons_succ, List.getElem_cons_zero, List.setIfInBounds_toArray, List.set_cons_zero, List.set_cons_succ]
        refine wpAnyH_take (i := 3) (v := undef) rfl (by kernel_rfl) (by kernel_rfl) (by kernel_rfl) (fun _ _ _ h => h) (Or.inr ⟨by kernel_rfl, rfl⟩) hS ?_
        try simp only [Act.put, List.getElem_toArray, List.getElem_cons_succ, List.getElem_cons_zero, List.setIfInBounds_toArray, List.set_cons_zero, List.set_cons_succ]
        refine wpAnyH_take (i := 4) (v := undef) rfl (by kernel_rfl) (by kernel_rfl) (by kernel_rfl) (fun _ _ _ h => h) (Or.inr ⟨by kernel_rfl, rfl⟩) hS ?_
        try simp only [Act.put, List.getElem_toArray, List.getElem_cons_succ, List.getElem_cons_zero, List.setIfInBounds_toArray, List.set_cons_zero, List.set_cons_succ]
        refine wpAnyH_take (i := 5) (v := .bool true) rfl (by kernel_rfl) (by kernel_rfl) (by kernel_rfl) (fun _ _ _ h => h) (Or.inl ⟨by kernel_rfl, ?_⟩) hS ?_
        · intro w' hSw
          go_simp
        try simp only [Act.put, List.getElem_toArray, List.getElem_cons_succ, List.getElem_cons_zero, List.setIfInBounds_toArray, List.set_cons_zero, List.set_cons_succ]
        refine wpAnyH_take (i := 6) (v := .bool true) rfl (by kernel_rfl) (by kernel_rfl) (by kernel_rfl) (fun _ _ _ h => h) (Or.inl ⟨by kernel_rfl, ?_⟩) hS ?_
        · intro w' hSw
          go_simp
        try simp only [Act.put, List.getElem_toArray, List.getElem_cons_succ, List.getElem_cons_zero, List.setIfInBounds_toArray, List.set_cons_zero, List.set_cons_succ]
        refine wpAnyH_take (i := 7) (v := undef) rfl (by kernel_rfl) (by kernel_rfl) (by kernel_rfl) (fun _ _ _ h => h) (Or.inr ⟨by kernel_rfl, rfl⟩) hS ?_
        try simp only [Act.put, List.getElem_toArray, List.getElem_cons_succ, List.getElem_cons_zero, List.setIfInBounds_toArray, List.set_cons_zero, List.set_cons_succ]
        refine wpAnyH_take (i := 8) (v := undef) rfl (by kernel_rfl) (by kernel_rfl) (by kernel_rfl) (fun _ _ _ h => h) (Or.inr ⟨by kernel_rfl, rfl⟩) hS ?_
        try simp only [Act.put, List.getElem_toArray, List.getElem_cons_succ, List.getElem_cons_zero, List.setIfInBounds_toArray, List.set_cons_zero, List.set_cons_succ]
        refine wpAnyH_take (i := 9) (v := undef) rfl (by kernel_rfl) (by kernel_rfl) (by kernel_rfl) (fun _ _ _ h => h) (Or.inr ⟨by kernel_rfl, rfl⟩) hS ?_
        try simp only [Act.put, List.getElem_toArray, List.getElem_cons_succ, List.getElem_cons_zero, List.setIfInBounds_toArray, List.set_cons_zero, List.set_cons_succ]
        refine wpAnyH_take (i := 10) (v := undef) rfl (by kernel_rfl) (by kernel_rfl) (by kernel_rfl) (fun _ _ _ h => h) (Or.inr ⟨by kernel_rfl, rfl⟩) hS ?_
        try simp only [Act.put, List.getElem_toArray, List.getElem_cons_succ, List.getElem_cons_zero, List.setIfInBounds_toArray, List.set_cons_zero, List.set_cons_succ]
        refine wpAnyH_take (i := 11) (v := undef) rfl (by kernel_rfl) (by kernel_rfl) (by kernel_rfl) (fun _ _ _ h => h) (Or.inr ⟨by kernel_rfl, rfl⟩) hS ?_
        try simp only [Act.put, List.getElem_toArray, List.getElem_cons_succ, List.getElem_cons_zero, List.setIfInBounds_toArray, List.set_cons_zero, List.set_cons_succ]
        refine wpAnyH_take (i := 12) (v := undef) rfl (by kernel_rfl) (by kernel_rfl) (by kernel_rfl) (fun _ _ _ h => h) (Or.inr ⟨by kernel_rfl, rfl⟩) hS ?_
        try simp only [Act.put, List.getElem_toArray, List.getElem_cons_succ, List.getElem_cons_zero, List.setIfInBounds_toArray, List.set_cons_zero, List.set_cons_succ]
        refine wpAnyH_take (i := 13) (v := undef) rfl (by kernel_rfl) (by kernel_rfl) (by kernel_rfl) (fun _ _ _ h => h) (Or.inr ⟨by kernel_rfl, rfl⟩) hS ?_
        try simp only [Act.put, List.getElem_toArray, List.getElem_cons_succ, List.getElem_cons_zero, List.setIfInBounds_toArray, List.set_cons_zero, List.set_cons_succ]
        refine wpAnyH_take (i := 14) (v := undef) rfl (by kernel_rfl) (by kernel_rfl) (by kernel_rfl) (fun _ _ _ h => h) (Or.inr ⟨by kernel_rfl, rfl⟩) hS ?_
        try simp only [Act.put, List.getElem_toArray, List.getElem_cons_succ, List.getElem_cons_zero, List.setIfInBounds_toArray, List.set_cons_zero, List.set_cons_succ]
        refine wpAnyH_take (i := 15) (v := undef) rfl (by kernel_rfl) (by kernel_rfl) (by kernel_rfl) (fun _ _ _ h => h) (Or.inr ⟨by kernel_rfl, rfl⟩) hS ?_
        try simp only [Act.put, List.getElem_toArray, List.getElem_cons_succ, List.getElem_cons_zero, List.setIfInBounds_toArray, List.set_cons_zero, List.set_cons_succ]
        refine wpAnyH_take (i := 16) (v := undef) rfl (by kernel_rfl) (by kernel_rfl) (by kernel_rfl) (fun _ _ _ h => h) (Or.inr ⟨by kernel_rfl, rfl⟩) hS ?_
        try simp only [Act.put, List.getElem_toArray, List.getElem_cons_succ, List.getElem_cons_zero, List.setIfInBounds_toArray, List.set_cons_zero, List.set_cons_succ]
        refine wpAnyH_take (i := 17) (v := undef) rfl (by kernel_rfl) (by kernel_rfl) (by kernel_rfl) (fun _ _ _ h => h) (Or.inr ⟨by kernel_rfl, rfl⟩) hS ?_
        try simp only [Act.put, List.getElem_toArray, List.getElem_cons_succ, List.getElem_cons_zero, List.setIfInBounds_toArray, List.set_cons_zero, List.set_cons_succ]
        refine wpAnyH_take (i := 18) (v := undef) rfl (by kernel_rfl) (by kernel_rfl) (by kernel_rfl) (fun _ _ _ h => h) (Or.inr ⟨by kernel_rfl, rfl⟩) hS ?_
        try simp only [Act.put, List.getElem_toArray, List.getElem_cons_succ, List.getElem_cons_zero, List.setIfInBounds_toArray, List.set_cons_zero, List.set_cons_succ]
        refine wpAnyH_take (i := 19) (v := undef) rfl (by kernel_rfl) (by kernel_rfl) (by kernel_rfl) (fun _ _ _ h => h) (Or.inr ⟨by kernel_rfl, rfl⟩) hS ?_
        try simp only [Act.put, List.getElem_toArray, List.getElem_cons_succ, List.getElem_cons_zero, List.setIfInBounds_toArray, List.set_cons_zero, List.set_cons_succ]
        refine wpAnyH_take (i := 20) (v := undef) rfl (by kernel_rfl) (by kernel_rfl) (by kernel_rfl) (fun _ _ _ h => h) (Or.inr ⟨by kernel_rfl, rfl⟩) hS ?_
        try simp only [Act.put, List.getElem_toArray, List.getElem_cons_succ, List.getElem_cons_zero, List.setIfInBounds_toArray, List.set_cons_zero, List.set_cons_succ]
        refine wpAnyH_take (i := 21) (v := undef) rfl (by kernel_rfl) (by kernel_rfl) (by kernel_rfl) (fun _ _ _ h => h) (Or.inr ⟨by kernel_rfl, rfl⟩) hS ?_
        try simp only [Act.put, List.getElem_toArray, List.getElem_cons_succ, List.getElem_cons_zero, List.setIfInBounds_toArray, List.set_cons_zero, List.set_cons_succ]
        refine wpAnyH_take (i := 22) (v := .bool true) rfl (by kernel_rfl) (by kernel_rfl) (by kernel_rfl) (fun _ _ _ h => h) (Or.inl ⟨by kernel_rfl, ?_⟩) hS ?_
        · intro w' hSw
          go_simp
        try simp only [Act.put, List.getElem_toArray, List.getElem_cons_succ, List.getElem_cons_zero, List.setIfInBounds_toArray, List.set_cons_zero, List.set_cons_succ]
        refine wpAnyH_take (i := 23) (v := .bool true) rfl (by kernel_rfl) (by kernel_rfl) (by kernel_rfl) (fun _ _ _ h => h) (Or.inl ⟨by kernel_rfl, ?_⟩) hS ?_
        · intro w' hSw
          go_simp
        try simp only [Act.put, List.getElem_toArray, List.getElem_cons_succ, List.getElem_cons_zero, List.setIfInBounds_toArray, List.set_cons_zero, List.set_cons_succ]
        refine wpAnyH_done (by kernel_rfl) ?_ _
        try simp only [zzP]
        go_wp2_with fail
        go_ret
        exact ⟨rfl, HB11.out.drewX _⟩
      by_cases hk : hh = 0
      rotate_left
      · have dh : (hh == 0) = false := by simpa using hk
        subst hg
        clear hres11 hb11 H10 HE HB10 HD10
        go_wp2_with fail
        have HKS : Hid (∀ w' : World, Below w11.heap.size w11 w' → (fun _ => True) w') := Lib.hid fun w' h => trivial
        have hbd : Below w11.heap.size w11 w11.drew := (Below.refl _ w11).drew
        refine zzR HKS hbd (fun hS => ?_)
        simp only [List.size_toArray, List.length_cons, List.length_nil, Nat.reduceAdd]
        refine wpAnyH_take (i := 0) (v := .int .i64 0) rfl (by kernel_rfl) (by kernel_rfl) (by kernel_rfl) (fun _ _ _ h => h) (Or.inl ⟨by kernel_rfl, ?_⟩) hS ?_
        · intro w' hSw
          go_simp
        try simp only [Act.put, List.getElem_toArray, List.getElem_cons_zero, List.setIfInBounds_toArray, List.set_cons_zero, List.set_cons_succ]
        refine wpAnyH_take (i := 1) (v := .bool false) rfl (by kernel_rfl) (by kernel_rfl) (by kernel_rfl) (fun _ _ _ h => h) (Or.inl ⟨by kernel_rfl, ?_⟩) hS ?_
        · intro w' hSw
          go_simp
        try simp only [Act.put, List.getElem_toArray, List.getElem_cons_succ, List.getElem_cons_zero, List.setIfInBounds_toArray, List.set_cons_zero, List.set_cons_succ]
        refine wpAnyH_take (i := 2) (v := .bool false) rfl (by kernel_rfl) (by kernel_rfl) (by kernel_rfl) (fun _ _ _ h => h) (Or.inl ⟨by kernel_rfl, ?_⟩) hS ?_
        · intro w' hSw
          go_simp
        try simp only [Act.put, List.getElem_toArray, List.getElem_cons_succ, List.getElem_cons_zero, List.setIfInBounds_toArray, List.set_cons_zero, List.set_cons_succ]
        refine wpAnyH_take (i := 3) (v := .int .i64 hh) rfl (by kernel_rfl) (by kernel_rfl) (by kernel_rfl) (fun _ _ _ h => h) (Or.inl ⟨by kernel_rfl, ?_⟩) hS ?_
        · intro w' hSw
          go_simp
        try simp only [Act.put, List.getElem_toArray, List.getElem_cons_succ, List.getElem_cons_zero, List.setIfInBounds_toArray, List.set_cons_zero, List.set_cons_succ]
        refine wpAnyH_take (i := 4) (v := .bool true) rfl (by kernel_rfl) (by kernel_rfl) (by kernel_rfl) (fun _ _ _ h => h) (Or.inl ⟨by kernel_rfl, ?_⟩) hS ?_
        · intro w' hSw
          go_simp
        try simp only [Act.put, List.getElem_toArray, List.getElem_cons_succ, List.getElem_cons_zero, List.setIfInBounds_toArray, List.set_cons_zero, List.set_cons_succ]
        refine wpAnyH_take (i := 5) (v := .bool true) rfl (by kernel_rfl) (by kernel_rfl) (by kernel_rfl) (fun _ _ _ h => h) (Or.inl ⟨by kernel_rfl, ?_⟩) hS ?_
        · intro w' hSw
          go_simp
        try simp only [Act.put, List.getElem_toArray, List.getElem_cons_succ, List.getElem_cons_zero, List.setIfInBounds_toArray, List.set_cons_zero, List.set_cons_succ]
        refine wpAnyH_take (i := 6) (v := .bool true) rfl (by kernel_rfl) (by kernel_rfl) (by kernel_rfl) (fun _ _ _ h => h) (Or.inl ⟨by kernel_rfl, ?_⟩) hS ?_
        · intro w' hSw
          go_simp
        try simp only [Act.put, List.getElem_toArray, List.getElem_cons_succ, List.getElem_cons_zero, List.setIfInBounds_toArray, List.set_cons_zero, List.set_cons_succ]
        refine wpAnyH_take (i := 7) (v := undef) rfl (by kernel_rfl) (by kernel_rfl) (by kernel_rfl) (fun _ _ _ h => h) (Or.inr ⟨by kernel_rfl, rfl⟩) hS ?_
        try simp only [Act.put, List.getElem_toArray, List.getElem_cons_succ, List.getElem_cons_zero, List.setIfInBounds_toArray, List.set_cons_zero, List.set_cons_succ]
        refine wpAnyH_take (i := 8) (v := undef) rfl (by kernel_rfl) (by kernel_rfl) (by kernel_rfl) (fun _ _ _ h => h) (Or.inr ⟨by kernel_rfl, rfl⟩) hS ?_
        try simp only [Act.put, List.getElem_toArray, List.getElem_cons_succ, List.getElem_cons_zero, List.setIfInBounds_toArray, List.set_cons_zero, List.set_cons_succ]
        refine wpAnyH_take (i := 9) (v := undef) rfl (by kernel_rfl) (by kernel_rfl) (by kernel_rfl) (fun _ _ _ h => h) (Or.inr ⟨by kernel_rfl, rfl⟩) hS ?_
        try simp only [Act.put, List.getElem_toArray, List.getElem_cons_succ, List.getElem_cons_zero, List.setIfInBounds_toArray, List.set_cons_zero, List.set_cons_succ]
        refine wpAnyH_take (i := 10) (v := undef) rfl (by kernel_rfl) (by kernel_rfl) (by kernel_rfl) (fun _ _ _ h => h) (Or.inr ⟨by kernel_rfl, rfl⟩) hS ?_
        try simp only [Act.put, List.getElem_toArray, List.getElem_cons_succ, List.getElem_cons_zero, List.setIfInBounds_toArray, List.set_cons_zero, List.set_cons_succ]
        refine wpAnyH_take (i := 11) (v := undef) rfl (by kernel_rfl) (by kernel_rfl) (by kernel_rfl) (fun _ _ _ h => h) (Or.inr ⟨by kernel_rfl, rfl⟩) hS ?_
        try simp only [Act.put, List.getElem_toArray, List.getElem_cons_succ, List.getElem_cons_zero, List.setIfInBounds_toArray, List.set_cons_zero, List.set_cons_succ]
        refine wpAnyH_take (i := 12) (v := undef) rfl (by kernel_rfl) (by kernel_rfl) (by kernel_rfl) (fun _ _ _ h => h) (Or.inr ⟨by kernel_rfl, rfl⟩) hS ?_
        try simp only [Act.put, List.getElem_toArray, List.getElem_cons_succ, List.getElem_cons_zero, List.setIfInBounds_toArray, List.set_cons_zero, List.set_cons_succ]
        refine wpAnyH_take (i := 13) (v := undef) rfl (by kernel_rfl) (by kernel_rfl) (by kernel_rfl) (fun _ _ _ h => h) (Or.inr ⟨by kernel_rfl, rfl⟩) hS ?_
        try simp only [Act.put, List.getElem_toArray, List.getElem_cons_succ, List.getElem_cons_zero, List.setIfInBounds_toArray, List.set_cons_zero, List.set_cons_succ]
        refine wpAnyH_take (i := 14) (v := undef) rfl (by kernel_rfl) (by kernel_rfl) (by kernel_rfl) (fun _ _ _ h => h) (Or.inr ⟨by kernel_rfl, rfl⟩) hS ?_
        try simp only [Act.put, List.getElem_toArray, List.getElem_cons_succ, List.getElem_cons_zero, List.setIfInBounds_toArray, List.set_cons_zero, List.set_cons_succ]
        refine wpAnyH_take (i := 15) (v := undef) rfl (by kernel_rfl) (by kernel_rfl) (by kernel_rfl) (fun _ _ _ h => h) (Or.inr ⟨by kernel_rfl, rfl⟩) hS ?_
        try simp only [Act.put, List.getElem_toArray, List.getElem_cons_succ, List.getElem_cons_zero, List.setIfInBounds_toArray, List.set_cons_zero, List.set_cons_succ]
        refine wpAnyH_take (i := 16) (v := undef) rfl (by kernel_rfl) (by kernel_rfl) (by kernel_rfl) (fun _ _ _ h => h) (Or.inr ⟨by kernel_rfl, rfl⟩) hS ?_
        try simp only [Act.put, List.getElem_toArray, List.getElem_cons_succ, List.getElem_cons_zero, List.setIfInBounds_toArray, List.set_cons_zero, List.set_cons_succ]
        refine wpAnyH_take (i := 17) (v := undef) rfl (by kernel_rfl) (by kernel_rfl) (by kernel_rfl) (fun _ _ _ h => h) (Or.inr ⟨by kernel_rfl, rfl⟩) hS ?_
        try simp only [Act.put, List.getElem_toArray, List.getElem_cons_succ, List.getElem_cons_zero, List.setIfInBounds_toArray, List.set_cons_zero, List.set_cons_succ]
        refine wpAnyH_take (i := 18) (v := undef) rfl (by kernel_rfl) (by kernel_rfl) (by kernel_rfl) (fun _ _ _ h => h) (Or.inr ⟨by kernel_rfl, rfl⟩) hS ?_
        try simp only [Act.put, List.getElem_toArray, List.getElem_cons_succ, List.getElem_cons_zero, List.setIfInBounds_toArray, List.set_cons_zero, List.set_cons_succ]
        refine wpAnyH_take (i := 19) (v := undef) rfl (by kernel_rfl) (by kernel_rfl) (by kernel_rfl) (fun _ _ _ h => h) (Or.inr ⟨by kernel_rfl, rfl⟩) hS ?_
        try simp only [Act.put, List.getElem_toArray, List.getElem_cons_succ, List.getElem_cons_zero, List.setIfInBounds_toArray, List.set_cons_zero, List.set_cons_succ]
        refine wpAnyH_take (i := 20) (v := undef) rfl (by kernel_rfl) (by kernel_rfl) (by kernel_rfl) (fun _ _ _ h => h) (Or.inr ⟨by kernel_rfl, rfl⟩) hS ?_
        try simp only [Act.put, List.getElem_toArray, List.getElem_cons_succ, List.getElem_cons_zero, List.setIfInBounds_toArray, List.set_cons_zero, List.set_cons_succ]
        refine wpAnyH_take (i := 21) (v := undef) rfl (by kernel_rfl) (by kernel_rfl) (by kernel_rfl) (fun _ _ _ h => h) (Or.inr ⟨by kernel_rfl, rfl⟩) hS ?_
        try simp only [Act.put, List.getElem_toArray, List.getElem_cons_succ, List.getElem_cons_zero, List.setIfInBounds_toArray, List.set_cons_zero, List.set_cons_succ]
        refine wpAnyH_take (i := 22) (v := .bool true) rfl (by kernel_rfl) (by kernel_rfl) (by kernel_rfl) (fun _ _ _ h => h) (Or.inl ⟨by kernel_rfl, ?_⟩) hS ?_
        · intro w' hSw
          go_simp
        try simp only [Act.put, List.getElem_toArray, List.getElem_cons_succ, List.getElem_cons_zero, List.setIfInBounds_toArray, List.set_cons_zero, List.set_cons_succ]
        refine wpAnyH_take (i := 23) (v := .bool true) rfl (by kernel_rfl) (by kernel_rfl) (by kernel_rfl) (fun _ _ _ h => h) (Or.inl ⟨by kernel_rfl, ?_⟩) hS ?_
        · intro w' hSw
          go_simp
        try simp only [Act.put, List.getElem_toArray, List.getElem_cons_succ, List.getElem_cons_zero, List.setIfInBounds_toArray, List.set_cons_zero, List.set_cons_succ]
        refine wpAnyH_done (by kernel_rfl) ?_ _
        try simp only [zzP]
        go_wp2_with fail
        go_ret
        exact ⟨rfl, HB11.out.drewX _⟩
      subst hg hk
      obtain ⟨YX, hyx, hxx, hlt9, hle9⟩ : ∃ YX : List UInt8, YL w11 YX Ay nx cy ∧ YL w11 YX Ax nx cx ∧ nx < ny ∧ ny ≤ cy := by
        rcases H10.out with ⟨x, h1, _, _, h2⟩ | ⟨_, h1, _⟩
        rotate_left
        · exact absurd rfl h1
        rcases hres11 with ⟨y, h3, _, _, h4⟩ | ⟨_, h3, _⟩
        rotate_left
        · exact absurd rfl h3
        obtain ⟨l', rfl⟩ := showD_more h1 h3
        have hxl := h2.len
        have hyl := h4.len
        have hlen : 0 < (lineD s l').length := by simp [lineD]; omega
        rw [List.length_append] at hyl
        refine ⟨x, ?_, h2.yl.keep hb11, by dsimp only at hlen hyl ⊢; omega, h4.yl.le⟩
        have := h4.yl.cut (m := nx) (by dsimp only at hlen hyl ⊢; omega)
        rwa [List.take_append_of_le_length (by omega), List.take_of_length_le (by omega)] at this
      obtain ⟨X, hX⟩ : ∃ X : ByteArray, X = ⟨YX.toArray⟩ := ⟨_, rfl⟩
      have HYX := Lib.hid (And.intro hX (And.intro hyx hxx))
      have hxc := hxx.le
      have hn0 : (0 : Int) ≤ (nx : Int) := by omega
      have hn1 : (nx : Int) < (ny : Int) := by omega
      have hn2 : (nx : Int) ≤ (cy : Int) := by omega
      have dn : decide ((nx : Int) < (ny : Int)) = true := by simpa using hn1
      clear hX hyx hxx hres11 hb11 H10 HE HB10 HD10
      go_wp2_with fail
      have HKS : Hid (∀ w' : World, Below w11.heap.size w11 w' → (fun w' => (convert 29 9 (.slice Ay nx cy)).run Tryd.prog w' = .ok (.string X) w' ∧ (convert 29 9 (.slice Ax nx cx)).run Tryd.prog w' = .ok (.string X) w') w') := Lib.hid fun w' h => ⟨by rw [HYX.out.1]; exact run_string (HYX.out.2.1.keep h), by rw [HYX.out.1]; exact run_string (HYX.out.2.2.keep h)⟩
      have hbd : Below w11.heap.size w11 w11.drew := (Below.refl _ w11).drew
      refine zzR HKS hbd (fun hS => ?_)
      simp only [List.size_toArray, List.length_cons, List.length_nil, Nat.reduceAdd]
      refine wpAnyH_take (i := 0) (v := .int .i64 0) rfl (by kernel_rfl) (by kernel_rfl) (by kernel_rfl) (fun _ _ _ h => h) (Or.inl ⟨by kernel_rfl, ?_⟩) hS ?_
      · intro w' hSw
        obtain ⟨s0, s1⟩ := hSw
        go_simp
      try simp only [Act.put, List.getElem_toArray, List.getElem_cons_zero, List.setIfInBounds_toArray, List.set_cons_zero, List.set_cons_succ]
      refine wpAnyH_take (i := 1) (v := .bool false) rfl (by kernel_rfl) (by kernel_rfl) (by kernel_rfl) (fun _ _ _ h => h) (Or.inl ⟨by kernel_rfl, ?_⟩) hS ?_
      · intro w' hSw
        obtain ⟨s0, s1⟩ := hSw
        go_simp
      try simp only [Act.put, List.getElem_toArray, List.getElem_cons_succ, List.getElem_cons_zero, List.setIfInBounds_toArray, List.set_cons_zero, List.set_cons_succ]
      refine wpAnyH_take (i := 2) (v := .bool false) rfl (by kernel_rfl) (by kernel_rfl) (by kernel_rfl) (fun _ _ _ h => h) (Or.inl ⟨by kernel_rfl, ?_⟩) hS ?_
      · intro w' hSw
        obtain ⟨s0, s1⟩ := hSw
        go_simp
      try simp only [Act.put, List.getElem_toArray, List.getElem_cons_succ, List.getElem_cons_zero, List.setIfInBounds_toArray, List.set_cons_zero, List.set_cons_succ]
      refine wpAnyH_take (i := 3) (v := .int .i64 0) rfl (by kernel_rfl) (by kernel_rfl) (by kernel_rfl) (fun _ _ _ h => h) (Or.inl ⟨by kernel_rfl, ?_⟩) hS ?_
      · intro w' hSw
        obtain ⟨s0, s1⟩ := hSw
        go_simp
      try simp only [Act.put, List.getElem_toArray, List.getElem_cons_succ, List.getElem_cons_zero, List.setIfInBounds_toArray, List.set_cons_zero, List.set_cons_succ]
      refine wpAnyH_take (i := 4) (v := .bool false) rfl (by kernel_rfl) (by kernel_rfl) (by kernel_rfl) (fun _ _ _ h => h) (Or.inl ⟨by kernel_rfl, ?_⟩) hS ?_
      · intro w' hSw
        obtain ⟨s0, s1⟩ := hSw
        go_simp
      try simp only [Act.put, List.getElem_toArray, List.getElem_cons_succ, List.getElem_cons_zero, List.setIfInBounds_toArray, List.set_cons_zero, List.set_cons_succ]
      refine wpAnyH_take (i := 5) (v := .bool false) rfl (by kernel_rfl) (by kernel_rfl) (by kernel_rfl) (fun _ _ _ h => h) (Or.inl ⟨by kernel_rfl, ?_⟩) hS ?_
      · intro w' hSw
        obtain ⟨s0, s1⟩ := hSw
        go_simp
      try simp only [Act.put, List.getElem_toArray, List.getElem_cons_succ, List.getElem_cons_zero, List.setIfInBounds_toArray, List.set_cons_zero, List.set_cons_succ]
      refine wpAnyH_take (i := 6) (v := .bool false) rfl (by kernel_rfl) (by kernel_rfl) (by kernel_rfl) (fun _ _ _ h => h) (Or.inl ⟨by kernel_rfl, ?_⟩) hS ?_
      · intro w' hSw
        obtain ⟨s0, s1⟩ := hSw
        go_simp
      try simp only [Act.put, List.getElem_toArray, List.getElem_cons_succ, List.getElem_cons_zero, List.setIfInBounds_toArray, List.set_cons_zero, List.set_cons_succ]
      refine wpAnyH_take (i := 7) (v := .slice Ay ny cy) rfl (by kernel_rfl) (by kernel_rfl) (by kernel_rfl) (fun _ _ _ h => h) (Or.inl ⟨by kernel_rfl, ?_⟩) hS ?_
      · intro w' hSw
        obtain ⟨s0, s1⟩ := hSw
        go_simp
      try simp only [Act.put, List.getElem_toArray, List.getElem_cons_succ, List.getElem_cons_zero, List.setIfInBounds_toArray, List.set_cons_zero, List.set_cons_succ]
      refine wpAnyH_take (i := 8) (v := .int .i64 (ny : Nat)) rfl (by kernel_rfl) (by kernel_rfl) (by kernel_rfl) (fun _ _ _ h => h) (Or.inl ⟨by kernel_rfl, ?_⟩) hS ?_
      · intro w' hSw
        obtain ⟨s0, s1⟩ := hSw
        go_simp
      try simp only [Act.put, List.getElem_toArray, List.getElem_cons_succ, List.getElem_cons_zero, List.setIfInBounds_toArray, List.set_cons_zero, List.set_cons_succ]
      refine wpAnyH_take (i := 9) (v := .slice Ax nx cx) rfl (by kernel_rfl) (by kernel_rfl) (by kernel_rfl) (fun _ _ _ h => h) (Or.inl ⟨by kernel_rfl, ?_⟩) hS ?_
      · intro w' hSw
        obtain ⟨s0, s1⟩ := hSw
        go_simp
      try simp only [Act.put, List.getElem_toArray, List.getElem_cons_succ, List.getElem_cons_zero, List.setIfInBounds_toArray, List.set_cons_zero, List.set_cons_succ]
      refine wpAnyH_take (i := 10) (v := .int .i64 (nx : Nat)) rfl (by kernel_rfl) (by kernel_rfl) (by kernel_rfl) (fun _ _ _ h => h) (Or.inl ⟨by kernel_rfl, ?_⟩) hS ?_
      · intro w' hSw
        obtain ⟨s0, s1⟩ := hSw
        go_simp
      try simp only [Act.put, List.getElem_toArray, List.getElem_cons_succ, List.getElem_cons_zero, List.setIfInBounds_toArray, List.set_cons_zero, List.set_cons_succ]
      refine wpAnyH_take (i := 11) (v := .bool true) rfl (by kernel_rfl) (by kernel_rfl) (by kernel_rfl) (fun _ _ _ h => h) (Or.inl ⟨by kernel_rfl, ?_⟩) hS ?_
      · intro w' hSw
        obtain ⟨s0, s1⟩ := hSw
        go_simp
      try simp only [Act.put, List.getElem_toArray, List.getElem_cons_succ, List.getElem_cons_zero, List.setIfInBounds_toArray, List.set_cons_zero, List.set_cons_succ]
      refine wpAnyH_take (i := 12) (v := .bool true) rfl (by kernel_rfl) (by kernel_rfl) (by kernel_rfl) (fun _ _ _ h => h) (Or.inl ⟨by kernel_rfl, ?_⟩) hS ?_
      · intro w' hSw
        obtain ⟨s0, s1⟩ := hSw
        go_simp
      try simp only [Act.put, List.getElem_toArray, List.getElem_cons_succ, List.getElem_cons_zero, List.setIfInBounds_toArray, List.set_cons_zero, List.set_cons_succ]
      refine wpAnyH_take (i := 13) (v := .slice Ay ny cy) rfl (by kernel_rfl) (by kernel_rfl) (by kernel_rfl) (fun _ _ _ h => h) (Or.inl ⟨by kernel_rfl, ?_⟩) hS ?_
      · intro w' hSw
        obtain ⟨s0, s1⟩ := hSw
        go_simp
      try simp only [Act.put, List.getElem_toArray, List.getElem_cons_succ, List.getElem_cons_zero, List.setIfInBounds_toArray, List.set_cons_zero, List.set_cons_succ]
      refine wpAnyH_take (i := 14) (v := .slice Ax nx cx) rfl (by kernel_rfl) (by kernel_rfl) (by kernel_rfl) (fun _ _ _ h => h) (Or.inl ⟨by kernel_rfl, ?_⟩) hS ?_
      · intro w' hSw
        obtain ⟨s0, s1⟩ := hSw
        go_simp
      try simp only [Act.put, List.getElem_toArray, List.getElem_cons_succ, List.getElem_cons_zero, List.setIfInBounds_toArray, List.set_cons_zero, List.set_cons_succ]
      refine wpAnyH_take (i := 15) (v := .int .i64 (nx : Nat)) rfl (by kernel_rfl) (by kernel_rfl) (by kernel_rfl) (fun _ _ _ h => h) (Or.inl ⟨by kernel_rfl, ?_⟩) hS ?_
      · intro w' hSw
        obtain ⟨s0, s1⟩ := hSw
        go_simp
      try simp only [Act.put, List.getElem_toArray, List.getElem_cons_succ, List.getElem_cons_zero, List.setIfInBounds_toArray, List.set_cons_zero, List.set_cons_succ]
      refine wpAnyH_take (i := 16) (v := .slice Ay nx cy) rfl (by kernel_rfl) (by kernel_rfl) (by kernel_rfl) (fun _ _ _ h => h) (Or.inl ⟨by kernel_rfl, ?_⟩) hS ?_
      · intro w' hSw
        obtain ⟨s0, s1⟩ := hSw
        go_simp
      try simp only [Act.put, List.getElem_toArray, List.getElem_cons_succ, List.getElem_cons_zero, List.setIfInBounds_toArray, List.set_cons_zero, List.set_cons_succ]
      refine wpAnyH_take (i := 17) (v := .string X) rfl (by kernel_rfl) (by kernel_rfl) (by kernel_rfl) (fun _ _ _ h => h) (Or.inl ⟨by kernel_rfl, ?_⟩) hS ?_
      · intro w' hSw
        obtain ⟨s0, s1⟩ := hSw
        go_simp
      try simp only [Act.put, List.getElem_toArray, List.getElem_cons_succ, List.getElem_cons_zero, List.setIfInBounds_toArray, List.set_cons_zero, List.set_cons_succ]
      refine wpAnyH_take (i := 18) (v := .slice Ax nx cx) rfl (by kernel_rfl) (by kernel_rfl) (by kernel_rfl) (fun _ _ _ h => h) (Or.inl ⟨by kernel_rfl, ?_⟩) hS ?_
      · intro w' hSw
        obtain ⟨s0, s1⟩ := hSw
        go_simp
      try simp only [Act.put, List.getElem_toArray, List.getElem_cons_succ, List.getElem_cons_zero, List.setIfInBounds_toArray, List.set_cons_zero, List.set_cons_succ]
      refine wpAnyH_take (i := 19) (v := .string X) rfl (by kernel_rfl) (by kernel_rfl) (by kernel_rfl) (fun _ _ _ h => h) (Or.inl ⟨by kernel_rfl, ?_⟩) hS ?_
      · intro w' hSw
        obtain ⟨s0, s1⟩ := hSw
        go_simp
      try simp only [Act.put, List.getElem_toArray, List.getElem_cons_succ, List.getElem_cons_zero, List.setIfInBounds_toArray, List.set_cons_zero, List.set_cons_succ]
      refine wpAnyH_take (i := 20) (v := .bool true) rfl (by kernel_rfl) (by kernel_rfl) (by kernel_rfl) (fun _ _ _ h => h) (Or.inl ⟨by kernel_rfl, ?_⟩) hS ?_
      · intro w' hSw
        obtain ⟨s0, s1⟩ := hSw
        go_simp
      try simp only [Act.put, List.getElem_toArray, List.getElem_cons_succ, List.getElem_cons_zero, List.setIfInBounds_toArray, List.set_cons_zero, List.set_cons_succ]
      refine wpAnyH_take (i := 21) (v := .bool true) rfl (by kernel_rfl) (by kernel_rfl) (by kernel_rfl) (fun _ _ _ h => h) (Or.inl ⟨by kernel_rfl, ?_⟩) hS ?_
      · intro w' hSw
        obtain ⟨s0, s1⟩ := hSw
        go_simp
      try simp only [Act.put, List.getElem_toArray, List.getElem_cons_succ, List.getElem_cons_zero, List.setIfInBounds_toArray, List.set_cons_zero, List.set_cons_succ]
      refine wpAnyH_take (i := 22) (v := .bool true) rfl (by kernel_rfl) (by kernel_rfl) (by kernel_rfl) (fun _ _ _ h => h) (Or.inl ⟨by kernel_rfl, ?_⟩) hS ?_
      · intro w' hSw
        obtain ⟨s0, s1⟩ := hSw
        go_simp
      try simp only [Act.put, List.getElem_toArray, List.getElem_cons_succ, List.getElem_cons_zero, List.setIfInBounds_toArray, List.set_cons_zero, List.set_cons_succ]
      refine wpAnyH_take (i := 23) (v := .bool true) rfl (by kernel_rfl) (by kernel_rfl) (by kernel_rfl) (fun _ _ _ h => h) (Or.inl ⟨by kernel_rfl, ?_⟩) hS ?_
      · intro w' hSw
        obtain ⟨s0, s1⟩ := hSw
        go_simp
      try simp only [Act.put, List.getElem_toArray, List.getElem_cons_succ, List.getElem_cons_zero, List.setIfInBounds_toArray, List.set_cons_zero, List.set_cons_succ]
      refine wpAnyH_done (by kernel_rfl) ?_ _
      try simp only [zzP]
      go_wp2_with fail
      go_ret
      exact ⟨rfl, HB11.out.drewX _⟩

end Go.Proofs.YtmkahbbcagfbhaaDoor
