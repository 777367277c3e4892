/-
  Texts of one proof, put together. No statement is proved here.
-/
import Derived.Carry
import Derived.Test.YtmkahbbcagfbhaaDoorPkB
import Derived.Test.YtmkahbbcagfbhaaDoorBr
import Derived.Test.YtmkahbbcagfbhaaDoorAa
import Derived.Test.YtmkahbbcagfbhaaDoorPkA
import Derived.Test.YtmkahbbcagfbhaaDoorSa

/-
  Contract of package parse's begin. No statement is proved here.
-/
namespace Go.Proofs.YtmkahbbcagfbhaaDoor
open Go.ChangeShapes Go.WideShapes Go.ChangeAt Go.RowKit
set_option linter.unusedVariables false


/-- what begin tells -/
def BgE (l : List UInt8) (ds : List (ByteArray × T)) (SA : Option Addr) (sn sc : Nat) (w : World) (e : Ending) (w' : World) : Prop :=
  Below w.heap.size w w' ∧ ((lexE l ≠ 0 ∧ e = .returned (.tuple #[.pointer none, .int .i64 (lexE l)])) ∨ (lexE l = 0 ∧ ∃ R K, w.heap.size ≤ K ∧ K < R ∧ e = .returned (.tuple #[.pointer (some ⟨R, 0, none⟩), .int .i64 0]) ∧ PS R R K SA sn sc ds (lexT l) w'))
/-- what holds at the head of its loop -/
structure BgI (ds : List (ByteArray × T)) (R K : Nat) (w3 : World) (j : Nat) (wr : World) : Prop where
  mp : ∃ es cl, wr.heap[K]? = some (.map es cl) ∧ NumOk es (ds.take j)
  fr : FrB K w3 wr
set_option maxRecDepth 100000 in
set_option maxHeartbeats 2000000 in
theorem pBeginC (l : List UInt8) (A : Option Addr) (n c : Nat) (ds : List (ByteArray × T)) (SA : Option Addr) (sn sc : Nat) (w : World) (hY : YL w l A n c) (hD : DS w ds SA sn sc) (hds : ds.length ≤ 1000) :
    Calls Tryd.prog 34 #[.slice A n c, .slice SA sn sc] w (BgE l ds SA sn sc w) := by
  have HT := Lib.hid (xTokensC l A n c w hY)
  have HD := Lib.hid hD
  have hdl := hD.len
  have hdle := hD.le
  have hdc := hD.cap
  unfold maxLen at hdc
  clear hY hD
  go_enter Tryd.func34, Tryd.ntmps34
  go_wp2_with fail
  refine HT.out.mono ?_
  rintro e w1 ⟨A1, n1, c1, rfl, hrow, hb1⟩
  have HB1 := Lib.hid hb1
  have HRow := Lib.hid hrow
  have hs1 := hb1.size
  clear hrow hb1 HT
  by_cases he : lexE l = 0
  rotate_left
  · have d9 : (lexE l == 0) = false := by simpa using he
    go_wp2_with fail
    go_ret2
    exact ⟨HB1.out, .inl ⟨he, rfl⟩⟩
  rw [he]
  have hmm := @run_makeMap Tryd.prog
  obtain ⟨W3, hW3⟩ : ∃ W3, (w1.alloc (.map #[] 0)).alloc (.cells #[.slice A1 n1 c1, .slice SA sn sc, .map (some w1.heap.size)] 76) = W3 := ⟨_, rfl⟩
  have hb3 : Below w1.heap.size w1 W3 := by rw [← hW3]; exact ((Below.refl _ _).alloc (Nat.le_refl _) _).alloc (by simp) _
  have hl3 : W3.heap.size = w1.heap.size + 2 := by rw [← hW3]; simp
  have hbx : BoxX W3 (w1.heap.size + 1) 76 #[.slice A1 n1 c1, .slice SA sn sc, .map (some w1.heap.size)] := by
    have := BoxX.new (w1.alloc (.map #[] 0)) 76 #[.slice A1 n1 c1, .slice SA sn sc, .map (some w1.heap.size)]
    rw [← hW3]; simpa using this
  have hmp : W3.heap[w1.heap.size]? = some (.map #[] 0) := by
    rw [← hW3]; exact (Below.heap_alloc _ _ _ (by simp)).trans (World.alloc_heap_new w1 _)
  have HBX := Lib.hid hbx
  have HB3 := Lib.hid hb3
  have HI0 := Lib.hid (show BgI ds (w1.heap.size + 1) w1.heap.size W3 0 W3 from ⟨⟨_, _, hmp, NumOk.nil⟩, FrB.refl _ _⟩)
  have hd0 : (0 : Int) ≤ (sn : Int) := by omega
  clear hb3 hbx hmp
  subst hW3
  go_wp2_with fail
  clear hmm
  generalize ((w1.alloc (.map #[] 0)).alloc (.cells #[.slice A1 n1 c1, .slice SA sn sc, .map (some w1.heap.size)] 76)) = W3 at *
  go_loopw [28] (fun i wr => ∃ j, j ≤ sn ∧ i = .int .i64 (j : Nat) ∧ Hid (BgI ds (w1.heap.size + 1) w1.heap.size W3 j wr)) (fun i _ => sn - (Go.RowKit.intOf i).toNat)
  case atStart => exact ⟨0, Nat.zero_le _, rfl, HI0⟩
  case round =>
    clear HI0
    obtain ⟨j, hj, rfl, HI⟩ := hrel
    have hsr := HI.out.fr.size
    by_cases hlt : j < sn
    · obtain ⟨d, hd⟩ := at_ofX hdl hlt
      have hDr := HD.out.at_ j d hd
      have hdsz := HD.out.sz d (List.mem_of_getElem? hd)
      obtain ⟨b, o, k, g, A', n', c', hA, e0, e1, e2, e3, hr⟩ := hDr
      subst hA
      have hbl := cell_ltX e0
      dsimp only at hbl
      have hsame : ∀ q, wr.cell? ⟨b, q, none⟩ = w.cell? ⟨b, q, none⟩ := fun q => World.cell?_of_block (w := w) ((HI.out.fr.block b (by omega) (by omega)).trans ((HB3.out.block b (by omega)).trans (HB1.out.block b hbl)))
      rw [← hsame] at e0 e1 e2 e3
      obtain ⟨d1, dT⟩ := d
      dsimp only at e0 hdsz
      have htk : ds.take (j + 1) = ds.take j ++ [(d1, dT)] := by rw [List.take_add_one, hd]; rfl
      obtain ⟨es, cl, hmp, hnum⟩ := HI.out.mp
      have hbxr : BoxX wr (w1.heap.size + 1) 76 #[.slice A1 n1 c1, .slice (some ⟨b, o, none⟩) sn sc, .map (some w1.heap.size)] := HBX.out.fr HI.out.fr (by omega)
      obtain ⟨W5, hW5⟩ : ∃ W5, wr.alloc (.cells #[.string d1, .int .i64 k, .int .i64 g, .slice A' n' c'] 41) = W5 := ⟨_, rfl⟩
      have hb5 : Below wr.heap.size wr W5 := by rw [← hW5]; exact (Below.refl _ _).alloc (Nat.le_refl _) _
      have hx5 : BoxX W5 wr.heap.size 41 #[.string d1, .int .i64 k, .int .i64 g, .slice A' n' c'] := by rw [← hW5]; exact BoxX.new _ _ _
      have hm5 : W5.heap[w1.heap.size]? = some (.map es cl) := (hb5.block _ (by omega)).trans hmp
      have c0 : W5.cell? ⟨wr.heap.size, 0, none⟩ = some (.string d1) := hx5.cell 0
      have cR : W5.cell? ⟨w1.heap.size + 1, 2, none⟩ = some (.map (some w1.heap.size)) := (hbxr.keep hb5 hbxr.lt).cell 2
      have hfr5 : FrB w1.heap.size W3 W5 := HI.out.fr.then hb5
      have HX := Lib.hid (And.intro hnum (And.intro hm5 hfr5))
      have HLK := Lib.hid (fun (w' : World) (hm : w'.heap[w1.heap.size]? = some (.map es cl)) => look_num hdsz hm hnum)
      have HTK := Lib.hid htk
      have HSZ := Lib.hid hdsz
      have hi0 : (0 : Int) ≤ (j : Int) := by omega
      have hi1 : (j : Int) < (sn : Int) := by omega
      have hlj : (ds.take j).length = j := by rw [List.length_take]; omega
      clear hr hsame hd hb5 hx5 hfr5 hbxr hmp hnum HI htk hdsz hbl
      subst hW5
      cases hpd : posD d1 (ds.take j) with
      | some p =>
        obtain ⟨i5, t5⟩ := p
        rw [numD, hpd] at HLK
        have HI5 := Lib.hid (show BgI ds (w1.heap.size + 1) w1.heap.size W3 (j + 1) (wr.alloc (.cells #[.string d1, .int .i64 k, .int .i64 g, .slice A' n' c'] 41)).drew from
          ⟨⟨es, cl, HX.out.2.1, by rw [HTK.out]; exact HX.out.1.same (by dsimp only; rw [hpd]; rfl)⟩, HX.out.2.2.drew⟩)
        clear hpd
        dsimp only at HLK
        go_wp2_with fail
        have HKS : Hid (∀ w' : World, Below (wr.alloc (.cells #[.string d1, .int .i64 k, .int .i64 g, .slice A' n' c'] 41)).heap.size (wr.alloc (.cells #[.string d1, .int .i64 k, .int .i64 g, .slice A' n' c'] 41)) w' → (fun w' => w'.cell? ⟨w1.heap.size + 1, 2, none⟩ = some (.map (some w1.heap.size)) ∧ w'.cell? ⟨wr.heap.size, 0, none⟩ = some (.string d1) ∧ w'.heap[w1.heap.size]? = some (.map es cl)) w') := Lib.hid fun w' h => ⟨(h.cell (cell_ltX cR)).trans cR, (h.cell (cell_ltX c0)).trans c0, (h.block _ (Array.getElem?_eq_some_iff.1 HX.out.2.1).1).trans HX.out.2.1⟩
        have hbd : Below (wr.alloc (.cells #[.string d1, .int .i64 k, .int .i64 g, .slice A' n' c'] 41)).heap.size (wr.alloc (.cells #[.string d1, .int .i64 k, .int .i64 g, .slice A' n' c'] 41)) (wr.alloc (.cells #[.string d1, .int .i64 k, .int .i64 g, .slice A' n' c'] 41)).drew := (Below.refl _ (wr.alloc (.cells #[.string d1, .int .i64 k, .int .i64 g, .slice A' n' c'] 41))).drew
        refine wp_region_held_drew (S := fun w' => w'.cell? ⟨w1.heap.size + 1, 2, none⟩ = some (.map (some w1.heap.size)) ∧ w'.cell? ⟨wr.heap.size, 0, none⟩ = some (.string d1) ∧ w'.heap[w1.heap.size]? = some (.map es cl)) (by kernel_rfl) (HKS.out _ hbd) (fun hS => ?_)
        simp only [List.size_toArray, List.length_cons, List.length_nil, Nat.reduceAdd]
        refine wpAnyH_take (i := 0) (v := .pointer (some ⟨w1.heap.size + 1, 0, none⟩)) rfl (by kernel_rfl) (by kernel_rfl) (by kernel_rfl) (fun _ _ _ h => h) (Or.inl ⟨by kernel_rfl, ?_⟩) hS ?_
        · intro w' hSw
          obtain ⟨s0, s1, s2⟩ := hSw
          go_simp
        try simp only [Act.put, List.getElem_toArray, List.getElem_cons_zero, List.setIfInBounds_toArray, List.set_cons_zero, List.set_cons_succ]
        refine wpAnyH_take (i := 1) (v := .pointer (some ⟨w1.heap.size + 1, 0, none⟩)) rfl (by kernel_rfl) (by kernel_rfl) (by kernel_rfl) (fun _ _ _ h => h) (Or.inl ⟨by kernel_rfl, ?_⟩) hS ?_
        · intro w' hSw
          obtain ⟨s0, s1, s2⟩ := hSw
          go_simp
        try simp only [Act.put, List.getElem_toArray, List.getElem_cons_succ, List.getElem_cons_zero, List.setIfInBounds_toArray, List.set_cons_zero, List.set_cons_succ]
        refine wpAnyH_take (i := 2) (v := .pointer (some ⟨w1.heap.size + 1, 2, none⟩)) rfl (by kernel_rfl) (by kernel_rfl) (by kernel_rfl) (fun _ _ _ h => h) (Or.inl ⟨by kernel_rfl, ?_⟩) hS ?_
        · intro w' hSw
          obtain ⟨s0, s1, s2⟩ := hSw
          go_simp
        try simp only [Act.put, List.getElem_toArray, List.getElem_cons_succ, List.getElem_cons_zero, List.setIfInBounds_toArray, List.set_cons_zero, List.set_cons_succ]
        refine wpAnyH_take (i := 3) (v := .map (some w1.heap.size)) rfl (by kernel_rfl) (by kernel_rfl) (by kernel_rfl) (fun _ _ _ h => h) (Or.inl ⟨by kernel_rfl, ?_⟩) hS ?_
        · intro w' hSw
          obtain ⟨s0, s1, s2⟩ := hSw
          go_simp
        try simp only [Act.put, List.getElem_toArray, List.getElem_cons_succ, List.getElem_cons_zero, List.setIfInBounds_toArray, List.set_cons_zero, List.set_cons_succ]
        refine wpAnyH_take (i := 4) (v := .pointer (some ⟨wr.heap.size, 0, none⟩)) rfl (by kernel_rfl) (by kernel_rfl) (by kernel_rfl) (fun _ _ _ h => h) (Or.inl ⟨by kernel_rfl, ?_⟩) hS ?_
        · intro w' hSw
          obtain ⟨s0, s1, s2⟩ := hSw
          go_simp
        try simp only [Act.put, List.getElem_toArray, List.getElem_cons_succ, List.getElem_cons_zero, List.setIfInBounds_toArray, List.set_cons_zero, List.set_cons_succ]
        refine wpAnyH_take (i := 5) (v := .string d1) rfl (by kernel_rfl) (by kernel_rfl) (by kernel_rfl) (fun _ _ _ h => h) (Or.inl ⟨by kernel_rfl, ?_⟩) hS ?_
        · intro w' hSw
          obtain ⟨s0, s1, s2⟩ := hSw
          go_simp
        try simp only [Act.put, List.getElem_toArray, List.getElem_cons_succ, List.getElem_cons_zero, List.setIfInBounds_toArray, List.set_cons_zero, List.set_cons_succ]
        refine wpAnyH_take (i := 6) (v := .tuple #[.int .i64 (i5 : Nat), .bool true]) rfl (by kernel_rfl) (by kernel_rfl) (by kernel_rfl) (fun _ _ _ h => h) (Or.inl ⟨by kernel_rfl, ?_⟩) hS ?_
        · intro w' hSw
          obtain ⟨s0, s1, s2⟩ := hSw
          have s3 := HLK.out w' s2
          go_simp
        try simp only [Act.put, List.getElem_toArray, List.getElem_cons_succ, List.getElem_cons_zero, List.setIfInBounds_toArray, List.set_cons_zero, List.set_cons_succ]
        refine wpAnyH_take (i := 7) (v := .tuple #[.int .i64 (i5 : Nat), .bool true]) rfl (by kernel_rfl) (by kernel_rfl) (by kernel_rfl) (fun _ _ _ h => h) (Or.inl ⟨by kernel_rfl, ?_⟩) hS ?_
        · intro w' hSw
          obtain ⟨s0, s1, s2⟩ := hSw
          go_simp
        try simp only [Act.put, List.getElem_toArray, List.getElem_cons_succ, List.getElem_cons_zero, List.setIfInBounds_toArray, List.set_cons_zero, List.set_cons_succ]
        refine wpAnyH_take (i := 8) (v := .int .i64 (i5 : Nat)) rfl (by kernel_rfl) (by kernel_rfl) (by kernel_rfl) (fun _ _ _ h => h) (Or.inl ⟨by kernel_rfl, ?_⟩) hS ?_
        · intro w' hSw
          obtain ⟨s0, s1, s2⟩ := hSw
          go_simp
        try simp only [Act.put, List.getElem_toArray, List.getElem_cons_succ, List.getElem_cons_zero, List.setIfInBounds_toArray, List.set_cons_zero, List.set_cons_succ]
        refine wpAnyH_take (i := 9) (v := .bool true) rfl (by kernel_rfl) (by kernel_rfl) (by kernel_rfl) (fun _ _ _ h => h) (Or.inl ⟨by kernel_rfl, ?_⟩) hS ?_
        · intro w' hSw
          obtain ⟨s0, s1, s2⟩ := hSw
          go_simp
        try simp only [Act.put, List.getElem_toArray, List.getElem_cons_succ, List.getElem_cons_zero, List.setIfInBounds_toArray, List.set_cons_zero, List.set_cons_succ]
        refine wpAnyH_take (i := 10) (v := .int .i64 (i5 : Nat)) rfl (by kernel_rfl) (by kernel_rfl) (by kernel_rfl) (fun _ _ _ h => h) (Or.inl ⟨by kernel_rfl, ?_⟩) hS ?_
        · intro w' hSw
          obtain ⟨s0, s1, s2⟩ := hSw
          go_simp
        try simp only [Act.put, List.getElem_toArray, List.getElem_cons_succ, List.getElem_cons_zero, List.setIfInBounds_toArray, List.set_cons_zero, List.set_cons_succ]
        refine wpAnyH_take (i := 11) (v := .bool true) rfl (by kernel_rfl) (by kernel_rfl) (by kernel_rfl) (fun _ _ _ h => h) (Or.inl ⟨by kernel_rfl, ?_⟩) hS ?_
        · intro w' hSw
          obtain ⟨s0, s1, s2⟩ := hSw
          go_simp
        try simp only [Act.put, List.getElem_toArray, List.getElem_cons_succ, List.getElem_cons_zero, List.setIfInBounds_toArray, List.set_cons_zero, List.set_cons_succ]
        refine wpAnyH_done (by kernel_rfl) ?_ _
        try simp only [zzP]
        go_wp2_with fail
        go_roundw
        case rel => exact ⟨j + 1, by omega, by go_num, HI5⟩
        case measure => simp [Go.RowKit.intOf]; omega
      | none =>
        rw [numD, hpd] at HLK
        have HPD := Lib.hid hpd
        clear hpd
        dsimp only at HLK
        go_wp2_with fail
        have HKS : Hid (∀ w' : World, Below (wr.alloc (.cells #[.string d1, .int .i64 k, .int .i64 g, .slice A' n' c'] 41)).heap.size (wr.alloc (.cells #[.string d1, .int .i64 k, .int .i64 g, .slice A' n' c'] 41)) w' → (fun w' => w'.cell? ⟨w1.heap.size + 1, 2, none⟩ = some (.map (some w1.heap.size)) ∧ w'.cell? ⟨wr.heap.size, 0, none⟩ = some (.string d1) ∧ w'.heap[w1.heap.size]? = some (.map es cl)) w') := Lib.hid fun w' h => ⟨(h.cell (cell_ltX cR)).trans cR, (h.cell (cell_ltX c0)).trans c0, (h.block _ (Array.getElem?_eq_some_iff.1 HX.out.2.1).1).trans HX.out.2.1⟩
        have hbd : Below (wr.alloc (.cells #[.string d1, .int .i64 k, .int .i64 g, .slice A' n' c'] 41)).heap.size (wr.alloc (.cells #[.string d1, .int .i64 k, .int .i64 g, .slice A' n' c'] 41)) (wr.alloc (.cells #[.string d1, .int .i64 k, .int .i64 g, .slice A' n' c'] 41)).drew := (Below.refl _ (wr.alloc (.cells #[.string d1, .int .i64 k, .int .i64 g, .slice A' n' c'] 41))).drew
        refine wp_region_held_drew (S := fun w' => w'.cell? ⟨w1.heap.size + 1, 2, none⟩ = some (.map (some w1.heap.size)) ∧ w'.cell? ⟨wr.heap.size, 0, none⟩ = some (.string d1) ∧ w'.heap[w1.heap.size]? = some (.map es cl)) (by kernel_rfl) (HKS.out _ hbd) (fun hS => ?_)
        simp only [List.size_toArray, List.length_cons, List.length_nil, Nat.reduceAdd]
        refine wpAnyH_take (i := 0) (v := .pointer (some ⟨w1.heap.size + 1, 0, none⟩)) rfl (by kernel_rfl) (by kernel_rfl) (by kernel_rfl) (fun _ _ _ h => h) (Or.inl ⟨by kernel_rfl, ?_⟩) hS ?_
        · intro w' hSw
          obtain ⟨s0, s1, s2⟩ := hSw
          go_simp
        try simp only [Act.put, List.getElem_toArray, List.getElem_cons_zero, List.setIfInBounds_toArray, List.set_cons_zero, List.set_cons_succ]
        refine wpAnyH_take (i := 1) (v := .pointer (some ⟨w1.heap.size + 1, 0, none⟩)) rfl (by kernel_rfl) (by kernel_rfl) (by kernel_rfl) (fun _ _ _ h => h) (Or.inl ⟨by kernel_rfl, ?_⟩) hS ?_
        · intro w' hSw
          obtain ⟨s0, s1, s2⟩ := hSw
          go_simp
        try simp only [Act.put, List.getElem_toArray, List.getElem_cons_succ, List.getElem_cons_zero, List.setIfInBounds_toArray, List.set_cons_zero, List.set_cons_succ]
        refine wpAnyH_take (i := 2) (v := .pointer (some ⟨w1.heap.size + 1, 2, none⟩)) rfl (by kernel_rfl) (by kernel_rfl) (by kernel_rfl) (fun _ _ _ h => h) (Or.inl ⟨by kernel_rfl, ?_⟩) hS ?_
        · intro w' hSw
          obtain ⟨s0, s1, s2⟩ := hSw
          go_simp
        try simp only [Act.put, List.getElem_toArray, List.getElem_cons_succ, List.getElem_cons_zero, List.setIfInBounds_toArray, List.set_cons_zero, List.set_cons_succ]
        refine wpAnyH_take (i := 3) (v := .map (some w1.heap.size)) rfl (by kernel_rfl) (by kernel_rfl) (by kernel_rfl) (fun _ _ _ h => h) (Or.inl ⟨by kernel_rfl, ?_⟩) hS ?_
        · intro w' hSw
          obtain ⟨s0, s1, s2⟩ := hSw
          go_simp
        try simp only [Act.put, List.getElem_toArray, List.getElem_cons_succ, List.getElem_cons_zero, List.setIfInBounds_toArray, List.set_cons_zero, List.set_cons_succ]
        refine wpAnyH_take (i := 4) (v := .pointer (some ⟨wr.heap.size, 0, none⟩)) rfl (by kernel_rfl) (by kernel_rfl) (by kernel_rfl) (fun _ _ _ h => h) (Or.inl ⟨by kernel_rfl, ?_⟩) hS ?_
        · intro w' hSw
          obtain ⟨s0, s1, s2⟩ := hSw
          go_simp
        try simp only [Act.put, List.getElem_toArray, List.getElem_cons_succ, List.getElem_cons_zero, List.setIfInBounds_toArray, List.set_cons_zero, List.set_cons_succ]
        refine wpAnyH_take (i := 5) (v := .string d1) rfl (by kernel_rfl) (by kernel_rfl) (by kernel_rfl) (fun _ _ _ h => h) (Or.inl ⟨by kernel_rfl, ?_⟩) hS ?_
        · intro w' hSw
          obtain ⟨s0, s1, s2⟩ := hSw
          go_simp
        try simp only [Act.put, List.getElem_toArray, List.getElem_cons_succ, List.getElem_cons_zero, List.setIfInBounds_toArray, List.set_cons_zero, List.set_cons_succ]
        refine wpAnyH_take (i := 6) (v := .tuple #[.int .i64 (0 : Nat), .bool false]) rfl (by kernel_rfl) (by kernel_rfl) (by kernel_rfl) (fun _ _ _ h => h) (Or.inl ⟨by kernel_rfl, ?_⟩) hS ?_
        · intro w' hSw
          obtain ⟨s0, s1, s2⟩ := hSw
          have s3 := HLK.out w' s2
          go_simp
        try simp only [Act.put, List.getElem_toArray, List.getElem_cons_succ, List.getElem_cons_zero, List.setIfInBounds_toArray, List.set_cons_zero, List.set_cons_succ]
        refine wpAnyH_take (i := 7) (v := .tuple #[.int .i64 (0 : Nat), .bool false]) rfl (by kernel_rfl) (by kernel_rfl) (by kernel_rfl) (fun _ _ _ h => h) (Or.inl ⟨by kernel_rfl, ?_⟩) hS ?_
        · intro w' hSw
          obtain ⟨s0, s1, s2⟩ := hSw
          go_simp
        try simp only [Act.put, List.getElem_toArray, List.getElem_cons_succ, List.getElem_cons_zero, List.setIfInBounds_toArray, List.set_cons_zero, List.set_cons_succ]
        refine wpAnyH_take (i := 8) (v := .int .i64 (0 : Nat)) rfl (by kernel_rfl) (by kernel_rfl) (by kernel_rfl) (fun _ _ _ h => h) (Or.inl ⟨by kernel_rfl, ?_⟩) hS ?_
        · intro w' hSw
          obtain ⟨s0, s1, s2⟩ := hSw
          go_simp
        try simp only [Act.put, List.getElem_toArray, List.getElem_cons_succ, List.getElem_cons_zero, List.setIfInBounds_toArray, List.set_cons_zero, List.set_cons_succ]
        refine wpAnyH_take (i := 9) (v := .bool false) rfl (by kernel_rfl) (by kernel_rfl) (by kernel_rfl) (fun _ _ _ h => h) (Or.inl ⟨by kernel_rfl, ?_⟩) hS ?_
        · intro w' hSw
          obtain ⟨s0, s1, s2⟩ := hSw
          go_simp
        try simp only [Act.put, List.getElem_toArray, List.getElem_cons_succ, List.getElem_cons_zero, List.setIfInBounds_toArray, List.set_cons_zero, List.set_cons_succ]
        refine wpAnyH_take (i := 10) (v := .int .i64 (0 : Nat)) rfl (by kernel_rfl) (by kernel_rfl) (by kernel_rfl) (fun _ _ _ h => h) (Or.inl ⟨by kernel_rfl, ?_⟩) hS ?_
        · intro w' hSw
          obtain ⟨s0, s1, s2⟩ := hSw
          go_simp
        try simp only [Act.put, List.getElem_toArray, List.getElem_cons_succ, List.getElem_cons_zero, List.setIfInBounds_toArray, List.set_cons_zero, List.set_cons_succ]
        refine wpAnyH_take (i := 11) (v := .bool false) rfl (by kernel_rfl) (by kernel_rfl) (by kernel_rfl) (fun _ _ _ h => h) (Or.inl ⟨by kernel_rfl, ?_⟩) hS ?_
        · intro w' hSw
          obtain ⟨s0, s1, s2⟩ := hSw
          go_simp
        try simp only [Act.put, List.getElem_toArray, List.getElem_cons_succ, List.getElem_cons_zero, List.setIfInBounds_toArray, List.set_cons_zero, List.set_cons_succ]
        refine wpAnyH_done (by kernel_rfl) ?_ _
        try simp only [zzP]
        have hm6 : (wr.alloc (.cells #[.string d1, .int .i64 k, .int .i64 g, .slice A' n' c'] 41)).drew.heap[w1.heap.size]? = some (.map es cl) := hS.2.2
        have c0 := hS.2.1
        have cR := hS.1
        clear hS HKS hbd
        obtain ⟨W6, hW6⟩ : ∃ W6, (wr.alloc (.cells #[.string d1, .int .i64 k, .int .i64 g, .slice A' n' c'] 41)).drew = W6 := ⟨_, rfl⟩
        have hfr6 : FrB w1.heap.size W3 W6 := by rw [← hW6]; exact HX.out.2.2.drew
        rw [hW6] at hm6 c0 cR ⊢
        clear hW6
        have hput := put_num HSZ.out (show W6.drew.heap[w1.heap.size]? = some (.map es cl) from hm6) HX.out.1 HPD.out (.int .i64 (j : Nat))
        have hfr7 := hfr6.drew
        have HI7 := Lib.hid (show BgI ds (w1.heap.size + 1) w1.heap.size W3 (j + 1) { W6.drew with heap := W6.drew.heap.setIfInBounds w1.heap.size (.map (es.push ⟨.string d1, .int .i64 (j : Nat), cl⟩) (cl + 1)) } from
          ⟨⟨_, _, by
            show (W6.drew.heap.setIfInBounds w1.heap.size _)[w1.heap.size]? = _
            rw [Array.getElem?_setIfInBounds_self_of_lt (by have := (Array.getElem?_eq_some_iff.1 hm6).1; exact this)], by rw [HTK.out]; have := HX.out.1.push (cl := cl) (d := (d1, dT)) HPD.out HSZ.out; rw [hlj] at this; exact this⟩,
            ⟨hfr7.os, hfr7.tape, hfr7.output, by simpa using hfr7.size, fun q hq hne => by
              show (W6.drew.heap.setIfInBounds w1.heap.size _)[q]? = _
              rw [Array.getElem?_setIfInBounds_ne (by omega)]; exact hfr7.block q hq hne⟩⟩)
        clear hfr6 hfr7
        go_wp2_with fail
        have HKS : Hid (∀ w' : World, Below W6.heap.size W6 w' → (fun w' => w'.cell? ⟨w1.heap.size + 1, 2, none⟩ = some (.map (some w1.heap.size)) ∧ w'.cell? ⟨wr.heap.size, 0, none⟩ = some (.string d1) ∧ w'.heap[w1.heap.size]? = some (.map es cl)) w') := Lib.hid fun w' h => ⟨(h.cell (cell_ltX cR)).trans cR, (h.cell (cell_ltX c0)).trans c0, (h.block _ (Array.getElem?_eq_some_iff.1 hm6).1).trans hm6⟩
        have hbd : Below W6.heap.size W6 W6.drew := (Below.refl _ W6).drew
        have hS := HKS.out _ hbd
        refine wp_region_cutX rfl (by kernel_rfl) (by kernel_rfl) ?_
        refine wpAny_of_held (S := fun w' => w'.cell? ⟨w1.heap.size + 1, 2, none⟩ = some (.map (some w1.heap.size)) ∧ w'.cell? ⟨wr.heap.size, 0, none⟩ = some (.string d1) ∧ w'.heap[w1.heap.size]? = some (.map es cl)) _ _ _ _ ?_
        simp only [List.pop_toArray, List.dropLast, List.size_toArray, List.length_cons, List.length_nil, Nat.reduceAdd, Nat.reduceSub]
        refine wpAnyH_take (i := 0) (v := .pointer (some ⟨w1.heap.size + 1, 0, none⟩)) rfl (by kernel_rfl) (by kernel_rfl) (by kernel_rfl) (fun _ _ _ h => h) (Or.inl ⟨by kernel_rfl, ?_⟩) hS ?_
        · intro w' hSw
          obtain ⟨s0, s1, s2⟩ := hSw
          go_simp
        try simp only [Act.put, List.getElem_toArray, List.getElem_cons_succ, List.getElem_cons_zero, List.setIfInBounds_toArray, List.set_cons_zero, List.set_cons_succ]
        refine wpAnyH_take (i := 1) (v := .pointer (some ⟨w1.heap.size + 1, 0, none⟩)) rfl (by kernel_rfl) (by kernel_rfl) (by kernel_rfl) (fun _ _ _ h => h) (Or.inl ⟨by kernel_rfl, ?_⟩) hS ?_
        · intro w' hSw
          obtain ⟨s0, s1, s2⟩ := hSw
          go_simp
        try simp only [Act.put, List.getElem_toArray, List.getElem_cons_succ, List.getElem_cons_zero, List.setIfInBounds_toArray, List.set_cons_zero, List.set_cons_succ]
        refine wpAnyH_take (i := 2) (v := .pointer (some ⟨w1.heap.size + 1, 2, none⟩)) rfl (by kernel_rfl) (by kernel_rfl) (by kernel_rfl) (fun _ _ _ h => h) (Or.inl ⟨by kernel_rfl, ?_⟩) hS ?_
        · intro w' hSw
          obtain ⟨s0, s1, s2⟩ := hSw
          go_simp
        try simp only [Act.put, List.getElem_toArray, List.getElem_cons_succ, List.getElem_cons_zero, List.setIfInBounds_toArray, List.set_cons_zero, List.set_cons_succ]
        refine wpAnyH_take (i := 3) (v := .map (some w1.heap.size)) rfl (by kernel_rfl) (by kernel_rfl) (by kernel_rfl) (fun _ _ _ h => h) (Or.inl ⟨by kernel_rfl, ?_⟩) hS ?_
        · intro w' hSw
          obtain ⟨s0, s1, s2⟩ := hSw
          go_simp
        try simp only [Act.put, List.getElem_toArray, List.getElem_cons_succ, List.getElem_cons_zero, List.setIfInBounds_toArray, List.set_cons_zero, List.set_cons_succ]
        refine wpAnyH_take (i := 4) (v := .pointer (some ⟨wr.heap.size, 0, none⟩)) rfl (by kernel_rfl) (by kernel_rfl) (by kernel_rfl) (fun _ _ _ h => h) (Or.inl ⟨by kernel_rfl, ?_⟩) hS ?_
        · intro w' hSw
          obtain ⟨s0, s1, s2⟩ := hSw
          go_simp
        try simp only [Act.put, List.getElem_toArray, List.getElem_cons_succ, List.getElem_cons_zero, List.setIfInBounds_toArray, List.set_cons_zero, List.set_cons_succ]
        refine wpAnyH_take (i := 5) (v := .string d1) rfl (by kernel_rfl) (by kernel_rfl) (by kernel_rfl) (fun _ _ _ h => h) (Or.inl ⟨by kernel_rfl, ?_⟩) hS ?_
        · intro w' hSw
          obtain ⟨s0, s1, s2⟩ := hSw
          go_simp
        try simp only [Act.put, List.getElem_toArray, List.getElem_cons_succ, List.getElem_cons_zero, List.setIfInBounds_toArray, List.set_cons_zero, List.set_cons_succ]
        refine wpAnyH_take (i := 6) (v := .int .i64 (j : Nat)) rfl (by kernel_rfl) (by kernel_rfl) (by kernel_rfl) (fun _ _ _ h => h) (Or.inl ⟨by kernel_rfl, ?_⟩) hS ?_
        · intro w' hSw
          obtain ⟨s0, s1, s2⟩ := hSw
          go_simp
        try simp only [Act.put, List.getElem_toArray, List.getElem_cons_succ, List.getElem_cons_zero, List.setIfInBounds_toArray, List.set_cons_zero, List.set_cons_succ]
        refine wpAnyH_done (by kernel_rfl) ?_ _
        show wpList _ _ _ _ _ _
        go_wp2_with fail
        go_roundw
        case rel => exact ⟨j + 1, by omega, by go_num, HI7⟩
        case measure => simp [Go.RowKit.intOf]; omega
    · obtain rfl : j = sn := by omega
      have hfr := HI.out.fr
      obtain ⟨es, cl, hmp, hnum⟩ := HI.out.mp
      rw [List.take_of_length_le (by omega)] at hnum
      have hbxr : BoxX wr (w1.heap.size + 1) 76 #[.slice A1 n1 c1, .slice SA j sc, .map (some w1.heap.size)] := HBX.out.fr hfr (by omega)
      have hbW : Below w.heap.size w wr := FrB.toBelow (HB1.out.trans (HB3.out.mono HB1.out.size)) hfr (by omega) hs1
      have htl := HRow.out.tl
      have hps : PS (w1.heap.size + 1) (w1.heap.size + 1) w1.heap.size SA j sc ds (lexT l) wr :=
        ⟨⟨A1, n1, c1, hbxr, ⟨htl.len, htl.le, htl.cap, fun i t ht => by
            obtain ⟨b, o, e, q0, q1⟩ := htl.at_ i t ht
            have hbl := cell_ltX q0
            dsimp only at hbl
            have e' : ∀ q, wr.cell? ⟨b, q, none⟩ = w1.cell? ⟨b, q, none⟩ := fun q => World.cell?_of_block (w := w1) ((hfr.block b (by omega) (by omega)).trans (HB3.out.block b hbl))
            exact ⟨b, o, e, (e' _).trans q0, (e' _).trans q1⟩⟩, fun b o e => by
              cases hx : lexT l with
              | nil => exact .inr rfl
              | cons t x =>
                obtain ⟨b', o', e', q0, _⟩ := htl.at_ 0 t (by rw [hx]; rfl)
                rw [e] at e'
                cases e'
                have := cell_ltX q0
                dsimp only at this
                exact .inl (by omega)⟩,
          HD.out.dln (fun b hb => hbW.block b hb) (by omega) (by omega), ⟨es, cl, hmp, hnum⟩, by omega, by omega, Nat.le_refl _, by omega, by
            have := tok_len l
            by_cases hl : 20000 < l.length
            · rw [lexT, if_pos hl]; simp
            · omega, lex_good l, hds⟩
      have HF := Lib.hid (And.intro hbW hps)
      clear hfr hmp hnum hbxr hbW htl hps HI
      go_wp2_with fail
      go_ret2
      exact ⟨HF.out.1, .inr ⟨he, _, _, hs1, by omega, rfl, HF.out.2⟩⟩
end Go.Proofs.YtmkahbbcagfbhaaDoor

/-
  A row of declarations that grows; contract of package parse's decl. No statement is proved here.
-/
namespace Go.Proofs.YtmkahbbcagfbhaaDoor
open Go.ChangeShapes Go.WideShapes Go.ChangeAt Go.RowKit
set_option linter.unusedVariables false


theorem infoDecl : (Tryd.prog.info? 41).map (fun i => (i.zero, i.size, i.bytes)) = some (some (.agg #[.string ⟨#[]⟩, .int .i64 0, .int .i64 0, .slice none 0 0]), 4, 56) := by kernel_rfl
theorem info_decl : ∃ i, Tryd.prog.info? 41 = some i ∧ i.zero = some (.agg #[.string ⟨#[]⟩, .int .i64 0, .int .i64 0, .slice none 0 0]) ∧ i.size = 4 ∧ i.bytes = 56 := by
  have hh := infoDecl
  cases hi : Tryd.prog.info? 41 with
  | none => rw [hi] at hh; cases hh
  | some i =>
    rw [hi] at hh
    simp at hh
    exact ⟨i, rfl, hh.1, hh.2.1, hh.2.2⟩
/-- a row of declarations of a call's own -/
structure DRow (R lo : Nat) (w : World) (A : Option Addr) (n c : Nat) (ds : List (ByteArray × T)) (cs : List Value) : Prop where
  own : w.ownsRow lo 41 4 (.slice A n c) n cs
  len : ds.length = n
  kids : ∀ i d, ds[i]? = some d → ∃ k h A' n' c', cs[i * 4]? = some (.string d.1) ∧ cs[i * 4 + 1]? = some (.int .i64 k) ∧ cs[i * 4 + 2]? = some (.int .i64 h) ∧ cs[i * 4 + 3]? = some (.slice A' n' c') ∧
    RdF (fun q => R < q ∧ some q ≠ (Value.slice A n c).ownBlock) w d.2 (.agg #[.int .i64 k, .int .i64 h, .slice A' n' c'])
theorem DRow.nil (R lo : Nat) (w : World) : DRow R lo w none 0 0 [] [] := ⟨World.ownsRow_nil _ _ _ _, rfl, fun i d hd => by simp at hd⟩
theorem DRow.cap {R lo : Nat} {w : World} {A : Option Addr} {n c : Nat} {ds : List (ByteArray × T)} {cs : List Value} (h : DRow R lo w A n c ds cs) : n ≤ c ∧ c ≤ maxLen := by
  rcases h.own.2 with ⟨e, _⟩ | ⟨g, cap, cur, e, _, _, h1, h2, _⟩
  · cases e; exact ⟨Nat.le_refl _, Nat.zero_le _⟩
  · cases e; exact ⟨h1, h2⟩
theorem DRow.mv {R lo : Nat} {w w' : World} {A : Option Addr} {n c : Nat} {ds : List (ByteArray × T)} {cs : List Value} (h : DRow R lo w A n c ds cs) (f : ∀ q, R < q → q < w.heap.size → w'.heap[q]? = w.heap[q]?) (hR : R < lo) : DRow R lo w' A n c ds cs := by
  refine ⟨⟨h.own.1, ?_⟩, h.len, fun i d hd => ?_⟩
  · rcases h.own.2 with h1 | ⟨g, cap, cur, e, hb, hg, h1⟩
    · exact .inl h1
    · have hlt := (h.own.lt g (by rw [e]; rfl)).2
      exact .inr ⟨g, cap, cur, e, hb, (f g (by omega) hlt).trans hg, h1⟩
  · obtain ⟨k, g, A', n', c', e0, e1, e2, e3, hr⟩ := h.kids i d hd
    exact ⟨k, g, A', n', c', e0, e1, e2, e3, RdF.moveQ (fun q hq hl => ⟨hq, f q hq.1 hl⟩) _ _ hr⟩
theorem DRow.dln {R lo : Nat} {w : World} {A : Option Addr} {n c : Nat} {ds : List (ByteArray × T)} {cs : List Value} (h : DRow R lo w A n c ds cs) (hR : R < lo) : DLn w.heap.size R w ds A n c := by
  refine ⟨h.len, h.cap.1, h.cap.2, fun i d hd => ?_⟩
  obtain ⟨k, g, A', n', c', e0, e1, e2, e3, hr⟩ := h.kids i d hd
  have hi := (List.getElem?_eq_some_iff.1 hd).1
  rcases h.own.2 with ⟨e, h0⟩ | ⟨gg, cap, cur, e, hb, hg, h1, h2, _⟩
  · have := h.len; omega
  · have hlt := (h.own.lt gg (by rw [e]; rfl)).2
    injection e with ea en ec
    subst ea
    have hc := fun j u (hu : cs[j]? = some u) => h.own.cells (g := gg) rfl j u hu
    have c0 := hc _ _ e0
    have c1 := hc _ _ e1
    have c2 := hc _ _ e2
    have c3 := hc _ _ e3
    rw [addr_addX] at c0 c1 c2 c3
    exact ⟨gg, 0, k, g, A', n', c', rfl, ⟨by omega, hlt⟩, c0, by rw [Nat.add_assoc]; exact c1, by rw [Nat.add_assoc]; exact c2, by rw [Nat.add_assoc]; exact c3, RdF.moveQ (fun q hq hl => ⟨⟨by have := hq.1; omega, hl⟩, rfl⟩) _ _ hr⟩
/-- one declaration is appended -/
theorem DRow.push {R lo : Nat} {w1 : World} {A : Option Addr} {n c : Nat} {ds : List (ByteArray × T)} {cs : List Value} (h : DRow R lo w1 A n c ds cs) {s : ByteArray} {t : T} {k g : Int} {A2 : Option Addr} {n2 c2 : Nat} (hr : RdF (fun q => R < q ∧ some q ≠ (Value.slice A n c).ownBlock) w1 t (.agg #[.int .i64 k, .int .i64 g, .slice A2 n2 c2]))
    (hlo : lo ≤ w1.heap.size) (hn : n ≤ 1000) {P : Nat} {w2 : World} (hb : Below w1.heap.size w1 w2) (hP : w2.heap[P]? = some (.cells #[.string s, .int .i64 k, .int .i64 g, .slice A2 n2 c2] 41 (0, 0))) (hRlo : R < lo) :
    ∃ gg cap w4, (Builtin.append_ #[25, 25] 25 #[.slice A n c, .slice (some ⟨P, 0, none⟩) 1 1]).run Tryd.prog w2 = .ok (.slice (some ⟨gg, 0, none⟩) (n + 1) cap) w4 ∧
      DRow R lo w4 (some ⟨gg, 0, none⟩) (n + 1) cap (ds ++ [(s, t)]) (cs ++ [.string s, .int .i64 k, .int .i64 g, .slice A2 n2 c2]) ∧ Below lo w2 w4 ∧ (∀ q, q < w1.heap.size → some q ≠ (Value.slice A n c).ownBlock → w4.heap[q]? = w1.heap[q]?) := by
  obtain ⟨i0, hi, hz0, hz1, hz2⟩ := info_decl
  have hown2 : w2.ownsRow lo 41 4 (.slice A n c) n cs := by
    refine ⟨h.own.1, ?_⟩
    rcases h.own.2 with h1 | ⟨g, cap, cur, e, hb', hg, h1⟩
    · exact .inl h1
    · have hlt := (h.own.lt g (by rw [e]; rfl)).2
      exact .inr ⟨g, cap, cur, e, hb', (hb.block g hlt).trans hg, h1⟩
  have hsz := hb.size
  obtain ⟨gg, cap, w4, hrun, how4, hgr, hg4, _⟩ := run_append_lies (P := Tryd.prog) w2 25 25 lo 41 i0 _ 4 56 Tryd.underlying25 hi hz0 hz1 hz2 rfl (by omega) (.slice A n c) n cs
    hown2 ⟨P, 0, none⟩ 1 1 [.string s, .int .i64 k, .int .i64 g, .slice A2 n2 c2] rfl (World.news_of_block hP) (by intro u hu; simp at hu; rcases hu with rfl | rfl | rfl | rfl <;> rfl) (by omega) (by unfold maxLen; omega) (by omega) (by omega) _ rfl
  have hgo : ∀ q, q < w1.heap.size → some q ≠ (Value.slice A n c).ownBlock → w4.heap[q]? = w1.heap[q]? := fun q hq hne => (hgr.block q (by omega) hne).trans (hb.block q hq)
  have hne : ∀ q, q < w1.heap.size → some q ≠ (Value.slice A n c).ownBlock → q ≠ gg := fun q hq hv e => by
    rcases hg4 with h4 | h4
    · rw [h4, e] at hv; exact hv rfl
    · omega
  have hm : ∀ b, (R < b ∧ some b ≠ (Value.slice A n c).ownBlock) → b < w1.heap.size → (R < b ∧ some b ≠ Value.ownBlock (.slice (some ⟨gg, 0, none⟩) (n + 1) cap)) ∧ w4.heap[b]? = w1.heap[b]? := fun b hb' hl =>
    ⟨⟨hb'.1, fun e => hne b hl hb'.2 (by simpa [Value.ownBlock] using e)⟩, hgo b hl hb'.2⟩
  have hcl : cs.length = n * 4 := h.own.1
  refine ⟨gg, cap, w4, hrun, ⟨how4, by rw [List.length_append, h.len]; rfl, fun i d hd => ?_⟩, below_grownQ ((Below.refl _ _).mono (show lo ≤ w2.heap.size by omega)) hgr (fun r hr => (hown2.lt r hr).1) (by omega), hgo⟩
  by_cases hin : i < n
  · rw [List.getElem?_append_left (by rw [h.len]; exact hin)] at hd
    obtain ⟨k', h', A', n', c', e0, e1, e2, e3, hr'⟩ := h.kids i d hd
    refine ⟨k', h', A', n', c', ?_, ?_, ?_, ?_, RdF.moveQ hm _ _ hr'⟩
    all_goals (rw [List.getElem?_append_left (by omega)]; assumption)
  · have hi' : i = n := by have := (List.getElem?_eq_some_iff.1 hd).1; rw [List.length_append, h.len] at this; simp at this; omega
    subst hi'
    rw [List.getElem?_append_right (by rw [h.len]; omega), h.len, Nat.sub_self] at hd
    obtain rfl : (s, t) = d := by simpa using hd
    refine ⟨k, g, A2, n2, c2, ?_, ?_, ?_, ?_, RdF.moveQ hm _ _ hr⟩
    · rw [List.getElem?_append_right (by omega), hcl, Nat.sub_self]; rfl
    · rw [List.getElem?_append_right (by omega), hcl, show i * 4 + 1 - i * 4 = 1 by omega]; rfl
    · rw [List.getElem?_append_right (by omega), hcl, show i * 4 + 2 - i * 4 = 2 by omega]; rfl
    · rw [List.getElem?_append_right (by omega), hcl, show i * 4 + 3 - i * 4 = 3 by omega]; rfl

theorem decl_bad {sg : List (ByteArray × T)} {x : List Tk} (h : namedM mK x = .error 8) : declM mayB nmB sg x = .error 8 := by
  unfold namedM at h
  unfold declM
  cases hn : nameM x with
  | error e => rw [hn] at h; dsimp only at h ⊢; cases h; rfl
  | ok p =>
    obtain ⟨s, r1⟩ := p
    rw [hn] at h
    dsimp only at h ⊢
    split
    · cases ht : takeM mK r1 with
      | error e => rw [ht] at h; dsimp only at h ⊢; cases h; rfl
      | ok r2 => rw [ht] at h; cases h
    · rfl
theorem decl_good {sg : List (ByteArray × T)} {x y : List Tk} {s : ByteArray} (h : namedM mK x = .ok (s, y)) : declM mayB nmB sg x = if nmB s = true ∧ posD s sg = none then (match wholeE sg ⟨#[46]⟩ y with
    | .error e => .error e
    | .ok (t, z) => .ok ((s, t), z)) else .error 8 := by
  unfold namedM at h
  unfold declM
  cases hn : nameM x with
  | error e => rw [hn] at h; cases h
  | ok p =>
    obtain ⟨s', r1⟩ := p
    rw [hn] at h
    dsimp only at h ⊢
    cases ht : takeM mK r1 with
    | error e => rw [ht] at h; cases h
    | ok r2 =>
      rw [ht] at h
      cases h
      split
      · dsimp only
        unfold wholeE
        cases wholeM mayB sg y with
        | error e => rfl
        | ok q =>
          obtain ⟨t, r3⟩ := q
          dsimp only
          rcases hd_take (m := mD) (x := r3) (by decide) with ⟨h1, h2⟩ | ⟨h1, h2⟩
          · rw [h2, if_pos (show hdT r3 = ((1, ⟨#[46]⟩) : Tk) from h1)]
          · rw [h2, if_neg (show ¬ hdT r3 = ((1, ⟨#[46]⟩) : Tk) from h1)]
      · rfl
/-- what decl tells -/
def DcE (R K lo : Nat) (SA : Option Addr) (sn sc : Nat) (sg : List (ByteArray × T)) (x : List Tk) (w : World) (e : Ending) (w' : World) : Prop :=
  Below K w w' ∧ w.heap.size ≤ w'.heap.size ∧ ∃ ec, e = .returned (.int .i64 ec) ∧ ((ec ≠ 0 ∧ (if 40 ≤ sg.length then (.error 4 : Except Int ((ByteArray × T) × List Tk)) else declM mayB nmB sg x) = .error ec) ∨
    (ec = 0 ∧ ∃ d y SA' sc' cs', (if 40 ≤ sg.length then (.error 4 : Except Int ((ByteArray × T) × List Tk)) else declM mayB nmB sg x) = .ok (d, y) ∧ PS w'.heap.size R K SA' (sn + 1) sc' (sg ++ [d]) y w' ∧ DRow R lo w' SA' (sn + 1) sc' (sg ++ [d]) cs' ∧ d.1.size ≤ maxLen))
end Go.Proofs.YtmkahbbcagfbhaaDoor

/-
  Contracts of package parse's Term and Decls. No statement is proved here.
-/
namespace Go.Proofs.YtmkahbbcagfbhaaDoor
open Go.ChangeShapes Go.WideShapes Go.ChangeAt Go.RowKit
set_option linter.unusedVariables false


/-- what a text is, read as a term -/
def readT (ds : List (ByteArray × T)) (l : List UInt8) : Except Int T := if lexE l ≠ 0 then .error (lexE l) else match wholeE ds ⟨#[]⟩ (lexT l) with
  | .error e => .error e
  | .ok (t, _) => .ok t
/-- what a text is, read as declarations -/
def readD (l : List UInt8) : Except Int (List (ByteArray × T)) := if lexE l ≠ 0 then .error (lexE l) else declsM mayB nmB (lexT l).length [] (lexT l)
set_option maxRecDepth 100000 in
set_option maxHeartbeats 2000000 in
theorem pTermTopC (l : List UInt8) (A : Option Addr) (n c : Nat) (ds : List (ByteArray × T)) (SA : Option Addr) (sn sc : Nat) (w : World) (hY : YL w l A n c) (hD : DS w ds SA sn sc) (hds : ds.length ≤ 1000) :
    Calls Tryd.prog 15 #[.slice A n c, .slice SA sn sc] w fun e w' => Below w.heap.size w w' ∧ ∃ k g A' n' c' ec, e = .returned (.tuple #[.agg #[.int .i64 k, .int .i64 g, .slice A' n' c'], .int .i64 ec]) ∧
      ((∃ t, readT ds l = .ok t ∧ ec = 0 ∧ Rd w' t (.agg #[.int .i64 k, .int .i64 g, .slice A' n' c'])) ∨ (readT ds l = .error ec ∧ ec ≠ 0 ∧ k = 0 ∧ g = 0 ∧ A' = none ∧ n' = 0 ∧ c' = 0)) := by
  obtain ⟨W, hW⟩ : ∃ W, w.alloc (.cells #[.int .i64 0, .int .i64 0, .slice none 0 0] 24) = W := ⟨_, rfl⟩
  have hb : Below w.heap.size w W := by rw [← hW]; exact (Below.refl _ _).alloc (Nat.le_refl _) _
  have x1 : BoxX W w.heap.size 24 #[.int .i64 0, .int .i64 0, .slice none 0 0] := by rw [← hW]; exact BoxX.new _ _ _
  have hsz : W.heap.size = w.heap.size + 1 := by rw [← hW]; simp
  have HC := Lib.hid (pBeginC l A n c ds SA sn sc W (hY.keep hb) (hD.keep hb) hds)
  have HB := Lib.hid hb
  have HX1 := Lib.hid x1
  have HSZ := Lib.hid hsz
  clear hb x1 hY hD hsz
  subst hW
  go_enter Tryd.func15, Tryd.ntmps15
  go_wp2_with fail
  refine HC.out.mono ?_
  rintro e w2 ⟨hb2, hres⟩
  have hs2 := hb2.size
  rw [HSZ.out] at hs2
  have x2 := HX1.out.keep hb2 HX1.out.lt
  have HB2 := Lib.hid (HB.out.trans (hb2.mono HB.out.size))
  clear HC HX1 hb2
  rcases hres with ⟨he, rfl⟩ | ⟨he, R, K, hK, hKR, rfl, hps⟩
  · have d9 : (lexE l == 0) = false := by simpa using he
    have HE := Lib.hid he
    clear he HB HSZ
    have z9 := ((x2.put 0 (.int .i64 0)).put 1 (.int .i64 0)).put 2 ((.slice none 0 0))
    have e0 := z9.cell 0
    have e1 := z9.cell 1
    have e2 := z9.cell 2
    have r0 := x2.cell 0
    have r1 := x2.cell 1
    have r2 := x2.cell 2
    have fz0 := x2.frozen 0
    have fz1 := x2.frozen 1
    have fz2 := x2.frozen 2
    have lz := x2.lt
    simp only [List.setIfInBounds_toArray, List.set_cons_zero, List.set_cons_succ, List.getElem?_toArray, List.getElem?_cons_zero, List.getElem?_cons_succ] at e0 e1 e2 r0 r1 r2
    clear z9 x2
    go_wp2_with fail
    refine bodyPost_ret (v := .tuple #[.agg #[.int .i64 0, .int .i64 0, (.slice none 0 0)], .int .i64 (lexE l)]) (by simp [results, Tryd.results15, go_sem, e0, e1, e2]) rfl ?_
    have hff := ((HB2.out.setCell (p := ⟨w.heap.size, 0, none⟩) (by dsimp only; omega) (.int .i64 0)).setCell (p := ⟨w.heap.size, 1, none⟩) (by dsimp only; omega) (.int .i64 0)).setCell (p := ⟨w.heap.size, 2, none⟩) (by dsimp only; omega) (.slice none 0 0)
    exact ⟨hff, 0, 0, none, 0, 0, (lexE l), rfl, .inr ⟨by rw [readT, if_pos HE.out], HE.out, rfl, rfl, rfl, rfl, rfl⟩⟩
  · have HW := Lib.hid (pWholeC hps ⟨#[]⟩)
    have HRT := Lib.hid (show readT ds l = match wholeE ds ⟨#[]⟩ (lexT l) with | .error e => .error e | .ok (t, _) => .ok t by rw [readT, if_neg (by rw [he]; simp)])
    rw [HSZ.out] at hK
    clear hps he HB HSZ
    go_wp2_with fail
    refine HW.out.mono ?_
    rintro e w3 ⟨hf3, k, g, A', n', c', ec, rfl, hres⟩
    have hs3 := hf3.size
    have x3 := x2.fr hf3 (by omega)
    have HB3 := Lib.hid (FrB.toBelow HB2.out hf3 (by omega) (by omega))
    have HR := Lib.hid hres
    clear HW x2 hf3 hres HB2
    have z9 := ((x3.put 0 (.int .i64 k)).put 1 (.int .i64 g)).put 2 ((.slice A' n' c'))
    have e0 := z9.cell 0
    have e1 := z9.cell 1
    have e2 := z9.cell 2
    have r0 := x3.cell 0
    have r1 := x3.cell 1
    have r2 := x3.cell 2
    have fz0 := x3.frozen 0
    have fz1 := x3.frozen 1
    have fz2 := x3.frozen 2
    have lz := x3.lt
    simp only [List.setIfInBounds_toArray, List.set_cons_zero, List.set_cons_succ, List.getElem?_toArray, List.getElem?_cons_zero, List.getElem?_cons_succ] at e0 e1 e2 r0 r1 r2
    clear z9 x3
    go_wp2_with fail
    refine bodyPost_ret (v := .tuple #[.agg #[.int .i64 k, .int .i64 g, (.slice A' n' c')], .int .i64 ec]) (by simp [results, Tryd.results15, go_sem, e0, e1, e2]) rfl ?_
    have hff := ((HB3.out.setCell (p := ⟨w.heap.size, 0, none⟩) (by dsimp only; omega) (.int .i64 k)).setCell (p := ⟨w.heap.size, 1, none⟩) (by dsimp only; omega) (.int .i64 g)).setCell (p := ⟨w.heap.size, 2, none⟩) (by dsimp only; omega) (.slice A' n' c')
    refine ⟨hff, k, g, A', n', c', ec, rfl, ?_⟩
    rw [HRT.out]
    rcases HR.out with ⟨t, y, hr, h0, hrd, _⟩ | ⟨hr, h3⟩
    · exact .inl ⟨t, by rw [hr], h0, (hrd.to fun b' h1 h2 => heap_other3Q _ _ _ _ _ _ (by omega)).rd⟩
    · exact .inr ⟨by rw [hr], h3⟩
theorem PS.up {b0 b1 R K : Nat} {SA : Option Addr} {sn sc : Nat} {sg : List (ByteArray × T)} {x : List Tk} {w : World} (h : PS b0 R K SA sn sc sg x w) (h1 : b0 ≤ b1) (h2 : b1 ≤ w.heap.size) : PS b1 R K SA sn sc sg x w :=
  ⟨h.box, ⟨h.dl.len, h.dl.le, h.dl.cap, fun i d hd => by
    obtain ⟨b, o, k, g, A', n, c, e, hb, c0, c1, c2, c3, hr⟩ := h.dl.at_ i d hd
    exact ⟨b, o, k, g, A', n, c, e, ⟨hb.1, by omega⟩, c0, c1, c2, c3, RdF.moveQ (fun q hq hl => ⟨⟨hq.1, by omega⟩, rfl⟩) _ _ hr⟩⟩, h.mp, h.ne, h.klt, Nat.le_trans h.rle h1, h2, h.few, h.good, h.sgf⟩
/-- what holds at the head of Decls' loop -/
structure DsI (l : List UInt8) (w : World) (R K lo gf : Nat) (SA : Option Addr) (sn sc : Nat) (sg : List (ByteArray × T)) (cs : List Value) (y : List Tk) (wr : World) : Prop where
  ps : PS wr.heap.size R K SA sn sc sg y wr
  row : DRow R lo wr SA sn sc sg cs
  below : Below w.heap.size w wr
  big : lo ≤ wr.heap.size
  few : sg.length ≤ 40
  sz : ∀ d ∈ sg, d.1.size ≤ maxLen
  fuel : y.length ≤ gf
  eq : declsM mayB nmB y.length sg y = readD l
end Go.Proofs.YtmkahbbcagfbhaaDoor

/-
  Names that may be declared, in texts: what is read of them. No statement is proved here.
-/
namespace Go.Proofs.YtmkahbbcagfbhaaDoor
open Go.ChangeShapes Go.WideShapes Go.ChangeAt Go.RowKit
set_option linter.unusedVariables false

/-- a name that may be declared -/
structure NmP (s : ByteArray) : Prop where
  ne : s.data.toList ≠ []
  nm : ∀ c ∈ s.data.toList, nmI (bI c) = true
  ty : s ≠ tyN
  sz : s.data.toList.length ≤ 40
theorem nm_of {s : ByteArray} (h : nmB s = true) : NmP s := by
  unfold nmB at h
  simp only [Bool.and_eq_true, decide_eq_true_eq] at h
  obtain ⟨h1, h2, h3, h4, _⟩ := h
  have hl : s.data.toList.length ≤ 40 := by rw [Array.length_toList]; exact h1
  rcases lexE_cases s.data.toList (by omega) with ⟨_, hx⟩ | ⟨h8, _, _⟩
  · rw [h4] at hx
    rcases toks_good hx (0, s) (List.mem_singleton.2 rfl) with ⟨e, _⟩ | ⟨_, e1, e2⟩
    · cases e
    · exact ⟨e1, e2, h2, hl⟩
  · rw [h3] at h8; cases h8
theorem run_mark {o : List Tk} {cur : List UInt8} {c : UInt8} {r : List UInt8} (h : mkI (bI c) = true) : runL ⟨o, cur, false⟩ (c :: r) = runL ⟨flu o cur ++ [(1, ⟨#[c]⟩)], [], false⟩ r := by
  obtain ⟨h1, h2, h3, h4⟩ := mk_notnm h
  rw [runL, show stp ⟨o, cur, false⟩ c = some ⟨flu o cur ++ [(1, ⟨#[c]⟩)], [], false⟩ by unfold stp; simp [h1, h2, h]]
  rfl
theorem NmP.flu {s : ByteArray} (h : NmP s) (o : List Tk) : flu o s.data.toList = o ++ [(0, s)] := by
  rw [flu_cons o h.ne]
theorem NmP.run {s : ByteArray} (h : NmP s) (o : List Tk) (r : List UInt8) : runL ⟨o, [], false⟩ (s.data.toList ++ r) = runL ⟨o, s.data.toList, false⟩ r := by
  rw [runL_append, runL_name o _ h.nm []]
  rfl
theorem toks_decl {s : ByteArray} (h : NmP s) : toksL (s.data.toList ++ [58, 32, 116, 121, 112, 101, 46]) = some [(0, s), mK, (0, tyN), mD] := by
  rw [toksL, h.run, run_mark (by decide), h.flu]
  rfl
theorem toks_one {s : ByteArray} (h : NmP s) : toksL (91 :: (s.data.toList ++ 93 :: s.data.toList)) = some [mL, (0, s), mR, (0, s)] := by
  rw [toksL, run_mark (by decide), h.run, run_mark (by decide), h.flu]
  have := h.run (flu [] [] ++ [(1, ⟨#[91]⟩)] ++ [(0, s)] ++ [(1, ⟨#[93]⟩)]) []
  rw [List.append_nil] at this
  rw [this]
  show some (fin _) = _
  rw [fin, h.flu]
  rfl
theorem toks_two {s t : ByteArray} (h : NmP s) (g : NmP t) : toksL (91 :: (s.data.toList ++ 93 :: 91 :: (t.data.toList ++ 93 :: t.data.toList))) = some [mL, (0, s), mR, mL, (0, t), mR, (0, t)] := by
  rw [toksL, run_mark (by decide), h.run, run_mark (by decide), h.flu, run_mark (by decide), g.run, run_mark (by decide), g.flu]
  have := g.run (flu (flu [] [] ++ [(1, ⟨#[91]⟩)] ++ [(0, s)] ++ [(1, ⟨#[93]⟩)]) [] ++ [(1, ⟨#[91]⟩)] ++ [(0, t)] ++ [(1, ⟨#[93]⟩)]) []
  rw [List.append_nil] at this
  rw [this]
  show some (fin _) = _
  rw [fin, g.flu]
  rfl
theorem lex_of {l : List UInt8} {x : List Tk} (h : toksL l = some x) (hl : l.length ≤ 20000) : lexE l = 0 ∧ lexT l = x := by
  have hn : ¬ 20000 < l.length := by omega
  unfold lexE lexT
  rw [if_neg hn, if_neg hn, h]
  exact ⟨rfl, rfl⟩
theorem term_var (k : Nat) {s : ByteArray} (hs : s ≠ tyN) (bd : List ByteArray) : termM [] (k + 1) (s :: bd) [(0, s)] = .ok (.node 4 0 [], []) := by
  have hh : headM [] (s :: bd) s = .ok (.node 4 0 []) := by
    unfold headM
    rw [posB, if_pos rfl]
    rfl
  rw [term_N [] k (s :: bd) s [] hs hh, others_stop rfl]
theorem term_lam (k : Nat) {s : ByteArray} {bd : List ByteArray} {r y : List Tk} {t : T} (h : termM [] k (s :: bd) r = .ok (t, y)) : termM [] (k + 1) bd (mL :: (0, s) :: mR :: r) = .ok (.node 3 0 [t], y) := by
  rw [term_L, lamM, show namedM mR ((0, s) :: mR :: r) = .ok (s, r) by rw [namedM, name_at]; dsimp only; rw [take_at]]
  dsimp only
  rw [h]
def lamV : T := .node 3 0 [.node 4 0 []]
theorem may_none : mayB (.node 0 0 []) = true := by kernel_rfl
theorem may_one : mayB lamV = true := by kernel_rfl
theorem may_two : mayB (.node 3 0 [lamV]) = true := by kernel_rfl
theorem read_one {s : ByteArray} (h : NmP s) : readT [] (91 :: (s.data.toList ++ 93 :: s.data.toList)) = .ok lamV := by
  have hl : (91 :: (s.data.toList ++ 93 :: s.data.toList) : List UInt8).length ≤ 20000 := by
    have := h.sz
    rw [List.length_cons, List.length_append, List.length_cons]; omega
  obtain ⟨e1, e2⟩ := lex_of (toks_one h) hl
  rw [readT, if_neg (by rw [e1]; simp), e2, wholeE, wholeM, term_lam 119 (term_var 118 h.ty [])]
  dsimp only
  rw [if_pos (show mayB (.node 3 0 [.node 4 0 []]) = true from may_one)]
  rfl
theorem read_two {s t : ByteArray} (h : NmP s) (g : NmP t) : readT [] (91 :: (s.data.toList ++ 93 :: 91 :: (t.data.toList ++ 93 :: t.data.toList))) = .ok (.node 3 0 [lamV]) := by
  have hl : (91 :: (s.data.toList ++ 93 :: 91 :: (t.data.toList ++ 93 :: t.data.toList)) : List UInt8).length ≤ 20000 := by
    have h1 := h.sz
    have h2 := g.sz
    rw [List.length_cons, List.length_append, List.length_cons, List.length_cons, List.length_append, List.length_cons]; omega
  obtain ⟨e1, e2⟩ := lex_of (toks_two h g) hl
  rw [readT, if_neg (by rw [e1]; simp), e2, wholeE, wholeM, term_lam 119 (term_lam 118 (term_var 117 g.ty [s]))]
  dsimp only
  rw [if_pos (show mayB (.node 3 0 [.node 3 0 [.node 4 0 []]]) = true from may_two)]
  rfl
theorem read_decl {s : ByteArray} (hn : nmB s = true) : readD (s.data.toList ++ [58, 32, 116, 121, 112, 101, 46]) = .ok [(s, .node 0 0 [])] := by
  have h := nm_of hn
  have hl : (s.data.toList ++ [58, 32, 116, 121, 112, 101, 46] : List UInt8).length ≤ 20000 := by
    have h1 := h.sz
    rw [List.length_append, show ([58, 32, 116, 121, 112, 101, 46] : List UInt8).length = 7 from rfl]
    omega
  obtain ⟨e1, e2⟩ := lex_of (toks_decl h) hl
  have hd : declM mayB nmB [] [(0, s), mK, (0, tyN), mD] = .ok ((s, .node 0 0 []), []) := by
    rw [declM, name_at]
    dsimp only
    rw [if_pos ⟨hn, rfl⟩, take_at]
    dsimp only
    rw [wholeM, term_T, show aloneM (.ok (.node 0 0 [], [mD])) = .ok (.node 0 0 [], [mD]) from rfl]
    dsimp only
    rw [if_pos may_none]
    dsimp only
    rw [take_at]
  rw [readD, if_neg (by rw [e1]; simp), e2]
  show declsM mayB nmB (3 + 1) [] ((0, s) :: _) = _
  rw [declsM, if_neg (by decide), hd]
  rfl
end Go.Proofs.YtmkahbbcagfbhaaDoor

/-
  What a text in ( ) is read as, and one below a name that binds. No statement is proved here.
-/
namespace Go.Proofs.YtmkahbbcagfbhaaDoor
open Go.ChangeShapes Go.WideShapes Go.ChangeAt Go.RowKit
set_option linter.unusedVariables false

/-- a mark ) behind changes nothing -/
def End (f : List Tk → Except Int (T × List Tk)) : Prop := ∀ l a r, f l = .ok (a, r) → f (l ++ [mC]) = .ok (a, r ++ [mC])
theorem beg_end (l : List Tk) : begM (l ++ [mC]) = begM l := by
  cases l with
  | nil => exact (by decide : begM [mC] = false)
  | cons t l => rfl
theorem args_end {sg bd f} (hi : End f) (hs : Sho f) : ∀ (n m : Nat) (l : List Tk) (us : List T) (r : List Tk), l.length ≤ n → (l ++ [mC]).length ≤ m → argsM sg bd f n l = .ok (us, r) → argsM sg bd f m (l ++ [mC]) = .ok (us, r ++ [mC])
  | 0, 0, [], us, r, hn, hm, h => by simp at hm
  | n + 1, 0, [], us, r, hn, hm, h => by simp at hm
  | 0, m + 1, [], us, r, hn, hm, h => by rw [argsM] at h; cases h; rfl
  | n + 1, m + 1, [], us, r, hn, hm, h => by rw [argsM] at h; cases h; rfl
  | n + 1, 0, t :: l, us, r, hn, hm, h => by simp at hm
  | n + 1, m + 1, t :: l, us, r, hn, hm, h => by
    rw [argsM] at h
    rw [List.cons_append, argsM]
    simp only [List.cons_append, List.length_cons] at hn hm
    split at h
    · rename_i e
      rw [if_pos e]
      split at h
      · cases h
      · rename_i u r1 h1
        split at h
        · cases h
        · rename_i r2 h2
          have a1 := hs _ _ _ h1
          have a2 := take_ok h2
          rw [hi _ _ _ h1]
          dsimp only
          rw [take_ext h2 [mC]]
          dsimp only
          split at h
          · cases h
          · rename_i us' r3 h3
            cases h
            have a3 := congrArg List.length a2
            simp only [List.length_cons, List.length_append] at a3 hm
            rw [args_end hi hs n m r2 us' r (by omega) (by rw [List.length_append]; simp only [List.length_cons, List.length_nil]; omega) h3]
    · rename_i e
      rw [if_neg e]
      split at h
      · rename_i e2
        rw [if_pos e2]
        split at h
        · cases h
        · rename_i e3
          rw [if_neg e3]
          split at h
          · cases h
          · rename_i u hu
            split at h
            · cases h
            · rename_i us' r3 h3
              cases h
              rw [args_end hi hs n m l us' r (by omega) (by omega) h3]
      · rename_i e2
        rw [if_neg e2]
        cases h
        rfl
theorem app_end {sg bd f} (hi : End f) (hs : Sho f) : End (appM sg bd f) := by
  intro l a r h
  cases l with
  | nil => cases h
  | cons t l =>
    rw [appM] at h
    rw [List.cons_append, appM]
    split at h
    · rename_i e
      rw [if_pos e]
      split at h
      · cases h
      · rename_i u r1 h1
        split at h
        · cases h
        · rename_i r2 h2
          rw [hi _ _ _ h1]
          dsimp only
          rw [take_ext h2 [mC]]
          dsimp only
          split at h
          · cases h
          · rename_i hb
            cases h
            rw [beg_end r, if_neg hb]
    · rename_i e
      rw [if_neg e]
      split at h
      · rename_i e2
        rw [if_pos e2]
        split at h
        · rename_i e3
          rw [if_pos e3]
          split at h
          · cases h
          · rename_i hb
            cases h
            rw [beg_end r, if_neg hb]
        · rename_i e3
          rw [if_neg e3]
          split at h
          · cases h
          · rename_i u hu
            split at h
            · cases h
            · rename_i us r3 h3
              cases h
              rw [args_end hi hs l.length (l ++ [mC]).length l us r (Nat.le_refl _) (Nat.le_refl _) h3]
      · cases h
theorem term_end (sg : List (ByteArray × T)) : ∀ (k : Nat) (bd : List ByteArray), End (termM sg k bd)
  | 0, _ => fun l a r h => by rw [termM] at h; cases h
  | k + 1, bd => by
    intro l a r h
    cases l with
    | nil => rw [termM] at h; cases h
    | cons t l =>
      rw [termM] at h
      rw [List.cons_append, termM]
      split at h
      · rename_i e
        rw [if_pos e]
        split at h
        · cases h
        · rename_i s r1 h1
          rw [name_ext h1 [mC]]
          dsimp only
          split at h
          · cases h
          · rename_i r2 h2
            rw [take_ext h2 [mC]]
            dsimp only
            split at h
            · cases h
            · rename_i a' r3 h3
              split at h
              · cases h
              · rename_i r4 h4
                rw [term_end sg k bd _ _ _ h3]
                dsimp only
                rw [take_ext h4 [mC]]
                dsimp only
                split at h
                · cases h
                · rename_i b r5 h5
                  cases h
                  rw [term_end sg k (s :: bd) _ _ _ h5]
      · rename_i e
        rw [if_neg e]
        split at h
        · rename_i e2
          rw [if_pos e2]
          split at h
          · cases h
          · rename_i s r1 h1
            rw [name_ext h1 [mC]]
            dsimp only
            split at h
            · cases h
            · rename_i r2 h2
              rw [take_ext h2 [mC]]
              dsimp only
              split at h
              · cases h
              · rename_i b r3 h3
                cases h
                rw [term_end sg k (s :: bd) _ _ _ h3]
        · rename_i e2
          rw [if_neg e2]
          exact app_end (term_end sg k bd) (term_sho sg k bd) _ _ _ h

/-- a text that is read as a term: its tokens, all of them -/
theorem readT_ok {ds : List (ByteArray × T)} {l : List UInt8} {t : T} (h : readT ds l = .ok t) (hl : l.length ≤ 20000) : toksL l = some (lexT l) ∧ termM ds 120 [] (lexT l) = .ok (t, []) ∧ mayB t = true := by
  unfold readT at h
  split at h
  · cases h
  rename_i h0
  rcases lexE_cases l hl with ⟨_, hx⟩ | ⟨h8, _, _⟩
  rotate_left
  · rw [h8] at h0; exact absurd (by decide) h0
  split at h
  · cases h
  rename_i t' y hw
  cases h
  unfold wholeE at hw
  split at hw
  · cases hw
  rename_i t2 y2 hw2
  split at hw
  rotate_left
  · cases hw
  rename_i hy
  cases hw
  obtain ⟨h1, h2⟩ := whole_ok hw2
  refine ⟨hx, ?_, h2⟩
  cases y2 with
  | nil => exact h1
  | cons z y =>
    have hz : z = (1, ⟨#[]⟩) := hy
    have hg := toks_good hx z (term_sub ds 120 [] _ _ _ h1 z List.mem_cons_self)
    subst hz
    rcases hg with ⟨_, c, e, _⟩ | ⟨e, _⟩
    · cases e
    · cases e
theorem readT_of {ds : List (ByteArray × T)} {l : List UInt8} {x : List Tk} {t : T} (hl : l.length ≤ 20000) (hx : toksL l = some x) (h : termM ds 120 [] x = .ok (t, [])) : readT ds l = .ok t ∨ readT ds l = .error 4 := by
  obtain ⟨e1, e2⟩ := lex_of hx hl
  unfold readT
  rw [if_neg (by rw [e1]; simp), e2, wholeE, wholeM, h]
  dsimp only
  by_cases hm : mayB t = true
  · rw [if_pos hm]; exact .inl rfl
  · rw [if_neg hm]; exact .inr rfl
theorem readT_four {ds : List (ByteArray × T)} {l : List UInt8} {x : List Tk} (hl : l.length ≤ 20000) (hx : toksL l = some x) (h : termM ds 120 [] x = .error 4) : readT ds l = .error 4 := by
  obtain ⟨e1, e2⟩ := lex_of hx hl
  unfold readT
  rw [if_neg (by rw [e1]; simp), e2, wholeE, wholeM, h]
theorem toks_round {l : List UInt8} {x : List Tk} (h : toksL l = some x) : toksL (40 :: (l ++ [10, 41])) = some (mO :: (x ++ [mC])) := by
  rw [toksL, run_mark (by decide), toks_from, toks_join, h]
  rfl
/-- in ( ) -/
theorem read_round {ds : List (ByteArray × T)} {l : List UInt8} {t : T} (h : readT ds l = .ok t) (hl : l.length ≤ 2000) : readT ds (40 :: (l ++ [10, 41])) = .ok t ∨ readT ds (40 :: (l ++ [10, 41])) = .error 4 := by
  obtain ⟨hx, ht, hm⟩ := readT_ok h (by omega)
  have hl2 : (40 :: (l ++ [10, 41])).length ≤ 20000 := by simp; omega
  have h3 := term_end ds 120 [] _ _ _ ht
  have hto : termM ds 120 [] (mO :: (lexT l ++ [mC])) = appM ds [] (termM ds 119 []) (mO :: (lexT l ++ [mC])) := by
    rw [termM, if_neg (by decide), if_neg (by decide)]
  rw [appM, if_pos rfl] at hto
  rcases term_low ds 119 [] (lexT l ++ [mC]) with h4 | h4
  · rw [h4, h3] at hto
    refine readT_of hl2 (toks_round hx) ?_
    rw [hto]
    dsimp only
    rw [List.nil_append, take_at]
    rfl
  · rw [h4] at hto
    exact .inr (readT_four hl2 (toks_round hx) hto)
/-- the name that is not there -/
def ntN : ByteArray := ⟨#[95, 110, 111, 116, 95, 116, 104, 101, 114, 101]⟩
def ntP : List UInt8 := [91, 95, 110, 111, 116, 95, 116, 104, 101, 114, 101, 93, 32]
theorem toks_below {l : List UInt8} {x : List Tk} (h : toksL l = some x) : toksL (ntP ++ l) = some (mL :: (0, ntN) :: mR :: x) := by
  have h1 : runL ⟨[], [], false⟩ ntP = some ⟨[mL, (0, ntN), mR], [], false⟩ := rfl
  rw [toksL, runL_append, h1]
  show (runL ⟨[mL, (0, ntN), mR], [], false⟩ l).map fin = _
  rw [toks_from, h]
  rfl
/-- below that name -/
theorem read_below {ds : List (ByteArray × T)} {l : List UInt8} {t : T} (h : readT ds l = .ok t) (hl : l.length ≤ 2000) (hn : ((0, ntN) : Tk) ∉ lexT l) : readT ds (ntP ++ l) = .ok (.node 3 0 [t]) ∨ readT ds (ntP ++ l) = .error 4 := by
  obtain ⟨hx, ht, hm⟩ := readT_ok h (by omega)
  have hl2 : (ntP ++ l).length ≤ 20000 := by rw [List.length_append]; show 13 + _ ≤ _; omega
  have hto : termM ds 120 [] (mL :: (0, ntN) :: mR :: lexT l) = lamM ds 119 [] ((0, ntN) :: mR :: lexT l) := term_L ds 119 [] _
  rw [lamM, show namedM mR ((0, ntN) :: mR :: lexT l) = .ok (ntN, lexT l) by rw [namedM, name_at]; dsimp only; rw [take_at]] at hto
  dsimp only at hto
  rw [show termM ds 119 [ntN] (lexT l) = termM ds 119 [] (lexT l) from term_out ds ntN 119 [] _ hn] at hto
  rcases term_low ds 119 [] (lexT l) with h4 | h4
  · rw [h4, ht] at hto
    exact readT_of hl2 (toks_below hx) hto
  · rw [h4] at hto
    exact .inr (readT_four hl2 (toks_below hx) hto)

/-- names stand in the text -/
structure InS (a : List UInt8) (s : LSt) : Prop where
  out : ∀ t ∈ s.out, t.1 = 0 → t.2.data.toList <:+: a
  cur : s.cur <:+ a
  ok : LOk s
theorem InS.flu {a : List UInt8} {s : LSt} (h : InS a s) : ∀ t ∈ flu s.out s.cur, t.1 = 0 → t.2.data.toList <:+: a := by
  intro t ht h0
  unfold Go.Proofs.YtmkahbbcagfbhaaDoor.flu at ht
  split at ht
  · exact h.out t ht h0
  · rcases List.mem_append.1 ht with h1 | h1
    · exact h.out t h1 h0
    · rw [List.mem_singleton.1 h1]
      exact h.cur.isInfix
theorem inf_app {x a : List UInt8} (h : x <:+: a) (c : UInt8) : x <:+: a ++ [c] := h.trans (List.prefix_append a [c]).isInfix
theorem InS.step {a : List UInt8} {s s2 : LSt} {c : UInt8} (h : InS a s) (hs : stp s c = some s2) : InS (a ++ [c]) s2 := by
  have hok := stp_ok h.ok hs
  have hf : ∀ t ∈ Go.Proofs.YtmkahbbcagfbhaaDoor.flu s.out s.cur, t.1 = 0 → t.2.data.toList <:+: a ++ [c] := fun t ht h0 => inf_app (h.flu t ht h0) c
  unfold stp at hs
  split at hs
  · rename_i hn
    cases hs
    refine ⟨fun t ht h0 => inf_app (h.out t ht h0) c, ?_, hok⟩
    show s.cur <:+ _
    rw [h.ok hn]; exact List.nil_suffix
  · split at hs
    · cases hs
      refine ⟨fun t ht h0 => inf_app (h.out t ht h0) c, ?_, hok⟩
      obtain ⟨p, hp⟩ := h.cur
      exact ⟨p, by rw [← hp, List.append_assoc]⟩
    · split at hs
      · cases hs; exact ⟨hf, List.nil_suffix, hok⟩
      · split at hs
        · cases hs
          refine ⟨fun t ht h0 => ?_, List.nil_suffix, hok⟩
          rcases List.mem_append.1 ht with h1 | h1
          · exact hf t h1 h0
          · rw [List.mem_singleton.1 h1] at h0; cases h0
        · split at hs
          · cases hs; exact ⟨hf, List.nil_suffix, hok⟩
          · cases hs
theorem InS.run : ∀ (l a : List UInt8) (s s2 : LSt), InS a s → runL s l = some s2 → InS (a ++ l) s2
  | [], a, s, s2, h, hr => by rw [runL] at hr; cases hr; rw [List.append_nil]; exact h
  | c :: l, a, s, s2, h, hr => by
    rw [runL] at hr
    cases hs : stp s c with
    | none => rw [hs] at hr; cases hr
    | some s1 =>
      rw [hs] at hr
      have := InS.run l (a ++ [c]) s1 s2 (h.step hs) hr
      rw [List.append_assoc] at this
      exact this
theorem toks_infix {l : List UInt8} {x : List Tk} (h : toksL l = some x) {t : Tk} (ht : t ∈ x) (h0 : t.1 = 0) : t.2.data.toList <:+: l := by
  unfold toksL at h
  cases hr : runL ⟨[], [], false⟩ l with
  | none => rw [hr] at h; cases h
  | some s =>
    rw [hr] at h
    have hs : fin s = x := by simpa using h
    have hi := InS.run l [] ⟨[], [], false⟩ s ⟨(fun t ht => by cases ht), List.nil_suffix, lok0 []⟩ hr
    rw [List.nil_append] at hi
    rw [← hs] at ht
    exact hi.flu t ht h0
/-- a text that has the name within has it at a place -/
theorem inf_at {x l : List UInt8} (h : x <:+: l) : ∃ i, i + x.length ≤ l.length ∧ (l.drop i).take x.length = x := by
  obtain ⟨p, q, e⟩ := h
  refine ⟨p.length, ?_, ?_⟩
  · rw [← e, List.length_append, List.length_append]; omega
  · rw [← e, List.append_assoc, List.drop_left, List.take_left]
/-- a name that is not at any place is no token -/
theorem nt_none {l : List UInt8} (hl : l.length ≤ 20000) (h : ∀ i, i + 10 ≤ l.length → (l.drop i).take 10 ≠ ntN.data.toList) : ((0, ntN) : Tk) ∉ lexT l := by
  intro hm
  rcases lexE_cases l hl with ⟨_, hx⟩ | ⟨_, _, hx⟩
  · obtain ⟨i, h1, h2⟩ := inf_at (toks_infix hx hm rfl)
    exact h i h1 h2
  · rw [hx] at hm; cases hm
end Go.Proofs.YtmkahbbcagfbhaaDoor

/-
  What is written is read as what it was, as plain functions. No statement is proved here.
-/
namespace Go.Proofs.YtmkahbbcagfbhaaDoor
open Go.ChangeShapes Go.WideShapes Go.ChangeAt Go.RowKit
set_option linter.unusedVariables false

/-- the names that d nodes bind, the nearest one first -/
def bds : Nat → List ByteArray
  | 0 => []
  | d + 1 => bnm d :: bds d
theorem posB_bds : ∀ (d h : Nat), h < d → d ≤ 100 → posB (bnm (d - 1 - h)) (bds d) = some h
  | 0, h, h1, _ => by omega
  | d + 1, 0, _, _ => by rw [bds, posB, show d + 1 - 1 - 0 = d by omega, if_pos rfl]
  | d + 1, h + 1, h1, h2 => by
    rw [bds, posB, if_neg (fun e => by have := bnm_inj (by omega) (by omega) e; omega), show d + 1 - 1 - (h + 1) = d - 1 - h by omega, posB_bds d h (by omega) (by omega)]
    rfl
theorem posB_other {s : ByteArray} (hs : s.data.toList.head? ≠ some 95) : ∀ d, posB s (bds d) = none
  | 0 => rfl
  | d + 1 => by
    rw [bds, posB, if_neg (fun e => hs (by rw [← e]; rfl)), posB_other hs d]
    rfl
/-- what names of declarations are -/
structure NmOk (nm : Int → ByteArray) (kd : Int → Bool) (sg : List (ByteArray × T)) (n : Nat) : Prop where
  at_ : ∀ h : Nat, h < n → nm h ≠ tyN ∧ (nm h).data.toList.head? ≠ some 95 ∧ ∃ ty, posD (nm h) sg = some (h, ty) ∧ kd h = kiB ty
mutual
/-- are Fams kinds, and Consts none? -/
def kdB (kd : Int → Bool) : T → Bool
  | .node k h xs => (!(k == 2) || kd h) && (!(k == 5) || !(kd h)) && kdL kd xs
def kdL (kd : Int → Bool) : List T → Bool
  | [] => true
  | x :: xs => kdB kd x && kdL kd xs
end
theorem kdL_all (kd : Int → Bool) : ∀ xs : List T, kdL kd xs = xs.all (kdB kd)
  | [] => rfl
  | x :: xs => by rw [kdL, kdL_all kd xs, List.all_cons]
theorem head_at {nm : Int → ByteArray} {kd : Int → Bool} {sg : List (ByteArray × T)} {n d : Nat} {k h : Int} {xs : List T} (hn : NmOk nm kd sg n) (hw : Wr_ n d (.node k h xs)) (hk : kdB kd (.node k h xs) = true) (h0 : k ≠ 0) (h1 : k ≠ 1) (h3 : k ≠ 3) :
    hdS nm k h d ≠ tyN ∧ headM sg (bds d) (hdS nm k h d) = .ok (.node k h []) := by
  have hd := hw.deep
  rw [dp] at hd
  rcases hw.cases with ⟨e, _⟩ | ⟨e, _⟩ | ⟨e, _⟩ | ⟨rfl, e1, e2⟩ | ⟨e, e1, e2⟩
  · exact absurd e h0
  · exact absurd e h1
  · exact absurd e h3
  · obtain ⟨g, rfl⟩ : ∃ g : Nat, h = g := ⟨h.toNat, by omega⟩
    rw [hdS, if_pos rfl]
    refine ⟨bnm_ty _, ?_⟩
    rw [headM, Int.toNat_natCast, posB_bds d g (by omega) (by omega)]
  · obtain ⟨g, rfl⟩ : ∃ g : Nat, h = g := ⟨h.toNat, by omega⟩
    obtain ⟨p1, p2, ty, p3, p4⟩ := hn.at_ g (by omega)
    rw [hdS, if_neg (by rcases e with rfl | rfl <;> decide)]
    refine ⟨p1, ?_⟩
    rw [headM, posB_other p2, p3]
    dsimp only
    rw [kdB, Bool.and_eq_true, Bool.and_eq_true] at hk
    rcases e with rfl | rfl
    · have : kd g = true := by simpa using hk.1.1
      rw [if_pos (by rw [← p4]; exact this)]
    · have : kd g = false := by simpa using hk.1.2
      rw [if_neg (by rw [← p4, this]; decide)]
theorem argsM_name {sg bd f} {n : Nat} {s : ByteArray} {r : List Tk} (hs : s ≠ tyN) {u : T} (hu : headM sg bd s = .ok u) : argsM sg bd f (n + 1) ((0, s) :: r) = match argsM sg bd f n r with
    | .error e => .error e
    | .ok (us, r3) => .ok (u :: us, r3) := by
  rw [argsM, if_neg (fun e => by cases congrArg Prod.fst e), if_pos rfl, if_neg hs, hu]
  rfl
theorem argsM_open {sg bd f} {n : Nat} {r r2 : List Tk} {u : T} (hf : f r = .ok (u, mC :: r2)) : argsM sg bd f (n + 1) (mO :: r) = match argsM sg bd f n r2 with
    | .error e => .error e
    | .ok (us, r3) => .ok (u :: us, r3) := by
  rw [argsM, if_pos rfl, hf]
  dsimp only
  rw [take_at]
  rfl
theorem beg_close (r : List Tk) : begM (mC :: r) = false := by
  rw [begM]; decide
theorem beg_curl (r : List Tk) : begM (mQ :: r) = false := by
  rw [begM]; decide
/-- Args are read as they were -/
theorem args_sh {nm : Int → ByteArray} {sg : List (ByteArray × T)} {bd : List ByteArray} {f : List Tk → Except Int (T × List Tk)} {d : Nat} : ∀ (xs : List T) (n : Nat) (rest : List Tk),
    (∀ x ∈ xs, ∀ r, begM r = false → f (shT nm x d ++ r) = .ok (x, r)) →
    (∀ x ∈ xs, aloB x = true → ∃ s, shT nm x d = [(0, s)] ∧ s ≠ tyN ∧ headM sg bd s = .ok x) → begM rest = false → (xs.flatMap (argS nm d) ++ rest).length ≤ n → argsM sg bd f n (xs.flatMap (argS nm d) ++ rest) = .ok (xs, rest)
  | [], n, rest, _, _, hr, _ => args_stop hr n
  | x :: xs, n, rest, hf, ha, hr, hn => by
    rw [List.flatMap_cons, List.append_assoc] at hn ⊢
    have hf' := fun y hy => hf y (List.mem_cons_of_mem _ hy)
    have ha' := fun y hy => ha y (List.mem_cons_of_mem _ hy)
    rw [argS] at hn ⊢
    by_cases h1 : aloB x = true
    · rw [if_pos h1] at hn ⊢
      obtain ⟨s, e, hs, hu⟩ := ha x List.mem_cons_self h1
      rw [e] at hn ⊢
      obtain ⟨m, rfl⟩ : ∃ m, n = m + 1 := ⟨n - 1, by simp at hn; omega⟩
      rw [List.cons_append, List.nil_append, argsM_name hs hu, args_sh xs m rest hf' ha' hr (by simp at hn ⊢; omega)]
    · rw [if_neg h1] at hn ⊢
      obtain ⟨m, rfl⟩ : ∃ m, n = m + 1 := ⟨n - 1, by simp at hn; omega⟩
      rw [List.cons_append, List.append_assoc, List.cons_append, List.nil_append, argsM_open (hf x List.mem_cons_self _ (beg_close _)), args_sh xs m rest hf' ha' hr (by simp at hn ⊢; omega)]
/-- A TERM that was written is read as what it was. -/
theorem term_sh {nm : Int → ByteArray} {kd : Int → Bool} {sg : List (ByteArray × T)} {n : Nat} (hn : NmOk nm kd sg n) (t : T) : ∀ (d k : Nat) (rest : List Tk), Wr_ n d t → kdB kd t = true → dp t ≤ k → begM rest = false →
    termM sg k (bds d) (shT nm t d ++ rest) = .ok (t, rest) := by
  refine T.ind (M := fun t => ∀ (d k : Nat) (rest : List Tk), Wr_ n d t → kdB kd t = true → dp t ≤ k → begM rest = false → termM sg k (bds d) (shT nm t d ++ rest) = .ok (t, rest)) ?_ t
  intro k h xs ih d m rest hw hk hd hr
  rw [dp] at hd
  obtain ⟨m, rfl⟩ : ∃ m', m = m' + 1 := ⟨m - 1, by omega⟩
  have hk' := hk
  rw [kdB, Bool.and_eq_true, kdL_all, List.all_eq_true] at hk'
  rcases hw.cases with ⟨rfl, rfl, rfl⟩ | ⟨rfl, rfl, a, b, rfl⟩ | ⟨rfl, rfl, a, rfl⟩ | hc
  · rw [sh_sort, List.cons_append, List.nil_append, termM, if_neg (by decide), if_neg (by decide), appM, if_neg (by decide), if_pos rfl, if_pos rfl, hr]
    rfl
  · obtain ⟨wa, wb⟩ := hw.pi
    simp only [dpL] at hd
    rw [sh_pi]
    simp only [List.cons_append, List.append_assoc]
    rw [termM, if_pos rfl, name_at]
    dsimp only
    rw [take_at]
    dsimp only
    rw [ih a (by simp) d m _ wa (hk'.2 a (by simp)) (by omega) (beg_curl _)]
    dsimp only
    rw [take_at]
    dsimp only
    rw [show bnm d :: bds d = bds (d + 1) from rfl, ih b (by simp) (d + 1) m _ wb (hk'.2 b (by simp)) (by omega) hr]
  · have wa := hw.lam
    simp only [dpL] at hd
    rw [sh_lam]
    simp only [List.cons_append]
    rw [termM, if_neg (by decide), if_pos rfl, name_at]
    dsimp only
    rw [take_at]
    dsimp only
    rw [show bnm d :: bds d = bds (d + 1) from rfl, ih a (by simp) (d + 1) m _ wa (hk'.2 a (by simp)) (by omega) hr]
  · have h0 : k ≠ 0 := by omega
    have h1 : k ≠ 1 := by omega
    have h3 : k ≠ 3 := by omega
    have hwx := hw.args h1 h3
    obtain ⟨hty, hhd⟩ := head_at hn hw hk h0 h1 h3
    rw [sh_head nm h xs d h0 h1 h3, List.cons_append, termM, if_neg (fun e => by cases congrArg Prod.fst e), if_neg (fun e => by cases congrArg Prod.fst e), appM, if_neg (fun e => by cases congrArg Prod.fst e), if_pos rfl, if_neg hty, hhd]
    dsimp only
    rw [args_sh xs _ rest (fun x hx r hr' => ih x hx d m r (hwx x hx) (hk'.2 x hx) (by have := dp_part hx; omega) hr') ?_ hr (Nat.le_refl _)]
    · rfl
    · intro x hx hal
      obtain ⟨k', h', ys⟩ := x
      rw [aloB, Bool.and_eq_true, List.isEmpty_iff, Bool.not_eq_true', beq_eq_false_iff_ne] at hal
      obtain ⟨rfl, hk0⟩ := hal
      have hc' := (hwx _ hx).cases
      have g1 : k' ≠ 1 := by
        rintro rfl
        rcases hc' with ⟨e, _⟩ | ⟨_, _, _, _, e⟩ | ⟨e, _⟩ | ⟨e, _⟩ | ⟨e | e, _⟩ <;> cases e
      have g3 : k' ≠ 3 := by
        rintro rfl
        rcases hc' with ⟨e, _⟩ | ⟨e, _⟩ | ⟨_, _, _, e⟩ | ⟨e, _⟩ | ⟨e | e, _⟩ <;> cases e
      obtain ⟨e1, e2⟩ := head_at hn (hwx _ hx) (hk'.2 _ hx) hk0 g1 g3
      exact ⟨_, sh_bare nm h' d hk0 g1 g3, e1, e2⟩

/-! ### Tokens of what is written -/
theorem good_mark {c : UInt8} (h : mkI (bI c) = true) : GoodT (1, ⟨#[c]⟩) := .inl ⟨rfl, c, rfl, h⟩
theorem good_bnm {d : Nat} (h : d < 100) : GoodT (0, bnm d) := .inr ⟨rfl, by simp [bnm], bnm_nm h⟩
theorem sh_goodT {nm : Int → ByteArray} {n : Nat} (hn : ∀ h : Nat, h < n → GoodT (0, nm h)) (t : T) : ∀ d, Wr_ n d t → ∀ z ∈ shT nm t d, GoodT z := by
  refine T.ind (M := fun t => ∀ d, Wr_ n d t → ∀ z ∈ shT nm t d, GoodT z) ?_ t
  intro k h xs ih d hw z hz
  have hd := hw.deep
  rw [dp] at hd
  have gm : ∀ c ∈ [mO, mC, mL, mR, mP, mQ, mK, mD], GoodT c := by
    intro c hc
    simp only [List.mem_cons, List.not_mem_nil, or_false] at hc
    rcases hc with rfl | rfl | rfl | rfl | rfl | rfl | rfl | rfl <;> exact good_mark (by decide)
  rcases hw.cases with ⟨rfl, rfl, rfl⟩ | ⟨rfl, rfl, a, b, rfl⟩ | ⟨rfl, rfl, a, rfl⟩ | hc
  · rw [sh_sort, List.mem_singleton] at hz
    subst hz
    exact .inr ⟨rfl, by decide, by decide⟩
  · obtain ⟨wa, wb⟩ := hw.pi
    simp only [dpL] at hd
    rw [sh_pi] at hz
    simp only [List.mem_cons, List.mem_append] at hz
    rcases hz with rfl | rfl | rfl | hz | rfl | hz
    · exact gm _ (by simp)
    · exact good_bnm (by omega)
    · exact gm _ (by simp)
    · exact ih a (by simp) d wa z hz
    · exact gm _ (by simp)
    · exact ih b (by simp) (d + 1) wb z hz
  · have wa := hw.lam
    simp only [dpL] at hd
    rw [sh_lam] at hz
    simp only [List.mem_cons] at hz
    rcases hz with rfl | rfl | rfl | hz
    · exact gm _ (by simp)
    · exact good_bnm (by omega)
    · exact gm _ (by simp)
    · exact ih a (by simp) (d + 1) wa z hz
  · have h0 : k ≠ 0 := by omega
    have h1 : k ≠ 1 := by omega
    have h3 : k ≠ 3 := by omega
    have hwx := hw.args h1 h3
    rw [sh_head nm h xs d h0 h1 h3, List.mem_cons, List.mem_flatMap] at hz
    rcases hz with rfl | ⟨x, hx, hz⟩
    · rcases hc with ⟨rfl, e1, e2⟩ | ⟨e, e1, e2⟩
      · rw [hdS, if_pos rfl]; exact good_bnm (by omega)
      · obtain ⟨g, rfl⟩ : ∃ g : Nat, h = g := ⟨h.toNat, by omega⟩
        rw [hdS, if_neg (by rcases e with rfl | rfl <;> decide)]
        exact hn g (by omega)
    · rw [argS] at hz
      split at hz
      · exact ih x hx d (hwx x hx) z hz
      · simp only [List.mem_cons, List.mem_append, List.not_mem_nil, or_false] at hz
        rcases hz with rfl | hz | rfl
        · exact gm _ (by simp)
        · exact ih x hx d (hwx x hx) z hz
        · exact gm _ (by simp)
theorem good_name {s : ByteArray} (h : NmP s) : GoodT (0, s) := .inr ⟨rfl, h.ne, h.nm⟩
/-- a text of a term is read as that -/
theorem readT_sh {nm : Int → ByteArray} {kd : Int → Bool} {sg : List (ByteArray × T)} {n : Nat} (hn : NmOk nm kd sg n) (hg : ∀ h : Nat, h < n → GoodT (0, nm h)) {t : T} (hw : Wr_ n 0 t) (hk : kdB kd t = true) (hs : nd t ≤ 4000) (hl : (txtL false (shT nm t 0)).length ≤ 20000) :
    readT sg (txtL false (shT nm t 0)) = .ok t := by
  obtain ⟨e1, e2⟩ := lex_of (toks_txt (sh_goodT hg t 0 hw)) hl
  have h1 := term_sh hn t 0 120 [] hw hk (by have := hw.deep; omega) rfl
  rw [List.append_nil] at h1
  have hm : mayB t = true := by
    rw [mayB_my (by omega), myB_iff]
    exact ⟨hw.nod, hs, by have := hw.deep; omega⟩
  unfold readT
  rw [if_neg (by rw [e1]; simp), e2, wholeE, wholeM, show ([] : List ByteArray) = bds 0 from rfl, h1]
  dsimp only
  rw [if_pos hm]
  rfl
end Go.Proofs.YtmkahbbcagfbhaaDoor

/-
  What is read has Heads that are declared; what is written of it is read as that: plain. No statement is proved here.
-/
namespace Go.Proofs.YtmkahbbcagfbhaaDoor
open Go.ChangeShapes Go.WideShapes Go.ChangeAt Go.RowKit
set_option linter.unusedVariables false

/-- a property that all terms have which are read -/
structure Clo (sg : List (ByteArray × T)) (M : T → Prop) : Prop where
  sort : M (.node 0 0 [])
  pi : ∀ a b, M a → M b → M (.node 1 0 [a, b])
  lam : ∀ a, M a → M (.node 3 0 [a])
  head : ∀ bs s u, headM sg bs s = .ok u → ∀ us, (∀ x ∈ us, M x) → M (addA u us)
theorem Clo.one {sg : List (ByteArray × T)} {M : T → Prop} (C : Clo sg M) {bs : List ByteArray} {s : ByteArray} {u : T} (h : headM sg bs s = .ok u) : M u := by
  have := C.head bs s u h [] (fun x hx => by cases hx)
  obtain ⟨k, i, rfl, _⟩ := head_sc h
  exact this
theorem args_clo {sg f} {M : T → Prop} (C : Clo sg M) {bs : List ByteArray} (hi : ∀ l t r, f l = .ok (t, r) → M t) : ∀ (n : Nat) (l : List Tk) (us : List T) (r : List Tk), argsM sg bs f n l = .ok (us, r) → ∀ u ∈ us, M u
  | 0, l, us, r, h => by rw [argsM] at h; cases h; exact fun u hu => by cases hu
  | n + 1, [], us, r, h => by rw [argsM] at h; cases h; exact fun u hu => by cases hu
  | n + 1, t :: l, us, r, h => by
    rw [argsM] at h
    split at h
    · split at h
      · cases h
      · rename_i u r1 h1
        split at h
        · cases h
        · split at h
          · cases h
          · rename_i us' r3 h3
            cases h
            intro y hy
            rcases List.mem_cons.1 hy with rfl | hy
            · exact hi _ _ _ h1
            · exact args_clo C hi n _ _ _ h3 y hy
    · split at h
      · split at h
        · cases h
        · split at h
          · cases h
          · rename_i u hu
            split at h
            · cases h
            · rename_i us' r3 h3
              cases h
              intro y hy
              rcases List.mem_cons.1 hy with rfl | hy
              · exact C.one hu
              · exact args_clo C hi n _ _ _ h3 y hy
      · cases h; exact fun u hu => by cases hu
theorem app_clo {sg f} {M : T → Prop} (C : Clo sg M) {bs : List ByteArray} (hi : ∀ l t r, f l = .ok (t, r) → M t) : ∀ l t r, appM sg bs f l = .ok (t, r) → M t := by
  intro l a r h
  cases l with
  | nil => cases h
  | cons t l =>
    rw [appM] at h
    split at h
    · split at h
      · cases h
      · rename_i u r1 h1
        split at h
        · cases h
        · split at h
          · cases h
          · cases h
            exact hi _ _ _ h1
    · split at h
      · split at h
        · split at h
          · cases h
          · cases h
            exact C.sort
        · split at h
          · cases h
          · rename_i u hu
            split at h
            · cases h
            · rename_i us r3 h3
              cases h
              exact C.head _ _ _ hu _ (args_clo C hi _ _ _ _ h3)
      · cases h
theorem term_clo {sg : List (ByteArray × T)} {M : T → Prop} (C : Clo sg M) : ∀ (k : Nat) (bs : List ByteArray) (l : List Tk) (t : T) (r : List Tk), termM sg k bs l = .ok (t, r) → M t
  | 0, _ => fun l a r h => by rw [termM] at h; cases h
  | k + 1, bs => by
    intro l a r h
    cases l with
    | nil => rw [termM] at h; cases h
    | cons t l =>
      rw [termM] at h
      split at h
      · split at h
        · cases h
        · rename_i s r1 h1
          split at h
          · cases h
          · split at h
            · cases h
            · rename_i a' r3 h3
              split at h
              · cases h
              · split at h
                · cases h
                · rename_i b r5 h5
                  cases h
                  exact C.pi _ _ (term_clo C k bs _ _ _ h3) (term_clo C k (s :: bs) _ _ _ h5)
      · split at h
        · split at h
          · cases h
          · rename_i s r1 h1
            split at h
            · cases h
            · split at h
              · cases h
              · rename_i b r3 h3
                cases h
                exact C.lam _ (term_clo C k (s :: bs) _ _ _ h3)
        · exact app_clo C (term_clo C k bs) _ _ _ h
theorem posD_getS {s : ByteArray} : ∀ {sg : List (ByteArray × T)} {p : Nat × T}, posD s sg = some p → sg[p.1]? = some (s, p.2)
  | [], p, h => by cases h
  | d :: sg, p, h => by
    rw [posD] at h
    split at h
    · rename_i e
      cases h
      rw [List.getElem?_cons_zero, ← e]
    · cases hp : posD s sg with
      | none => rw [hp] at h; cases h
      | some q =>
        rw [hp] at h
        cases h
        have := posD_getS hp
        simpa using this
/-- whether a declaration is a kind -/
def kdD (ds : List (ByteArray × T)) (h : Int) : Bool := kiB (ds.getD h.toNat (⟨#[]⟩, .node 0 0 [])).2
theorem clo_has (sg : List (ByteArray × T)) : Clo sg fun t => hasB sg.length t = true ∧ kdB (kdD sg) t = true where
  sort := ⟨rfl, rfl⟩
  pi a b ha hb := by
    rw [hasB, kdB, hasL_all, kdL_all]
    simp [ha.1, ha.2, hb.1, hb.2]
  lam a ha := by
    rw [hasB, kdB, hasL_all, kdL_all]
    simp [ha.1, ha.2]
  head bs s u h us hu := by
    have h1 : hasL sg.length us = true := by rw [hasL_all, List.all_eq_true]; exact fun x hx => (hu x hx).1
    have h2 : kdL (kdD sg) us = true := by rw [kdL_all, List.all_eq_true]; exact fun x hx => (hu x hx).2
    unfold headM at h
    split at h
    · cases h
      rw [addA, List.nil_append, hasB, kdB, h1, h2]
      exact ⟨rfl, rfl⟩
    · split at h
      · rename_i p hp
        cases h
        have hg := posD_getS hp
        have hlt := (List.getElem?_eq_some_iff.1 hg).1
        have hk : kdD sg (p.1 : Nat) = kiB p.2 := by
          rw [kdD, Int.toNat_natCast, List.getD_eq_getElem?_getD, hg]; rfl
        rw [addA, List.nil_append, hasB, kdB, h1, h2, hk]
        have hd : decide ((sg.length : Int) ≤ (p.1 : Nat)) = false := by simp; omega
        rw [hd]
        cases kiB p.2 <;> simp
      · cases h
theorem posD_uniq {s : ByteArray} : ∀ {ds : List (ByteArray × T)} {i : Nat} {d : ByteArray × T}, ds[i]? = some d → d.1 = s → cntD s ds ≤ 1 → posD s ds = some (i, d.2)
  | [], i, d, h, _, _ => by simp at h
  | x :: ds, 0, d, h, hs, hc => by
    have e : x = d := by simpa using h
    subst e
    rw [posD, if_pos hs]
  | x :: ds, i + 1, d, h, hs, hc => by
    have hi : ds[i]? = some d := by simpa using h
    have h1 : 0 < cntD s ds := List.countP_pos_iff.2 ⟨d, List.mem_of_getElem? hi, decide_eq_true hs⟩
    have hx : x.1 ≠ s := fun e => by
      unfold cntD at h1 hc
      rw [List.countP_cons, if_pos (decide_eq_true e)] at hc
      omega
    have hc' : cntD s ds ≤ 1 := by
      unfold cntD at hc ⊢
      rw [List.countP_cons] at hc
      omega
    rw [posD, if_neg hx, posD_uniq hi hs hc']
    rfl
theorem nmB_head {s : ByteArray} (h : nmB s = true) : s.data.toList.head? ≠ some 95 := by
  unfold nmB at h
  simp only [Bool.and_eq_true, decide_eq_true_eq] at h
  exact h.2.2.2.2
/-- names that may be declared, each once -/
structure GdD (ds : List (ByteArray × T)) : Prop where
  nm : ∀ d ∈ ds, nmB d.1 = true
  once : ∀ d ∈ ds, cntD d.1 ds ≤ 1
theorem GdD.at_ {ds : List (ByteArray × T)} (h : GdD ds) : NmOk (nmD ds) (kdD ds) ds ds.length := ⟨fun g hg => by
  have hd : ds[g]? = some ds[g] := List.getElem?_eq_getElem hg
  have hm := List.mem_of_getElem? hd
  have e : nmD ds g = (ds[g]).1 := by rw [nmD, Int.toNat_natCast, List.getD_eq_getElem?_getD, hd]; rfl
  have e2 : kdD ds g = kiB (ds[g]).2 := by rw [kdD, Int.toNat_natCast, List.getD_eq_getElem?_getD, hd]; rfl
  rw [e, e2]
  exact ⟨(nm_of (h.nm _ hm)).ty, nmB_head (h.nm _ hm), (ds[g]).2, posD_uniq hd rfl (h.once _ hm), rfl⟩⟩
theorem GdD.good {ds : List (ByteArray × T)} (h : GdD ds) (g : Nat) (hg : g < ds.length) : GoodT (0, nmD ds g) := by
  have hd : ds[g]? = some ds[g] := List.getElem?_eq_getElem hg
  have e : nmD ds g = (ds[g]).1 := by rw [nmD, Int.toNat_natCast, List.getD_eq_getElem?_getD, hd]; rfl
  rw [e]
  exact good_name (nm_of (h.nm _ (List.mem_of_getElem? hd)))
/-- what is written over such is read as what it was -/
theorem show_read {ds : List (ByteArray × T)} (h : GdD ds) {t : T} {l : List UInt8} (hs : showT ds t = .ok l) (hk : kdB (kdD ds) t = true) (hl : l.length ≤ 20000) : readT ds l = .ok t := by
  obtain ⟨hw, rfl, hn⟩ := wr_of hs
  exact readT_sh h.at_ h.good hw hk hn hl
/-- what is read can be written, and is read again -/
theorem read_show {ds : List (ByteArray × T)} (h : GdD ds) {b : List UInt8} {t : T} (hb : b.length ≤ 20000) (hr : readT ds b = .ok t) : ∃ l, showT ds t = .ok l ∧ (l.length ≤ 20000 → readT ds l = .ok t) := by
  obtain ⟨hx, ht, hm⟩ := readT_ok hr hb
  have hsc := term_sc ds 120 [] _ _ _ ht
  have hfew := term_few ds 120 [] _ _ _ ht
  have hlen : (lexT b).length ≤ 20000 := by have := tok_len b; omega
  have hnd : nd t ≤ 20000 := by omega
  have hmy : myB t = true := by rw [← mayB_my (by omega)]; exact hm
  have hc := term_clo (clo_has ds) 120 [] _ _ _ ht
  have hsb : scB t 0 0 = true := (scB_iff 0 t 0 (by omega) (by omega)).2 hsc
  have hs : showT ds t = .ok (txtL false (shT (nmD ds) t 0)) := by rw [showT, if_pos hmy, if_pos ⟨hsb, hc.1⟩]
  exact ⟨_, hs, fun hl => show_read h hs hc.2 hl⟩
end Go.Proofs.YtmkahbbcagfbhaaDoor

/-
  The walk of ShowReads. No statement is proved here.
-/
namespace Go.Proofs.YtmkahbbcagfbhaaDoor
open Go.ChangeShapes Go.WideShapes Go.ChangeAt Go.RowKit
set_option linter.unusedVariables false

theorem nat_gd : GdD natDs := ⟨fun d hd => by
    simp only [natDs, List.mem_cons, List.not_mem_nil, or_false] at hd
    rcases hd with rfl | rfl | rfl <;> kernel_rfl, fun d hd => by
    simp only [natDs, List.mem_cons, List.not_mem_nil, or_false] at hd
    rcases hd with rfl | rfl | rfl <;> decide⟩
set_option maxRecDepth 100000 in
set_option maxHeartbeats 8000000 in
theorem showReadsC (l : List UInt8) (A : Option Addr) (n c : Nat) (w : World) (h : YL w l A n c) :
    Calls Tryd.prog 4 #[.slice A n c] w fun e w' => e = .returned (.bool true) ∧ Below w.heap.size w w' := by
  have hlen := h.len
  have hcap := h.cap
  have hle := h.le
  unfold maxLen at hcap
  have HA := Lib.hid (sAwakeC w)
  have HY := Lib.hid h
  clear h
  go_enter Tryd.func4, Tryd.ntmps4
  go_wp2_with fail
  refine HA.out.mono ?_
  rintro e w1 ⟨rfl, hb1⟩
  have HB1 := Lib.hid hb1
  clear HA hb1
  by_cases hgt : 3000 < n
  · have d1 : decide ((3000 : Int) < (n : Int)) = true := by simp; omega
    go_wp2_with fail
    go_ret
    exact ⟨rfl, HB1.out⟩
  have d1 : decide ((3000 : Int) < (n : Int)) = false := by simp; omega
  have HN := Lib.hid (sNatC w1)
  go_wp2_with fail
  refine HN.out.mono ?_
  rintro e w2 ⟨q2, rfl, hds2, hb2⟩
  have HB2 := Lib.hid (HB1.out.trans (hb2.mono HB1.out.size))
  have HT := Lib.hid (pTermTopC l A n c natDs _ 3 3 w2 (HY.out.keep HB2.out) hds2 (by decide))
  clear HN hds2 hb2 HB1 d1
  go_wp2_with fail
  refine HT.out.mono ?_
  rintro e w3 ⟨hb3, k, g, A3, n3, c3, e3, rfl, hres⟩
  have HB3 := Lib.hid (HB2.out.trans (hb3.mono HB2.out.size))
  clear HT hb3 HB2
  obtain ⟨W4, hW4⟩ : ∃ W4, w3.alloc (.cells #[.int .i64 k, .int .i64 g, .slice A3 n3 c3] 24) = W4 := ⟨_, rfl⟩
  have hb4 : Below w3.heap.size w3 W4 := by rw [← hW4]; exact (Below.refl _ _).alloc (Nat.le_refl _) _
  have x4 : BoxX W4 w3.heap.size 24 #[.int .i64 k, .int .i64 g, .slice A3 n3 c3] := by rw [← hW4]; exact BoxX.new _ _ _
  have c0 := x4.cell 0
  have c1 := x4.cell 1
  have c2 := x4.cell 2
  simp only [List.getElem?_toArray, List.getElem?_cons_zero, List.getElem?_cons_succ] at c0 c1 c2
  have HB4 := Lib.hid (HB3.out.trans (hb4.mono HB3.out.size))
  rcases hres with ⟨t, hr, rfl, hrd⟩ | ⟨hr, he, rfl, rfl, rfl, rfl, rfl⟩
  rotate_left
  · have d3 : (e3 == 0) = false := by simpa using he
    clear hb4 x4 HB3 hr c0 c1 c2
    subst hW4
    go_wp2_with fail
    go_ret
    exact ⟨rfl, HB4.out⟩
  obtain ⟨m, hsm, hrm⟩ := read_show nat_gd (by omega) hr
  have HRD := Lib.hid (Rd.keep hb4 _ _ hrd)
  have HX4 := Lib.hid x4
  have HSM := Lib.hid (And.intro hsm hrm)
  clear hb4 x4 hrd hr hsm hrm HB3
  go_wp2_with fail
  try rw [hW4]
  clear hW4
  have HKS : Hid (∀ w' : World, Below W4.heap.size W4 w' → (fun w' => w'.cell? ⟨w3.heap.size, 0, none⟩ = some (.int .i64 k) ∧ w'.cell? ⟨w3.heap.size, 1, none⟩ = some (.int .i64 g) ∧ w'.cell? ⟨w3.heap.size, 2, none⟩ = some (.slice A3 n3 c3)) w') := Lib.hid fun w' h => ⟨(h.cell (cell_ltX c0)).trans c0, (h.cell (cell_ltX c1)).trans c1, (h.cell (cell_ltX c2)).trans c2⟩
  have hbd : Below W4.heap.size W4 W4.drew := (Below.refl _ W4).drew
  refine zzR HKS hbd (fun hS => ?_)
  simp only [List.size_toArray, List.length_cons, List.length_nil, Nat.reduceAdd]
  refine wpAnyH_take (i := 0) (v := .agg #[.int .i64 k, .int .i64 g, .slice A3 n3 c3]) rfl (by kernel_rfl) (by kernel_rfl) (by kernel_rfl) (fun _ _ _ h => h) (Or.inl ⟨by kernel_rfl, ?_⟩) hS ?_
  · intro w' hSw
    obtain ⟨s0, s1, s2⟩ := hSw
    go_simp
  try simp only [Act.put, List.getElem_toArray, List.getElem_cons_zero, List.setIfInBounds_toArray, List.set_cons_zero, List.set_cons_succ]
  refine wpAnyH_ready (rs := [1]) (by kernel_rfl) (by simp) ?_
  refine AllReadyH.cons rfl (fun KN hK => ?_) AllReadyH.nil
  go_simp
  refine (sNatC _).mono ?_
  rintro e w5 ⟨q, rfl, hds, hb5⟩
  have hb5' := hbd.trans (hb5.mono hbd.size)
  have HT := Lib.hid (sTermC natDs t _ _ 3 3 w5 (Rd.keep hb5' _ _ HRD.out) hds nat_size)
  clear hb5 hds
  refine hK.out _ _ (HKS.out _ hb5') (fun hS => ?_)
  clear hK KN
  try simp only [Act.put, zzP]
  refine wpAnyH_ready (rs := [2]) (by kernel_rfl) (by simp) ?_
  refine AllReadyH.cons rfl (fun KN hK => ?_) AllReadyH.nil
  go_simp
  refine HT.out.mono ?_
  rintro e w6 ⟨hb6, A6, n6, c6, ec, rfl, hres⟩
  obtain ⟨rfl, hy6⟩ : ec = 0 ∧ YRow w6 w5.heap.size (.slice A6 n6 c6) n6 m := by
    rcases hres with ⟨m', h, h2, h3⟩ | ⟨h, _⟩
    · rw [HSM.out.1] at h; cases h; exact ⟨h2, h3⟩
    · rw [HSM.out.1] at h; cases h
  have hb6' := hb5'.trans (hb6.mono hb5'.size)
  clear HT hres
  refine hK.out _ _ (HKS.out _ hb6') (fun hS => ?_)
  clear hK KN
  try simp only [Act.put, zzP]
  refine wpAnyH_take (i := 3) (v := .tuple #[.slice A6 n6 c6, .int .i64 0]) rfl (by kernel_rfl) (by kernel_rfl) (by kernel_rfl) (fun _ _ _ h => h) (Or.inl ⟨by kernel_rfl, ?_⟩) hS ?_
  · intro w' hSw
    obtain ⟨s0, s1, s2⟩ := hSw
    go_simp
  try simp only [Act.put, List.getElem_toArray, List.getElem_cons_succ, List.getElem_cons_zero, List.setIfInBounds_toArray, List.set_cons_zero, List.set_cons_succ]
  refine wpAnyH_take (i := 4) (v := .slice A6 n6 c6) rfl (by kernel_rfl) (by kernel_rfl) (by kernel_rfl) (fun _ _ _ h => h) (Or.inl ⟨by kernel_rfl, ?_⟩) hS ?_
  · intro w' hSw
    obtain ⟨s0, s1, s2⟩ := hSw
    go_simp
  try simp only [Act.put, List.getElem_toArray, List.getElem_cons_succ, List.getElem_cons_zero, List.setIfInBounds_toArray, List.set_cons_zero, List.set_cons_succ]
  refine wpAnyH_take (i := 5) (v := .int .i64 0) rfl (by kernel_rfl) (by kernel_rfl) (by kernel_rfl) (fun _ _ _ h => h) (Or.inl ⟨by kernel_rfl, ?_⟩) hS ?_
  · intro w' hSw
    obtain ⟨s0, s1, s2⟩ := hSw
    go_simp
  try simp only [Act.put, List.getElem_toArray, List.getElem_cons_succ, List.getElem_cons_zero, List.setIfInBounds_toArray, List.set_cons_zero, List.set_cons_succ]
  refine wpAnyH_take (i := 6) (v := .slice A6 n6 c6) rfl (by kernel_rfl) (by kernel_rfl) (by kernel_rfl) (fun _ _ _ h => h) (Or.inl ⟨by kernel_rfl, ?_⟩) hS ?_
  · intro w' hSw
    obtain ⟨s0, s1, s2⟩ := hSw
    go_simp
  try simp only [Act.put, List.getElem_toArray, List.getElem_cons_succ, List.getElem_cons_zero, List.setIfInBounds_toArray, List.set_cons_zero, List.set_cons_succ]
  refine wpAnyH_take (i := 7) (v := .int .i64 0) rfl (by kernel_rfl) (by kernel_rfl) (by kernel_rfl) (fun _ _ _ h => h) (Or.inl ⟨by kernel_rfl, ?_⟩) hS ?_
  · intro w' hSw
    obtain ⟨s0, s1, s2⟩ := hSw
    go_simp
  try simp only [Act.put, List.getElem_toArray, List.getElem_cons_succ, List.getElem_cons_zero, List.setIfInBounds_toArray, List.set_cons_zero, List.set_cons_succ]
  refine wpAnyH_done (by kernel_rfl) ?_ _
  try simp only [zzP]
  have HB6 := Lib.hid (HB4.out.trans (hb6'.mono HB4.out.size))
  have HX6 := Lib.hid (HX4.out.keep hb6' HX4.out.lt)
  have HR6 := Lib.hid (Rd.keep hb6' _ _ HRD.out)
  have HY6 := Lib.hid hy6.yl
  have h6len := hy6.len
  have h6le := hy6.yl.le
  clear hy6 hb6 hb6' hb5' hS HKS hbd c0 c1 c2 HX4 HRD HB4
  go_wp2_with fail
  refine (sNatC _).mono ?_
  rintro e w7 ⟨q7, rfl, hds7, hb7⟩
  have HB7 := Lib.hid (HB6.out.trans (hb7.mono HB6.out.size))
  have HX7 := Lib.hid (HX6.out.keep hb7 HX6.out.lt)
  have HR7 := Lib.hid (Rd.keep hb7 _ _ HR6.out)
  have HT := Lib.hid (pTermTopC m A6 n6 c6 natDs _ 3 3 w7 (HY6.out.keep hb7) hds7 (by decide))
  clear hds7 hb7 HB6 HX6 HR6 HY6
  go_wp2_with fail
  refine HT.out.mono ?_
  rintro e w8 ⟨hb8, k8, g8, A8, n8, c8, e8, rfl, hres8⟩
  have HB8 := Lib.hid (HB7.out.trans (hb8.mono HB7.out.size))
  obtain ⟨W9, hW9⟩ : ∃ W9, w8.alloc (.cells #[.int .i64 k8, .int .i64 g8, .slice A8 n8 c8] 24) = W9 := ⟨_, rfl⟩
  have hb9 : Below w8.heap.size w8 W9 := by rw [← hW9]; exact (Below.refl _ _).alloc (Nat.le_refl _) _
  have x9 : BoxX W9 w8.heap.size 24 #[.int .i64 k8, .int .i64 g8, .slice A8 n8 c8] := by rw [← hW9]; exact BoxX.new _ _ _
  have x4 := (HX7.out.keep hb8 HX7.out.lt).keep hb9 (HX7.out.keep hb8 HX7.out.lt).lt
  have c0 := x4.cell 0
  have c1 := x4.cell 1
  have c2 := x4.cell 2
  have q0 := x9.cell 0
  have q1 := x9.cell 1
  have q2 := x9.cell 2
  simp only [List.getElem?_toArray, List.getElem?_cons_zero, List.getElem?_cons_succ] at c0 c1 c2 q0 q1 q2
  have HB9 := Lib.hid (HB8.out.trans (hb9.mono HB8.out.size))
  by_cases hbig : 20000 < n6
  · have d6 : decide ((20000 : Int) < (n6 : Int)) = true := by simp; omega
    clear hres8 hb8 hb9 x9 x4
    go_wp2_with fail
    go_ret
    exact ⟨rfl, HB9.out⟩
  have d6 : decide ((20000 : Int) < (n6 : Int)) = false := by simp; omega
  have hrt := HSM.out.2 (by omega)
  rcases hres8 with ⟨t', hr', rfl, hrd'⟩ | ⟨hr', _⟩
  rotate_left
  · rw [hrt] at hr'; cases hr'
  rw [hrt] at hr'
  cases hr'
  have hS9 := termSame t t _ _ W9 (Rd.keep hb9 _ _ (Rd.keep hb8 _ _ HR7.out)) (Rd.keep hb9 _ _ hrd')
  rw [sam_refl] at hS9
  have HS9 := Lib.hid hS9
  clear hS9 hb8 hb9 x9 x4 hrd' hrt HR7 HX7 HB7 HB8
  go_wp2_with fail
  refine HS9.out.mono ?_
  rintro e w10 ⟨rfl, hb10⟩
  have HB10 := Lib.hid (HB9.out.trans (hb10.mono HB9.out.size))
  clear HS9 hb10 c0 c1 c2 q0 q1 q2
  go_wp2_with fail
  go_ret
  exact ⟨rfl, HB10.out⟩
end Go.Proofs.YtmkahbbcagfbhaaDoor
