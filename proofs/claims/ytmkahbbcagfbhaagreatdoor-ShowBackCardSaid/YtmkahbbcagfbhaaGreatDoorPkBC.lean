/-
  Texts of one proof, put together. No statement is proved here.
-/
import Derived.Test.YtmkahbbcagfbhaaGreatDoorPkNC
import Derived.Test.YtmkahbbcagfbhaaGreatDoorXnC
import Derived.Carry
import Derived.Test.YtmkahbbcagfbhaaGreatDoorBrC
import Derived.Test.YtmkahbbcagfbhaaGreatDoorXmC
import Derived.Test.YtmkahbbcagfbhaaGreatDoorOp
import Derived.Test.YtmkahbbcagfbhaaGreatDoorAaC
/-
  Declarations of an argument with their names; the map of numbers as it grows; tokens of a text are what they may be. No statement is proved here.
-/
namespace Go.Proofs.YtmkahbbcagfbhaaGreatDoor
open Go.ChangeShapes Go.WideShapes Go.ChangeAt Go.RowKit
set_option linter.unusedVariables false
/-- declarations with their names, wherever they lie -/
structure DS (w : World) (ds : List (ByteArray × T)) (A : Option Addr) (n c : Nat) : Prop where
  len : ds.length = n
  le : n ≤ c
  cap : c ≤ maxLen
  sz : ∀ d ∈ ds, d.1.size ≤ maxLen
  at_ : ∀ i d, ds[i]? = some d → ∃ b o k h A' n' c', A = some ⟨b, o, none⟩ ∧ w.cell? ⟨b, o + i * 4, none⟩ = some (.string d.1) ∧ w.cell? ⟨b, o + i * 4 + 1, none⟩ = some (.int .i64 k) ∧ w.cell? ⟨b, o + i * 4 + 2, none⟩ = some (.int .i64 h) ∧
    w.cell? ⟨b, o + i * 4 + 3, none⟩ = some (.slice A' n' c') ∧ Rd w d.2 (.agg #[.int .i64 k, .int .i64 h, .slice A' n' c'])
theorem DS.nil (w : World) : DS w [] none 0 0 := ⟨rfl, Nat.le_refl _, Nat.zero_le _, (fun d hd => by cases hd), fun i d hd => by simp at hd⟩
theorem DS.keep {w w' : World} {ds : List (ByteArray × T)} {A : Option Addr} {n c : Nat} (h : DS w ds A n c) (hb : Below w.heap.size w w') : DS w' ds A n c :=
  ⟨h.len, h.le, h.cap, h.sz, fun i d hd => by
    obtain ⟨b, o, k, g, A', n', c', e, c0, c1, c2, c3, hr⟩ := h.at_ i d hd
    exact ⟨b, o, k, g, A', n', c', e, (hb.cell (cell_ltX c0)).trans c0, (hb.cell (cell_ltX c1)).trans c1, (hb.cell (cell_ltX c2)).trans c2, (hb.cell (cell_ltX c3)).trans c3, Rd.keep hb _ _ hr⟩⟩
theorem DS.dln {w w' : World} {ds : List (ByteArray × T)} {A : Option Addr} {n c b0 R : Nat} (h : DS w ds A n c) (hw : ∀ b, b < w.heap.size → w'.heap[b]? = w.heap[b]?) (hb : w.heap.size ≤ b0) (hR : w.heap.size ≤ R) : DLn b0 R w' ds A n c :=
  ⟨h.len, h.le, h.cap, fun i d hd => by
    obtain ⟨b, o, k, g, A', n', c', e, c0, c1, c2, c3, hr⟩ := h.at_ i d hd
    have e' : ∀ j, w'.cell? ⟨b, j, none⟩ = w.cell? ⟨b, j, none⟩ := fun j => World.cell?_of_block (w := w) (hw b (cell_ltX c0))
    have hl := cell_ltX c0
    dsimp only at hl
    exact ⟨b, o, k, g, A', n', c', e, ⟨by omega, by omega⟩, (e' _).trans c0, (e' _).trans c1, (e' _).trans c2, (e' _).trans c3, RdF.moveQ (fun q hq hl => ⟨⟨by omega, by omega⟩, hw q hl⟩) _ _ (rdF_anyQ _ _ hr)⟩⟩
theorem DLn.ds {w : World} {ds : List (ByteArray × T)} {A : Option Addr} {n c b0 R : Nat} (h : DLn b0 R w ds A n c) (hs : ∀ d ∈ ds, d.1.size ≤ maxLen) : DS w ds A n c :=
  ⟨h.len, h.le, h.cap, hs, fun i d hd => by
    obtain ⟨b, o, k, g, A', n', c', e, _, c0, c1, c2, c3, hr⟩ := h.at_ i d hd
    exact ⟨b, o, k, g, A', n', c', e, c0, c1, c2, c3, RdF.rd _ _ hr⟩⟩
theorem posD_app (s : ByteArray) (d : ByteArray × T) : ∀ sg : List (ByteArray × T), posD s (sg ++ [d]) = match posD s sg with
    | some p => some p
    | none => if d.1 = s then some (sg.length, d.2) else none
  | [] => rfl
  | e :: sg => by
    rw [List.cons_append, posD, posD, posD_app s d sg]
    by_cases h : e.1 = s
    · simp only [if_pos h]
    · simp only [if_neg h]
      cases posD s sg with
      | some p => rfl
      | none =>
        dsimp only
        split
        · rename_i hd; simp
        · rfl
theorem NumOk.nil : NumOk #[] [] := ⟨fun x hx => by simp at hx, fun s p h => by cases h⟩
/-- one declaration more, whose name is there already -/
theorem NumOk.same {es : Array MapEntry} {sg : List (ByteArray × T)} (h : NumOk es sg) {d : ByteArray × T} (hd : (posD d.1 sg).isSome = true) : NumOk es (sg ++ [d]) := by
  refine ⟨fun x hx => ?_, fun s p hp => ?_⟩
  · obtain ⟨s, i, t, e1, e2, e3⟩ := h.keys x hx
    exact ⟨s, i, t, e1, by rw [posD_app, e2], e3⟩
  · rw [posD_app] at hp
    cases hq : posD s sg with
    | some q => exact h.all s q hq
    | none =>
      rw [hq] at hp
      dsimp only at hp
      split at hp
      · rename_i e; rw [e, hq] at hd; cases hd
      · cases hp
/-- one more, whose name is new -/
theorem NumOk.push {es : Array MapEntry} {sg : List (ByteArray × T)} {cl : Nat} (h : NumOk es sg) {d : ByteArray × T} (hd : posD d.1 sg = none) (hs : d.1.size ≤ maxLen) : NumOk (es.push ⟨.string d.1, .int .i64 (sg.length : Nat), cl⟩) (sg ++ [d]) := by
  refine ⟨fun x hx => ?_, fun s p hp => ?_⟩
  · rw [Array.toList_push, List.mem_append, List.mem_singleton] at hx
    rcases hx with hx | rfl
    · obtain ⟨s, i, t, e1, e2, e3⟩ := h.keys x hx
      exact ⟨s, i, t, e1, by rw [posD_app, e2], e3⟩
    · exact ⟨d.1, sg.length, d.2, rfl, by rw [posD_app, hd]; simp, rfl, hs⟩
  · rw [posD_app] at hp
    cases hq : posD s sg with
    | some q =>
      obtain ⟨x, hx, e⟩ := h.all s q hq
      exact ⟨x, by rw [Array.toList_push]; exact List.mem_append_left _ hx, e⟩
    | none =>
      rw [hq] at hp
      dsimp only at hp
      split at hp
      · rename_i e
        exact ⟨_, by rw [Array.toList_push]; exact List.mem_append_right _ (List.mem_singleton.2 rfl), by rw [e]⟩
      · cases hp
/-- a name that is not there is put in -/
theorem put_num {es : Array MapEntry} {cl K : Nat} {sg : List (ByteArray × T)} {s : ByteArray} (hs : s.size ≤ maxLen) {w : World} (hm : w.heap[K]? = some (.map es cl)) (hk : NumOk es sg) (hno : posD s sg = none) (v : Value) :
    (Instr.mapUpdate 51 (.map (some K)) (.string s) v).run Tryz.prog w = .ok () { w with heap := w.heap.setIfInBounds K (.map (es.push ⟨.string s, v, cl⟩) (cl + 1)) } := by
  obtain ⟨l, hl⟩ := strKey hs
  rcases strLaw.find w hl es.toList hk.keyed with ⟨h1, h2⟩ | ⟨j, e, h1, h2, h3⟩
  · simp [Instr.mapUpdate, run_underlying Tryz.underlying51, MapKept.run_getObj_map hm, strLaw.check w false hl, h1, MapKept.run_setObj_map _ hm, Result.andThen]
  · obtain ⟨s', i, t, e1, e2, _⟩ := hk.keys e (List.mem_of_getElem? h2)
    rw [e1] at h3
    cases h3
    rw [hno] at e2
    cases e2
/-- tokens of a text -/
theorem tok_mem_len {x : List Tk} : ∀ {t : Tk}, t ∈ x → t.2.size ≤ (bytesL x).length := by
  induction x with
  | nil => intro t ht; cases ht
  | cons u x ih =>
    intro t ht
    have e : (bytesL (u :: x)).length = u.2.size + (bytesL x).length := by
      show (u.2.data.toList ++ bytesL x).length = _
      rw [List.length_append, Array.length_toList]; rfl
    rcases List.mem_cons.1 ht with rfl | ht
    · omega
    · have := ih ht; omega
theorem lex_good (l : List UInt8) : ∀ t ∈ lexT l, TkG t := by
  intro t ht
  by_cases hl : 20000 < l.length
  · rw [lexT, if_pos hl] at ht; cases ht
  rcases lexE_cases l (by omega) with ⟨_, hx⟩ | ⟨_, _, hx⟩
  · have hg := toks_good hx t ht
    have hsz : t.2.size ≤ maxLen := by
      have h1 := tok_mem_len ht
      unfold toksL at hx
      cases hr : runL ⟨[], [], false⟩ l with
      | none => rw [hr] at hx; cases hx
      | some s =>
        rw [hr] at hx
        have hx' : fin s = lexT l := by simpa using hx
        have h2 := bytes_len l hr
        rw [hx'] at h2
        have h3 : (bytesL (fin ⟨[], [], false⟩)).length = 0 := rfl
        unfold maxLen
        omega
    rcases hg with ⟨h1, c, h2, h3⟩ | ⟨h1, h2, h3⟩
    · refine ⟨fun e => ?_, fun e => ?_, fun e => ?_, fun e => ?_, hsz⟩
      · rw [e] at h2
        have := congrArg (fun b : ByteArray => b.data.toList.length) h2
        simp at this
      all_goals (rw [h1] at e; exact absurd e (by decide))
    · have hno : ∀ c : UInt8, nmI (bI c) = false → t.2 ≠ ⟨#[c]⟩ := fun c hc e => by
        have := h3 c (by rw [e]; simp)
        rw [hc] at this; cases this
      exact ⟨fun e => by rw [e] at h1; exact absurd h1 (by decide), fun _ => hno 123 (by decide), fun _ => hno 91 (by decide), fun _ => hno 40 (by decide), hsz⟩
  · rw [hx] at ht; cases ht
end Go.Proofs.YtmkahbbcagfbhaaGreatDoor
/-
  Contract of package parse's begin. No statement is proved here.
-/
namespace Go.Proofs.YtmkahbbcagfbhaaGreatDoor
open Go.ChangeShapes Go.WideShapes Go.ChangeAt Go.RowKit
set_option linter.unusedVariables false
/-- what begin tells -/
def BgE (l : List UInt8) (ds : List (ByteArray × T)) (SA : Option Addr) (sn sc : Nat) (w : World) (e : Ending) (w' : World) : Prop :=
  Below w.heap.size w w' ∧ ((lexE l ≠ 0 ∧ e = .returned (.tuple #[.pointer none, .int .i64 (lexE l)])) ∨ (lexE l = 0 ∧ ∃ R K, w.heap.size ≤ K ∧ K < R ∧ e = .returned (.tuple #[.pointer (some ⟨R, 0, none⟩), .int .i64 0]) ∧ PS R R K SA sn sc ds (lexT l) w'))
/-- what holds at the head of its loop -/
structure BgI (ds : List (ByteArray × T)) (R K : Nat) (w3 : World) (j : Nat) (wr : World) : Prop where
  mp : ∃ es cl, wr.heap[K]? = some (.map es cl) ∧ NumOk es (ds.take j)
  fr : FrB K w3 wr
set_option maxRecDepth 100000 in
set_option maxHeartbeats 2000000 in
theorem pBeginC (l : List UInt8) (A : Option Addr) (n c : Nat) (ds : List (ByteArray × T)) (SA : Option Addr) (sn sc : Nat) (w : World) (hY : YL w l A n c) (hD : DS w ds SA sn sc) (hds : ds.length ≤ 1000) :
    Calls Tryz.prog 24 #[.slice A n c, .slice SA sn sc] w (BgE l ds SA sn sc w) := by
  have HT := Lib.hid (xTokensC l A n c w hY)
  have HD := Lib.hid hD
  have hdl := hD.len
  have hdle := hD.le
  have hdc := hD.cap
  unfold maxLen at hdc
  clear hY hD
  go_enter Tryz.func24, Tryz.ntmps24
  go_wp2_with fail
  refine HT.out.mono ?_
  rintro e w1 ⟨A1, n1, c1, rfl, hrow, hb1⟩
  have HB1 := Lib.hid hb1
  have HRow := Lib.hid hrow
  have hs1 := hb1.size
  clear hrow hb1 HT
  by_cases he : lexE l = 0
  rotate_left
  · have d9 : (lexE l == 0) = false := by simpa using he
    go_wp2_with fail
    go_ret2
    exact ⟨HB1.out, .inl ⟨he, rfl⟩⟩
  rw [he]
  have hmm := @run_makeMap Tryz.prog
  obtain ⟨W3, hW3⟩ : ∃ W3, (w1.alloc (.map #[] 0)).alloc (.cells #[.slice A1 n1 c1, .slice SA sn sc, .map (some w1.heap.size)] 59) = W3 := ⟨_, rfl⟩
  have hb3 : Below w1.heap.size w1 W3 := by rw [← hW3]; exact ((Below.refl _ _).alloc (Nat.le_refl _) _).alloc (by simp) _
  have hl3 : W3.heap.size = w1.heap.size + 2 := by rw [← hW3]; simp
  have hbx : BoxX W3 (w1.heap.size + 1) 59 #[.slice A1 n1 c1, .slice SA sn sc, .map (some w1.heap.size)] := by
    have := BoxX.new (w1.alloc (.map #[] 0)) 59 #[.slice A1 n1 c1, .slice SA sn sc, .map (some w1.heap.size)]
    rw [← hW3]; simpa using this
  have hmp : W3.heap[w1.heap.size]? = some (.map #[] 0) := by
    rw [← hW3]; exact (Below.heap_alloc _ _ _ (by simp)).trans (World.alloc_heap_new w1 _)
  have HBX := Lib.hid hbx
  have HB3 := Lib.hid hb3
  have HI0 := Lib.hid (show BgI ds (w1.heap.size + 1) w1.heap.size W3 0 W3 from ⟨⟨_, _, hmp, NumOk.nil⟩, FrB.refl _ _⟩)
  have hd0 : (0 : Int) ≤ (sn : Int) := by omega
  clear hb3 hbx hmp
  subst hW3
  go_wp2_with fail
  clear hmm
  generalize ((w1.alloc (.map #[] 0)).alloc (.cells #[.slice A1 n1 c1, .slice SA sn sc, .map (some w1.heap.size)] 59)) = W3 at *
  go_loopw [28] (fun i wr => ∃ j, j ≤ sn ∧ i = .int .i64 (j : Nat) ∧ Hid (BgI ds (w1.heap.size + 1) w1.heap.size W3 j wr)) (fun i _ => sn - (Go.RowKit.intOf i).toNat)
  case atStart => exact ⟨0, Nat.zero_le _, rfl, HI0⟩
  case round =>
    clear HI0
    obtain ⟨j, hj, rfl, HI⟩ := hrel
    have hsr := HI.out.fr.size
    by_cases hlt : j < sn
    · obtain ⟨d, hd⟩ := at_ofX hdl hlt
      have hDr := HD.out.at_ j d hd
      have hdsz := HD.out.sz d (List.mem_of_getElem? hd)
      obtain ⟨b, o, k, g, A', n', c', hA, e0, e1, e2, e3, hr⟩ := hDr
      subst hA
      have hbl := cell_ltX e0
      dsimp only at hbl
      have hsame : ∀ q, wr.cell? ⟨b, q, none⟩ = w.cell? ⟨b, q, none⟩ := fun q => World.cell?_of_block (w := w) ((HI.out.fr.block b (by omega) (by omega)).trans ((HB3.out.block b (by omega)).trans (HB1.out.block b hbl)))
      rw [← hsame] at e0 e1 e2 e3
      obtain ⟨d1, dT⟩ := d
      dsimp only at e0 hdsz
      have htk : ds.take (j + 1) = ds.take j ++ [(d1, dT)] := by rw [List.take_add_one, hd]; rfl
      obtain ⟨es, cl, hmp, hnum⟩ := HI.out.mp
      have hbxr : BoxX wr (w1.heap.size + 1) 59 #[.slice A1 n1 c1, .slice (some ⟨b, o, none⟩) sn sc, .map (some w1.heap.size)] := HBX.out.fr HI.out.fr (by omega)
      obtain ⟨W5, hW5⟩ : ∃ W5, wr.alloc (.cells #[.string d1, .int .i64 k, .int .i64 g, .slice A' n' c'] 46) = W5 := ⟨_, rfl⟩
      have hb5 : Below wr.heap.size wr W5 := by rw [← hW5]; exact (Below.refl _ _).alloc (Nat.le_refl _) _
      have hx5 : BoxX W5 wr.heap.size 46 #[.string d1, .int .i64 k, .int .i64 g, .slice A' n' c'] := by rw [← hW5]; exact BoxX.new _ _ _
      have hm5 : W5.heap[w1.heap.size]? = some (.map es cl) := (hb5.block _ (by omega)).trans hmp
      have c0 : W5.cell? ⟨wr.heap.size, 0, none⟩ = some (.string d1) := hx5.cell 0
      have cR : W5.cell? ⟨w1.heap.size + 1, 2, none⟩ = some (.map (some w1.heap.size)) := (hbxr.keep hb5 hbxr.lt).cell 2
      have hfr5 : FrB w1.heap.size W3 W5 := HI.out.fr.then hb5
      have HX := Lib.hid (And.intro hnum (And.intro hm5 hfr5))
      have HLK := Lib.hid (fun (w' : World) (hm : w'.heap[w1.heap.size]? = some (.map es cl)) => look_num hdsz hm hnum)
      have HTK := Lib.hid htk
      have HSZ := Lib.hid hdsz
      have hi0 : (0 : Int) ≤ (j : Int) := by omega
      have hi1 : (j : Int) < (sn : Int) := by omega
      have hlj : (ds.take j).length = j := by rw [List.length_take]; omega
      clear hr hsame hd hb5 hx5 hfr5 hbxr hmp hnum HI htk hdsz hbl
      subst hW5
      cases hpd : posD d1 (ds.take j) with
      | some p =>
        obtain ⟨i5, t5⟩ := p
        rw [numD, hpd] at HLK
        have HI5 := Lib.hid (show BgI ds (w1.heap.size + 1) w1.heap.size W3 (j + 1) (wr.alloc (.cells #[.string d1, .int .i64 k, .int .i64 g, .slice A' n' c'] 46)).drew from
          ⟨⟨es, cl, HX.out.2.1, by rw [HTK.out]; exact HX.out.1.same (by dsimp only; rw [hpd]; rfl)⟩, HX.out.2.2.drew⟩)
        clear hpd
        dsimp only at HLK
        go_wp2_with fail
        have HKS : Hid (∀ w' : World, Below (wr.alloc (.cells #[.string d1, .int .i64 k, .int .i64 g, .slice A' n' c'] 46)).heap.size (wr.alloc (.cells #[.string d1, .int .i64 k, .int .i64 g, .slice A' n' c'] 46)) w' → (fun w' => w'.cell? ⟨w1.heap.size + 1, 2, none⟩ = some (.map (some w1.heap.size)) ∧ w'.cell? ⟨wr.heap.size, 0, none⟩ = some (.string d1) ∧ w'.heap[w1.heap.size]? = some (.map es cl)) w') := Lib.hid fun w' h => ⟨(h.cell (cell_ltX cR)).trans cR, (h.cell (cell_ltX c0)).trans c0, (h.block _ (Array.getElem?_eq_some_iff.1 HX.out.2.1).1).trans HX.out.2.1⟩
        have hbd : Below (wr.alloc (.cells #[.string d1, .int .i64 k, .int .i64 g, .slice A' n' c'] 46)).heap.size (wr.alloc (.cells #[.string d1, .int .i64 k, .int .i64 g, .slice A' n' c'] 46)) (wr.alloc (.cells #[.string d1, .int .i64 k, .int .i64 g, .slice A' n' c'] 46)).drew := (Below.refl _ (wr.alloc (.cells #[.string d1, .int .i64 k, .int .i64 g, .slice A' n' c'] 46))).drew
        refine wp_region_held_drew (S := fun w' => w'.cell? ⟨w1.heap.size + 1, 2, none⟩ = some (.map (some w1.heap.size)) ∧ w'.cell? ⟨wr.heap.size, 0, none⟩ = some (.string d1) ∧ w'.heap[w1.heap.size]? = some (.map es cl)) (by kernel_rfl) (HKS.out _ hbd) (fun hS => ?_)
        simp only [List.size_toArray, List.length_cons, List.length_nil, Nat.reduceAdd]
        refine wpAnyH_take (i := 0) (v := .pointer (some ⟨w1.heap.size + 1, 0, none⟩)) rfl (by kernel_rfl) (by kernel_rfl) (by kernel_rfl) (fun _ _ _ h => h) (Or.inl ⟨by kernel_rfl, ?_⟩) hS ?_
        · intro w' hSw
          obtain ⟨s0, s1, s2⟩ := hSw
          go_simp
        try simp only [Act.put, List.getElem_toArray, List.getElem_cons_zero, List.setIfInBounds_toArray, List.set_cons_zero, List.set_cons_succ]
        refine wpAnyH_take (i := 1) (v := .pointer (some ⟨w1.heap.size + 1, 0, none⟩)) rfl (by kernel_rfl) (by kernel_rfl) (by kernel_rfl) (fun _ _ _ h => h) (Or.inl ⟨by kernel_rfl, ?_⟩) hS ?_
        · intro w' hSw
          obtain ⟨s0, s1, s2⟩ := hSw
          go_simp
        try simp only [Act.put, List.getElem_toArray, List.getElem_cons_succ, List.getElem_cons_zero, List.setIfInBounds_toArray, List.set_cons_zero, List.set_cons_succ]
        refine wpAnyH_take (i := 2) (v := .pointer (some ⟨w1.heap.size + 1, 2, none⟩)) rfl (by kernel_rfl) (by kernel_rfl) (by kernel_rfl) (fun _ _ _ h => h) (Or.inl ⟨by kernel_rfl, ?_⟩) hS ?_
        · intro w' hSw
          obtain ⟨s0, s1, s2⟩ := hSw
          go_simp
        try simp only [Act.put, List.getElem_toArray, List.getElem_cons_succ, List.getElem_cons_zero, List.setIfInBounds_toArray, List.set_cons_zero, List.set_cons_succ]
        refine wpAnyH_take (i := 3) (v := .map (some w1.heap.size)) rfl (by kernel_rfl) (by kernel_rfl) (by kernel_rfl) (fun _ _ _ h => h) (Or.inl ⟨by kernel_rfl, ?_⟩) hS ?_
        · intro w' hSw
          obtain ⟨s0, s1, s2⟩ := hSw
          go_simp
        try simp only [Act.put, List.getElem_toArray, List.getElem_cons_succ, List.getElem_cons_zero, List.setIfInBounds_toArray, List.set_cons_zero, List.set_cons_succ]
        refine wpAnyH_take (i := 4) (v := .pointer (some ⟨wr.heap.size, 0, none⟩)) rfl (by kernel_rfl) (by kernel_rfl) (by kernel_rfl) (fun _ _ _ h => h) (Or.inl ⟨by kernel_rfl, ?_⟩) hS ?_
        · intro w' hSw
          obtain ⟨s0, s1, s2⟩ := hSw
          go_simp
        try simp only [Act.put, List.getElem_toArray, List.getElem_cons_succ, List.getElem_cons_zero, List.setIfInBounds_toArray, List.set_cons_zero, List.set_cons_succ]
        refine wpAnyH_take (i := 5) (v := .string d1) rfl (by kernel_rfl) (by kernel_rfl) (by kernel_rfl) (fun _ _ _ h => h) (Or.inl ⟨by kernel_rfl, ?_⟩) hS ?_
        · intro w' hSw
          obtain ⟨s0, s1, s2⟩ := hSw
          go_simp
        try simp only [Act.put, List.getElem_toArray, List.getElem_cons_succ, List.getElem_cons_zero, List.setIfInBounds_toArray, List.set_cons_zero, List.set_cons_succ]
        refine wpAnyH_take (i := 6) (v := .tuple #[.int .i64 (i5 : Nat), .bool true]) rfl (by kernel_rfl) (by kernel_rfl) (by kernel_rfl) (fun _ _ _ h => h) (Or.inl ⟨by kernel_rfl, ?_⟩) hS ?_
        · intro w' hSw
          obtain ⟨s0, s1, s2⟩ := hSw
          have s3 := HLK.out w' s2
          go_simp
        try simp only [Act.put, List.getElem_toArray, List.getElem_cons_succ, List.getElem_cons_zero, List.setIfInBounds_toArray, List.set_cons_zero, List.set_cons_succ]
        refine wpAnyH_take (i := 7) (v := .tuple #[.int .i64 (i5 : Nat), .bool true]) rfl (by kernel_rfl) (by kernel_rfl) (by kernel_rfl) (fun _ _ _ h => h) (Or.inl ⟨by kernel_rfl, ?_⟩) hS ?_
        · intro w' hSw
          obtain ⟨s0, s1, s2⟩ := hSw
          go_simp
        try simp only [Act.put, List.getElem_toArray, List.getElem_cons_succ, List.getElem_cons_zero, List.setIfInBounds_toArray, List.set_cons_zero, List.set_cons_succ]
        refine wpAnyH_take (i := 8) (v := .int .i64 (i5 : Nat)) rfl (by kernel_rfl) (by kernel_rfl) (by kernel_rfl) (fun _ _ _ h => h) (Or.inl ⟨by kernel_rfl, ?_⟩) hS ?_
        · intro w' hSw
          obtain ⟨s0, s1, s2⟩ := hSw
          go_simp
        try simp only [Act.put, List.getElem_toArray, List.getElem_cons_succ, List.getElem_cons_zero, List.setIfInBounds_toArray, List.set_cons_zero, List.set_cons_succ]
        refine wpAnyH_take (i := 9) (v := .bool true) rfl (by kernel_rfl) (by kernel_rfl) (by kernel_rfl) (fun _ _ _ h => h) (Or.inl ⟨by kernel_rfl, ?_⟩) hS ?_
        · intro w' hSw
          obtain ⟨s0, s1, s2⟩ := hSw
          go_simp
        try simp only [Act.put, List.getElem_toArray, List.getElem_cons_succ, List.getElem_cons_zero, List.setIfInBounds_toArray, List.set_cons_zero, List.set_cons_succ]
        refine wpAnyH_take (i := 10) (v := .int .i64 (i5 : Nat)) rfl (by kernel_rfl) (by kernel_rfl) (by kernel_rfl) (fun _ _ _ h => h) (Or.inl ⟨by kernel_rfl, ?_⟩) hS ?_
        · intro w' hSw
          obtain ⟨s0, s1, s2⟩ := hSw
          go_simp
        try simp only [Act.put, List.getElem_toArray, List.getElem_cons_succ, List.getElem_cons_zero, List.setIfInBounds_toArray, List.set_cons_zero, List.set_cons_succ]
        refine wpAnyH_take (i := 11) (v := .bool true) rfl (by kernel_rfl) (by kernel_rfl) (by kernel_rfl) (fun _ _ _ h => h) (Or.inl ⟨by kernel_rfl, ?_⟩) hS ?_
        · intro w' hSw
          obtain ⟨s0, s1, s2⟩ := hSw
          go_simp
        try simp only [Act.put, List.getElem_toArray, List.getElem_cons_succ, List.getElem_cons_zero, List.setIfInBounds_toArray, List.set_cons_zero, List.set_cons_succ]
        refine wpAnyH_done (by kernel_rfl) ?_ _
        try simp only [zzP]
        go_wp2_with fail
        go_roundw
        case rel => exact ⟨j + 1, by omega, by go_num, HI5⟩
        case measure => simp [Go.RowKit.intOf]; omega
      | none =>
        rw [numD, hpd] at HLK
        have HPD := Lib.hid hpd
        clear hpd
        dsimp only at HLK
        go_wp2_with fail
        have HKS : Hid (∀ w' : World, Below (wr.alloc (.cells #[.string d1, .int .i64 k, .int .i64 g, .slice A' n' c'] 46)).heap.size (wr.alloc (.cells #[.string d1, .int .i64 k, .int .i64 g, .slice A' n' c'] 46)) w' → (fun w' => w'.cell? ⟨w1.heap.size + 1, 2, none⟩ = some (.map (some w1.heap.size)) ∧ w'.cell? ⟨wr.heap.size, 0, none⟩ = some (.string d1) ∧ w'.heap[w1.heap.size]? = some (.map es cl)) w') := Lib.hid fun w' h => ⟨(h.cell (cell_ltX cR)).trans cR, (h.cell (cell_ltX c0)).trans c0, (h.block _ (Array.getElem?_eq_some_iff.1 HX.out.2.1).1).trans HX.out.2.1⟩
        have hbd : Below (wr.alloc (.cells #[.string d1, .int .i64 k, .int .i64 g, .slice A' n' c'] 46)).heap.size (wr.alloc (.cells #[.string d1, .int .i64 k, .int .i64 g, .slice A' n' c'] 46)) (wr.alloc (.cells #[.string d1, .int .i64 k, .int .i64 g, .slice A' n' c'] 46)).drew := (Below.refl _ (wr.alloc (.cells #[.string d1, .int .i64 k, .int .i64 g, .slice A' n' c'] 46))).drew
        refine wp_region_held_drew (S := fun w' => w'.cell? ⟨w1.heap.size + 1, 2, none⟩ = some (.map (some w1.heap.size)) ∧ w'.cell? ⟨wr.heap.size, 0, none⟩ = some (.string d1) ∧ w'.heap[w1.heap.size]? = some (.map es cl)) (by kernel_rfl) (HKS.out _ hbd) (fun hS => ?_)
        simp only [List.size_toArray, List.length_cons, List.length_nil, Nat.reduceAdd]
        refine wpAnyH_take (i := 0) (v := .pointer (some ⟨w1.heap.size + 1, 0, none⟩)) rfl (by kernel_rfl) (by kernel_rfl) (by kernel_rfl) (fun _ _ _ h => h) (Or.inl ⟨by kernel_rfl, ?_⟩) hS ?_
        · intro w' hSw
          obtain ⟨s0, s1, s2⟩ := hSw
          go_simp
        try simp only [Act.put, List.getElem_toArray, List.getElem_cons_zero, List.setIfInBounds_toArray, List.set_cons_zero, List.set_cons_succ]
        refine wpAnyH_take (i := 1) (v := .pointer (some ⟨w1.heap.size + 1, 0, none⟩)) rfl (by kernel_rfl) (by kernel_rfl) (by kernel_rfl) (fun _ _ _ h => h) (Or.inl ⟨by kernel_rfl, ?_⟩) hS ?_
        · intro w' hSw
          obtain ⟨s0, s1, s2⟩ := hSw
          go_simp
        try simp only [Act.put, List.getElem_toArray, List.getElem_cons_succ, List.getElem_cons_zero, List.setIfInBounds_toArray, List.set_cons_zero, List.set_cons_succ]
        refine wpAnyH_take (i := 2) (v := .pointer (some ⟨w1.heap.size + 1, 2, none⟩)) rfl (by kernel_rfl) (by kernel_rfl) (by kernel_rfl) (fun _ _ _ h => h) (Or.inl ⟨by kernel_rfl, ?_⟩) hS ?_
        · intro w' hSw
          obtain ⟨s0, s1, s2⟩ := hSw
          go_simp
        try simp only [Act.put, List.getElem_toArray, List.getElem_cons_succ, List.getElem_cons_zero, List.setIfInBounds_toArray, List.set_cons_zero, List.set_cons_succ]
        refine wpAnyH_take (i := 3) (v := .map (some w1.heap.size)) rfl (by kernel_rfl) (by kernel_rfl) (by kernel_rfl) (fun _ _ _ h => h) (Or.inl ⟨by kernel_rfl, ?_⟩) hS ?_
        · intro w' hSw
          obtain ⟨s0, s1, s2⟩ := hSw
          go_simp
        try simp only [Act.put, List.getElem_toArray, List.getElem_cons_succ, List.getElem_cons_zero, List.setIfInBounds_toArray, List.set_cons_zero, List.set_cons_succ]
        refine wpAnyH_take (i := 4) (v := .pointer (some ⟨wr.heap.size, 0, none⟩)) rfl (by kernel_rfl) (by kernel_rfl) (by kernel_rfl) (fun _ _ _ h => h) (Or.inl ⟨by kernel_rfl, ?_⟩) hS ?_
        · intro w' hSw
          obtain ⟨s0, s1, s2⟩ := hSw
          go_simp
        try simp only [Act.put, List.getElem_toArray, List.getElem_cons_succ, List.getElem_cons_zero, List.setIfInBounds_toArray, List.set_cons_zero, List.set_cons_succ]
        refine wpAnyH_take (i := 5) (v := .string d1) rfl (by kernel_rfl) (by kernel_rfl) (by kernel_rfl) (fun _ _ _ h => h) (Or.inl ⟨by kernel_rfl, ?_⟩) hS ?_
        · intro w' hSw
          obtain ⟨s0, s1, s2⟩ := hSw
          go_simp
        try simp only [Act.put, List.getElem_toArray, List.getElem_cons_succ, List.getElem_cons_zero, List.setIfInBounds_toArray, List.set_cons_zero, List.set_cons_succ]
        refine wpAnyH_take (i := 6) (v := .tuple #[.int .i64 (0 : Nat), .bool false]) rfl (by kernel_rfl) (by kernel_rfl) (by kernel_rfl) (fun _ _ _ h => h) (Or.inl ⟨by kernel_rfl, ?_⟩) hS ?_
        · intro w' hSw
          obtain ⟨s0, s1, s2⟩ := hSw
          have s3 := HLK.out w' s2
          go_simp
        try simp only [Act.put, List.getElem_toArray, List.getElem_cons_succ, List.getElem_cons_zero, List.setIfInBounds_toArray, List.set_cons_zero, List.set_cons_succ]
        refine wpAnyH_take (i := 7) (v := .tuple #[.int .i64 (0 : Nat), .bool false]) rfl (by kernel_rfl) (by kernel_rfl) (by kernel_rfl) (fun _ _ _ h => h) (Or.inl ⟨by kernel_rfl, ?_⟩) hS ?_
        · intro w' hSw
          obtain ⟨s0, s1, s2⟩ := hSw
          go_simp
        try simp only [Act.put, List.getElem_toArray, List.getElem_cons_succ, List.getElem_cons_zero, List.setIfInBounds_toArray, List.set_cons_zero, List.set_cons_succ]
        refine wpAnyH_take (i := 8) (v := .int .i64 (0 : Nat)) rfl (by kernel_rfl) (by kernel_rfl) (by kernel_rfl) (fun _ _ _ h => h) (Or.inl ⟨by kernel_rfl, ?_⟩) hS ?_
        · intro w' hSw
          obtain ⟨s0, s1, s2⟩ := hSw
          go_simp
        try simp only [Act.put, List.getElem_toArray, List.getElem_cons_succ, List.getElem_cons_zero, List.setIfInBounds_toArray, List.set_cons_zero, List.set_cons_succ]
        refine wpAnyH_take (i := 9) (v := .bool false) rfl (by kernel_rfl) (by kernel_rfl) (by kernel_rfl) (fun _ _ _ h => h) (Or.inl ⟨by kernel_rfl, ?_⟩) hS ?_
        · intro w' hSw
          obtain ⟨s0, s1, s2⟩ := hSw
          go_simp
        try simp only [Act.put, List.getElem_toArray, List.getElem_cons_succ, List.getElem_cons_zero, List.setIfInBounds_toArray, List.set_cons_zero, List.set_cons_succ]
        refine wpAnyH_take (i := 10) (v := .int .i64 (0 : Nat)) rfl (by kernel_rfl) (by kernel_rfl) (by kernel_rfl) (fun _ _ _ h => h) (Or.inl ⟨by kernel_rfl, ?_⟩) hS ?_
        · intro w' hSw
          obtain ⟨s0, s1, s2⟩ := hSw
          go_simp
        try simp only [Act.put, List.getElem_toArray, List.getElem_cons_succ, List.getElem_cons_zero, List.setIfInBounds_toArray, List.set_cons_zero, List.set_cons_succ]
        refine wpAnyH_take (i := 11) (v := .bool false) rfl (by kernel_rfl) (by kernel_rfl) (by kernel_rfl) (fun _ _ _ h => h) (Or.inl ⟨by kernel_rfl, ?_⟩) hS ?_
        · intro w' hSw
          obtain ⟨s0, s1, s2⟩ := hSw
          go_simp
        try simp only [Act.put, List.getElem_toArray, List.getElem_cons_succ, List.getElem_cons_zero, List.setIfInBounds_toArray, List.set_cons_zero, List.set_cons_succ]
        refine wpAnyH_done (by kernel_rfl) ?_ _
        try simp only [zzP]
        have hm6 : (wr.alloc (.cells #[.string d1, .int .i64 k, .int .i64 g, .slice A' n' c'] 46)).drew.heap[w1.heap.size]? = some (.map es cl) := hS.2.2
        have c0 := hS.2.1
        have cR := hS.1
        clear hS HKS hbd
        obtain ⟨W6, hW6⟩ : ∃ W6, (wr.alloc (.cells #[.string d1, .int .i64 k, .int .i64 g, .slice A' n' c'] 46)).drew = W6 := ⟨_, rfl⟩
        have hfr6 : FrB w1.heap.size W3 W6 := by rw [← hW6]; exact HX.out.2.2.drew
        rw [hW6] at hm6 c0 cR ⊢
        clear hW6
        have hput := put_num HSZ.out (show W6.drew.heap[w1.heap.size]? = some (.map es cl) from hm6) HX.out.1 HPD.out (.int .i64 (j : Nat))
        have hfr7 := hfr6.drew
        have HI7 := Lib.hid (show BgI ds (w1.heap.size + 1) w1.heap.size W3 (j + 1) { W6.drew with heap := W6.drew.heap.setIfInBounds w1.heap.size (.map (es.push ⟨.string d1, .int .i64 (j : Nat), cl⟩) (cl + 1)) } from
          ⟨⟨_, _, by
            show (W6.drew.heap.setIfInBounds w1.heap.size _)[w1.heap.size]? = _
            rw [Array.getElem?_setIfInBounds_self_of_lt (by have := (Array.getElem?_eq_some_iff.1 hm6).1; exact this)], by rw [HTK.out]; have := HX.out.1.push (cl := cl) (d := (d1, dT)) HPD.out HSZ.out; rw [hlj] at this; exact this⟩,
            ⟨hfr7.os, hfr7.tape, hfr7.output, by simpa using hfr7.size, fun q hq hne => by
              show (W6.drew.heap.setIfInBounds w1.heap.size _)[q]? = _
              rw [Array.getElem?_setIfInBounds_ne (by omega)]; exact hfr7.block q hq hne⟩⟩)
        clear hfr6 hfr7
        go_wp2_with fail
        have HKS : Hid (∀ w' : World, Below W6.heap.size W6 w' → (fun w' => w'.cell? ⟨w1.heap.size + 1, 2, none⟩ = some (.map (some w1.heap.size)) ∧ w'.cell? ⟨wr.heap.size, 0, none⟩ = some (.string d1) ∧ w'.heap[w1.heap.size]? = some (.map es cl)) w') := Lib.hid fun w' h => ⟨(h.cell (cell_ltX cR)).trans cR, (h.cell (cell_ltX c0)).trans c0, (h.block _ (Array.getElem?_eq_some_iff.1 hm6).1).trans hm6⟩
        have hbd : Below W6.heap.size W6 W6.drew := (Below.refl _ W6).drew
        have hS := HKS.out _ hbd
        refine wp_region_cutX rfl (by kernel_rfl) (by kernel_rfl) ?_
        refine wpAny_of_held (S := fun w' => w'.cell? ⟨w1.heap.size + 1, 2, none⟩ = some (.map (some w1.heap.size)) ∧ w'.cell? ⟨wr.heap.size, 0, none⟩ = some (.string d1) ∧ w'.heap[w1.heap.size]? = some (.map es cl)) _ _ _ _ ?_
        simp only [List.pop_toArray, List.dropLast, List.size_toArray, List.length_cons, List.length_nil, Nat.reduceAdd, Nat.reduceSub]
        refine wpAnyH_take (i := 0) (v := .pointer (some ⟨w1.heap.size + 1, 0, none⟩)) rfl (by kernel_rfl) (by kernel_rfl) (by kernel_rfl) (fun _ _ _ h => h) (Or.inl ⟨by kernel_rfl, ?_⟩) hS ?_
        · intro w' hSw
          obtain ⟨s0, s1, s2⟩ := hSw
          go_simp
        try simp only [Act.put, List.getElem_toArray, List.getElem_cons_succ, List.getElem_cons_zero, List.setIfInBounds_toArray, List.set_cons_zero, List.set_cons_succ]
        refine wpAnyH_take (i := 1) (v := .pointer (some ⟨w1.heap.size + 1, 0, none⟩)) rfl (by kernel_rfl) (by kernel_rfl) (by kernel_rfl) (fun _ _ _ h => h) (Or.inl ⟨by kernel_rfl, ?_⟩) hS ?_
        · intro w' hSw
          obtain ⟨s0, s1, s2⟩ := hSw
          go_simp
        try simp only [Act.put, List.getElem_toArray, List.getElem_cons_succ, List.getElem_cons_zero, List.setIfInBounds_toArray, List.set_cons_zero, List.set_cons_succ]
        refine wpAnyH_take (i := 2) (v := .pointer (some ⟨w1.heap.size + 1, 2, none⟩)) rfl (by kernel_rfl) (by kernel_rfl) (by kernel_rfl) (fun _ _ _ h => h) (Or.inl ⟨by kernel_rfl, ?_⟩) hS ?_
        · intro w' hSw
          obtain ⟨s0, s1, s2⟩ := hSw
          go_simp
        try simp only [Act.put, List.getElem_toArray, List.getElem_cons_succ, List.getElem_cons_zero, List.setIfInBounds_toArray, List.set_cons_zero, List.set_cons_succ]
        refine wpAnyH_take (i := 3) (v := .map (some w1.heap.size)) rfl (by kernel_rfl) (by kernel_rfl) (by kernel_rfl) (fun _ _ _ h => h) (Or.inl ⟨by kernel_rfl, ?_⟩) hS ?_
        · intro w' hSw
          obtain ⟨s0, s1, s2⟩ := hSw
          go_simp
        try simp only [Act.put, List.getElem_toArray, List.getElem_cons_succ, List.getElem_cons_zero, List.setIfInBounds_toArray, List.set_cons_zero, List.set_cons_succ]
        refine wpAnyH_take (i := 4) (v := .pointer (some ⟨wr.heap.size, 0, none⟩)) rfl (by kernel_rfl) (by kernel_rfl) (by kernel_rfl) (fun _ _ _ h => h) (Or.inl ⟨by kernel_rfl, ?_⟩) hS ?_
        · intro w' hSw
          obtain ⟨s0, s1, s2⟩ := hSw
          go_simp
        try simp only [Act.put, List.getElem_toArray, List.getElem_cons_succ, List.getElem_cons_zero, List.setIfInBounds_toArray, List.set_cons_zero, List.set_cons_succ]
        refine wpAnyH_take (i := 5) (v := .string d1) rfl (by kernel_rfl) (by kernel_rfl) (by kernel_rfl) (fun _ _ _ h => h) (Or.inl ⟨by kernel_rfl, ?_⟩) hS ?_
        · intro w' hSw
          obtain ⟨s0, s1, s2⟩ := hSw
          go_simp
        try simp only [Act.put, List.getElem_toArray, List.getElem_cons_succ, List.getElem_cons_zero, List.setIfInBounds_toArray, List.set_cons_zero, List.set_cons_succ]
        refine wpAnyH_take (i := 6) (v := .int .i64 (j : Nat)) rfl (by kernel_rfl) (by kernel_rfl) (by kernel_rfl) (fun _ _ _ h => h) (Or.inl ⟨by kernel_rfl, ?_⟩) hS ?_
        · intro w' hSw
          obtain ⟨s0, s1, s2⟩ := hSw
          go_simp
        try simp only [Act.put, List.getElem_toArray, List.getElem_cons_succ, List.getElem_cons_zero, List.setIfInBounds_toArray, List.set_cons_zero, List.set_cons_succ]
        refine wpAnyH_done (by kernel_rfl) ?_ _
        show wpList _ _ _ _ _ _
        go_wp2_with fail
        go_roundw
        case rel => exact ⟨j + 1, by omega, by go_num, HI7⟩
        case measure => simp [Go.RowKit.intOf]; omega
    · obtain rfl : j = sn := by omega
      have hfr := HI.out.fr
      obtain ⟨es, cl, hmp, hnum⟩ := HI.out.mp
      rw [List.take_of_length_le (by omega)] at hnum
      have hbxr : BoxX wr (w1.heap.size + 1) 59 #[.slice A1 n1 c1, .slice SA j sc, .map (some w1.heap.size)] := HBX.out.fr hfr (by omega)
      have hbW : Below w.heap.size w wr := FrB.toBelow (HB1.out.trans (HB3.out.mono HB1.out.size)) hfr (by omega) hs1
      have htl := HRow.out.tl
      have hps : PS (w1.heap.size + 1) (w1.heap.size + 1) w1.heap.size SA j sc ds (lexT l) wr :=
        ⟨⟨A1, n1, c1, hbxr, ⟨htl.len, htl.le, htl.cap, fun i t ht => by
            obtain ⟨b, o, e, q0, q1⟩ := htl.at_ i t ht
            have hbl := cell_ltX q0
            dsimp only at hbl
            have e' : ∀ q, wr.cell? ⟨b, q, none⟩ = w1.cell? ⟨b, q, none⟩ := fun q => World.cell?_of_block (w := w1) ((hfr.block b (by omega) (by omega)).trans (HB3.out.block b hbl))
            exact ⟨b, o, e, (e' _).trans q0, (e' _).trans q1⟩⟩, fun b o e => by
              cases hx : lexT l with
              | nil => exact .inr rfl
              | cons t x =>
                obtain ⟨b', o', e', q0, _⟩ := htl.at_ 0 t (by rw [hx]; rfl)
                rw [e] at e'
                cases e'
                have := cell_ltX q0
                dsimp only at this
                exact .inl (by omega)⟩,
          HD.out.dln (fun b hb => hbW.block b hb) (by omega) (by omega), ⟨es, cl, hmp, hnum⟩, by omega, by omega, Nat.le_refl _, by omega, by
            have := tok_len l
            by_cases hl : 20000 < l.length
            · rw [lexT, if_pos hl]; simp
            · omega, lex_good l, hds⟩
      have HF := Lib.hid (And.intro hbW hps)
      clear hfr hmp hnum hbxr hbW htl hps HI
      go_wp2_with fail
      go_ret2
      exact ⟨HF.out.1, .inr ⟨he, _, _, hs1, by omega, rfl, HF.out.2⟩⟩
end Go.Proofs.YtmkahbbcagfbhaaGreatDoor
/-
  A row of declarations that grows; contract of package parse's decl. No statement is proved here.
-/
namespace Go.Proofs.YtmkahbbcagfbhaaGreatDoor
open Go.ChangeShapes Go.WideShapes Go.ChangeAt Go.RowKit
set_option linter.unusedVariables false
theorem infoDecl : (Tryz.prog.info? 46).map (fun i => (i.zero, i.size, i.bytes)) = some (some (.agg #[.string ⟨#[]⟩, .int .i64 0, .int .i64 0, .slice none 0 0]), 4, 56) := by kernel_rfl
theorem info_decl : ∃ i, Tryz.prog.info? 46 = some i ∧ i.zero = some (.agg #[.string ⟨#[]⟩, .int .i64 0, .int .i64 0, .slice none 0 0]) ∧ i.size = 4 ∧ i.bytes = 56 := by
  have hh := infoDecl
  cases hi : Tryz.prog.info? 46 with
  | none => rw [hi] at hh; cases hh
  | some i =>
    rw [hi] at hh
    simp at hh
    exact ⟨i, rfl, hh.1, hh.2.1, hh.2.2⟩
/-- a row of declarations of a call's own -/
structure DRow (R lo : Nat) (w : World) (A : Option Addr) (n c : Nat) (ds : List (ByteArray × T)) (cs : List Value) : Prop where
  own : w.ownsRow lo 46 4 (.slice A n c) n cs
  len : ds.length = n
  kids : ∀ i d, ds[i]? = some d → ∃ k h A' n' c', cs[i * 4]? = some (.string d.1) ∧ cs[i * 4 + 1]? = some (.int .i64 k) ∧ cs[i * 4 + 2]? = some (.int .i64 h) ∧ cs[i * 4 + 3]? = some (.slice A' n' c') ∧
    RdF (fun q => R < q ∧ some q ≠ (Value.slice A n c).ownBlock) w d.2 (.agg #[.int .i64 k, .int .i64 h, .slice A' n' c'])
theorem DRow.nil (R lo : Nat) (w : World) : DRow R lo w none 0 0 [] [] := ⟨World.ownsRow_nil _ _ _ _, rfl, fun i d hd => by simp at hd⟩
theorem DRow.cap {R lo : Nat} {w : World} {A : Option Addr} {n c : Nat} {ds : List (ByteArray × T)} {cs : List Value} (h : DRow R lo w A n c ds cs) : n ≤ c ∧ c ≤ maxLen := by
  rcases h.own.2 with ⟨e, _⟩ | ⟨g, cap, cur, e, _, _, h1, h2, _⟩
  · cases e; exact ⟨Nat.le_refl _, Nat.zero_le _⟩
  · cases e; exact ⟨h1, h2⟩
theorem DRow.mv {R lo : Nat} {w w' : World} {A : Option Addr} {n c : Nat} {ds : List (ByteArray × T)} {cs : List Value} (h : DRow R lo w A n c ds cs) (f : ∀ q, R < q → q < w.heap.size → w'.heap[q]? = w.heap[q]?) (hR : R < lo) : DRow R lo w' A n c ds cs := by
  refine ⟨⟨h.own.1, ?_⟩, h.len, fun i d hd => ?_⟩
  · rcases h.own.2 with h1 | ⟨g, cap, cur, e, hb, hg, h1⟩
    · exact .inl h1
    · have hlt := (h.own.lt g (by rw [e]; rfl)).2
      exact .inr ⟨g, cap, cur, e, hb, (f g (by omega) hlt).trans hg, h1⟩
  · obtain ⟨k, g, A', n', c', e0, e1, e2, e3, hr⟩ := h.kids i d hd
    exact ⟨k, g, A', n', c', e0, e1, e2, e3, RdF.moveQ (fun q hq hl => ⟨hq, f q hq.1 hl⟩) _ _ hr⟩
theorem DRow.dln {R lo : Nat} {w : World} {A : Option Addr} {n c : Nat} {ds : List (ByteArray × T)} {cs : List Value} (h : DRow R lo w A n c ds cs) (hR : R < lo) : DLn w.heap.size R w ds A n c := by
  refine ⟨h.len, h.cap.1, h.cap.2, fun i d hd => ?_⟩
  obtain ⟨k, g, A', n', c', e0, e1, e2, e3, hr⟩ := h.kids i d hd
  have hi := (List.getElem?_eq_some_iff.1 hd).1
  rcases h.own.2 with ⟨e, h0⟩ | ⟨gg, cap, cur, e, hb, hg, h1, h2, _⟩
  · have := h.len; omega
  · have hlt := (h.own.lt gg (by rw [e]; rfl)).2
    injection e with ea en ec
    subst ea
    have hc := fun j u (hu : cs[j]? = some u) => h.own.cells (g := gg) rfl j u hu
    have c0 := hc _ _ e0
    have c1 := hc _ _ e1
    have c2 := hc _ _ e2
    have c3 := hc _ _ e3
    rw [addr_addX] at c0 c1 c2 c3
    exact ⟨gg, 0, k, g, A', n', c', rfl, ⟨by omega, hlt⟩, c0, by rw [Nat.add_assoc]; exact c1, by rw [Nat.add_assoc]; exact c2, by rw [Nat.add_assoc]; exact c3, RdF.moveQ (fun q hq hl => ⟨⟨by have := hq.1; omega, hl⟩, rfl⟩) _ _ hr⟩
/-- one declaration is appended -/
theorem DRow.push {R lo : Nat} {w1 : World} {A : Option Addr} {n c : Nat} {ds : List (ByteArray × T)} {cs : List Value} (h : DRow R lo w1 A n c ds cs) {s : ByteArray} {t : T} {k g : Int} {A2 : Option Addr} {n2 c2 : Nat} (hr : RdF (fun q => R < q ∧ some q ≠ (Value.slice A n c).ownBlock) w1 t (.agg #[.int .i64 k, .int .i64 g, .slice A2 n2 c2]))
    (hlo : lo ≤ w1.heap.size) (hn : n ≤ 1000) {P : Nat} {w2 : World} (hb : Below w1.heap.size w1 w2) (hP : w2.heap[P]? = some (.cells #[.string s, .int .i64 k, .int .i64 g, .slice A2 n2 c2] 46 (0, 0))) (hRlo : R < lo) :
    ∃ gg cap w4, (Builtin.append_ #[22, 22] 22 #[.slice A n c, .slice (some ⟨P, 0, none⟩) 1 1]).run Tryz.prog w2 = .ok (.slice (some ⟨gg, 0, none⟩) (n + 1) cap) w4 ∧
      DRow R lo w4 (some ⟨gg, 0, none⟩) (n + 1) cap (ds ++ [(s, t)]) (cs ++ [.string s, .int .i64 k, .int .i64 g, .slice A2 n2 c2]) ∧ Below lo w2 w4 ∧ (∀ q, q < w1.heap.size → some q ≠ (Value.slice A n c).ownBlock → w4.heap[q]? = w1.heap[q]?) := by
  obtain ⟨i0, hi, hz0, hz1, hz2⟩ := info_decl
  have hown2 : w2.ownsRow lo 46 4 (.slice A n c) n cs := by
    refine ⟨h.own.1, ?_⟩
    rcases h.own.2 with h1 | ⟨g, cap, cur, e, hb', hg, h1⟩
    · exact .inl h1
    · have hlt := (h.own.lt g (by rw [e]; rfl)).2
      exact .inr ⟨g, cap, cur, e, hb', (hb.block g hlt).trans hg, h1⟩
  have hsz := hb.size
  obtain ⟨gg, cap, w4, hrun, how4, hgr, hg4, _⟩ := run_append_lies (P := Tryz.prog) w2 22 22 lo 46 i0 _ 4 56 Tryz.underlying22 hi hz0 hz1 hz2 rfl (by omega) (.slice A n c) n cs
    hown2 ⟨P, 0, none⟩ 1 1 [.string s, .int .i64 k, .int .i64 g, .slice A2 n2 c2] rfl (World.news_of_block hP) (by intro u hu; simp at hu; rcases hu with rfl | rfl | rfl | rfl <;> rfl) (by omega) (by unfold maxLen; omega) (by omega) (by omega) _ rfl
  have hgo : ∀ q, q < w1.heap.size → some q ≠ (Value.slice A n c).ownBlock → w4.heap[q]? = w1.heap[q]? := fun q hq hne => (hgr.block q (by omega) hne).trans (hb.block q hq)
  have hne : ∀ q, q < w1.heap.size → some q ≠ (Value.slice A n c).ownBlock → q ≠ gg := fun q hq hv e => by
    rcases hg4 with h4 | h4
    · rw [h4, e] at hv; exact hv rfl
    · omega
  have hm : ∀ b, (R < b ∧ some b ≠ (Value.slice A n c).ownBlock) → b < w1.heap.size → (R < b ∧ some b ≠ Value.ownBlock (.slice (some ⟨gg, 0, none⟩) (n + 1) cap)) ∧ w4.heap[b]? = w1.heap[b]? := fun b hb' hl =>
    ⟨⟨hb'.1, fun e => hne b hl hb'.2 (by simpa [Value.ownBlock] using e)⟩, hgo b hl hb'.2⟩
  have hcl : cs.length = n * 4 := h.own.1
  refine ⟨gg, cap, w4, hrun, ⟨how4, by rw [List.length_append, h.len]; rfl, fun i d hd => ?_⟩, below_grownQ ((Below.refl _ _).mono (show lo ≤ w2.heap.size by omega)) hgr (fun r hr => (hown2.lt r hr).1) (by omega), hgo⟩
  by_cases hin : i < n
  · rw [List.getElem?_append_left (by rw [h.len]; exact hin)] at hd
    obtain ⟨k', h', A', n', c', e0, e1, e2, e3, hr'⟩ := h.kids i d hd
    refine ⟨k', h', A', n', c', ?_, ?_, ?_, ?_, RdF.moveQ hm _ _ hr'⟩
    all_goals (rw [List.getElem?_append_left (by omega)]; assumption)
  · have hi' : i = n := by have := (List.getElem?_eq_some_iff.1 hd).1; rw [List.length_append, h.len] at this; simp at this; omega
    subst hi'
    rw [List.getElem?_append_right (by rw [h.len]; omega), h.len, Nat.sub_self] at hd
    obtain rfl : (s, t) = d := by simpa using hd
    refine ⟨k, g, A2, n2, c2, ?_, ?_, ?_, ?_, RdF.moveQ hm _ _ hr⟩
    · rw [List.getElem?_append_right (by omega), hcl, Nat.sub_self]; rfl
    · rw [List.getElem?_append_right (by omega), hcl, show i * 4 + 1 - i * 4 = 1 by omega]; rfl
    · rw [List.getElem?_append_right (by omega), hcl, show i * 4 + 2 - i * 4 = 2 by omega]; rfl
    · rw [List.getElem?_append_right (by omega), hcl, show i * 4 + 3 - i * 4 = 3 by omega]; rfl
theorem decl_bad {sg : List (ByteArray × T)} {x : List Tk} (h : namedM mK x = .error 8) : declM mayB nmB sg x = .error 8 := by
  unfold namedM at h
  unfold declM
  cases hn : nameM x with
  | error e => rw [hn] at h; dsimp only at h ⊢; cases h; rfl
  | ok p =>
    obtain ⟨s, r1⟩ := p
    rw [hn] at h
    dsimp only at h ⊢
    split
    · cases ht : takeM mK r1 with
      | error e => rw [ht] at h; dsimp only at h ⊢; cases h; rfl
      | ok r2 => rw [ht] at h; cases h
    · rfl
theorem decl_good {sg : List (ByteArray × T)} {x y : List Tk} {s : ByteArray} (h : namedM mK x = .ok (s, y)) : declM mayB nmB sg x = if nmB s = true ∧ posD s sg = none then (match wholeE sg ⟨#[46]⟩ y with
    | .error e => .error e
    | .ok (t, z) => .ok ((s, t), z)) else .error 8 := by
  unfold namedM at h
  unfold declM
  cases hn : nameM x with
  | error e => rw [hn] at h; cases h
  | ok p =>
    obtain ⟨s', r1⟩ := p
    rw [hn] at h
    dsimp only at h ⊢
    cases ht : takeM mK r1 with
    | error e => rw [ht] at h; cases h
    | ok r2 =>
      rw [ht] at h
      cases h
      split
      · dsimp only
        unfold wholeE
        cases wholeM mayB sg y with
        | error e => rfl
        | ok q =>
          obtain ⟨t, r3⟩ := q
          dsimp only
          rcases hd_take (m := mD) (x := r3) (by decide) with ⟨h1, h2⟩ | ⟨h1, h2⟩
          · rw [h2, if_pos (show hdT r3 = ((1, ⟨#[46]⟩) : Tk) from h1)]
          · rw [h2, if_neg (show ¬ hdT r3 = ((1, ⟨#[46]⟩) : Tk) from h1)]
      · rfl
/-- what decl tells -/
def DcE (R K lo : Nat) (SA : Option Addr) (sn sc : Nat) (sg : List (ByteArray × T)) (x : List Tk) (w : World) (e : Ending) (w' : World) : Prop :=
  Below K w w' ∧ w.heap.size ≤ w'.heap.size ∧ ∃ ec, e = .returned (.int .i64 ec) ∧ ((ec ≠ 0 ∧ (if 40 ≤ sg.length then (.error 4 : Except Int ((ByteArray × T) × List Tk)) else declM mayB nmB sg x) = .error ec) ∨
    (ec = 0 ∧ ∃ d y SA' sc' cs', (if 40 ≤ sg.length then (.error 4 : Except Int ((ByteArray × T) × List Tk)) else declM mayB nmB sg x) = .ok (d, y) ∧ PS w'.heap.size R K SA' (sn + 1) sc' (sg ++ [d]) y w' ∧ DRow R lo w' SA' (sn + 1) sc' (sg ++ [d]) cs' ∧ d.1.size ≤ maxLen))
set_option maxRecDepth 100000 in
set_option maxHeartbeats 2000000 in
theorem pDeclC {R K lo : Nat} {SA : Option Addr} {sn sc : Nat} {sg : List (ByteArray × T)} {cs : List Value} {x : List Tk} {w : World} (h : PS w.heap.size R K SA sn sc sg x w) (hrow : DRow R lo w SA sn sc sg cs) (hRlo : R < lo) (hlo : lo ≤ w.heap.size) (hsg : sg.length ≤ 40) :
    Calls Tryz.prog 26 #[.pointer (some ⟨R, 0, none⟩)] w (DcE R K lo SA sn sc sg x w) := by
  have hlt := h.lt
  have hKR := h.klt
  have hsn := h.dl.len
  obtain ⟨As, ns, cs0, hbx, _, _⟩ := h.box
  have cR1 : w.cell? ⟨R, 1, none⟩ = some (.slice SA sn sc) := hbx.cell 1
  have HP := Lib.hid h
  have HD := Lib.hid hrow
  have hNm := pNamedC h ⟨#[58]⟩ (by decide)
  have HN := Lib.hid hNm
  clear h hrow hbx hNm
  go_enter Tryz.func26, Tryz.ntmps26
  by_cases h40 : sn = 40
  · subst h40
    go_wp2_with fail
    go_ret
    exact ⟨Below.refl _ _, Nat.le_refl _, 4, rfl, .inl ⟨by decide, if_pos (by omega)⟩⟩
  have d40 : ((sn : Int) == 40) = false := by simp; omega
  have HIF : ∀ (z : Except Int ((ByteArray × T) × List Tk)), (if 40 ≤ sg.length then (.error 4 : Except Int ((ByteArray × T) × List Tk)) else z) = z := fun z => if_neg (by omega)
  have HIFF := Lib.hid HIF
  clear HIF
  go_wp2_with fail
  refine HN.out.mono ?_
  rintro e w1 ⟨hf1, s, q, rfl, hssz, hres⟩
  have hs1 := hf1.size
  have HF1 := Lib.hid hf1
  have HS := Lib.hid hssz
  obtain ⟨y1, hp1⟩ : ∃ y1, PS w.heap.size R K SA sn sc sg y1 w1 := by
    rcases hres with ⟨y, _, _, hp⟩ | ⟨_, _, y, hp⟩
    · exact ⟨y, hp⟩
    · exact ⟨y, hp⟩
  obtain ⟨es, cl, hm, hnum⟩ := hp1.mp
  obtain ⟨Ar, nr, cr, hbx1, _, _⟩ := hp1.box
  have hLK := look_num hssz hm hnum
  have cR2 : w1.cell? ⟨R, 2, none⟩ = some (.map (some K)) := hbx1.cell 2
  have HRS := Lib.hid hres
  clear HN hf1 hssz hp1 hm hnum hbx1 hres cR1
  obtain ⟨ag, hag⟩ : ∃ ag, (posD s sg).isSome = ag := ⟨_, rfl⟩
  rw [hag] at hLK
  have HAG := Lib.hid hag
  clear hag
  have hB1 : Below K w w1 := FrB.toBelow ((Below.refl w.heap.size w).mono (by omega)) HF1.out (by omega) (by omega)
  have HB1 := Lib.hid hB1
  clear hB1
  cases q with
  | false =>
    have hbad : namedM mK x = .error 8 := by
      rcases HRS.out with ⟨_, e, _⟩ | ⟨_, e, _⟩
      · cases e
      · exact e
    have HE := Lib.hid (decl_bad (sg := sg) hbad)
    clear hbad
    go_wp2_with fail
    go_ret
    exact ⟨HB1.out, hs1, 8, rfl, .inl ⟨by decide, by rw [HIFF.out, HE.out]⟩⟩
  | true =>
    obtain ⟨y, hgood, hps1⟩ : ∃ y, namedM mK x = .ok (s, y) ∧ PS w.heap.size R K SA sn sc sg y w1 := by
      rcases HRS.out with ⟨y, _, e, hp⟩ | ⟨e, _⟩
      · exact ⟨y, e, hp⟩
      · cases e
    have HE := Lib.hid (decl_good (sg := sg) hgood)
    have HP1 := Lib.hid hps1
    clear hgood hps1 HRS
    cases ag with
    | true =>
      have HE2 := Lib.hid (show declM mayB nmB sg x = .error 8 by rw [HE.out, if_neg (fun h => by have := HAG.out; rw [h.2] at this; cases this)])
      go_wp2_with fail
      go_ret
      exact ⟨HB1.out, hs1, 8, rfl, .inl ⟨by decide, by rw [HIFF.out, HE2.out]⟩⟩
    | false =>
      have hpd : posD s sg = none := by
        have := HAG.out
        cases hq : posD s sg with
        | none => rfl
        | some p => rw [hq] at this; cases this
      have HPD := Lib.hid hpd
      have HNC := Lib.hid (pNameC s HS.out w1)
      clear hpd
      go_wp2_with fail
      refine HNC.out.mono ?_
      rintro e w2 ⟨rfl, hb2⟩
      have hs2 := hb2.size
      have HB2 := Lib.hid hb2
      clear HNC hb2 hLK cR2
      cases hnm : nmB s with
      | false =>
        have HE2 := Lib.hid (show declM mayB nmB sg x = .error 8 by rw [HE.out, if_neg (fun h => by rw [hnm] at h; cases h.1)])
        clear hnm
        go_wp2_with fail
        go_ret
        exact ⟨HB1.out.trans (HB2.out.mono (by omega)), by omega, 8, rfl, .inl ⟨by decide, by rw [HIFF.out, HE2.out]⟩⟩
      | true =>
        have HE2 := Lib.hid (show declM mayB nmB sg x = (match wholeE sg ⟨#[46]⟩ y with | .error e => .error e | .ok (t, z) => .ok ((s, t), z)) by rw [HE.out, if_pos ⟨hnm, HPD.out⟩])
        have HW := Lib.hid (pWholeC (HP1.out.keep HB2.out) ⟨#[46]⟩)
        clear hnm HE
        go_wp2_with fail
        refine HW.out.mono ?_
        rintro e w3 ⟨hf3, k1, g1, A1, n1, c1, ec, rfl, hres3⟩
        have hs3 := hf3.size
        have HF3 := Lib.hid (((HF1.out).then HB2.out).trans hf3)
        have hB3 : Below K w w3 := FrB.toBelow ((Below.refl w.heap.size w).mono (by omega)) HF3.out (by omega) (by omega)
        have HB3 := Lib.hid hB3
        clear HW hf3 hB3
        rcases hres3 with ⟨t, y2, hr3, rfl, hrd3, hps3⟩ | ⟨hr3, he3, rfl, rfl, rfl, rfl, rfl⟩
        rotate_left
        · have d9 : (ec == 0) = false := by simpa using he3
          have HR3 := Lib.hid (And.intro hr3 he3)
          clear hr3 he3
          go_wp2_with fail
          go_ret
          exact ⟨HB3.out.trans ((Below.refl w3.heap.size w3).alloc (Nat.le_refl _) _ |>.mono (by omega)), by simp; omega, ec, rfl, .inl ⟨HR3.out.2, by rw [HIFF.out, HE2.out, HR3.out.1]⟩⟩
        obtain ⟨W3, hW3⟩ : ∃ W3, (w3.alloc (.cells #[.int .i64 k1, .int .i64 g1, (.slice A1 n1 c1)] 36)) = W3 := ⟨_, rfl⟩
        have hb3 : Below w3.heap.size w3 W3 := by rw [← hW3]; exact (Below.refl _ _).alloc (Nat.le_refl _) _
        have xt : BoxX W3 w3.heap.size 36 #[.int .i64 k1, .int .i64 g1, .slice A1 n1 c1] := by rw [← hW3]; exact BoxX.new _ _ _
        have hl3 : W3.heap.size = w3.heap.size + 1 := by rw [← hW3]; simp
        have hp3 := hps3.keep hb3
        obtain ⟨es, cl, hm3, hnum3⟩ := hp3.mp
        obtain ⟨Ar, nr, cr, hbx3, htl3, hA3⟩ := hp3.box
        have cR1 : W3.cell? ⟨R, 1, none⟩ = some (.slice SA sn sc) := hbx3.cell 1
        have cR2 : W3.cell? ⟨R, 2, none⟩ = some (.map (some K)) := hbx3.cell 2
        obtain ⟨W5, hW5⟩ : ∃ W5, W3.drew = W5 := ⟨_, rfl⟩
        have hb5 : Below W3.heap.size W3 W5 := by rw [← hW5]; exact (Below.refl _ _).drew
        have hm5 : W5.heap[K]? = some (.map es cl) := (hb5.block K (by omega)).trans hm3
        have hput := put_num HS.out hm5 hnum3 HPD.out (.int .i64 (sn : Nat))
        obtain ⟨W6, hW6⟩ : ∃ W6, ({ W5 with heap := W5.heap.setIfInBounds K (.map (es.push ⟨.string s, .int .i64 (sn : Nat), cl⟩) (cl + 1)) } : World) = W6 := ⟨_, rfl⟩
        rw [hW6] at hput
        have h6 : ∀ q, q ≠ K → W6.heap[q]? = W5.heap[q]? := fun q hq => by
          rw [← hW6]
          show (W5.heap.setIfInBounds K _)[q]? = _
          rw [Array.getElem?_setIfInBounds_ne (by omega)]
        have h6K : W6.heap[K]? = some (.map (es.push ⟨.string s, .int .i64 (sn : Nat), cl⟩) (cl + 1)) := by
          rw [← hW6]
          show (W5.heap.setIfInBounds K _)[K]? = _
          rw [Array.getElem?_setIfInBounds_self_of_lt (Array.getElem?_eq_some_iff.1 hm5).1]
        have hs6 : W6.heap.size = W5.heap.size := by rw [← hW6]; simp
        have hos6 : W6.os = W5.os ∧ W6.tape = W5.tape ∧ W6.output = W5.output := by rw [← hW6]; exact ⟨rfl, rfl, rfl⟩
        have hs5 := hb5.size
        have hnum6 := hnum3.push (cl := cl) (d := (s, t)) HPD.out HS.out
        rw [show (((sg.length : Nat)) : Int) = ((sn : Nat) : Int) by omega] at hnum6
        have h36 : ∀ q, q ≠ K → q < W3.heap.size → W6.heap[q]? = W3.heap[q]? := fun q hq hl => (h6 q hq).trans (hb5.block q hl)
        have hbx6 : BoxX W6 R 59 #[.slice Ar nr cr, .slice SA sn sc, .map (some K)] := (h36 R (by omega) hbx3.lt).trans hbx3
        have xt6 : BoxX W6 w3.heap.size 36 #[.int .i64 k1, .int .i64 g1, .slice A1 n1 c1] := (h36 _ (by omega) (by omega)).trans xt
        have hD6 : DRow R lo W6 SA sn sc sg cs := HD.out.mv (fun q hq hl => (h36 q (by omega) (by omega)).trans ((hb3.block q (by omega)).trans (HF3.out.block q hl (by omega)))) hRlo
        have hown : ∀ q, w.heap.size ≤ q → some q ≠ (Value.slice SA sn sc).ownBlock := fun q hq e => by have := (HD.out.own.lt q e.symm).2; omega
        have hT6 : RdF (fun q => R < q ∧ some q ≠ (Value.slice SA sn sc).ownBlock) W6 t (.agg #[.int .i64 k1, .int .i64 g1, .slice A1 n1 c1]) :=
          RdF.moveQ (fun q hq hl => ⟨⟨by omega, hown q (by omega)⟩, (h36 q (by omega) (by omega)).trans (hb3.block q hl)⟩) _ _ hrd3
        have HD6 := Lib.hid hD6
        have HT6 := Lib.hid hT6
        have HS6 := Lib.hid (show W6.heap.size = W5.heap.size ∧ W3.heap.size ≤ W5.heap.size from ⟨hs6, hs5⟩)
        have HOWN := Lib.hid (hown w3.heap.size (by omega))
        have HFIN := Lib.hid (And.intro h6K (And.intro hnum6 (And.intro hbx6 (And.intro htl3 (And.intro hA3 (And.intro hp3 (And.intro h36 (And.intro hos6 (And.intro hb3 (And.intro hb5 hm3))))))))))
        have HR3 := Lib.hid (And.intro hr3 hnum3)
        have cR1' := hbx6.cell 1
        simp only [List.getElem?_toArray, List.getElem?_cons_zero, List.getElem?_cons_succ] at cR1'
        have t0 := xt6.cell 0
        have t1 := xt6.cell 1
        have t2 := xt6.cell 2
        simp only [List.getElem?_toArray, List.getElem?_cons_zero, List.getElem?_cons_succ] at t0 t1 t2
        clear hr3 hrd3 hps3 hp3 hm3 hnum3 hbx3 htl3 hA3 hb3 xt hb5 hm5 h6 h6K hos6 hnum6 h36 hbx6 xt6 hD6 hown hT6 hs6
        subst hW3
        go_wp2_with fail
        rw [show (w3.alloc (.cells #[.int .i64 k1, .int .i64 g1, (.slice A1 n1 c1)] 36)) = (w3.alloc (.cells #[.int .i64 k1, .int .i64 g1, (.slice A1 n1 c1)] 36)) from rfl]
        have HKS : Hid (∀ w' : World, Below (w3.alloc (.cells #[.int .i64 k1, .int .i64 g1, (.slice A1 n1 c1)] 36)).heap.size (w3.alloc (.cells #[.int .i64 k1, .int .i64 g1, (.slice A1 n1 c1)] 36)) w' → (fun w' => w'.cell? ⟨R, 2, none⟩ = some (.map (some K)) ∧ w'.cell? ⟨R, 1, none⟩ = some (.slice SA sn sc)) w') := Lib.hid fun w' h => ⟨(h.cell (cell_ltX cR2)).trans cR2, (h.cell (cell_ltX cR1)).trans cR1⟩
        have hbd : Below (w3.alloc (.cells #[.int .i64 k1, .int .i64 g1, (.slice A1 n1 c1)] 36)).heap.size (w3.alloc (.cells #[.int .i64 k1, .int .i64 g1, (.slice A1 n1 c1)] 36)) (w3.alloc (.cells #[.int .i64 k1, .int .i64 g1, (.slice A1 n1 c1)] 36)).drew := (Below.refl _ (w3.alloc (.cells #[.int .i64 k1, .int .i64 g1, (.slice A1 n1 c1)] 36))).drew
        have hS := HKS.out _ hbd
        refine wp_region_cutX rfl (by kernel_rfl) (by kernel_rfl) ?_
        refine wpAny_of_held (S := fun w' => w'.cell? ⟨R, 2, none⟩ = some (.map (some K)) ∧ w'.cell? ⟨R, 1, none⟩ = some (.slice SA sn sc)) _ _ _ _ ?_
        simp only [List.pop_toArray, List.dropLast, List.size_toArray, List.length_cons, List.length_nil, Nat.reduceAdd, Nat.reduceSub]
        refine wpAnyH_take (i := 0) (v := .pointer (some ⟨R, 0, none⟩)) rfl (by kernel_rfl) (by kernel_rfl) (by kernel_rfl) (fun _ _ _ h => h) (Or.inl ⟨by kernel_rfl, ?_⟩) hS ?_
        · intro w' hSw
          obtain ⟨s0, s1⟩ := hSw
          go_simp
        try simp only [Act.put, List.getElem_toArray, List.getElem_cons_succ, List.getElem_cons_zero, List.setIfInBounds_toArray, List.set_cons_zero, List.set_cons_succ]
        refine wpAnyH_take (i := 1) (v := .pointer (some ⟨R, 0, none⟩)) rfl (by kernel_rfl) (by kernel_rfl) (by kernel_rfl) (fun _ _ _ h => h) (Or.inl ⟨by kernel_rfl, ?_⟩) hS ?_
        · intro w' hSw
          obtain ⟨s0, s1⟩ := hSw
          go_simp
        try simp only [Act.put, List.getElem_toArray, List.getElem_cons_succ, List.getElem_cons_zero, List.setIfInBounds_toArray, List.set_cons_zero, List.set_cons_succ]
        refine wpAnyH_take (i := 2) (v := .pointer (some ⟨R, 2, none⟩)) rfl (by kernel_rfl) (by kernel_rfl) (by kernel_rfl) (fun _ _ _ h => h) (Or.inl ⟨by kernel_rfl, ?_⟩) hS ?_
        · intro w' hSw
          obtain ⟨s0, s1⟩ := hSw
          go_simp
        try simp only [Act.put, List.getElem_toArray, List.getElem_cons_succ, List.getElem_cons_zero, List.setIfInBounds_toArray, List.set_cons_zero, List.set_cons_succ]
        refine wpAnyH_take (i := 3) (v := .map (some K)) rfl (by kernel_rfl) (by kernel_rfl) (by kernel_rfl) (fun _ _ _ h => h) (Or.inl ⟨by kernel_rfl, ?_⟩) hS ?_
        · intro w' hSw
          obtain ⟨s0, s1⟩ := hSw
          go_simp
        try simp only [Act.put, List.getElem_toArray, List.getElem_cons_succ, List.getElem_cons_zero, List.setIfInBounds_toArray, List.set_cons_zero, List.set_cons_succ]
        refine wpAnyH_take (i := 4) (v := .string s) rfl (by kernel_rfl) (by kernel_rfl) (by kernel_rfl) (fun _ _ _ h => h) (Or.inl ⟨by kernel_rfl, ?_⟩) hS ?_
        · intro w' hSw
          obtain ⟨s0, s1⟩ := hSw
          go_simp
        try simp only [Act.put, List.getElem_toArray, List.getElem_cons_succ, List.getElem_cons_zero, List.setIfInBounds_toArray, List.set_cons_zero, List.set_cons_succ]
        refine wpAnyH_take (i := 5) (v := .pointer (some ⟨R, 0, none⟩)) rfl (by kernel_rfl) (by kernel_rfl) (by kernel_rfl) (fun _ _ _ h => h) (Or.inl ⟨by kernel_rfl, ?_⟩) hS ?_
        · intro w' hSw
          obtain ⟨s0, s1⟩ := hSw
          go_simp
        try simp only [Act.put, List.getElem_toArray, List.getElem_cons_succ, List.getElem_cons_zero, List.setIfInBounds_toArray, List.set_cons_zero, List.set_cons_succ]
        refine wpAnyH_take (i := 6) (v := .pointer (some ⟨R, 0, none⟩)) rfl (by kernel_rfl) (by kernel_rfl) (by kernel_rfl) (fun _ _ _ h => h) (Or.inl ⟨by kernel_rfl, ?_⟩) hS ?_
        · intro w' hSw
          obtain ⟨s0, s1⟩ := hSw
          go_simp
        try simp only [Act.put, List.getElem_toArray, List.getElem_cons_succ, List.getElem_cons_zero, List.setIfInBounds_toArray, List.set_cons_zero, List.set_cons_succ]
        refine wpAnyH_take (i := 7) (v := .pointer (some ⟨R, 1, none⟩)) rfl (by kernel_rfl) (by kernel_rfl) (by kernel_rfl) (fun _ _ _ h => h) (Or.inl ⟨by kernel_rfl, ?_⟩) hS ?_
        · intro w' hSw
          obtain ⟨s0, s1⟩ := hSw
          go_simp
        try simp only [Act.put, List.getElem_toArray, List.getElem_cons_succ, List.getElem_cons_zero, List.setIfInBounds_toArray, List.set_cons_zero, List.set_cons_succ]
        refine wpAnyH_take (i := 8) (v := .slice SA sn sc) rfl (by kernel_rfl) (by kernel_rfl) (by kernel_rfl) (fun _ _ _ h => h) (Or.inl ⟨by kernel_rfl, ?_⟩) hS ?_
        · intro w' hSw
          obtain ⟨s0, s1⟩ := hSw
          go_simp
        try simp only [Act.put, List.getElem_toArray, List.getElem_cons_succ, List.getElem_cons_zero, List.setIfInBounds_toArray, List.set_cons_zero, List.set_cons_succ]
        refine wpAnyH_take (i := 9) (v := .int .i64 sn) rfl (by kernel_rfl) (by kernel_rfl) (by kernel_rfl) (fun _ _ _ h => h) (Or.inl ⟨by kernel_rfl, ?_⟩) hS ?_
        · intro w' hSw
          obtain ⟨s0, s1⟩ := hSw
          go_simp
        try simp only [Act.put, List.getElem_toArray, List.getElem_cons_succ, List.getElem_cons_zero, List.setIfInBounds_toArray, List.set_cons_zero, List.set_cons_succ]
        refine wpAnyH_done (by kernel_rfl) ?_ _
        show wpList _ _ _ _ _ _
        rw [hW5]
        clear hS HKS hbd cR1 cR2 hW5
        go_wp2_with fail
        clear hput
        have hsW6 : w3.heap.size < W6.heap.size := by rw [HS6.out.1]; have := HS6.out.2; simp at this; omega
        have cR1 := cR1'
        clear cR1'
        go_wp2_with fail
        have HKS : Hid (∀ w' : World, Below W6.heap.size W6 w' → (fun w' => w'.cell? ⟨R, 1, none⟩ = some (.slice SA sn sc) ∧ w'.cell? ⟨w3.heap.size, 0, none⟩ = some (.int .i64 k1) ∧ w'.cell? ⟨w3.heap.size, 1, none⟩ = some (.int .i64 g1) ∧ w'.cell? ⟨w3.heap.size, 2, none⟩ = some (.slice A1 n1 c1)) w') := Lib.hid fun w' h => ⟨(h.cell (cell_ltX cR1)).trans cR1, (h.cell (cell_ltX t0)).trans t0, (h.cell (cell_ltX t1)).trans t1, (h.cell (cell_ltX t2)).trans t2⟩
        have hbd : Below W6.heap.size W6 W6.drew := (Below.refl _ W6).drew
        have hS := HKS.out _ hbd
        refine wp_region_cutX rfl (by kernel_rfl) (by kernel_rfl) ?_
        refine wpAny_of_held (S := fun w' => w'.cell? ⟨R, 1, none⟩ = some (.slice SA sn sc) ∧ w'.cell? ⟨w3.heap.size, 0, none⟩ = some (.int .i64 k1) ∧ w'.cell? ⟨w3.heap.size, 1, none⟩ = some (.int .i64 g1) ∧ w'.cell? ⟨w3.heap.size, 2, none⟩ = some (.slice A1 n1 c1)) _ _ _ _ ?_
        simp only [List.pop_toArray, List.dropLast, List.size_toArray, List.length_cons, List.length_nil, Nat.reduceAdd, Nat.reduceSub]
        refine wpAnyH_take (i := 0) (v := .pointer (some ⟨R, 0, none⟩)) rfl (by kernel_rfl) (by kernel_rfl) (by kernel_rfl) (fun _ _ _ h => h) (Or.inl ⟨by kernel_rfl, ?_⟩) hS ?_
        · intro w' hSw
          obtain ⟨s0, s1, s2, s3⟩ := hSw
          go_simp
        try simp only [Act.put, List.getElem_toArray, List.getElem_cons_succ, List.getElem_cons_zero, List.setIfInBounds_toArray, List.set_cons_zero, List.set_cons_succ]
        refine wpAnyH_take (i := 1) (v := .pointer (some ⟨R, 0, none⟩)) rfl (by kernel_rfl) (by kernel_rfl) (by kernel_rfl) (fun _ _ _ h => h) (Or.inl ⟨by kernel_rfl, ?_⟩) hS ?_
        · intro w' hSw
          obtain ⟨s0, s1, s2, s3⟩ := hSw
          go_simp
        try simp only [Act.put, List.getElem_toArray, List.getElem_cons_succ, List.getElem_cons_zero, List.setIfInBounds_toArray, List.set_cons_zero, List.set_cons_succ]
        refine wpAnyH_take (i := 2) (v := .pointer (some ⟨R, 0, none⟩)) rfl (by kernel_rfl) (by kernel_rfl) (by kernel_rfl) (fun _ _ _ h => h) (Or.inl ⟨by kernel_rfl, ?_⟩) hS ?_
        · intro w' hSw
          obtain ⟨s0, s1, s2, s3⟩ := hSw
          go_simp
        try simp only [Act.put, List.getElem_toArray, List.getElem_cons_succ, List.getElem_cons_zero, List.setIfInBounds_toArray, List.set_cons_zero, List.set_cons_succ]
        refine wpAnyH_take (i := 3) (v := .pointer (some ⟨R, 1, none⟩)) rfl (by kernel_rfl) (by kernel_rfl) (by kernel_rfl) (fun _ _ _ h => h) (Or.inl ⟨by kernel_rfl, ?_⟩) hS ?_
        · intro w' hSw
          obtain ⟨s0, s1, s2, s3⟩ := hSw
          go_simp
        try simp only [Act.put, List.getElem_toArray, List.getElem_cons_succ, List.getElem_cons_zero, List.setIfInBounds_toArray, List.set_cons_zero, List.set_cons_succ]
        refine wpAnyH_take (i := 4) (v := .slice SA sn sc) rfl (by kernel_rfl) (by kernel_rfl) (by kernel_rfl) (fun _ _ _ h => h) (Or.inl ⟨by kernel_rfl, ?_⟩) hS ?_
        · intro w' hSw
          obtain ⟨s0, s1, s2, s3⟩ := hSw
          go_simp
        try simp only [Act.put, List.getElem_toArray, List.getElem_cons_succ, List.getElem_cons_zero, List.setIfInBounds_toArray, List.set_cons_zero, List.set_cons_succ]
        refine wpAnyH_take (i := 5) (v := .string s) rfl (by kernel_rfl) (by kernel_rfl) (by kernel_rfl) (fun _ _ _ h => h) (Or.inl ⟨by kernel_rfl, ?_⟩) hS ?_
        · intro w' hSw
          obtain ⟨s0, s1, s2, s3⟩ := hSw
          go_simp
        try simp only [Act.put, List.getElem_toArray, List.getElem_cons_succ, List.getElem_cons_zero, List.setIfInBounds_toArray, List.set_cons_zero, List.set_cons_succ]
        refine wpAnyH_take (i := 6) (v := .agg #[.int .i64 k1, .int .i64 g1, .slice A1 n1 c1]) rfl (by kernel_rfl) (by kernel_rfl) (by kernel_rfl) (fun _ _ _ h => h) (Or.inl ⟨by kernel_rfl, ?_⟩) hS ?_
        · intro w' hSw
          obtain ⟨s0, s1, s2, s3⟩ := hSw
          go_simp
        try simp only [Act.put, List.getElem_toArray, List.getElem_cons_succ, List.getElem_cons_zero, List.setIfInBounds_toArray, List.set_cons_zero, List.set_cons_succ]
        refine wpAnyH_take (i := 7) (v := .agg #[.string s, .int .i64 k1, .int .i64 g1, .slice A1 n1 c1]) rfl (by kernel_rfl) (by kernel_rfl) (by kernel_rfl) (fun _ _ _ h => h) (Or.inl ⟨by kernel_rfl, ?_⟩) hS ?_
        · intro w' hSw
          obtain ⟨s0, s1, s2, s3⟩ := hSw
          go_simp
        try simp only [Act.put, List.getElem_toArray, List.getElem_cons_succ, List.getElem_cons_zero, List.setIfInBounds_toArray, List.set_cons_zero, List.set_cons_succ]
        refine wpAnyH_ready (rs := [8]) (by kernel_rfl) (by simp) ?_
        refine AllReadyH.cons rfl (fun KN hK => ?_) AllReadyH.nil
        go_simp
        obtain ⟨W7, hW7⟩ : ∃ W7, (W6.alloc (.cells #[.string s, .int .i64 k1, .int .i64 g1, .slice A1 n1 c1] 46)).drew = W7 := ⟨_, rfl⟩
        have hb7 : Below W6.heap.size W6 W7 := by rw [← hW7]; exact ((Below.refl _ _).alloc (Nat.le_refl _) _).drew
        have hP7 : W7.heap[W6.heap.size]? = some (.cells #[.string s, .int .i64 k1, .int .i64 g1, .slice A1 n1 c1] 46 (0, 0)) := by
          rw [← hW7]
          exact heap_alloc_new W6 (.cells #[.string s, .int .i64 k1, .int .i64 g1, .slice A1 n1 c1] 46)
        try rw [hW7]
        clear hW7
        refine hK.out _ _ (HKS.out _ hb7) (fun hS => ?_)
        clear hK KN
        try simp only [Act.put, zzP]
        refine wpAnyH_ready (rs := [9]) (by kernel_rfl) (by simp) ?_
        refine AllReadyH.cons rfl (fun KN hK => ?_) AllReadyH.nil
        obtain ⟨gg, cap, w8, hrun, hrow8, hb8, hold8⟩ := HD6.out.push HT6.out (by have := HS6.out; omega) (by omega) hb7 hP7 hRlo
        refine Lib.wp_append_run _ (.tmp 61) (.tmp 65) 22 22 rfl _ _ rfl rfl _ _ hrun ?_
        have hS8 : (fun w' => w'.cell? ⟨R, 1, none⟩ = some (.slice SA sn sc) ∧ w'.cell? ⟨w3.heap.size, 0, none⟩ = some (.int .i64 k1) ∧ w'.cell? ⟨w3.heap.size, 1, none⟩ = some (.int .i64 g1) ∧ w'.cell? ⟨w3.heap.size, 2, none⟩ = some (.slice A1 n1 c1)) w8 := ⟨(World.cell?_of_block (hold8 R (by omega) (by have := HS6.out; intro e; have := (HD6.out.own.lt R e.symm).1; omega))).trans cR1, (World.cell?_of_block (hold8 _ (by have := HS6.out; omega) HOWN.out)).trans t0, (World.cell?_of_block (hold8 _ (by have := HS6.out; omega) HOWN.out)).trans t1, (World.cell?_of_block (hold8 _ (by have := HS6.out; omega) HOWN.out)).trans t2⟩
        refine hK.out _ _ hS8 (fun hS => ?_)
        clear hK KN hS8 hrun
        try simp only [Act.put, List.getElem_toArray, List.getElem_cons_succ, List.getElem_cons_zero, List.setIfInBounds_toArray, List.set_cons_zero, List.set_cons_succ]
        refine wpAnyH_take (i := 10) (v := .pointer (some ⟨R, 0, none⟩)) rfl (by kernel_rfl) (by kernel_rfl) (by kernel_rfl) (fun _ _ _ h => h) (Or.inl ⟨by kernel_rfl, ?_⟩) hS ?_
        · intro w' hSw
          obtain ⟨s0, s1, s2, s3⟩ := hSw
          go_simp
        try simp only [Act.put, List.getElem_toArray, List.getElem_cons_succ, List.getElem_cons_zero, List.setIfInBounds_toArray, List.set_cons_zero, List.set_cons_succ]
        refine wpAnyH_take (i := 11) (v := .pointer (some ⟨R, 1, none⟩)) rfl (by kernel_rfl) (by kernel_rfl) (by kernel_rfl) (fun _ _ _ h => h) (Or.inl ⟨by kernel_rfl, ?_⟩) hS ?_
        · intro w' hSw
          obtain ⟨s0, s1, s2, s3⟩ := hSw
          go_simp
        try simp only [Act.put, List.getElem_toArray, List.getElem_cons_succ, List.getElem_cons_zero, List.setIfInBounds_toArray, List.set_cons_zero, List.set_cons_succ]
        refine wpAnyH_done (by kernel_rfl) ?_ _
        show wpList _ _ _ _ _ _
        obtain ⟨h6K, hnum6, hbx6, htl3, hA3, hp3, h36, hos6, hb3, hb5, hm5⟩ := HFIN.out
        have hs8 := hb8.size
        have hs7 := hb7.size
        have hbx8 : BoxX w8 R 59 #[.slice Ar nr cr, .slice SA sn sc, .map (some K)] := (hb8.block R hRlo).trans ((hb7.block R (by omega)).trans hbx6)
        have hbx9 := hbx8.put 1 (.slice (some ⟨gg, 0, none⟩) (sn + 1) cap)
        have h38 : ∀ q, q < R → q ≠ K → w8.heap[q]? = (w3.alloc (.cells #[.int .i64 k1, .int .i64 g1, (.slice A1 n1 c1)] 36)).heap[q]? := fun q hq hne => (hb8.block q (by omega)).trans ((hb7.block q (by omega)).trans (h36 q hne (by simp; omega)))
        have h39 : ∀ q, q < R → q ≠ K → (w8.setCell ⟨R, 1, none⟩ (.slice (some ⟨gg, 0, none⟩) (sn + 1) cap)).heap[q]? = (w3.alloc (.cells #[.int .i64 k1, .int .i64 g1, (.slice A1 n1 c1)] 36)).heap[q]? := fun q hq hne => (Below.heap_setCell _ _ _ _ (by dsimp only; omega)).trans (h38 q hq hne)
        have hK9 : (w8.setCell ⟨R, 1, none⟩ (.slice (some ⟨gg, 0, none⟩) (sn + 1) cap)).heap[K]? = some (.map (es.push ⟨.string s, .int .i64 (sn : Nat), cl⟩) (cl + 1)) := (Below.heap_setCell _ _ _ _ (by dsimp only; omega)).trans ((hb8.block K (by omega)).trans ((hb7.block K (by omega)).trans h6K))
        have hrow9 : DRow R lo (w8.setCell ⟨R, 1, none⟩ (.slice (some ⟨gg, 0, none⟩) (sn + 1) cap)) (some ⟨gg, 0, none⟩) (sn + 1) cap (sg ++ [(s, t)]) (cs ++ [.string s, .int .i64 k1, .int .i64 g1, .slice A1 n1 c1]) := hrow8.mv (fun q hq hl => Below.heap_setCell _ _ _ _ (by dsimp only; omega)) hRlo
        have hdl9 := hrow9.dln hRlo
        have hB9 : Below K w (w8.setCell ⟨R, 1, none⟩ (.slice (some ⟨gg, 0, none⟩) (sn + 1) cap)) := by
          have h1 := HB3.out.trans (hb3.mono (show K ≤ w3.heap.size by omega))
          have h2 : Below K w W6 := h1.trans ⟨hos6.1.trans hb5.os, hos6.2.1.trans hb5.tape, hos6.2.2.trans hb5.output, by rw [HS6.out.1]; exact HS6.out.2, fun q hq => h36 q (by omega) (by simp; omega)⟩
          exact ((h2.trans (hb7.mono (by omega))).trans (hb8.mono (by omega))).setCell (by dsimp only; omega) _
        have hps9 : PS (w8.setCell ⟨R, 1, none⟩ (.slice (some ⟨gg, 0, none⟩) (sn + 1) cap)).heap.size R K (some ⟨gg, 0, none⟩) (sn + 1) cap (sg ++ [(s, t)]) y2 (w8.setCell ⟨R, 1, none⟩ (.slice (some ⟨gg, 0, none⟩) (sn + 1) cap)) := by
          refine ⟨⟨Ar, nr, cr, hbx9, ⟨htl3.len, htl3.le, htl3.cap, fun i u hu => ?_⟩, hA3⟩, hdl9, ⟨_, _, hK9, hnum6⟩, hp3.ne, hp3.klt, ?_, Nat.le_refl _, hp3.few, hp3.good, by rw [List.length_append, List.length_singleton]; omega⟩
          · obtain ⟨b, o, e, q0, q1⟩ := htl3.at_ i u hu
            have hbR : b < R := by
              rcases hA3 b o e with h1 | h1
              · exact h1
              · rw [h1] at hu; simp at hu
            have hbK : b ≠ K := by
              rintro rfl
              unfold World.cell? at q0
              rw [show (w3.alloc (.cells #[.int .i64 k1, .int .i64 g1, (.slice A1 n1 c1)] 36)).heap[b]? = some (.map es cl) from hm5] at q0
              cases q0
            have e' : ∀ j, (w8.setCell ⟨R, 1, none⟩ (.slice (some ⟨gg, 0, none⟩) (sn + 1) cap)).cell? ⟨b, j, none⟩ = (w3.alloc (.cells #[.int .i64 k1, .int .i64 g1, (.slice A1 n1 c1)] 36)).cell? ⟨b, j, none⟩ := fun j => World.cell?_of_block (h39 b hbR hbK)
            exact ⟨b, o, e, (e' _).trans q0, (e' _).trans q1⟩
          · have := hbx9.lt; omega
        have HFN := Lib.hid (And.intro hB9 (And.intro hps9 hrow9))
        have u1 := hbx8.cell 1
        have fz1 := hbx8.frozen 1
        have lR := hbx8.lt
        simp only [List.getElem?_toArray, List.getElem?_cons_zero, List.getElem?_cons_succ] at u1
        clear hbx8 hbx9 h38 h39 hK9 hrow9 hdl9 hB9 hps9 h6K hnum6 hbx6 htl3 hA3 hp3 h36 hos6 hb3 hb5 hm5 HFIN hrow8 hb8 hold8 hb7 hP7 hS
        go_wp2_with fail
        go_ret
        refine ⟨HFN.out.1, by simp [World.setCell]; omega, 0, rfl, .inr ⟨rfl, (s, t), y2, _, _, _, ?_, HFN.out.2.1, HFN.out.2.2, HS.out⟩⟩
        rw [HIFF.out, HE2.out, HR3.out.1]
end Go.Proofs.YtmkahbbcagfbhaaGreatDoor
/-
  Contracts of package parse's Term and Decls. No statement is proved here.
-/
namespace Go.Proofs.YtmkahbbcagfbhaaGreatDoor
open Go.ChangeShapes Go.WideShapes Go.ChangeAt Go.RowKit
set_option linter.unusedVariables false
/-- what a text is, read as a term -/
def readT (ds : List (ByteArray × T)) (l : List UInt8) : Except Int T := if lexE l ≠ 0 then .error (lexE l) else match wholeE ds ⟨#[]⟩ (lexT l) with
  | .error e => .error e
  | .ok (t, _) => .ok t
/-- what a text is, read as declarations -/
def readD (l : List UInt8) : Except Int (List (ByteArray × T)) := if lexE l ≠ 0 then .error (lexE l) else declsM mayB nmB (lexT l).length [] (lexT l)
set_option maxRecDepth 100000 in
set_option maxHeartbeats 2000000 in
theorem pTermTopC (l : List UInt8) (A : Option Addr) (n c : Nat) (ds : List (ByteArray × T)) (SA : Option Addr) (sn sc : Nat) (w : World) (hY : YL w l A n c) (hD : DS w ds SA sn sc) (hds : ds.length ≤ 1000) :
    Calls Tryz.prog 15 #[.slice A n c, .slice SA sn sc] w fun e w' => Below w.heap.size w w' ∧ ∃ k g A' n' c' ec, e = .returned (.tuple #[.agg #[.int .i64 k, .int .i64 g, .slice A' n' c'], .int .i64 ec]) ∧
      ((∃ t, readT ds l = .ok t ∧ ec = 0 ∧ Rd w' t (.agg #[.int .i64 k, .int .i64 g, .slice A' n' c'])) ∨ (readT ds l = .error ec ∧ ec ≠ 0 ∧ k = 0 ∧ g = 0 ∧ A' = none ∧ n' = 0 ∧ c' = 0)) := by
  obtain ⟨W, hW⟩ : ∃ W, w.alloc (.cells #[.int .i64 0, .int .i64 0, .slice none 0 0] 36) = W := ⟨_, rfl⟩
  have hb : Below w.heap.size w W := by rw [← hW]; exact (Below.refl _ _).alloc (Nat.le_refl _) _
  have x1 : BoxX W w.heap.size 36 #[.int .i64 0, .int .i64 0, .slice none 0 0] := by rw [← hW]; exact BoxX.new _ _ _
  have hsz : W.heap.size = w.heap.size + 1 := by rw [← hW]; simp
  have HC := Lib.hid (pBeginC l A n c ds SA sn sc W (hY.keep hb) (hD.keep hb) hds)
  have HB := Lib.hid hb
  have HX1 := Lib.hid x1
  have HSZ := Lib.hid hsz
  clear hb x1 hY hD hsz
  subst hW
  go_enter Tryz.func15, Tryz.ntmps15
  go_wp2_with fail
  refine HC.out.mono ?_
  rintro e w2 ⟨hb2, hres⟩
  have hs2 := hb2.size
  rw [HSZ.out] at hs2
  have x2 := HX1.out.keep hb2 HX1.out.lt
  have HB2 := Lib.hid (HB.out.trans (hb2.mono HB.out.size))
  clear HC HX1 hb2
  rcases hres with ⟨he, rfl⟩ | ⟨he, R, K, hK, hKR, rfl, hps⟩
  · have d9 : (lexE l == 0) = false := by simpa using he
    have HE := Lib.hid he
    clear he HB HSZ
    have z9 := ((x2.put 0 (.int .i64 0)).put 1 (.int .i64 0)).put 2 ((.slice none 0 0))
    have e0 := z9.cell 0
    have e1 := z9.cell 1
    have e2 := z9.cell 2
    have r0 := x2.cell 0
    have r1 := x2.cell 1
    have r2 := x2.cell 2
    have fz0 := x2.frozen 0
    have fz1 := x2.frozen 1
    have fz2 := x2.frozen 2
    have lz := x2.lt
    simp only [List.setIfInBounds_toArray, List.set_cons_zero, List.set_cons_succ, List.getElem?_toArray, List.getElem?_cons_zero, List.getElem?_cons_succ] at e0 e1 e2 r0 r1 r2
    clear z9 x2
    go_wp2_with fail
    refine bodyPost_ret (v := .tuple #[.agg #[.int .i64 0, .int .i64 0, (.slice none 0 0)], .int .i64 (lexE l)]) (by simp [results, Tryz.results15, go_sem, e0, e1, e2]) rfl ?_
    have hff := ((HB2.out.setCell (p := ⟨w.heap.size, 0, none⟩) (by dsimp only; omega) (.int .i64 0)).setCell (p := ⟨w.heap.size, 1, none⟩) (by dsimp only; omega) (.int .i64 0)).setCell (p := ⟨w.heap.size, 2, none⟩) (by dsimp only; omega) (.slice none 0 0)
    exact ⟨hff, 0, 0, none, 0, 0, (lexE l), rfl, .inr ⟨by rw [readT, if_pos HE.out], HE.out, rfl, rfl, rfl, rfl, rfl⟩⟩
  · have HW := Lib.hid (pWholeC hps ⟨#[]⟩)
    have HRT := Lib.hid (show readT ds l = match wholeE ds ⟨#[]⟩ (lexT l) with | .error e => .error e | .ok (t, _) => .ok t by rw [readT, if_neg (by rw [he]; simp)])
    rw [HSZ.out] at hK
    clear hps he HB HSZ
    go_wp2_with fail
    refine HW.out.mono ?_
    rintro e w3 ⟨hf3, k, g, A', n', c', ec, rfl, hres⟩
    have hs3 := hf3.size
    have x3 := x2.fr hf3 (by omega)
    have HB3 := Lib.hid (FrB.toBelow HB2.out hf3 (by omega) (by omega))
    have HR := Lib.hid hres
    clear HW x2 hf3 hres HB2
    have z9 := ((x3.put 0 (.int .i64 k)).put 1 (.int .i64 g)).put 2 ((.slice A' n' c'))
    have e0 := z9.cell 0
    have e1 := z9.cell 1
    have e2 := z9.cell 2
    have r0 := x3.cell 0
    have r1 := x3.cell 1
    have r2 := x3.cell 2
    have fz0 := x3.frozen 0
    have fz1 := x3.frozen 1
    have fz2 := x3.frozen 2
    have lz := x3.lt
    simp only [List.setIfInBounds_toArray, List.set_cons_zero, List.set_cons_succ, List.getElem?_toArray, List.getElem?_cons_zero, List.getElem?_cons_succ] at e0 e1 e2 r0 r1 r2
    clear z9 x3
    go_wp2_with fail
    refine bodyPost_ret (v := .tuple #[.agg #[.int .i64 k, .int .i64 g, (.slice A' n' c')], .int .i64 ec]) (by simp [results, Tryz.results15, go_sem, e0, e1, e2]) rfl ?_
    have hff := ((HB3.out.setCell (p := ⟨w.heap.size, 0, none⟩) (by dsimp only; omega) (.int .i64 k)).setCell (p := ⟨w.heap.size, 1, none⟩) (by dsimp only; omega) (.int .i64 g)).setCell (p := ⟨w.heap.size, 2, none⟩) (by dsimp only; omega) (.slice A' n' c')
    refine ⟨hff, k, g, A', n', c', ec, rfl, ?_⟩
    rw [HRT.out]
    rcases HR.out with ⟨t, y, hr, h0, hrd, _⟩ | ⟨hr, h3⟩
    · exact .inl ⟨t, by rw [hr], h0, (hrd.to fun b' h1 h2 => heap_other3Q _ _ _ _ _ _ (by omega)).rd⟩
    · exact .inr ⟨by rw [hr], h3⟩
theorem PS.up {b0 b1 R K : Nat} {SA : Option Addr} {sn sc : Nat} {sg : List (ByteArray × T)} {x : List Tk} {w : World} (h : PS b0 R K SA sn sc sg x w) (h1 : b0 ≤ b1) (h2 : b1 ≤ w.heap.size) : PS b1 R K SA sn sc sg x w :=
  ⟨h.box, ⟨h.dl.len, h.dl.le, h.dl.cap, fun i d hd => by
    obtain ⟨b, o, k, g, A', n, c, e, hb, c0, c1, c2, c3, hr⟩ := h.dl.at_ i d hd
    exact ⟨b, o, k, g, A', n, c, e, ⟨hb.1, by omega⟩, c0, c1, c2, c3, RdF.moveQ (fun q hq hl => ⟨⟨hq.1, by omega⟩, rfl⟩) _ _ hr⟩⟩, h.mp, h.ne, h.klt, Nat.le_trans h.rle h1, h2, h.few, h.good, h.sgf⟩
/-- what holds at the head of Decls' loop -/
structure DsI (l : List UInt8) (w : World) (R K lo gf : Nat) (SA : Option Addr) (sn sc : Nat) (sg : List (ByteArray × T)) (cs : List Value) (y : List Tk) (wr : World) : Prop where
  ps : PS wr.heap.size R K SA sn sc sg y wr
  row : DRow R lo wr SA sn sc sg cs
  below : Below w.heap.size w wr
  big : lo ≤ wr.heap.size
  few : sg.length ≤ 40
  sz : ∀ d ∈ sg, d.1.size ≤ maxLen
  fuel : y.length ≤ gf
  eq : declsM mayB nmB y.length sg y = readD l
set_option maxRecDepth 100000 in
set_option maxHeartbeats 2000000 in
theorem pDeclsC (l : List UInt8) (A : Option Addr) (n c : Nat) (w : World) (hY : YL w l A n c) :
    Calls Tryz.prog 10 #[.slice A n c] w fun e w' => Below w.heap.size w w' ∧ ∃ SA sn sc ec, e = .returned (.tuple #[.slice SA sn sc, .int .i64 ec]) ∧
      ((∃ ds, readD l = .ok ds ∧ ec = 0 ∧ DS w' ds SA sn sc ∧ ds.length ≤ 40) ∨ (readD l = .error ec ∧ ec ≠ 0 ∧ SA = none ∧ sn = 0 ∧ sc = 0)) := by
  have HC := Lib.hid (pBeginC l A n c [] none 0 0 w hY (DS.nil _) (by simp))
  clear hY
  go_enter Tryz.func10, Tryz.ntmps10
  go_wp2_with fail
  refine HC.out.mono ?_
  rintro e w2 ⟨hb2, hres⟩
  have hs2 := hb2.size
  have HB2 := Lib.hid hb2
  clear HC hb2
  rcases hres with ⟨he, rfl⟩ | ⟨he, R, K, hK, hKR, rfl, hps⟩
  · have d9 : (lexE l == 0) = false := by simpa using he
    have HE := Lib.hid he
    clear he
    go_wp2_with fail
    go_loopg [5] 0 (fun _ u5 wr => u5 = .int .i64 (lexE l) ∧ Hid (Below w.heap.size w wr))
    case atStart => exact ⟨rfl, HB2⟩
    case round =>
      obtain ⟨rfl, HB⟩ := hrel
      go_wp2_with fail
      go_ret2
      exact ⟨HB.out, none, 0, 0, lexE l, rfl, .inr ⟨by rw [readD, if_pos HE.out], HE.out, rfl, rfl, rfl⟩⟩
  · have HRD := Lib.hid (show readD l = declsM mayB nmB (lexT l).length [] (lexT l) by rw [readD, if_neg (by rw [he]; simp)])
    have HI0 := Lib.hid (show DsI l w R K w2.heap.size (lexT l).length none 0 0 [] [] (lexT l) w2 from
      ⟨hps.up hps.le (Nat.le_refl _), DRow.nil _ _ _, HB2.out, Nat.le_refl _, by simp, (fun d hd => by cases hd), Nat.le_refl _, HRD.out.symm⟩)
    have hRlo := hps.lt
    clear hps he
    go_wp2_with fail
    go_loopg [5] (lexT l).length (fun gf u5 wr => (∃ ec, u5 = .int .i64 ec ∧ Hid (ec ≠ 0 ∧ readD l = .error ec ∧ Below w.heap.size w wr)) ∨ (u5 = .int .i64 0 ∧ ∃ SA sn sc sg cs y, Hid (DsI l w R K w2.heap.size gf SA sn sc sg cs y wr)))
    case atStart => exact .inr ⟨rfl, _, _, _, _, _, _, HI0⟩
    case round =>
      clear HI0
      rcases hrel with ⟨ec, rfl, HE⟩ | ⟨rfl, SA, sn, sc, sg, cs, y, HI⟩
      · have d9 : (ec == 0) = false := by simpa using HE.out.1
        go_wp2_with fail
        go_ret2
        exact ⟨HE.out.2.2, none, 0, 0, ec, rfl, .inr ⟨HE.out.2.1, HE.out.1, rfl, rfl, rfl⟩⟩
      · have hT := pTakeC HI.out.ps ⟨#[]⟩
        have hbig := HI.out.big
        cases y with
        | nil =>
          rw [show decide (hdT [] = ((1, ⟨#[]⟩) : Tk)) = true from rfl] at hT
          have HT := Lib.hid hT
          have HEQ := Lib.hid (show readD l = .ok sg by rw [← HI.out.eq]; rfl)
          clear hT
          go_wp2_with fail
          refine HT.out.mono ?_
          rintro e w3 ⟨rfl, hps3, hf3⟩
          obtain ⟨Ar, nr, cr, hbx, _, _⟩ := hps3.box
          have cR1 : w3.cell? ⟨R, 1, none⟩ = some (.slice SA sn sc) := hbx.cell 1
          have HF := Lib.hid (And.intro (FrB.toBelow HI.out.below hf3 (by omega) (by omega)) (hps3.dl.ds HI.out.sz))
          clear HT hf3 hps3 hbx
          go_wp2_with fail
          go_ret2
          exact ⟨HF.out.1, SA, sn, sc, 0, rfl, .inl ⟨sg, HEQ.out, rfl, HF.out.2, HI.out.few⟩⟩
        | cons t r =>
          have hne : hdT (t :: r) ≠ ((1, ⟨#[]⟩) : Tk) := (HI.out.ps.good t List.mem_cons_self).one
          rw [show decide (hdT (t :: r) = ((1, ⟨#[]⟩) : Tk)) = false from decide_eq_false hne] at hT
          have HT := Lib.hid hT
          have HNE := Lib.hid hne
          obtain ⟨g', rfl⟩ : ∃ g', gk = g' + 1 := ⟨gk - 1, by have := HI.out.fuel; simp at this; omega⟩
          clear hT hne
          go_wp2_with fail
          refine HT.out.mono ?_
          rintro e w3 ⟨rfl, hps3, hf3⟩
          rw [if_neg HNE.out] at hps3
          have hs3 := hf3.size
          have hD := pDeclC (hps3.up hf3.size (Nat.le_refl _)) (HI.out.row.mv (fun q hq hl => hf3.block q hl (by omega)) hRlo) hRlo (by omega) HI.out.few
          have HD := Lib.hid hD
          have HB3 := Lib.hid (FrB.toBelow HI.out.below hf3 (by omega) (by omega))
          clear HT hf3 hps3 hD
          go_wp2_with fail
          refine HD.out.mono ?_
          rintro e w4 ⟨hb4, hs4, ec, rfl, hres⟩
          have HB4 := Lib.hid (HB3.out.trans (hb4.mono (by omega)))
          have hEQ := HI.out.eq
          rw [List.length_cons, declsM] at hEQ
          clear HD hb4
          rcases hres with ⟨hec, hd⟩ | ⟨rfl, d, y2, SA', sc', cs', hd, hps4, hrow4, hdz⟩
          · have HE2 := Lib.hid (show ec ≠ 0 ∧ readD l = .error ec ∧ Below w.heap.size w w4 from ⟨hec, by
              rw [← hEQ]
              split at hd
              · rename_i h40; rw [if_pos h40]; cases hd; rfl
              · rename_i h40; rw [if_neg h40, hd], HB4.out⟩)
            clear hEQ hec hd
            go_wp2_with fail
            go_roundg g'
            case measure => omega
            case rel => exact .inl ⟨ec, rfl, HE2⟩
          · have h40 : ¬ 40 ≤ sg.length := fun h => by rw [if_pos h] at hd; cases hd
            rw [if_neg h40] at hd hEQ
            rw [hd] at hEQ
            have hlen := decl_len hd
            simp only [List.length_cons] at hlen
            have HI2 := Lib.hid (show DsI l w R K w2.heap.size g' SA' (sn + 1) sc' (sg ++ [d]) cs' y2 w4 from
              ⟨hps4, hrow4, HB4.out, by omega, by rw [List.length_append, List.length_singleton]; omega, fun d' hd' => by
                rcases List.mem_append.1 hd' with h | h
                · exact HI.out.sz d' h
                · rw [List.mem_singleton.1 h]; exact hdz, by have := HI.out.fuel; simp at this; omega, by rw [← hEQ]; exact decls_fuel _ _ _ _ (Nat.le_refl _) (by omega)⟩)
            clear hEQ hps4 hrow4 hd hdz hlen
            go_wp2_with fail
            go_roundg g'
            case measure => omega
            case rel => exact .inr ⟨rfl, _, _, _, _, _, _, HI2⟩
end Go.Proofs.YtmkahbbcagfbhaaGreatDoor
/-
  Names that may be declared, in texts: what is read of them. No statement is proved here.
-/
namespace Go.Proofs.YtmkahbbcagfbhaaGreatDoor
open Go.ChangeShapes Go.WideShapes Go.ChangeAt Go.RowKit
set_option linter.unusedVariables false
/-- a name that may be declared -/
structure NmP (s : ByteArray) : Prop where
  ne : s.data.toList ≠ []
  nm : ∀ c ∈ s.data.toList, nmI (bI c) = true
  ty : s ≠ tyN
  sz : s.data.toList.length ≤ 40
theorem nm_of {s : ByteArray} (h : nmB s = true) : NmP s := by
  unfold nmB at h
  simp only [Bool.and_eq_true, decide_eq_true_eq] at h
  obtain ⟨h1, h2, h3, h4, _⟩ := h
  have hl : s.data.toList.length ≤ 40 := by rw [Array.length_toList]; exact h1
  rcases lexE_cases s.data.toList (by omega) with ⟨_, hx⟩ | ⟨h8, _, _⟩
  · rw [h4] at hx
    rcases toks_good hx (0, s) (List.mem_singleton.2 rfl) with ⟨e, _⟩ | ⟨_, e1, e2⟩
    · cases e
    · exact ⟨e1, e2, h2, hl⟩
  · rw [h3] at h8; cases h8
theorem run_mark {o : List Tk} {cur : List UInt8} {c : UInt8} {r : List UInt8} (h : mkI (bI c) = true) : runL ⟨o, cur, false⟩ (c :: r) = runL ⟨flu o cur ++ [(1, ⟨#[c]⟩)], [], false⟩ r := by
  obtain ⟨h1, h2, h3, h4⟩ := mk_notnm h
  rw [runL, show stp ⟨o, cur, false⟩ c = some ⟨flu o cur ++ [(1, ⟨#[c]⟩)], [], false⟩ by unfold stp; simp [h1, h2, h]]
  rfl
theorem NmP.flu {s : ByteArray} (h : NmP s) (o : List Tk) : flu o s.data.toList = o ++ [(0, s)] := by
  rw [flu_cons o h.ne]
theorem NmP.run {s : ByteArray} (h : NmP s) (o : List Tk) (r : List UInt8) : runL ⟨o, [], false⟩ (s.data.toList ++ r) = runL ⟨o, s.data.toList, false⟩ r := by
  rw [runL_append, runL_name o _ h.nm []]
  rfl
theorem lex_of {l : List UInt8} {x : List Tk} (h : toksL l = some x) (hl : l.length ≤ 20000) : lexE l = 0 ∧ lexT l = x := by
  have hn : ¬ 20000 < l.length := by omega
  unfold lexE lexT
  rw [if_neg hn, if_neg hn, h]
  exact ⟨rfl, rfl⟩
end Go.Proofs.YtmkahbbcagfbhaaGreatDoor
/-
  What a text in ( ) is read as, and one below a name that binds. No statement is proved here.
-/
namespace Go.Proofs.YtmkahbbcagfbhaaGreatDoor
open Go.ChangeShapes Go.WideShapes Go.ChangeAt Go.RowKit
set_option linter.unusedVariables false
/-- names stand in the text -/
structure InS (a : List UInt8) (s : LSt) : Prop where
  out : ∀ t ∈ s.out, t.1 = 0 → t.2.data.toList <:+: a
  cur : s.cur <:+ a
  ok : LOk s
theorem InS.flu {a : List UInt8} {s : LSt} (h : InS a s) : ∀ t ∈ flu s.out s.cur, t.1 = 0 → t.2.data.toList <:+: a := by
  intro t ht h0
  unfold Go.Proofs.YtmkahbbcagfbhaaGreatDoor.flu at ht
  split at ht
  · exact h.out t ht h0
  · rcases List.mem_append.1 ht with h1 | h1
    · exact h.out t h1 h0
    · rw [List.mem_singleton.1 h1]
      exact h.cur.isInfix
theorem inf_app {x a : List UInt8} (h : x <:+: a) (c : UInt8) : x <:+: a ++ [c] := h.trans (List.prefix_append a [c]).isInfix
theorem InS.step {a : List UInt8} {s s2 : LSt} {c : UInt8} (h : InS a s) (hs : stp s c = some s2) : InS (a ++ [c]) s2 := by
  have hok := stp_ok h.ok hs
  have hf : ∀ t ∈ Go.Proofs.YtmkahbbcagfbhaaGreatDoor.flu s.out s.cur, t.1 = 0 → t.2.data.toList <:+: a ++ [c] := fun t ht h0 => inf_app (h.flu t ht h0) c
  unfold stp at hs
  split at hs
  · rename_i hn
    cases hs
    refine ⟨fun t ht h0 => inf_app (h.out t ht h0) c, ?_, hok⟩
    show s.cur <:+ _
    rw [h.ok hn]; exact List.nil_suffix
  · split at hs
    · cases hs
      refine ⟨fun t ht h0 => inf_app (h.out t ht h0) c, ?_, hok⟩
      obtain ⟨p, hp⟩ := h.cur
      exact ⟨p, by rw [← hp, List.append_assoc]⟩
    · split at hs
      · cases hs; exact ⟨hf, List.nil_suffix, hok⟩
      · split at hs
        · cases hs
          refine ⟨fun t ht h0 => ?_, List.nil_suffix, hok⟩
          rcases List.mem_append.1 ht with h1 | h1
          · exact hf t h1 h0
          · rw [List.mem_singleton.1 h1] at h0; cases h0
        · split at hs
          · cases hs; exact ⟨hf, List.nil_suffix, hok⟩
          · cases hs
theorem InS.run : ∀ (l a : List UInt8) (s s2 : LSt), InS a s → runL s l = some s2 → InS (a ++ l) s2
  | [], a, s, s2, h, hr => by rw [runL] at hr; cases hr; rw [List.append_nil]; exact h
  | c :: l, a, s, s2, h, hr => by
    rw [runL] at hr
    cases hs : stp s c with
    | none => rw [hs] at hr; cases hr
    | some s1 =>
      rw [hs] at hr
      have := InS.run l (a ++ [c]) s1 s2 (h.step hs) hr
      rw [List.append_assoc] at this
      exact this
end Go.Proofs.YtmkahbbcagfbhaaGreatDoor
/-
  Arguments' readings that are strings. No statement is proved here.
-/
namespace Go.Proofs.YtmkahbbcagfbhaaGreatDoor
open Go.ChangeShapes Go.WideShapes Go.ChangeAt Go.RowKit Go.Deep
set_option linter.unusedVariables false
section
variable {H : Type} {enc : TypeId × Value → H} {P : Program} {w : World} {base : Nat} {spare : Nat → Bool} {held : Bool}
end
end Go.Proofs.YtmkahbbcagfbhaaGreatDoor
/-
  Arguments' readings that are lists of declarations with their names, and whether they are few. No statement is proved here.
-/
namespace Go.Proofs.YtmkahbbcagfbhaaGreatDoor
open Go.ChangeShapes Go.WideShapes Go.ChangeAt Go.RowKit Go.Deep
set_option linter.unusedVariables false
set_option maxRecDepth 100000
section
variable {H : Type} {enc : TypeId × Value → H} {w : World} {base : Nat} {spare : Nat → Bool} {held : Bool}
theorem cellsDecN : Tryz.prog.cellsOf 46 = 4 := by kernel_rfl
theorem trod_declN {fuel : Nat} {cs : List Value} {x : DataW H × List MemPlace} (hx : DataW.trod enc Tryz.prog w base spare held fuel 46 cs = some x) :
    ∃ (y : T) (s : ByteArray) (v1 v2 v3 : Value), cs = [.string s, v1, v2, v3] ∧ Rd w y (.agg #[v1, v2, v3]) ∧ s.size ≤ maxLen := by
  obtain ⟨ys, n, rfl, hxe, hl, hyl, hf⟩ := DataW.trod_struct Tryz.underlying46 hx
  rw [cellsDecN] at hl
  match cs, hl with
  | [v0, v1, v2, v3], _ =>
    match ys, hyl with
    | [y0, y1], _ =>
      have h0 : DataW.trod enc Tryz.prog w base spare held n 9 (([v0, v1, v2, v3].drop 0).take (Tryz.prog.cellsOf 9)) = some y0 := hf 0 _ rfl
      have h1 : DataW.trod enc Tryz.prog w base spare held n 36 (([v0, v1, v2, v3].drop 1).take (Tryz.prog.cellsOf 36)) = some y1 := hf 1 _ rfl
      simp only [cellsStr, Tryz.cellsTerm, List.drop_zero, List.drop_succ_cons, List.take_succ_cons, List.take_zero] at h0 h1
      obtain ⟨s, e0, _, hs⟩ := DataW.trod_string Tryz.underlying9 h0
      simp only [List.cons.injEq, and_true] at e0
      subst e0
      obtain ⟨t, u0, u1, u2, e, hr, hle, _⟩ := trod_term n _ _ h1
      simp only [List.cons.injEq, and_true] at e
      obtain ⟨rfl, rfl, rfl⟩ := e
      exact ⟨t, s, _, _, _, rfl, hr, hs⟩
/-- one declaration, in memory -/
def DNt (w : World) (A : Option Addr) (i : Nat) (d : ByteArray × T) : Prop := ∃ b o k h A' n' c', A = some ⟨b, o, none⟩ ∧ w.cell? ⟨b, o + i * 4, none⟩ = some (.string d.1) ∧ w.cell? ⟨b, o + i * 4 + 1, none⟩ = some (.int .i64 k) ∧ w.cell? ⟨b, o + i * 4 + 2, none⟩ = some (.int .i64 h) ∧
    w.cell? ⟨b, o + i * 4 + 3, none⟩ = some (.slice A' n' c') ∧ Rd w d.2 (.agg #[.int .i64 k, .int .i64 h, .slice A' n' c'])
theorem list_ofN {α : Type} {P : Nat → α → Prop} : ∀ (n : Nat), (∀ i, i < n → ∃ y, P i y) → ∃ xs : List α, xs.length = n ∧ ∀ i y, xs[i]? = some y → P i y
  | 0, _ => ⟨[], rfl, fun i y h => by simp at h⟩
  | n + 1, h => by
    obtain ⟨xs, hl, hx⟩ := list_ofN n fun i hi => h i (by omega)
    obtain ⟨y, hy⟩ := h n (by omega)
    refine ⟨xs ++ [y], by simp [hl], fun i z hz => ?_⟩
    by_cases hi : i < n
    · rw [List.getElem?_append_left (by omega)] at hz
      exact hx i z hz
    · have h2 := (List.getElem?_eq_some_iff.1 hz).1
      simp only [List.length_append, List.length_cons, List.length_nil] at h2
      obtain rfl : n = i := by omega
      rw [List.getElem?_append_right (by omega), hl, Nat.sub_self, List.getElem?_cons_zero, Option.some.injEq] at hz
      rw [← hz]; exact hy
theorem open_declsN {r : Reach} {b0 : Nat} {v : Value} {d : DataW H} {p : List MemPlace} (hv : Value.okWide Tryz.prog w r b0 22 v) (h : DataW.Trod enc Tryz.prog w base spare held 22 v d p) :
    ∃ (ds : List (ByteArray × T)) (A : Option Addr) (n c : Nat), v = .slice A n c ∧ DS w ds A n c := by
  obtain ⟨fuel, hf⟩ := h
  obtain ⟨a0, l0, c0, rfl⟩ := okWide_slice Tryz.underlying22 hv
  rcases DataW.trod_slice Tryz.underlying22 hf with ⟨e2, hy2⟩ | ⟨a, len, cap, elems, rest, m, rfl, e2, hy2, hb, hlc, hm, hel, hat, _, _⟩
  · simp only [Value.cells, List.cons.injEq, and_true] at e2
    exact ⟨[], none, 0, 0, e2, DS.nil w⟩
  · simp only [Value.cells, List.cons.injEq, and_true] at e2
    rw [e2]
    have first : ∀ i, i < len → ∃ y : T, ∃ s v1 v2 v3, w.cell? (a.add (i * 4 + 0)) = some (.string s) ∧ w.cell? (a.add (i * 4 + 1)) = some v1 ∧ w.cell? (a.add (i * 4 + 2)) = some v2 ∧ w.cell? (a.add (i * 4 + 3)) = some v3 ∧ Rd w y (.agg #[v1, v2, v3]) ∧ s.size ≤ maxLen := by
      intro i hi
      have hi' := hat i hi
      rw [List.getElem?_eq_getElem (by omega), Option.bind_eq_some_iff] at hi'
      obtain ⟨cs', hcs, htr⟩ := hi'
      obtain ⟨y, s, u1, u2, u3, rfl, hr, hle⟩ := trod_declN htr
      rw [cellsDecN] at hcs
      obtain ⟨_, _, hcell⟩ := World.cells?_some hcs
      have c0 := hcell 0 (by omega)
      have c1 := hcell 1 (by omega)
      have c2 := hcell 2 (by omega)
      have c3 := hcell 3 (by omega)
      simp only [List.getElem?_cons_zero, List.getElem?_cons_succ, add_add] at c0 c1 c2 c3
      exact ⟨y, s, u1, u2, u3, c0, c1, c2, c3, hr, hle⟩
    have each : ∀ i, i < len → ∃ y : ByteArray × T, DNt w (some a) i y ∧ y.1.size ≤ maxLen := by
      intro i hi
      obtain ⟨y, s, v1, v2, v3, c0, c1, c2, c3, hr, hs⟩ := first i hi
      obtain ⟨y', _, _, _, _, c00, _⟩ := first 0 (by omega)
      have hs0 := cell_spotX c00
      obtain ⟨b, o, sp⟩ := a
      have hsp : sp = none := by simpa [Addr.add] using hs0
      subst hsp
      rw [addr_addX] at c0 c1 c2 c3
      obtain ⟨k, h, A, n, c, e⟩ := hr.full
      simp only [Value.agg.injEq, Array.mk.injEq, List.cons.injEq, and_true] at e
      obtain ⟨rfl, rfl, rfl⟩ := e
      exact ⟨(s, y), ⟨b, o, k, h, A, n, c, rfl, c0, by rw [Nat.add_assoc]; exact c1, by rw [Nat.add_assoc]; exact c2, by rw [Nat.add_assoc]; exact c3, hr⟩, hs⟩
    obtain ⟨xs, hxl, hxs⟩ := list_ofN len each
    exact ⟨xs, some a, len, cap, rfl, hxl, hlc, hm, fun x hx => by
      obtain ⟨i, hi⟩ := List.getElem?_of_mem hx
      exact (hxs i x hi).2, fun i y hy => (hxs i y hy).1⟩
end
end Go.Proofs.YtmkahbbcagfbhaaGreatDoor
/-
  What is written is read as what it was, as plain functions. No statement is proved here.
-/
namespace Go.Proofs.YtmkahbbcagfbhaaGreatDoor
open Go.ChangeShapes Go.WideShapes Go.ChangeAt Go.RowKit
set_option linter.unusedVariables false
/-- the names that d nodes bind, the nearest one first -/
def bds : Nat → List ByteArray
  | 0 => []
  | d + 1 => bnm d :: bds d
theorem posB_bds : ∀ (d h : Nat), h < d → d ≤ 100 → posB (bnm (d - 1 - h)) (bds d) = some h
  | 0, h, h1, _ => by omega
  | d + 1, 0, _, _ => by rw [bds, posB, show d + 1 - 1 - 0 = d by omega, if_pos rfl]
  | d + 1, h + 1, h1, h2 => by
    rw [bds, posB, if_neg (fun e => by have := bnm_inj (by omega) (by omega) e; omega), show d + 1 - 1 - (h + 1) = d - 1 - h by omega, posB_bds d h (by omega) (by omega)]
    rfl
theorem posB_other {s : ByteArray} (hs : s.data.toList.head? ≠ some 95) : ∀ d, posB s (bds d) = none
  | 0 => rfl
  | d + 1 => by
    rw [bds, posB, if_neg (fun e => hs (by rw [← e]; rfl)), posB_other hs d]
    rfl
/-- what names of declarations are -/
structure NmOk (nm : Int → ByteArray) (kd : Int → Bool) (sg : List (ByteArray × T)) (n : Nat) : Prop where
  at_ : ∀ h : Nat, h < n → nm h ≠ tyN ∧ (nm h).data.toList.head? ≠ some 95 ∧ ∃ ty, posD (nm h) sg = some (h, ty) ∧ kd h = kiB ty
mutual
/-- are Fams kinds, and Consts none? -/
def kdB (kd : Int → Bool) : T → Bool
  | .node k h xs => (!(k == 2) || kd h) && (!(k == 5) || !(kd h)) && kdL kd xs
def kdL (kd : Int → Bool) : List T → Bool
  | [] => true
  | x :: xs => kdB kd x && kdL kd xs
end
theorem kdL_all (kd : Int → Bool) : ∀ xs : List T, kdL kd xs = xs.all (kdB kd)
  | [] => rfl
  | x :: xs => by rw [kdL, kdL_all kd xs, List.all_cons]
theorem head_at {nm : Int → ByteArray} {kd : Int → Bool} {sg : List (ByteArray × T)} {n d : Nat} {k h : Int} {xs : List T} (hn : NmOk nm kd sg n) (hw : Wr_ n d (.node k h xs)) (hk : kdB kd (.node k h xs) = true) (h0 : k ≠ 0) (h1 : k ≠ 1) (h3 : k ≠ 3) :
    hdS nm k h d ≠ tyN ∧ headM sg (bds d) (hdS nm k h d) = .ok (.node k h []) := by
  have hd := hw.deep
  rw [dp] at hd
  rcases hw.cases with ⟨e, _⟩ | ⟨e, _⟩ | ⟨e, _⟩ | ⟨rfl, e1, e2⟩ | ⟨e, e1, e2⟩
  · exact absurd e h0
  · exact absurd e h1
  · exact absurd e h3
  · obtain ⟨g, rfl⟩ : ∃ g : Nat, h = g := ⟨h.toNat, by omega⟩
    rw [hdS, if_pos rfl]
    refine ⟨bnm_ty _, ?_⟩
    rw [headM, Int.toNat_natCast, posB_bds d g (by omega) (by omega)]
  · obtain ⟨g, rfl⟩ : ∃ g : Nat, h = g := ⟨h.toNat, by omega⟩
    obtain ⟨p1, p2, ty, p3, p4⟩ := hn.at_ g (by omega)
    rw [hdS, if_neg (by rcases e with rfl | rfl <;> decide)]
    refine ⟨p1, ?_⟩
    rw [headM, posB_other p2, p3]
    dsimp only
    rw [kdB, Bool.and_eq_true, Bool.and_eq_true] at hk
    rcases e with rfl | rfl
    · have : kd g = true := by simpa using hk.1.1
      rw [if_pos (by rw [← p4]; exact this)]
    · have : kd g = false := by simpa using hk.1.2
      rw [if_neg (by rw [← p4, this]; decide)]
theorem argsM_name {sg bd f} {n : Nat} {s : ByteArray} {r : List Tk} (hs : s ≠ tyN) {u : T} (hu : headM sg bd s = .ok u) : argsM sg bd f (n + 1) ((0, s) :: r) = match argsM sg bd f n r with
    | .error e => .error e
    | .ok (us, r3) => .ok (u :: us, r3) := by
  rw [argsM, if_neg (fun e => by cases congrArg Prod.fst e), if_pos rfl, if_neg hs, hu]
  rfl
theorem argsM_open {sg bd f} {n : Nat} {r r2 : List Tk} {u : T} (hf : f r = .ok (u, mC :: r2)) : argsM sg bd f (n + 1) (mO :: r) = match argsM sg bd f n r2 with
    | .error e => .error e
    | .ok (us, r3) => .ok (u :: us, r3) := by
  rw [argsM, if_pos rfl, hf]
  dsimp only
  rw [take_at]
  rfl
theorem beg_close (r : List Tk) : begM (mC :: r) = false := by
  rw [begM]; decide
theorem beg_curl (r : List Tk) : begM (mQ :: r) = false := by
  rw [begM]; decide
/-- Args are read as they were -/
theorem args_sh {nm : Int → ByteArray} {sg : List (ByteArray × T)} {bd : List ByteArray} {f : List Tk → Except Int (T × List Tk)} {d : Nat} : ∀ (xs : List T) (n : Nat) (rest : List Tk),
    (∀ x ∈ xs, ∀ r, begM r = false → f (shT nm x d ++ r) = .ok (x, r)) →
    (∀ x ∈ xs, aloB x = true → ∃ s, shT nm x d = [(0, s)] ∧ s ≠ tyN ∧ headM sg bd s = .ok x) → begM rest = false → (xs.flatMap (argS nm d) ++ rest).length ≤ n → argsM sg bd f n (xs.flatMap (argS nm d) ++ rest) = .ok (xs, rest)
  | [], n, rest, _, _, hr, _ => args_stop hr n
  | x :: xs, n, rest, hf, ha, hr, hn => by
    rw [List.flatMap_cons, List.append_assoc] at hn ⊢
    have hf' := fun y hy => hf y (List.mem_cons_of_mem _ hy)
    have ha' := fun y hy => ha y (List.mem_cons_of_mem _ hy)
    rw [argS] at hn ⊢
    by_cases h1 : aloB x = true
    · rw [if_pos h1] at hn ⊢
      obtain ⟨s, e, hs, hu⟩ := ha x List.mem_cons_self h1
      rw [e] at hn ⊢
      obtain ⟨m, rfl⟩ : ∃ m, n = m + 1 := ⟨n - 1, by simp at hn; omega⟩
      rw [List.cons_append, List.nil_append, argsM_name hs hu, args_sh xs m rest hf' ha' hr (by simp at hn ⊢; omega)]
    · rw [if_neg h1] at hn ⊢
      obtain ⟨m, rfl⟩ : ∃ m, n = m + 1 := ⟨n - 1, by simp at hn; omega⟩
      rw [List.cons_append, List.append_assoc, List.cons_append, List.nil_append, argsM_open (hf x List.mem_cons_self _ (beg_close _)), args_sh xs m rest hf' ha' hr (by simp at hn ⊢; omega)]
/-- A TERM that was written is read as what it was. -/
theorem term_sh {nm : Int → ByteArray} {kd : Int → Bool} {sg : List (ByteArray × T)} {n : Nat} (hn : NmOk nm kd sg n) (t : T) : ∀ (d k : Nat) (rest : List Tk), Wr_ n d t → kdB kd t = true → dp t ≤ k → begM rest = false →
    termM sg k (bds d) (shT nm t d ++ rest) = .ok (t, rest) := by
  refine T.ind (M := fun t => ∀ (d k : Nat) (rest : List Tk), Wr_ n d t → kdB kd t = true → dp t ≤ k → begM rest = false → termM sg k (bds d) (shT nm t d ++ rest) = .ok (t, rest)) ?_ t
  intro k h xs ih d m rest hw hk hd hr
  rw [dp] at hd
  obtain ⟨m, rfl⟩ : ∃ m', m = m' + 1 := ⟨m - 1, by omega⟩
  have hk' := hk
  rw [kdB, Bool.and_eq_true, kdL_all, List.all_eq_true] at hk'
  rcases hw.cases with ⟨rfl, rfl, rfl⟩ | ⟨rfl, rfl, a, b, rfl⟩ | ⟨rfl, rfl, a, rfl⟩ | hc
  · rw [sh_sort, List.cons_append, List.nil_append, termM, if_neg (by decide), if_neg (by decide), appM, if_neg (by decide), if_pos rfl, if_pos rfl, hr]
    rfl
  · obtain ⟨wa, wb⟩ := hw.pi
    simp only [dpL] at hd
    rw [sh_pi]
    simp only [List.cons_append, List.append_assoc]
    rw [termM, if_pos rfl, name_at]
    dsimp only
    rw [take_at]
    dsimp only
    rw [ih a (by simp) d m _ wa (hk'.2 a (by simp)) (by omega) (beg_curl _)]
    dsimp only
    rw [take_at]
    dsimp only
    rw [show bnm d :: bds d = bds (d + 1) from rfl, ih b (by simp) (d + 1) m _ wb (hk'.2 b (by simp)) (by omega) hr]
  · have wa := hw.lam
    simp only [dpL] at hd
    rw [sh_lam]
    simp only [List.cons_append]
    rw [termM, if_neg (by decide), if_pos rfl, name_at]
    dsimp only
    rw [take_at]
    dsimp only
    rw [show bnm d :: bds d = bds (d + 1) from rfl, ih a (by simp) (d + 1) m _ wa (hk'.2 a (by simp)) (by omega) hr]
  · have h0 : k ≠ 0 := by omega
    have h1 : k ≠ 1 := by omega
    have h3 : k ≠ 3 := by omega
    have hwx := hw.args h1 h3
    obtain ⟨hty, hhd⟩ := head_at hn hw hk h0 h1 h3
    rw [sh_head nm h xs d h0 h1 h3, List.cons_append, termM, if_neg (fun e => by cases congrArg Prod.fst e), if_neg (fun e => by cases congrArg Prod.fst e), appM, if_neg (fun e => by cases congrArg Prod.fst e), if_pos rfl, if_neg hty, hhd]
    dsimp only
    rw [args_sh xs _ rest (fun x hx r hr' => ih x hx d m r (hwx x hx) (hk'.2 x hx) (by have := dp_part hx; omega) hr') ?_ hr (Nat.le_refl _)]
    · rfl
    · intro x hx hal
      obtain ⟨k', h', ys⟩ := x
      rw [aloB, Bool.and_eq_true, List.isEmpty_iff, Bool.not_eq_true', beq_eq_false_iff_ne] at hal
      obtain ⟨rfl, hk0⟩ := hal
      have hc' := (hwx _ hx).cases
      have g1 : k' ≠ 1 := by
        rintro rfl
        rcases hc' with ⟨e, _⟩ | ⟨_, _, _, _, e⟩ | ⟨e, _⟩ | ⟨e, _⟩ | ⟨e | e, _⟩ <;> cases e
      have g3 : k' ≠ 3 := by
        rintro rfl
        rcases hc' with ⟨e, _⟩ | ⟨e, _⟩ | ⟨_, _, _, e⟩ | ⟨e, _⟩ | ⟨e | e, _⟩ <;> cases e
      obtain ⟨e1, e2⟩ := head_at hn (hwx _ hx) (hk'.2 _ hx) hk0 g1 g3
      exact ⟨_, sh_bare nm h' d hk0 g1 g3, e1, e2⟩
/-! ### Tokens of what is written -/
theorem good_mark {c : UInt8} (h : mkI (bI c) = true) : GoodT (1, ⟨#[c]⟩) := .inl ⟨rfl, c, rfl, h⟩
theorem good_bnm {d : Nat} (h : d < 100) : GoodT (0, bnm d) := .inr ⟨rfl, by simp [bnm], bnm_nm h⟩
theorem sh_goodT {nm : Int → ByteArray} {n : Nat} (hn : ∀ h : Nat, h < n → GoodT (0, nm h)) (t : T) : ∀ d, Wr_ n d t → ∀ z ∈ shT nm t d, GoodT z := by
  refine T.ind (M := fun t => ∀ d, Wr_ n d t → ∀ z ∈ shT nm t d, GoodT z) ?_ t
  intro k h xs ih d hw z hz
  have hd := hw.deep
  rw [dp] at hd
  have gm : ∀ c ∈ [mO, mC, mL, mR, mP, mQ, mK, mD], GoodT c := by
    intro c hc
    simp only [List.mem_cons, List.not_mem_nil, or_false] at hc
    rcases hc with rfl | rfl | rfl | rfl | rfl | rfl | rfl | rfl <;> exact good_mark (by decide)
  rcases hw.cases with ⟨rfl, rfl, rfl⟩ | ⟨rfl, rfl, a, b, rfl⟩ | ⟨rfl, rfl, a, rfl⟩ | hc
  · rw [sh_sort, List.mem_singleton] at hz
    subst hz
    exact .inr ⟨rfl, by decide, by decide⟩
  · obtain ⟨wa, wb⟩ := hw.pi
    simp only [dpL] at hd
    rw [sh_pi] at hz
    simp only [List.mem_cons, List.mem_append] at hz
    rcases hz with rfl | rfl | rfl | hz | rfl | hz
    · exact gm _ (by simp)
    · exact good_bnm (by omega)
    · exact gm _ (by simp)
    · exact ih a (by simp) d wa z hz
    · exact gm _ (by simp)
    · exact ih b (by simp) (d + 1) wb z hz
  · have wa := hw.lam
    simp only [dpL] at hd
    rw [sh_lam] at hz
    simp only [List.mem_cons] at hz
    rcases hz with rfl | rfl | rfl | hz
    · exact gm _ (by simp)
    · exact good_bnm (by omega)
    · exact gm _ (by simp)
    · exact ih a (by simp) (d + 1) wa z hz
  · have h0 : k ≠ 0 := by omega
    have h1 : k ≠ 1 := by omega
    have h3 : k ≠ 3 := by omega
    have hwx := hw.args h1 h3
    rw [sh_head nm h xs d h0 h1 h3, List.mem_cons, List.mem_flatMap] at hz
    rcases hz with rfl | ⟨x, hx, hz⟩
    · rcases hc with ⟨rfl, e1, e2⟩ | ⟨e, e1, e2⟩
      · rw [hdS, if_pos rfl]; exact good_bnm (by omega)
      · obtain ⟨g, rfl⟩ : ∃ g : Nat, h = g := ⟨h.toNat, by omega⟩
        rw [hdS, if_neg (by rcases e with rfl | rfl <;> decide)]
        exact hn g (by omega)
    · rw [argS] at hz
      split at hz
      · exact ih x hx d (hwx x hx) z hz
      · simp only [List.mem_cons, List.mem_append, List.not_mem_nil, or_false] at hz
        rcases hz with rfl | hz | rfl
        · exact gm _ (by simp)
        · exact ih x hx d (hwx x hx) z hz
        · exact gm _ (by simp)
theorem good_name {s : ByteArray} (h : NmP s) : GoodT (0, s) := .inr ⟨rfl, h.ne, h.nm⟩
/-- a text of a term is read as that -/
theorem readT_sh {nm : Int → ByteArray} {kd : Int → Bool} {sg : List (ByteArray × T)} {n : Nat} (hn : NmOk nm kd sg n) (hg : ∀ h : Nat, h < n → GoodT (0, nm h)) {t : T} (hw : Wr_ n 0 t) (hk : kdB kd t = true) (hs : nd t ≤ 4000) (hl : (txtL false (shT nm t 0)).length ≤ 20000) :
    readT sg (txtL false (shT nm t 0)) = .ok t := by
  obtain ⟨e1, e2⟩ := lex_of (toks_txt (sh_goodT hg t 0 hw)) hl
  have h1 := term_sh hn t 0 120 [] hw hk (by have := hw.deep; omega) rfl
  rw [List.append_nil] at h1
  have hm : mayB t = true := by
    rw [mayB_my (by omega), myB_iff]
    exact ⟨hw.nod, hs, by have := hw.deep; omega⟩
  unfold readT
  rw [if_neg (by rw [e1]; simp), e2, wholeE, wholeM, show ([] : List ByteArray) = bds 0 from rfl, h1]
  dsimp only
  rw [if_pos hm]
  rfl
end Go.Proofs.YtmkahbbcagfbhaaGreatDoor
