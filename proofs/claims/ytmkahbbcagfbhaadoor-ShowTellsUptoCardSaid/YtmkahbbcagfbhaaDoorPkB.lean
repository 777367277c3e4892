/-
  Texts of one proof, put together. No statement is proved here.
-/
import Derived.Test.YtmkahbbcagfbhaaDoorBo
import Derived.Test.YtmkahbbcagfbhaaDoorXn
import Derived.Test.YtmkahbbcagfbhaaDoorXm
import Derived.Test.YtmkahbbcagfbhaaDoorOp

/-
  Declarations of an argument with their names; the map of numbers as it grows; tokens of a text are what they may be. No statement is proved here.
-/
namespace Go.Proofs.YtmkahbbcagfbhaaDoor
open Go.ChangeShapes Go.WideShapes Go.ChangeAt Go.RowKit
set_option linter.unusedVariables false

/-- declarations with their names, wherever they lie -/
structure DS (w : World) (ds : List (ByteArray × T)) (A : Option Addr) (n c : Nat) : Prop where
  len : ds.length = n
  le : n ≤ c
  cap : c ≤ maxLen
  sz : ∀ d ∈ ds, d.1.size ≤ maxLen
  at_ : ∀ i d, ds[i]? = some d → ∃ b o k h A' n' c', A = some ⟨b, o, none⟩ ∧ w.cell? ⟨b, o + i * 4, none⟩ = some (.string d.1) ∧ w.cell? ⟨b, o + i * 4 + 1, none⟩ = some (.int .i64 k) ∧ w.cell? ⟨b, o + i * 4 + 2, none⟩ = some (.int .i64 h) ∧
    w.cell? ⟨b, o + i * 4 + 3, none⟩ = some (.slice A' n' c') ∧ Rd w d.2 (.agg #[.int .i64 k, .int .i64 h, .slice A' n' c'])
theorem DS.nil (w : World) : DS w [] none 0 0 := ⟨rfl, Nat.le_refl _, Nat.zero_le _, (fun d hd => by cases hd), fun i d hd => by simp at hd⟩
theorem DS.keep {w w' : World} {ds : List (ByteArray × T)} {A : Option Addr} {n c : Nat} (h : DS w ds A n c) (hb : Below w.heap.size w w') : DS w' ds A n c :=
  ⟨h.len, h.le, h.cap, h.sz, fun i d hd => by
    obtain ⟨b, o, k, g, A', n', c', e, c0, c1, c2, c3, hr⟩ := h.at_ i d hd
    exact ⟨b, o, k, g, A', n', c', e, (hb.cell (cell_ltX c0)).trans c0, (hb.cell (cell_ltX c1)).trans c1, (hb.cell (cell_ltX c2)).trans c2, (hb.cell (cell_ltX c3)).trans c3, Rd.keep hb _ _ hr⟩⟩
theorem DS.dln {w w' : World} {ds : List (ByteArray × T)} {A : Option Addr} {n c b0 R : Nat} (h : DS w ds A n c) (hw : ∀ b, b < w.heap.size → w'.heap[b]? = w.heap[b]?) (hb : w.heap.size ≤ b0) (hR : w.heap.size ≤ R) : DLn b0 R w' ds A n c :=
  ⟨h.len, h.le, h.cap, fun i d hd => by
    obtain ⟨b, o, k, g, A', n', c', e, c0, c1, c2, c3, hr⟩ := h.at_ i d hd
    have e' : ∀ j, w'.cell? ⟨b, j, none⟩ = w.cell? ⟨b, j, none⟩ := fun j => World.cell?_of_block (w := w) (hw b (cell_ltX c0))
    have hl := cell_ltX c0
    dsimp only at hl
    exact ⟨b, o, k, g, A', n', c', e, ⟨by omega, by omega⟩, (e' _).trans c0, (e' _).trans c1, (e' _).trans c2, (e' _).trans c3, RdF.moveQ (fun q hq hl => ⟨⟨by omega, by omega⟩, hw q hl⟩) _ _ (rdF_anyQ _ _ hr)⟩⟩
theorem DLn.ds {w : World} {ds : List (ByteArray × T)} {A : Option Addr} {n c b0 R : Nat} (h : DLn b0 R w ds A n c) (hs : ∀ d ∈ ds, d.1.size ≤ maxLen) : DS w ds A n c :=
  ⟨h.len, h.le, h.cap, hs, fun i d hd => by
    obtain ⟨b, o, k, g, A', n', c', e, _, c0, c1, c2, c3, hr⟩ := h.at_ i d hd
    exact ⟨b, o, k, g, A', n', c', e, c0, c1, c2, c3, RdF.rd _ _ hr⟩⟩

theorem posD_app (s : ByteArray) (d : ByteArray × T) : ∀ sg : List (ByteArray × T), posD s (sg ++ [d]) = match posD s sg with
    | some p => some p
    | none => if d.1 = s then some (sg.length, d.2) else none
  | [] => rfl
  | e :: sg => by
    rw [List.cons_append, posD, posD, posD_app s d sg]
    by_cases h : e.1 = s
    · simp only [if_pos h]
    · simp only [if_neg h]
      cases posD s sg with
      | some p => rfl
      | none =>
        dsimp only
        split
        · rename_i hd; simp
        · rfl
theorem NumOk.nil : NumOk #[] [] := ⟨fun x hx => by simp at hx, fun s p h => by cases h⟩
/-- one declaration more, whose name is there already -/
theorem NumOk.same {es : Array MapEntry} {sg : List (ByteArray × T)} (h : NumOk es sg) {d : ByteArray × T} (hd : (posD d.1 sg).isSome = true) : NumOk es (sg ++ [d]) := by
  refine ⟨fun x hx => ?_, fun s p hp => ?_⟩
  · obtain ⟨s, i, t, e1, e2, e3⟩ := h.keys x hx
    exact ⟨s, i, t, e1, by rw [posD_app, e2], e3⟩
  · rw [posD_app] at hp
    cases hq : posD s sg with
    | some q => exact h.all s q hq
    | none =>
      rw [hq] at hp
      dsimp only at hp
      split at hp
      · rename_i e; rw [e, hq] at hd; cases hd
      · cases hp
/-- one more, whose name is new -/
theorem NumOk.push {es : Array MapEntry} {sg : List (ByteArray × T)} {cl : Nat} (h : NumOk es sg) {d : ByteArray × T} (hd : posD d.1 sg = none) (hs : d.1.size ≤ maxLen) : NumOk (es.push ⟨.string d.1, .int .i64 (sg.length : Nat), cl⟩) (sg ++ [d]) := by
  refine ⟨fun x hx => ?_, fun s p hp => ?_⟩
  · rw [Array.toList_push, List.mem_append, List.mem_singleton] at hx
    rcases hx with hx | rfl
    · obtain ⟨s, i, t, e1, e2, e3⟩ := h.keys x hx
      exact ⟨s, i, t, e1, by rw [posD_app, e2], e3⟩
    · exact ⟨d.1, sg.length, d.2, rfl, by rw [posD_app, hd]; simp, rfl, hs⟩
  · rw [posD_app] at hp
    cases hq : posD s sg with
    | some q =>
      obtain ⟨x, hx, e⟩ := h.all s q hq
      exact ⟨x, by rw [Array.toList_push]; exact List.mem_append_left _ hx, e⟩
    | none =>
      rw [hq] at hp
      dsimp only at hp
      split at hp
      · rename_i e
        exact ⟨_, by rw [Array.toList_push]; exact List.mem_append_right _ (List.mem_singleton.2 rfl), by rw [e]⟩
      · cases hp
/-- a name that is not there is put in -/
theorem put_num {es : Array MapEntry} {cl K : Nat} {sg : List (ByteArray × T)} {s : ByteArray} (hs : s.size ≤ maxLen) {w : World} (hm : w.heap[K]? = some (.map es cl)) (hk : NumOk es sg) (hno : posD s sg = none) (v : Value) :
    (Instr.mapUpdate 55 (.map (some K)) (.string s) v).run Tryd.prog w = .ok () { w with heap := w.heap.setIfInBounds K (.map (es.push ⟨.string s, v, cl⟩) (cl + 1)) } := by
  obtain ⟨l, hl⟩ := strKey hs
  rcases strLaw.find w hl es.toList hk.keyed with ⟨h1, h2⟩ | ⟨j, e, h1, h2, h3⟩
  · simp [Instr.mapUpdate, run_underlying Tryd.underlying55, MapKept.run_getObj_map hm, strLaw.check w false hl, h1, MapKept.run_setObj_map _ hm, Result.andThen]
  · obtain ⟨s', i, t, e1, e2, _⟩ := hk.keys e (List.mem_of_getElem? h2)
    rw [e1] at h3
    cases h3
    rw [hno] at e2
    cases e2
/-- tokens of a text -/
theorem tok_mem_len {x : List Tk} : ∀ {t : Tk}, t ∈ x → t.2.size ≤ (bytesL x).length := by
  induction x with
  | nil => intro t ht; cases ht
  | cons u x ih =>
    intro t ht
    have e : (bytesL (u :: x)).length = u.2.size + (bytesL x).length := by
      show (u.2.data.toList ++ bytesL x).length = _
      rw [List.length_append, Array.length_toList]; rfl
    rcases List.mem_cons.1 ht with rfl | ht
    · omega
    · have := ih ht; omega
theorem lex_good (l : List UInt8) : ∀ t ∈ lexT l, TkG t := by
  intro t ht
  by_cases hl : 20000 < l.length
  · rw [lexT, if_pos hl] at ht; cases ht
  rcases lexE_cases l (by omega) with ⟨_, hx⟩ | ⟨_, _, hx⟩
  · have hg := toks_good hx t ht
    have hsz : t.2.size ≤ maxLen := by
      have h1 := tok_mem_len ht
      unfold toksL at hx
      cases hr : runL ⟨[], [], false⟩ l with
      | none => rw [hr] at hx; cases hx
      | some s =>
        rw [hr] at hx
        have hx' : fin s = lexT l := by simpa using hx
        have h2 := bytes_len l hr
        rw [hx'] at h2
        have h3 : (bytesL (fin ⟨[], [], false⟩)).length = 0 := rfl
        unfold maxLen
        omega
    rcases hg with ⟨h1, c, h2, h3⟩ | ⟨h1, h2, h3⟩
    · refine ⟨fun e => ?_, fun e => ?_, fun e => ?_, fun e => ?_, hsz⟩
      · rw [e] at h2
        have := congrArg (fun b : ByteArray => b.data.toList.length) h2
        simp at this
      all_goals (rw [h1] at e; exact absurd e (by decide))
    · have hno : ∀ c : UInt8, nmI (bI c) = false → t.2 ≠ ⟨#[c]⟩ := fun c hc e => by
        have := h3 c (by rw [e]; simp)
        rw [hc] at this; cases this
      exact ⟨fun e => by rw [e] at h1; exact absurd h1 (by decide), fun _ => hno 123 (by decide), fun _ => hno 91 (by decide), fun _ => hno 40 (by decide), hsz⟩
  · rw [hx] at ht; cases ht
end Go.Proofs.YtmkahbbcagfbhaaDoor

/-
  Arguments' readings that are strings. No statement is proved here.
-/
namespace Go.Proofs.YtmkahbbcagfbhaaDoor
open Go.ChangeShapes Go.WideShapes Go.ChangeAt Go.RowKit Go.Deep
set_option linter.unusedVariables false

section
variable {H : Type} {enc : TypeId × Value → H} {P : Program} {w : World} {base : Nat} {spare : Nat → Bool} {held : Bool}
theorem open_string {r : Reach} {b0 : Nat} {t : TypeId} {v : Value} {d : DataW H} {ps : List MemPlace} (ht : P.underlying t = some .string) (hval : Value.okWide P w r b0 t v) (hd : DataW.Trod enc P w base spare held t v d ps) :
    ∃ s, v = .string s ∧ d = .lit (.string s.data.toList) ∧ ps = [] ∧ s.size ≤ maxLen := by
  obtain ⟨s, rfl⟩ := okWide_string ht hval
  obtain ⟨fuel, hf⟩ := hd
  obtain ⟨s', h, hx, hs⟩ := DataW.trod_string ht hf
  simp only [Value.cells, List.cons.injEq, and_true, Value.string.injEq] at h
  subst h
  simp only [Prod.mk.injEq] at hx
  exact ⟨s, rfl, hx.1, hx.2, hs⟩
theorem shut_string {t : TypeId} {s : ByteArray} (ht : P.underlying t = some .string) (hs : s.size ≤ maxLen) : DataW.Trod enc P w base spare held t (.string s) (.lit (.string s.data.toList)) [] :=
  ⟨1, by simp [DataW.trod, Value.cells, ht, hs]⟩
end
end Go.Proofs.YtmkahbbcagfbhaaDoor

/-
  Arguments' readings that are lists of declarations with their names, and whether they are few. No statement is proved here.
-/
namespace Go.Proofs.YtmkahbbcagfbhaaDoor
open Go.ChangeShapes Go.WideShapes Go.ChangeAt Go.RowKit Go.Deep
set_option linter.unusedVariables false
set_option maxRecDepth 100000
section
variable {H : Type} {enc : TypeId × Value → H} {w : World} {base : Nat} {spare : Nat → Bool} {held : Bool}

theorem cellsDecN : Tryd.prog.cellsOf 41 = 4 := by kernel_rfl
theorem trod_declN {fuel : Nat} {cs : List Value} {x : DataW H × List MemPlace} (hx : DataW.trod enc Tryd.prog w base spare held fuel 41 cs = some x) :
    ∃ (y : T) (s : ByteArray) (v1 v2 v3 : Value), cs = [.string s, v1, v2, v3] ∧ Rd w y (.agg #[v1, v2, v3]) ∧ s.size ≤ maxLen := by
  obtain ⟨ys, n, rfl, hxe, hl, hyl, hf⟩ := DataW.trod_struct Tryd.underlying41 hx
  rw [cellsDecN] at hl
  match cs, hl with
  | [v0, v1, v2, v3], _ =>
    match ys, hyl with
    | [y0, y1], _ =>
      have h0 : DataW.trod enc Tryd.prog w base spare held n 9 (([v0, v1, v2, v3].drop 0).take (Tryd.prog.cellsOf 9)) = some y0 := hf 0 _ rfl
      have h1 : DataW.trod enc Tryd.prog w base spare held n 24 (([v0, v1, v2, v3].drop 1).take (Tryd.prog.cellsOf 24)) = some y1 := hf 1 _ rfl
      simp only [cellsStr, Tryd.cellsTerm, List.drop_zero, List.drop_succ_cons, List.take_succ_cons, List.take_zero] at h0 h1
      obtain ⟨s, e0, _, hs⟩ := DataW.trod_string Tryd.underlying9 h0
      simp only [List.cons.injEq, and_true] at e0
      subst e0
      obtain ⟨t, u0, u1, u2, e, hr, hle, _⟩ := trod_term n _ _ h1
      simp only [List.cons.injEq, and_true] at e
      obtain ⟨rfl, rfl, rfl⟩ := e
      exact ⟨t, s, _, _, _, rfl, hr, hs⟩
/-- one declaration, in memory -/
def DNt (w : World) (A : Option Addr) (i : Nat) (d : ByteArray × T) : Prop := ∃ b o k h A' n' c', A = some ⟨b, o, none⟩ ∧ w.cell? ⟨b, o + i * 4, none⟩ = some (.string d.1) ∧ w.cell? ⟨b, o + i * 4 + 1, none⟩ = some (.int .i64 k) ∧ w.cell? ⟨b, o + i * 4 + 2, none⟩ = some (.int .i64 h) ∧
    w.cell? ⟨b, o + i * 4 + 3, none⟩ = some (.slice A' n' c') ∧ Rd w d.2 (.agg #[.int .i64 k, .int .i64 h, .slice A' n' c'])
theorem list_ofN {α : Type} {P : Nat → α → Prop} : ∀ (n : Nat), (∀ i, i < n → ∃ y, P i y) → ∃ xs : List α, xs.length = n ∧ ∀ i y, xs[i]? = some y → P i y
  | 0, _ => ⟨[], rfl, fun i y h => by simp at h⟩
  | n + 1, h => by
    obtain ⟨xs, hl, hx⟩ := list_ofN n fun i hi => h i (by omega)
    obtain ⟨y, hy⟩ := h n (by omega)
    refine ⟨xs ++ [y], by simp [hl], fun i z hz => ?_⟩
    by_cases hi : i < n
    · rw [List.getElem?_append_left (by omega)] at hz
      exact hx i z hz
    · have h2 := (List.getElem?_eq_some_iff.1 hz).1
      simp only [List.length_append, List.length_cons, List.length_nil] at h2
      obtain rfl : n = i := by omega
      rw [List.getElem?_append_right (by omega), hl, Nat.sub_self, List.getElem?_cons_zero, Option.some.injEq] at hz
      rw [← hz]; exact hy
theorem open_declsN {r : Reach} {b0 : Nat} {v : Value} {d : DataW H} {p : List MemPlace} (hv : Value.okWide Tryd.prog w r b0 25 v) (h : DataW.Trod enc Tryd.prog w base spare held 25 v d p) :
    ∃ (ds : List (ByteArray × T)) (A : Option Addr) (n c : Nat), v = .slice A n c ∧ DS w ds A n c := by
  obtain ⟨fuel, hf⟩ := h
  obtain ⟨a0, l0, c0, rfl⟩ := okWide_slice Tryd.underlying25 hv
  rcases DataW.trod_slice Tryd.underlying25 hf with ⟨e2, hy2⟩ | ⟨a, len, cap, elems, rest, m, rfl, e2, hy2, hb, hlc, hm, hel, hat, _, _⟩
  · simp only [Value.cells, List.cons.injEq, and_true] at e2
    exact ⟨[], none, 0, 0, e2, DS.nil w⟩
  · simp only [Value.cells, List.cons.injEq, and_true] at e2
    rw [e2]
    have first : ∀ i, i < len → ∃ y : T, ∃ s v1 v2 v3, w.cell? (a.add (i * 4 + 0)) = some (.string s) ∧ w.cell? (a.add (i * 4 + 1)) = some v1 ∧ w.cell? (a.add (i * 4 + 2)) = some v2 ∧ w.cell? (a.add (i * 4 + 3)) = some v3 ∧ Rd w y (.agg #[v1, v2, v3]) ∧ s.size ≤ maxLen := by
      intro i hi
      have hi' := hat i hi
      rw [List.getElem?_eq_getElem (by omega), Option.bind_eq_some_iff] at hi'
      obtain ⟨cs', hcs, htr⟩ := hi'
      obtain ⟨y, s, u1, u2, u3, rfl, hr, hle⟩ := trod_declN htr
      rw [cellsDecN] at hcs
      obtain ⟨_, _, hcell⟩ := World.cells?_some hcs
      have c0 := hcell 0 (by omega)
      have c1 := hcell 1 (by omega)
      have c2 := hcell 2 (by omega)
      have c3 := hcell 3 (by omega)
      simp only [List.getElem?_cons_zero, List.getElem?_cons_succ, add_add] at c0 c1 c2 c3
      exact ⟨y, s, u1, u2, u3, c0, c1, c2, c3, hr, hle⟩
    have each : ∀ i, i < len → ∃ y : ByteArray × T, DNt w (some a) i y ∧ y.1.size ≤ maxLen := by
      intro i hi
      obtain ⟨y, s, v1, v2, v3, c0, c1, c2, c3, hr, hs⟩ := first i hi
      obtain ⟨y', _, _, _, _, c00, _⟩ := first 0 (by omega)
      have hs0 := cell_spotX c00
      obtain ⟨b, o, sp⟩ := a
      have hsp : sp = none := by simpa [Addr.add] using hs0
      subst hsp
      rw [addr_addX] at c0 c1 c2 c3
      obtain ⟨k, h, A, n, c, e⟩ := hr.full
      simp only [Value.agg.injEq, Array.mk.injEq, List.cons.injEq, and_true] at e
      obtain ⟨rfl, rfl, rfl⟩ := e
      exact ⟨(s, y), ⟨b, o, k, h, A, n, c, rfl, c0, by rw [Nat.add_assoc]; exact c1, by rw [Nat.add_assoc]; exact c2, by rw [Nat.add_assoc]; exact c3, hr⟩, hs⟩
    obtain ⟨xs, hxl, hxs⟩ := list_ofN len each
    exact ⟨xs, some a, len, cap, rfl, hxl, hlc, hm, fun x hx => by
      obtain ⟨i, hi⟩ := List.getElem?_of_mem hx
      exact (hxs i x hi).2, fun i y hy => (hxs i y hy).1⟩
end
set_option maxRecDepth 100000 in
set_option maxHeartbeats 800000 in
theorem fewN (ds : List (ByteArray × T)) (A : Option Addr) (n c : Nat) (w : World) (hx : DS w ds A n c) :
    Calls Tryd.prog 8 #[.slice A n c] w fun e w' => ∃ r : Bool, e = .returned (.bool r) ∧ (r = true → n ≤ 30) ∧ Below w.heap.size w w' := by
  have hm := hx.cap
  have hc := hx.le
  have hln := hx.len
  unfold maxLen at hm
  have HX := Lib.hid hx; clear hx
  by_cases hgt : 30 < n
  · have d1 : decide ((30 : Int) < (n : Int)) = true := by simp; omega
    clear hgt
    go_enter Tryd.func8, Tryd.ntmps8
    go_wp2_with fail
    go_ret
    exact ⟨_, rfl, (fun h => by cases h), Below.refl _ _⟩
  · have d1 : decide ((30 : Int) < (n : Int)) = false := by simp; omega
    go_enter Tryd.func8, Tryd.ntmps8
    go_wp2_with fail
    go_loopw [3] (fun i wr => ∃ (j : Nat), j ≤ n ∧ i = .int .i64 j ∧ Below w.heap.size w wr) (fun i _ => n - (Go.RowKit.intOf i).toNat)
    case atStart => exact ⟨0, Nat.zero_le _, rfl, Below.refl _ _⟩
    case round =>
      obtain ⟨j, hj, rfl, hb⟩ := hrel
      by_cases hlt : j < n
      · obtain ⟨x, hx⟩ := at_ofX hln hlt
        obtain ⟨b1, o1, k1, h1, A1, n1, c1, hA, c0, c1', c2, c3, hr1⟩ := (HX.out.keep hb).at_ j x hx
        subst hA
        have hi0 : (0 : Int) ≤ j := by omega
        have hi1 : (j : Int) < n := by omega
        have HC := Lib.hid (refLight x.2 1000 80 _ wr hr1)
        clear hr1 hx
        generalize ltB x.2 1000 80 = r at *
        go_wp2_with fail
        refine HC.out.mono ?_
        rintro e w1 ⟨rfl, hb1⟩
        replace hb := hb.trans (hb1.mono hb.size)
        clear hb1 c0 c1' c2 c3 HC
        cases r
        · go_wp2_with fail
          go_ret
          exact ⟨_, rfl, (fun h => by cases h), hb⟩
        · go_wp2_with fail
          go_roundw
          case rel => exact ⟨j + 1, by omega, by go_num, hb⟩
          case measure => simp [Go.RowKit.intOf]; omega
      · go_wp2_with fail
        go_ret
        exact ⟨_, rfl, (fun _ => by omega), hb⟩
end Go.Proofs.YtmkahbbcagfbhaaDoor
