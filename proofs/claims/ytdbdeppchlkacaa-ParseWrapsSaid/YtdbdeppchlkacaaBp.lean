/-
  Declarations of an argument with their names; the map of numbers as it grows; tokens of a text are what they may be. No statement is proved here.
-/
import Derived.Test.YtdbdeppchlkacaaBo
import Derived.Test.YtdbdeppchlkacaaXn
namespace Go.Proofs.Ytdbdeppchlkacaa
open Go.ChangeShapes Go.WideShapes Go.ChangeAt Go.RowKit
set_option linter.unusedVariables false

/-- declarations with their names, wherever they lie -/
structure DS (w : World) (ds : List (ByteArray × T)) (A : Option Addr) (n c : Nat) : Prop where
  len : ds.length = n
  le : n ≤ c
  cap : c ≤ maxLen
  sz : ∀ d ∈ ds, d.1.size ≤ maxLen
  at_ : ∀ i d, ds[i]? = some d → ∃ b o k h A' n' c', A = some ⟨b, o, none⟩ ∧ w.cell? ⟨b, o + i * 4, none⟩ = some (.string d.1) ∧ w.cell? ⟨b, o + i * 4 + 1, none⟩ = some (.int .i64 k) ∧ w.cell? ⟨b, o + i * 4 + 2, none⟩ = some (.int .i64 h) ∧
    w.cell? ⟨b, o + i * 4 + 3, none⟩ = some (.slice A' n' c') ∧ Rd w d.2 (.agg #[.int .i64 k, .int .i64 h, .slice A' n' c'])
theorem DS.nil (w : World) : DS w [] none 0 0 := ⟨rfl, Nat.le_refl _, Nat.zero_le _, (fun d hd => by cases hd), fun i d hd => by simp at hd⟩
theorem DS.keep {w w' : World} {ds : List (ByteArray × T)} {A : Option Addr} {n c : Nat} (h : DS w ds A n c) (hb : Below w.heap.size w w') : DS w' ds A n c :=
  ⟨h.len, h.le, h.cap, h.sz, fun i d hd => by
    obtain ⟨b, o, k, g, A', n', c', e, c0, c1, c2, c3, hr⟩ := h.at_ i d hd
    exact ⟨b, o, k, g, A', n', c', e, (hb.cell (cell_ltX c0)).trans c0, (hb.cell (cell_ltX c1)).trans c1, (hb.cell (cell_ltX c2)).trans c2, (hb.cell (cell_ltX c3)).trans c3, Rd.keep hb _ _ hr⟩⟩
theorem DS.dln {w w' : World} {ds : List (ByteArray × T)} {A : Option Addr} {n c b0 R : Nat} (h : DS w ds A n c) (hw : ∀ b, b < w.heap.size → w'.heap[b]? = w.heap[b]?) (hb : w.heap.size ≤ b0) (hR : w.heap.size ≤ R) : DLn b0 R w' ds A n c :=
  ⟨h.len, h.le, h.cap, fun i d hd => by
    obtain ⟨b, o, k, g, A', n', c', e, c0, c1, c2, c3, hr⟩ := h.at_ i d hd
    have e' : ∀ j, w'.cell? ⟨b, j, none⟩ = w.cell? ⟨b, j, none⟩ := fun j => World.cell?_of_block (w := w) (hw b (cell_ltX c0))
    have hl := cell_ltX c0
    dsimp only at hl
    exact ⟨b, o, k, g, A', n', c', e, ⟨by omega, by omega⟩, (e' _).trans c0, (e' _).trans c1, (e' _).trans c2, (e' _).trans c3, RdF.moveQ (fun q hq hl => ⟨⟨by omega, by omega⟩, hw q hl⟩) _ _ (rdF_anyQ _ _ hr)⟩⟩
theorem DLn.ds {w : World} {ds : List (ByteArray × T)} {A : Option Addr} {n c b0 R : Nat} (h : DLn b0 R w ds A n c) (hs : ∀ d ∈ ds, d.1.size ≤ maxLen) : DS w ds A n c :=
  ⟨h.len, h.le, h.cap, hs, fun i d hd => by
    obtain ⟨b, o, k, g, A', n', c', e, _, c0, c1, c2, c3, hr⟩ := h.at_ i d hd
    exact ⟨b, o, k, g, A', n', c', e, c0, c1, c2, c3, RdF.rd _ _ hr⟩⟩

theorem posD_app (s : ByteArray) (d : ByteArray × T) : ∀ sg : List (ByteArray × T), posD s (sg ++ [d]) = match posD s sg with
    | some p => some p
    | none => if d.1 = s then some (sg.length, d.2) else none
  | [] => rfl
  | e :: sg => by
    rw [List.cons_append, posD, posD, posD_app s d sg]
    by_cases h : e.1 = s
    · simp only [if_pos h]
    · simp only [if_neg h]
      cases posD s sg with
      | some p => rfl
      | none =>
        dsimp only
        split
        · rename_i hd; simp
        · rfl
theorem NumOk.nil : NumOk #[] [] := ⟨fun x hx => by simp at hx, fun s p h => by cases h⟩
/-- one declaration more, whose name is there already -/
theorem NumOk.same {es : Array MapEntry} {sg : List (ByteArray × T)} (h : NumOk es sg) {d : ByteArray × T} (hd : (posD d.1 sg).isSome = true) : NumOk es (sg ++ [d]) := by
  refine ⟨fun x hx => ?_, fun s p hp => ?_⟩
  · obtain ⟨s, i, t, e1, e2, e3⟩ := h.keys x hx
    exact ⟨s, i, t, e1, by rw [posD_app, e2], e3⟩
  · rw [posD_app] at hp
    cases hq : posD s sg with
    | some q => exact h.all s q hq
    | none =>
      rw [hq] at hp
      dsimp only at hp
      split at hp
      · rename_i e; rw [e, hq] at hd; cases hd
      · cases hp
/-- one more, whose name is new -/
theorem NumOk.push {es : Array MapEntry} {sg : List (ByteArray × T)} {cl : Nat} (h : NumOk es sg) {d : ByteArray × T} (hd : posD d.1 sg = none) (hs : d.1.size ≤ maxLen) : NumOk (es.push ⟨.string d.1, .int .i64 (sg.length : Nat), cl⟩) (sg ++ [d]) := by
  refine ⟨fun x hx => ?_, fun s p hp => ?_⟩
  · rw [Array.toList_push, List.mem_append, List.mem_singleton] at hx
    rcases hx with hx | rfl
    · obtain ⟨s, i, t, e1, e2, e3⟩ := h.keys x hx
      exact ⟨s, i, t, e1, by rw [posD_app, e2], e3⟩
    · exact ⟨d.1, sg.length, d.2, rfl, by rw [posD_app, hd]; simp, rfl, hs⟩
  · rw [posD_app] at hp
    cases hq : posD s sg with
    | some q =>
      obtain ⟨x, hx, e⟩ := h.all s q hq
      exact ⟨x, by rw [Array.toList_push]; exact List.mem_append_left _ hx, e⟩
    | none =>
      rw [hq] at hp
      dsimp only at hp
      split at hp
      · rename_i e
        exact ⟨_, by rw [Array.toList_push]; exact List.mem_append_right _ (List.mem_singleton.2 rfl), by rw [e]⟩
      · cases hp
/-- a name that is not there is put in -/
theorem put_num {es : Array MapEntry} {cl K : Nat} {sg : List (ByteArray × T)} {s : ByteArray} (hs : s.size ≤ maxLen) {w : World} (hm : w.heap[K]? = some (.map es cl)) (hk : NumOk es sg) (hno : posD s sg = none) (v : Value) :
    (Instr.mapUpdate 51 (.map (some K)) (.string s) v).run Try.prog w = .ok () { w with heap := w.heap.setIfInBounds K (.map (es.push ⟨.string s, v, cl⟩) (cl + 1)) } := by
  obtain ⟨l, hl⟩ := strKey hs
  rcases strLaw.find w hl es.toList hk.keyed with ⟨h1, h2⟩ | ⟨j, e, h1, h2, h3⟩
  · simp [Instr.mapUpdate, run_underlying Try.underlying51, MapKept.run_getObj_map hm, strLaw.check w false hl, h1, MapKept.run_setObj_map _ hm, Result.andThen]
  · obtain ⟨s', i, t, e1, e2, _⟩ := hk.keys e (List.mem_of_getElem? h2)
    rw [e1] at h3
    cases h3
    rw [hno] at e2
    cases e2
/-- tokens of a text -/
theorem tok_mem_len {x : List Tk} : ∀ {t : Tk}, t ∈ x → t.2.size ≤ (bytesL x).length := by
  induction x with
  | nil => intro t ht; cases ht
  | cons u x ih =>
    intro t ht
    have e : (bytesL (u :: x)).length = u.2.size + (bytesL x).length := by
      show (u.2.data.toList ++ bytesL x).length = _
      rw [List.length_append, Array.length_toList]; rfl
    rcases List.mem_cons.1 ht with rfl | ht
    · omega
    · have := ih ht; omega
theorem lex_good (l : List UInt8) : ∀ t ∈ lexT l, TkG t := by
  intro t ht
  by_cases hl : 20000 < l.length
  · rw [lexT, if_pos hl] at ht; cases ht
  rcases lexE_cases l (by omega) with ⟨_, hx⟩ | ⟨_, _, hx⟩
  · have hg := toks_good hx t ht
    have hsz : t.2.size ≤ maxLen := by
      have h1 := tok_mem_len ht
      unfold toksL at hx
      cases hr : runL ⟨[], [], false⟩ l with
      | none => rw [hr] at hx; cases hx
      | some s =>
        rw [hr] at hx
        have hx' : fin s = lexT l := by simpa using hx
        have h2 := bytes_len l hr
        rw [hx'] at h2
        have h3 : (bytesL (fin ⟨[], [], false⟩)).length = 0 := rfl
        unfold maxLen
        omega
    rcases hg with ⟨h1, c, h2, h3⟩ | ⟨h1, h2, h3⟩
    · refine ⟨fun e => ?_, fun e => ?_, fun e => ?_, fun e => ?_, hsz⟩
      · rw [e] at h2
        have := congrArg (fun b : ByteArray => b.data.toList.length) h2
        simp at this
      all_goals (rw [h1] at e; exact absurd e (by decide))
    · have hno : ∀ c : UInt8, nmI (bI c) = false → t.2 ≠ ⟨#[c]⟩ := fun c hc e => by
        have := h3 c (by rw [e]; simp)
        rw [hc] at this; cases this
      exact ⟨fun e => by rw [e] at h1; exact absurd h1 (by decide), fun _ => hno 123 (by decide), fun _ => hno 91 (by decide), fun _ => hno 40 (by decide), hsz⟩
  · rw [hx] at ht; cases ht
end Go.Proofs.Ytdbdeppchlkacaa
