/-
  The numbers of names, in a map; what slices.Backward hands over. No statement is proved here.
-/
import Derived.Test.YtmkahbbcagfbhaaGreatDoorBfC
import Derived.Test.YtmkahbbcagfbhaaGreatDoorVi
import Derived.Test.YtmkahbbcagfbhaaGreatDoorQa
import Derived.StringKeys
import Derived.Maps.OwnOps
namespace Go.Proofs.YtmkahbbcagfbhaaGreatDoor
open Go.ChangeShapes Go.WideShapes Go.ChangeAt Go.RowKit Go.Shelf
set_option linter.unusedVariables false
attribute [local go_sem] Oper.semAt_some
theorem strLaw : WideMaps.KeyLaw Tryz.prog 9 := WideMaps.string_law Tryz.underlying9
theorem strKey {s : ByteArray} (hs : s.size ≤ maxLen) : ∃ l, keyOf Tryz.prog 9 (.string s) = some l := ⟨_, WideMaps.keyOf_string_mk Tryz.underlying9 hs⟩
theorem NumOk.keyed {es : Array MapEntry} {sg : List (ByteArray × T)} (h : NumOk es sg) : ∀ e ∈ es.toList, ∃ l, keyOf Tryz.prog 9 e.key = some l := fun e he => by
  obtain ⟨s, i, t, hk, _, _, hs⟩ := h.keys e he
  rw [hk]
  exact strKey hs
/-- which number a name has -/
def numD (sg : List (ByteArray × T)) (s : ByteArray) : Nat := match posD s sg with
  | some p => p.1
  | none => 0
theorem look_num {es : Array MapEntry} {cl K : Nat} {sg : List (ByteArray × T)} {s : ByteArray} (hs : s.size ≤ maxLen) {w : World} (hm : w.heap[K]? = some (.map es cl)) (hk : NumOk es sg) :
    (Instr.lookup 51 (.map (some K)) (.string s) true).run Tryz.prog w = .ok (.tuple #[.int .i64 (numD sg s), .bool (posD s sg).isSome]) w := by
  obtain ⟨l, hl⟩ := strKey hs
  have hz : (zeroValue 3).run Tryz.prog w = .ok (.int .i64 0) w := by kernel_rfl
  rcases strLaw.find w hl es.toList hk.keyed with ⟨h1, h2⟩ | ⟨j, e, h1, h2, h3⟩
  · have hn : posD s sg = none := by
      cases hp : posD s sg with
      | none => rfl
      | some p =>
        obtain ⟨x, hx, e⟩ := hk.all s p hp
        exact absurd e (h2 x hx)
    rw [numD, hn]
    simp [Instr.lookup, run_underlying Tryz.underlying51, MapKept.run_getObj_map hm, strLaw.check w _ hl, h1, Result.andThen, hz]
  · obtain ⟨s', i, t, e1, e2, e3, _⟩ := hk.keys e (List.mem_of_getElem? h2)
    rw [e1] at h3
    cases h3
    rw [numD, e2]
    simp [Instr.lookup, run_underlying Tryz.underlying51, MapKept.run_getObj_map hm, strLaw.check w _ hl, h1, Result.andThen, e3]
/-- what Backward hands over -/
def bkL (ss : List ByteArray) : Nat → List (Nat × ByteArray)
  | 0 => []
  | j + 1 => (j, ss.getD j ⟨#[]⟩) :: bkL ss j
theorem bkL_len (ss : List ByteArray) : ∀ j, (bkL ss j).length = j
  | 0 => rfl
  | j + 1 => by rw [bkL, List.length_cons, bkL_len ss j]
theorem rev_take {ss : List ByteArray} {j : Nat} (h : j < ss.length) : (ss.take (j + 1)).reverse = ss.getD j ⟨#[]⟩ :: (ss.take j).reverse := by
  rw [List.take_add_one, List.reverse_append, List.getElem?_eq_getElem h, List.getD_eq_getElem?_getD, List.getElem?_eq_getElem h]
  rfl
theorem bk_none {ss : List ByteArray} {s : ByteArray} : ∀ (j : Nat), j ≤ ss.length → (∀ x ∈ bkL ss j, x.2 ≠ s) → posB s (ss.take j).reverse = none
  | 0, _, _ => by simp [posB]
  | j + 1, hj, h => by
    rw [rev_take (by omega), posB, if_neg (h (j, ss.getD j ⟨#[]⟩) (by rw [bkL]; exact List.mem_cons_self)), bk_none j (by omega) fun x hx => h x (by rw [bkL]; exact List.mem_cons_of_mem _ hx)]
    rfl
theorem bk_some {ss : List ByteArray} {s : ByteArray} {x : Nat × ByteArray} {r : List (Nat × ByteArray)} (hx : x.2 = s) : ∀ (j : Nat) (pre : List (Nat × ByteArray)), j ≤ ss.length → bkL ss j = pre ++ x :: r → (∀ y ∈ pre, y.2 ≠ s) → x.1 < j ∧ posB s (ss.take j).reverse = some (j - 1 - x.1)
  | 0, pre, _, h, _ => by
    have := congrArg List.length h
    rw [bkL, List.length_append, List.length_cons] at this
    simp at this
  | j + 1, [], hj, h, _ => by
    rw [bkL, List.nil_append, List.cons.injEq] at h
    obtain ⟨h1, _⟩ := h
    subst h1
    rw [rev_take (by omega), posB, if_pos hx]
    exact ⟨Nat.lt_succ_self _, by simp⟩
  | j + 1, y :: pre, hj, h, hn => by
    rw [bkL, List.cons_append, List.cons.injEq] at h
    obtain ⟨h1, h2⟩ := h
    obtain ⟨h3, h4⟩ := bk_some hx j pre (by omega) h2 fun z hz => hn z (List.mem_cons_of_mem _ hz)
    rw [rev_take (by omega), posB, if_neg (by have := hn y List.mem_cons_self; rw [← h1] at this; exact this), h4]
    refine ⟨by omega, ?_⟩
    simp only [Option.map_some, Option.some.injEq]
    omega
/-- a number and a name, as they are handed over -/
def encB (x : Nat × ByteArray) : Array Value := #[.int .i64 (x.1 : Nat), .string x.2]
set_option maxRecDepth 100000 in
set_option maxHeartbeats 4000000 in
theorem backStops (m : Nat) (w : World) (ss : List ByteArray) (A : Option Addr) (n c Bs : Nat) (hN : NL w ss A n c) (hBs : BoxX w Bs 98 #[.slice A n c]) :
    SeqStopsK Fence.wide m Tryz.prog 124 #[.pointer (some ⟨Bs, 0, none⟩)] encB (KB 0 0) (fun ys => ys = bkL ss n) (fun pre => ∃ r, pre ++ r = bkL ss n) n w := by
  intro l J Jx W hW hJ hJx hY h00
  refine callsIn_wide.2 ?_
  have xs := hBs.keep hW hBs.lt
  have hcap := hN.cap
  have hle := hN.le
  unfold maxLen at hcap
  have p0 : W.cell? ⟨Bs, 0, none⟩ = some (.slice A n c) := xs.cell 0
  have HXS := Lib.hid xs
  have HN := Lib.hid (hN.keep hW)
  have HJ := Lib.hid (fun s W W' (hs : J s W) (hb : Below W.heap.size W W') => hJ s W W' none hs (grown_of_below hb) (fun r e => by cases e))
  have HY := Lib.hid hY
  have H00 := Lib.hid h00
  have hwr0 : IntKind.i64.wrap ((n : Int) - 1) = (n : Int) - 1 := Go.IntWalk.i64_in _ ⟨by omega, by omega⟩
  clear xs hN hJ hJx hY h00 hW hBs
  refine (callsIn_wide (n := 1)).1 (callsIn_of_wp Tryz.func124 rfl trivial ?_ rfl)
  simp only [Tryz.ntmps124, List.size_toArray, List.length_cons, List.length_nil, Nat.reduceAdd, Nat.reduceSub, Array.replicate_succ, Array.replicate_zero, List.push_toArray, List.append_toArray, List.nil_append, List.cons_append]
  gi_wp2_with fail
  clear hwr0
  gi_loopw [3] (fun i wr => ∃ (j : Nat) (ys : List (Nat × ByteArray)), j ≤ n ∧ i = .int .i64 ((j : Int) - 1) ∧ Hid (ys ++ bkL ss j = bkL ss n) ∧ Hid (J ys wr) ∧ Hid (KB 0 0 W wr)) (fun i _ => (intOf i + 1).toNat)
  case atStart => exact ⟨n, [], Nat.le_refl _, rfl, Lib.hid rfl, H00, Lib.hid (KB.refl _ _ _)⟩
  case round =>
    obtain ⟨j, ys, hj, rfl, HS, HJr, HK⟩ := hrel
    cases j with
    | succ j =>
      obtain ⟨s, hs⟩ := at_ofX HN.out.len (show j < n by omega)
      obtain ⟨b1, o1, rfl, e0⟩ := HN.out.at_ j s hs
      have HS' := HS.out
      have hg : ss.getD j ⟨#[]⟩ = s := by rw [List.getD_eq_getElem?_getD, hs]; rfl
      rw [bkL, hg] at HS'
      have HSS := Lib.hid HS'
      have d0 : wr.cell? ⟨b1, o1 + j, none⟩ = some (.string s) := (CK.kb (n₀ := b1 + 1) (n₁ := 0) (w0 := W) ⟨fun k o _ ho _ => ho⟩ ⟨HK.out.size, fun k o _ ho hc => HK.out.cells k o (.inr (Nat.zero_le _)) ho hc⟩).cell (Nat.lt_succ_self _) e0
      have dB : wr.cell? ⟨Bs, 0, none⟩ = some (.slice (some ⟨b1, o1, none⟩) n c) := (show BoxX wr Bs 98 #[.slice (some ⟨b1, o1, none⟩) n c] from HK.out.cells Bs _ (.inr (Nat.zero_le _)) HXS.out rfl).cell 0
      have hlen : ys.length < n := by
        have e := congrArg List.length HS.out
        rw [List.length_append, bkL_len, bkL_len] at e
        omega
      have hj1 : (((j + 1 : Nat) : Int) - 1) = (j : Int) := by omega
      rw [hj1]
      obtain ⟨fn, tmps, assign, body, hy, hR⟩ := yieldAny 0 (HY.out ys (j, s) wr HJr.out hlen)
      have HRR := Lib.hid hR
      have hi0 : (0 : Int) ≤ j := by omega
      have hi1 : (j : Int) < n := by omega
      have hwr : IntKind.i64.wrap ((j : Int) - 1) = (j : Int) - 1 := Go.IntWalk.i64_in _ ⟨by omega, by omega⟩
      rw [encB] at hy
      clear HS' hg hs e0 hlen hR hj1
      gi_wp2_with fail
      refine HRR.out.mono ?_
      rintro e W3 (⟨rfl, hJ3, hk3⟩ | ⟨rfl, hJx3⟩)
      · have HJ3 := Lib.hid hJ3
        have HK3 := Lib.hid (HK.out.trans hk3)
        clear hJ3 hk3 hy HRR d0 dB
        gi_wp2_with fail
        go_roundw
        case rel => exact ⟨j, ys ++ [(j, s)], by omega, by first | rfl | go_num, Lib.hid (by rw [List.append_assoc]; exact HSS.out), HJ3, HK3⟩
        case measure => simp [intOf]
      · have HJX := Lib.hid hJx3
        clear hJx3 hy HRR d0 dB
        gi_wp2_with fail
        exact bodyPost_ret (v := .tuple #[]) (by simp [results, Tryz.results124, go_sem]) rfl ⟨⟨_, rfl⟩, .inr ⟨_, ⟨_, by rw [List.append_assoc]; exact HSS.out⟩, HJX.out⟩⟩
    | zero =>
      have HS' := HS.out
      rw [bkL, List.append_nil] at HS'
      have HE := Lib.hid HS'
      clear HS'
      gi_wp2_with fail
      go_end0
      exact ⟨⟨_, rfl⟩, .inl ⟨ys, HE.out, HJr.out⟩⟩
theorem backC (A : Option Addr) (n c : Nat) (w : World) :
    Calls Tryz.prog 109 #[.slice A n c] w fun e w' => e = .returned (.func (.func 124) #[] #[.pointer (some ⟨w.heap.size, 0, none⟩)]) ∧ w' = w.alloc (.cells #[.slice A n c] 98) := by
  go_enter Tryz.func109, Tryz.ntmps109
  go_wp2_with fail
  go_ret
  exact ⟨rfl, rfl⟩
end Go.Proofs.YtmkahbbcagfbhaaGreatDoor
