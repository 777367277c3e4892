/-
  Contracts of package invert: where each entry goes, what a free variable becomes, and Invert. No statement is proved here.
-/
import Derived.Test.YtdllbljjlaipoaaId
import Derived.Test.YtdllbljjlaipoaaIa
import Derived.Test.YtdllbljjlaipoaaSu
namespace Go.Proofs.Ytdllbljjlaipoaa
open Go.ChangeShapes Go.WideShapes Go.ChangeAt Go.RowKit
set_option linter.unusedVariables false

/-- where entries go, in memory -/
structure Inv (vs : List Int) (N b : Nat) (w : World) : Prop where
  row : ∃ cs, Box w b 3 cs ∧ cs.size = N ∧ ∀ x, x < N → cs[x]? = some (.int .i64 ((pls (x : Int) vs).getD (-1)))
theorem Inv.keep {vs : List Int} {N b : Nat} {w w' : World} (h : Inv vs N b w) (hb : Below w.heap.size w w') : Inv vs N b w' := by
  obtain ⟨cs, h1, h2, h3⟩ := h.row
  exact ⟨cs, h1.keep hb h1.lt, h2, h3⟩
theorem entersGoes (args : Array Value) (W : World) : Sem.run Try.prog (callFunc 29 args) W = .ok (.enter 29 args) W := by
  simp [callFunc, go_sem, Try.func29, Try.f29]

set_option maxRecDepth 100000 in
set_option maxHeartbeats 4000000 in
theorem goesM (vs : List Int) (N b : Nat) (K : Int) (hK : (vs.length : Int) = K) (hN : N ≤ 1000) (w0 : World) (hi : Inv vs N b w0) : ToB 29 (.agg #[.slice (some ⟨b, 0, none⟩) N N, .int .i64 K]) (igW vs N) w0 := by
  intro x w hx hbw
  have hi' := hi.keep hbw
  obtain ⟨cs, h1, h2, h3⟩ := hi'.row
  have hb : Below w.heap.size w (w.alloc (.cells #[.slice (some ⟨b, 0, none⟩) N N, .int .i64 K] 47)) := (Below.refl _ _).alloc (Nat.le_refl _) _
  by_cases hle : (N : Int) ≤ x
  · have d1 : decide ((N : Int) ≤ x) = true := by simpa using hle
    have e : igW vs N x = some (wrap64 (wrap64 (x - N) + K)) := by rw [igW, if_pos hle, hK]
    rw [e]
    clear h3 hle
    go_enter Try.func29, Try.ntmps29
    go_wp2_with fail
    go_ret2
    exact ⟨_, rfl, (fun f h => by cases h; rfl), hb⟩
  · have d1 : decide ((N : Int) ≤ x) = false := by simpa using hle
    obtain ⟨y, rfl⟩ : ∃ y : Nat, x = y := ⟨x.toNat, by omega⟩
    have hy : y < N := by omega
    have hi1 : (y : Int) < N := by omega
    have e : igW vs N y = pls y vs := by rw [igW, if_neg hle]
    have hc := h1.cell y
    rw [h3 y hy] at hc
    have hneg : ∀ p, pls (y : Int) vs = some p → p ≠ -1 := fun p h => by have := pls_lt h; omega
    rw [e]
    generalize pls (y : Int) vs = P at *
    clear h3 hle e
    cases P with
    | none =>
      simp only [Option.getD_none] at hc
      have hc' := (((Below.refl _ w).alloc (Nat.le_refl _) (.cells #[.slice (some ⟨b, 0, none⟩) N N, .int .i64 K] 47)).cell (cell_lt hc)).trans hc
      go_enter Try.func29, Try.ntmps29
      go_wp2_with fail
      go_ret2
      exact ⟨_, rfl, (fun f h => by cases h), hb⟩
    | some p =>
      simp only [Option.getD_some] at hc
      have hc' := (((Below.refl _ w).alloc (Nat.le_refl _) (.cells #[.slice (some ⟨b, 0, none⟩) N N, .int .i64 K] 47)).cell (cell_lt hc)).trans hc
      have hp := hneg p rfl
      have e2 : (p != -1) = true := by simpa using hp
      clear hneg
      go_enter Try.func29, Try.ntmps29
      go_wp2_with fail
      go_ret2
      exact ⟨_, rfl, (fun f h => by cases h; rfl), hb⟩

theorem pls_end {vs : List Int} {j : Nat} {v : Int} (hv : vs[j]? = some v) (hn : v ∉ vs.take j) (x : Int) : ((pls x (vs.take (j + 1))).map (· + ((vs.length : Int) - (j + 1 : Nat)))).getD (-1) = if x = v then (vs.length : Int) - 1 - j else ((pls x (vs.take j)).map (· + ((vs.length : Int) - j))).getD (-1) := by
  have hj := (List.getElem?_eq_some_iff.1 hv).1
  obtain ⟨_, e⟩ := List.getElem?_eq_some_iff.1 hv
  rw [List.take_succ_eq_append_getElem hj, e, pls_snoc hn]
  by_cases h : v = x
  · rw [if_pos h, if_pos h.symm, Option.map_some, Option.getD_some]; omega
  · rw [if_neg h, if_neg (fun e => h e.symm), Option.map_map]
    congr 2
    funext p
    simp only [Function.comp]
    omega
/-- what holds at the head of inverseOf's loop -/
structure IoI (vs : List Int) (N : Nat) (w : World) (b : Nat) (j : Nat) (wr : World) : Prop where
  res : Box wr w.heap.size 47 #[.slice none 0 0, .int .i64 0]
  row : ∃ cs, Box wr b 3 cs ∧ cs.size = N ∧ ∀ x, x < N → cs[x]? = some (.int .i64 (((pls (x : Int) (vs.take j)).map (· + ((vs.length : Int) - j))).getD (-1)))
  below : Below w.heap.size w wr
  good : vB N (vs.take j) (vs.drop j) = vB N [] vs
  dis : (vs.take j).Nodup

/-- how inverseOf ends -/
def OfEnd (vs : List Int) (n : Int) (w : World) (e : Ending) (w' : World) : Prop :=
  Below w.heap.size w w' ∧ ((vB n [] vs = true ∧ ∃ b, e = .returned (.tuple #[.agg #[.slice (some ⟨b, 0, none⟩) n.toNat n.toNat, .int .i64 vs.length], .bool true]) ∧ Inv vs n.toNat b w') ∨
    (vB n [] vs = false ∧ e = .returned (.tuple #[.agg #[.slice none 0 0, .int .i64 0], .bool false])))
set_option maxRecDepth 100000 in
set_option maxHeartbeats 4000000 in
theorem inverseC (vs : List Int) (A : Option Addr) (nv cv N : Nat) (w : World) (hN : N ≤ 1000) (hn : vs.length = nv) (hc : nv ≤ cv) (hm : cv ≤ maxLen) (hx : ∀ i z, vs[i]? = some z → ∃ b o, A = some ⟨b, o, none⟩ ∧ w.cell? ⟨b, o + i, none⟩ = some (.int .i64 z)) :
    Calls Try.prog 27 #[.slice A nv cv, .int .i64 N] w (OfEnd vs N w) := by
  have HX := Lib.hid hx; clear hx
  have HN := Lib.hid hn; clear hn
  unfold maxLen at hm
  have hb : Below w.heap.size w ((w.alloc (.cells #[.slice none 0 0, .int .i64 0] 47)).alloc (.cells #[.int .i64 (-1)] 3)) := ((Below.refl _ _).alloc (Nat.le_refl _) _).alloc (by simp) _
  have x1 : Box ((w.alloc (.cells #[.slice none 0 0, .int .i64 0] 47)).alloc (.cells #[.int .i64 (-1)] 3)) w.heap.size 47 #[.slice none 0 0, .int .i64 0] := (Box.new _ _ _).alloc _
  have x2 : Box ((w.alloc (.cells #[.slice none 0 0, .int .i64 0] 47)).alloc (.cells #[.int .i64 (-1)] 3)) (w.heap.size + 1) 3 #[.int .i64 (-1)] := (Box.new (w.alloc _) _ _).at (by simp)
  obtain ⟨W, hW⟩ : ∃ W, (w.alloc (.cells #[.slice none 0 0, .int .i64 0] 47)).alloc (.cells #[.int .i64 (-1)] 3) = W := ⟨_, rfl⟩
  rw [hW] at hb x1 x2
  have HWS : Hid (w.heap.size + 2 ≤ W.heap.size) := Lib.hid (by rw [← hW]; simp)
  have HWW := Lib.hid hW; clear hW
  have HR := Lib.hid (repeatC (w.heap.size + 1) 0 N (-1) W hN (x2.one).1)
  go_enter Try.func27, Try.ntmps27
  go_wp2_with fail
  rw [HWW.out]
  clear HWW
  refine HR.out.mono ?_
  rintro e w1 ⟨rfl, hrp⟩
  have HI : Hid (IoI vs N w W.heap.size 0 w1) := Lib.hid (by
    obtain ⟨cs, h1, h2, h3⟩ := hrp.box
    exact ⟨x1.keep hrp.below x1.lt, ⟨cs, h1, h2, fun x hx => by rw [h3 x hx, List.take_zero, pls]; rfl⟩, hb.trans (hrp.below.mono hb.size), by simp, by simp⟩)
  clear hrp x1 x2 HR
  clear hb
  go_wp2_with fail
  go_loopw [14] (fun i wr => ∃ (j : Nat), i = .int .i64 j ∧ j ≤ nv ∧ Hid (IoI vs N w W.heap.size j wr)) (fun i _ => nv - (Go.RowKit.intOf i).toNat)
  case atStart => exact ⟨0, rfl, Nat.zero_le _, HI⟩
  case round =>
    clear HI
    obtain ⟨j, rfl, hj, HI⟩ := hrel
    by_cases hlt : j < nv
    · have hi0 : (0 : Int) ≤ j := by omega
      have hi1 : (j : Int) < nv := by omega
      obtain ⟨v, hv⟩ := at_of HN.out hlt
      obtain ⟨b, o, rfl, hc0⟩ := HX.out j v hv
      have hc1 := (HI.out.below.cell (cell_lt hc0)).trans hc0
      clear hc0
      have hL : (vs.length : Int) = nv := by rw [HN.out]
      have hbl : Below w.heap.size w wr := HI.out.below
      have hrs := HI.out.res
      obtain ⟨r0, r1⟩ := hrs.two
      have lr := hrs.lt
      have f0 := hrs.frozen 0
      have f1 := hrs.frozen 1
      by_cases hv0 : v < 0
      · have d0 : decide (v < 0) = true := by simpa using hv0
        have hbad : vB N [] vs = false := by rw [← HI.out.good, drop_at hv, vB]; simp; intro h; omega
        have HBAD := Lib.hid hbad; clear hbad hv0
        go_wp2_with fail
        refine bodyPost_ret (v := .tuple #[.agg #[.slice none 0 0, .int .i64 0], .bool false]) (by simp [results, Try.results27, go_sem, r0, r1]) rfl ?_
        exact ⟨(hbl.setCell (by dsimp only; omega) _).setCell (by dsimp only; omega) _, .inr ⟨HBAD.out, rfl⟩⟩
      · have d0 : decide (v < 0) = false := by simpa using hv0
        by_cases hvN : (N : Int) ≤ v
        · have d1 : decide ((N : Int) ≤ v) = true := by simpa using hvN
          have hbad : vB N [] vs = false := by rw [← HI.out.good, drop_at hv, vB]; simp; intro h h'; omega
          have HBAD := Lib.hid hbad; clear hbad hv0 hvN
          go_wp2_with fail
          refine bodyPost_ret (v := .tuple #[.agg #[.slice none 0 0, .int .i64 0], .bool false]) (by simp [results, Try.results27, go_sem, r0, r1]) rfl ?_
          exact ⟨(hbl.setCell (by dsimp only; omega) _).setCell (by dsimp only; omega) _, .inr ⟨HBAD.out, rfl⟩⟩
        · have d1 : decide ((N : Int) ≤ v) = false := by simpa using hvN
          obtain ⟨y, rfl⟩ : ∃ y : Nat, v = y := ⟨v.toNat, by omega⟩
          have hyN : y < N := by omega
          have hy0 : (0 : Int) ≤ y := by omega
          have hy1 : (y : Int) < N := by omega
          obtain ⟨cs, h1, h2, h3⟩ := HI.out.row
          have hcy := h1.cell y
          rw [h3 y hyN] at hcy
          have h3y := h3 y hyN
          by_cases hmem : (y : Int) ∈ vs.take j
          · obtain ⟨p, hp⟩ : ∃ p, pls (y : Int) (vs.take j) = some p := by
              cases hq : pls (y : Int) (vs.take j) with
              | none => exact absurd hmem (pls_none.1 hq)
              | some p => exact ⟨p, rfl⟩
            have hpl := pls_lt hp
            rw [hp, Option.map_some, Option.getD_some] at hcy
            have hjl : j ≤ vs.length := by have := HN.out; omega
            obtain ⟨q, hq⟩ : ∃ q, q = p + ((vs.length : Int) - j) := ⟨_, rfl⟩
            rw [← hq] at hcy
            have hq1 : q ≠ -1 := by omega
            have e2 : (q != -1) = true := by simpa using hq1
            have hbad : vB N [] vs = false := by rw [← HI.out.good, drop_at hv, vB]; simp [hmem]
            have HBAD := Lib.hid hbad; clear hbad hv0 hvN h3 h3y hp hpl hq hmem
            go_wp2_with fail
            refine bodyPost_ret (v := .tuple #[.agg #[.slice none 0 0, .int .i64 0], .bool false]) (by simp [results, Try.results27, go_sem, r0, r1]) rfl ?_
            exact ⟨(hbl.setCell (by dsimp only; omega) _).setCell (by dsimp only; omega) _, .inr ⟨HBAD.out, rfl⟩⟩
          · rw [pls_none.2 hmem, Option.map_none, Option.getD_none] at hcy
            have hgood : vB N (vs.take (j + 1)) (vs.drop (j + 1)) = vB N [] vs := by
              rw [← HI.out.good, drop_at hv, vB]
              have hjl := (List.getElem?_eq_some_iff.1 hv).1
              have ev := (List.getElem?_eq_some_iff.1 hv).2
              rw [List.take_succ_eq_append_getElem hjl, ev]
              simp [hmem, hyN]
            have hdis : (vs.take (j + 1)).Nodup := by
              have hjl := (List.getElem?_eq_some_iff.1 hv).1
              have ev := (List.getElem?_eq_some_iff.1 hv).2
              rw [List.take_succ_eq_append_getElem hjl, ev, List.nodup_append]
              exact ⟨HI.out.dis, by simp, fun a ha b hb e => hmem (by rw [List.mem_singleton.1 hb] at e; exact e ▸ ha)⟩
            have hrow : ∀ x, x < N → (cs.setIfInBounds y (.int .i64 ((nv : Int) - 1 - j)))[x]? = some (.int .i64 (((pls (x : Int) (vs.take (j + 1))).map (· + ((vs.length : Int) - (j + 1 : Nat)))).getD (-1))) := fun x hx => by
              rw [pls_end hv hmem, Array.getElem?_setIfInBounds]
              by_cases hxy : y = x
              · subst hxy
                rw [if_pos rfl, if_pos (by omega), if_pos rfl, hL]
              · rw [if_neg hxy, if_neg (by omega)]
                exact h3 x hx
            have HG := Lib.hid (And.intro hgood (And.intro hdis hrow))
            have hw1 : IntKind.i64.wrap ((nv : Int) - 1) = (nv : Int) - 1 := by rw [wrapEq]; exact wrap_small (by omega) (by omega)
            have hw2 : IntKind.i64.wrap ((nv : Int) - 1 - j) = (nv : Int) - 1 - j := by rw [wrapEq]; exact wrap_small (by omega) (by omega)
            have lb := h1.lt
            have fy := h1.frozen y
            have HH2 := Lib.hid h2
            clear hgood hdis hrow h3 h3y hmem hv0 hvN h2
            go_wp2_with fail
            go_roundw
            case rel =>
              have hws := HWS.out
              exact ⟨j + 1, by go_num, by omega, Lib.hid ⟨hrs.other (by dsimp only; omega) _, ⟨_, h1.setAt y _, by simp [HH2.out], HG.out.2.2⟩, hbl.setCell (by dsimp only; omega) _, HG.out.1, HG.out.2.1⟩⟩
            case measure => simp [Go.RowKit.intOf]; omega
    · obtain rfl : j = nv := by omega
      have hgood : vB N [] vs = true := by rw [← HI.out.good, drop_all HN.out (Nat.le_refl _), vB]
      have hbl : Below w.heap.size w wr := HI.out.below
      have hrs := HI.out.res
      obtain ⟨r0, r1⟩ := hrs.two
      have lr := hrs.lt
      have f0 := hrs.frozen 0
      have f1 := hrs.frozen 1
      obtain ⟨cs, h1, h2, h3⟩ := HI.out.row
      have HG := Lib.hid hgood; clear hgood
      have hinv : Inv vs N W.heap.size wr := ⟨cs, h1, h2, fun x hx => by
        rw [h3 x hx, List.take_of_length_le (by have := HN.out; omega), HN.out]
        cases pls (x : Int) vs with
        | none => rfl
        | some p => simp⟩
      have HV := Lib.hid hinv; clear hinv h3
      go_wp2_with fail
      refine bodyPost_ret (v := .tuple #[.agg #[.slice (some ⟨W.heap.size, 0, none⟩) N N, .int .i64 j], .bool true]) (by simp [results, Try.results27, go_sem, r0, r1]) rfl ?_
      refine ⟨(hbl.setCell (by dsimp only; omega) _).setCell (by dsimp only; omega) _, .inl ⟨HG.out, W.heap.size, by rw [HN.out]; rfl, ?_⟩⟩
      obtain ⟨cs, h1, h2, h3⟩ := HV.out.row
      have hws := HWS.out
      exact ⟨cs, (h1.other (by dsimp only; omega) _).other (by dsimp only; omega) _, h2, h3⟩
end Go.Proofs.Ytdllbljjlaipoaa
