/- Texts of one proof, put together. No statement is proved here. -/
import Derived.Test.YtbbjjdnnlnabaaaGreatPkB
import Derived.Deep.RegionHeld
import Derived.Test.YtbbjjdnnlnabaaaGreatPkV
import Derived.Test.YtbbjjdnnlnabaaaGreatPkY
import Derived.Test.YtbbjjdnnlnabaaaGreatPkC
import Derived.ChangeSlices
import Derived.Carry
namespace Go.Proofs.YtbbjjdnnlnabaaaGreat
open Go.RowKit
set_option linter.unusedVariables false
set_option linter.unusedSimpArgs false
theorem rowsIn_wideN {n : Nat} {P : Program} {row : String} {args : Array Value} {w : World} {R : Value → World → Prop} (h : Rows P row args w R) : RowsIn Fence.wide n P row args w R := fun c cs _ =>
  let ⟨v, w', r, s⟩ := h c cs; ⟨v, w', r, stepsIn_wide.2 s⟩
theorem RowsIn.inRoundN {F : Fence} {n : Nat} {P : Program} {row : String} {args : Array Value} {w : World} {R : Value → World → Prop} (l : Nat) (h : RowsIn F n P row args w R) : RowsIn (F.inRound l) n P row args w R := h
theorem wpOpsIn_roundN {P : Program} {ops : Array Oper} {Q : Exit → Act → World → Prop} (hL : ¬ LetsOut Q) (hd : ∀ (i : Nat) (o : Oper) (c : Call), ops[i]? = some o → o.op ≠ .defer c) (l n : Nat) : ∀ (is : List Nat) (a : Act) (w : World), wpOps P ops Q is a w → wpOpsIn (Fence.wide.inRound l) n P ops Q is a w
  | [], a, w, h => h
  | i :: is, a, w, h => by
    unfold wpOps at h
    unfold wpOpsIn
    cases ho : ops[i]? with
    | none => rw [ho] at h; exact wpOpsIn_roundN hL hd l n is a w h
    | some o =>
      rw [ho] at h
      simp only at h ⊢
      by_cases hw : Region.wanted o (yielded ops a.tmps) = true
      · rw [if_pos hw] at h ⊢
        rcases h with h | ⟨_, h⟩
        · unfold Oper.wp at h
          unfold Oper.wpIn
          refine ⟨fun _ _ => trivial, ?_⟩
          rw [Oper.semAt_plain _ _ _ (fun c => hd i o c ho)]
          generalize (execOp a.eval o).run P w = r at h ⊢
          cases r with
          | ok x w' =>
            cases x <;> simp only [Oper.upon, Oper.uponIn] at h ⊢
            case value v => exact wpOpsIn_roundN hL hd l n is _ _ h
            case skip => exact wpOpsIn_roundN hL hd l n is _ _ h
            case defer d => exact wpOpsIn_roundN hL hd l n is _ _ h
            case enter f args =>
              refine ⟨fun e => (by cases e), CallsIn.inRound l (callsIn_wide.2 (h.mono fun e w'' he => ?_))⟩
              cases e with
              | returned u => exact wpOpsIn_roundN hL hd l n is _ _ he
              | panicked c => exact he
              | outgrown => exact he
            case row row args =>
              refine ⟨fun e => (by cases e), RowsIn.inRoundN l (rowsIn_wideN (h.mono fun u w'' he => wpOpsIn_roundN hL hd l n is _ _ he))⟩
          | halt x w' => cases x <;> simp only [Oper.upon, Oper.uponIn] at h ⊢ <;> exact h
        · exact absurd h hL
      · rw [if_neg hw] at h ⊢
        exact ⟨fun _ _ => trivial, wpOpsIn_roundN hL hd l n is _ _ h⟩
def noDefN (ops : Array Oper) : Bool := ops.toList.all fun o => match o.op with
  | .defer _ => false
  | _ => true
theorem noDefN_spec {ops : Array Oper} (h : noDefN ops = true) (i : Nat) (o : Oper) (c : Call) (ho : ops[i]? = some o) : o.op ≠ .defer c := fun e => by
  have hm : o ∈ ops.toList := by
    rw [← Array.getElem?_toList] at ho
    exact List.mem_of_getElem? ho
  have := List.all_eq_true.1 h o hm
  rw [e] at this
  cases this
theorem wpIn_region_heldN {P : Program} {ops : Array Oper} {Q : Exit → Act → World → Prop} {S : World → Prop} {id l n : Nat} {a : Act} {w : World} (hL : ¬ LetsOut Q) (hd : noDefN ops = true) (hm : P.follows .mixedOrders = true) (hS : S w.drew)
    (h : S w.drew → wpAnyH P .any ops Q S ops.size (Array.replicate ops.size false) a w.drew) : (Code.region id ops true).wpIn (Fence.wide.inRound l) n P Q a w :=
  wpIn_region_draw fun t => by
    simp only [Region.schedule, hm, Bool.true_or, if_true]
    exact wpOpsIn_roundN hL (noDefN_spec hd) l n _ _ _ (wpAny_sound ops.size t _ a _ (wpAny_of_held _ _ _ _ (h hS)))
end Go.Proofs.YtbbjjdnnlnabaaaGreat
namespace Go.Proofs.YtbbjjdnnlnabaaaGreat
open Go.ChangeShapes Go.WideShapes Go.ChangeAt Go.RowKit Go.Deep
set_option linter.unusedVariables false
set_option linter.unusedSimpArgs false
set_option maxRecDepth 100000
section
variable {H : Type} {enc : TypeId × Value → H} {P : Program} {w : World} {base : Nat} {spare : Nat → Bool} {held : Bool}
theorem trodAll_five {t0 t1 t2 t3 t4 : TypeId} {args : Array Value} {ds : List (DataW H)} {ps : List MemPlace} (h : DataW.TrodAll enc P w base spare held [t0, t1, t2, t3, t4] args.toList ds ps) :
    ∃ v0 v1 v2 v3 v4 d0 d1 d2 d3 d4 p0 p1 p2 p3 p4, args = #[v0, v1, v2, v3, v4] ∧ ds = [d0, d1, d2, d3, d4] ∧ ps = p0 ++ p1 ++ p2 ++ p3 ++ p4 ∧ DataW.Trod enc P w base spare held t0 v0 d0 p0 ∧ DataW.Trod enc P w base spare held t1 v1 d1 p1 ∧ DataW.Trod enc P w base spare held t2 v2 d2 p2 ∧ DataW.Trod enc P w base spare held t3 v3 d3 p3 ∧ DataW.Trod enc P w base spare held t4 v4 d4 p4 := by
  obtain ⟨v0, vs0, d0, ds0, p0, q0, hargs, rfl, rfl, h0, r0⟩ := trodAll_cons h
  obtain ⟨v1, vs1, d1, ds1, p1, q1, rfl, rfl, rfl, h1, r1⟩ := trodAll_cons r0
  obtain ⟨v2, vs2, d2, ds2, p2, q2, rfl, rfl, rfl, h2, r2⟩ := trodAll_cons r1
  obtain ⟨v3, vs3, d3, ds3, p3, q3, rfl, rfl, rfl, h3, r3⟩ := trodAll_cons r2
  obtain ⟨v4, vs4, d4, ds4, p4, q4, rfl, rfl, rfl, h4, r4⟩ := trodAll_cons r3
  obtain ⟨rfl, rfl, rfl⟩ := trodAll_nil r4
  exact ⟨v0, v1, v2, v3, v4, d0, d1, d2, d3, d4, p0, p1, p2, p3, p4, by cases args; simp_all, rfl, by simp, h0, h1, h2, h3, h4⟩
theorem trodAll_mk5 {t0 t1 t2 t3 t4 : TypeId} {v0 v1 v2 v3 v4 : Value} {d0 d1 d2 d3 d4 : DataW H} {p0 p1 p2 p3 p4 : List MemPlace} (h0 : DataW.Trod enc P w base spare held t0 v0 d0 p0) (h1 : DataW.Trod enc P w base spare held t1 v1 d1 p1) (h2 : DataW.Trod enc P w base spare held t2 v2 d2 p2) (h3 : DataW.Trod enc P w base spare held t3 v3 d3 p3) (h4 : DataW.Trod enc P w base spare held t4 v4 d4 p4) : DataW.TrodAll enc P w base spare held [t0, t1, t2, t3, t4] [v0, v1, v2, v3, v4] [d0, d1, d2, d3, d4] (p0 ++ (p1 ++ (p2 ++ (p3 ++ p4)))) := ⟨p0, (p1 ++ (p2 ++ (p3 ++ p4))), h0, trodAll_mk4 h1 h2 h3 h4, rfl⟩
end
section
variable {H : Type} {enc : TypeId × Value → H} {w : World} {base : Nat} {spare : Nat → Bool} {held : Bool}
theorem trod_terms {fuel : Nat} {v : Value} {y : DataW H × List MemPlace} (hf : DataW.trod enc Tryz.prog w base spare held fuel 24 [v] = some y) :
    ∃ (xs : List T) (A : Option Addr) (n c : Nat), v = .slice A n c ∧ CLV w xs A n c ∧ ndL xs ≤ Rows.uptoBulk y.1 := by
  rcases DataW.trod_slice Tryz.underlying24 hf with ⟨e2, hy2⟩ | ⟨a, len, cap, elems, rest, m, rfl, e2, hy2, hb, hlc, hm, hel, hat, _, _⟩
  · simp only [List.cons.injEq, and_true] at e2
    exact ⟨[], none, 0, 0, e2, ⟨rfl, Nat.le_refl _, Nat.zero_le _, fun i t ht => by simp at ht⟩, by simp [ndL]⟩
  · simp only [List.cons.injEq, and_true] at e2
    rw [e2]
    have each : ∀ i, i < len → ∃ t : T, ∃ d, (elems.map (·.1))[i]? = some d ∧ nd t ≤ Rows.uptoBulk d ∧ ((∀ n ∈ d.weights Tryz.prog 39, n ≤ reachBytes) → wd t ≤ 3518437208780) ∧ RdAt w (some a) i t := by
      intro i hi
      have hi' := hat i hi
      rw [List.getElem?_eq_getElem (by omega), Option.bind_eq_some_iff] at hi'
      obtain ⟨cs', hcs, htr⟩ := hi'
      obtain ⟨t, u0, u1, u2, rfl, hr, hle, hwt⟩ := trod_term m cs' _ htr
      rw [Tryz.cellsTerm] at hcs
      obtain ⟨_, _, hcell⟩ := World.cells?_some hcs
      have c0 := hcell 0 (by omega)
      have c1 := hcell 1 (by omega)
      have c2 := hcell 2 (by omega)
      simp only [List.getElem?_cons_zero, List.getElem?_cons_succ, add_add, Nat.add_zero] at c0 c1 c2
      have hs : a.spot = none := by
        have := cell_spot c0
        unfold Addr.add at this
        split at this
        · exact this
        · rename_i h3
          -- the first entry's address has the same spot
          have h0' := hat 0 (by omega)
          rw [List.getElem?_eq_getElem (by omega), Option.bind_eq_some_iff] at h0'
          obtain ⟨cs0, hcs0, _⟩ := h0'
          rw [Tryz.cellsTerm] at hcs0
          obtain ⟨_, hl0, hcell0⟩ := World.cells?_some hcs0
          have := hcell0 0 (by omega)
          rw [List.getElem?_eq_getElem (by omega)] at this
          have := cell_spot this
          simpa [Addr.add] using this
      obtain ⟨b, o, s⟩ := a
      dsimp only at hs
      subst hs
      rw [addr_add] at c0 c1 c2
      refine ⟨t, _, by rw [List.getElem?_map, List.getElem?_eq_getElem (by omega)]; rfl, hle, hwt, b, o, u0, u1, u2, rfl, c0, ?_, ?_, hr⟩
      · rw [Nat.add_assoc]; exact c1
      · rw [Nat.add_assoc]; exact c2
    obtain ⟨xs, hxl, hxs⟩ := list_of len each
    refine ⟨xs, some a, len, cap, rfl, ⟨hxl, hlc, hm, fun i t ht => by obtain ⟨_, _, _, _, hr⟩ := hxs i t ht; exact hr⟩, ?_⟩
    have hge := bulk_ge xs (elems.map (·.1)) fun i t ht => by
      obtain ⟨d, hd, hle, _, _⟩ := hxs i t ht
      exact ⟨d, hd, hle⟩
    rw [show y.1 = _ from congrArg Prod.fst hy2]
    simp only [Rows.uptoBulk]
    omega
theorem open_clv {r : Reach} {b0 : Nat} {v : Value} {d : DataW H} {p : List MemPlace} (hv : Value.okWide Tryz.prog w r b0 24 v) (h : DataW.Trod enc Tryz.prog w base spare held 24 v d p) :
    ∃ (xs : List T) (A : Option Addr) (n c : Nat), v = .slice A n c ∧ CLV w xs A n c ∧ ∀ x ∈ xs, nd x ≤ Rows.uptoBulk d := by
  obtain ⟨xs, A, n, c, rfl, h1, h2, h3, h4, h5⟩ := open_terms hv h
  exact ⟨xs, A, n, c, rfl, ⟨h1, h2, h3, h4⟩, fun x hx => Nat.le_trans (nd_mem hx) h5⟩
theorem Tryz.cellsMd : Tryz.prog.cellsOf 42 = 5 := by kernel_rfl
theorem Tryz.cellsBl : Tryz.prog.cellsOf 4 = 1 := by kernel_rfl
theorem trod_meta {fuel : Nat} {cs : List Value} {x : DataW H × List MemPlace} (hx : DataW.trod enc Tryz.prog w base spare held fuel 42 cs = some x) :
    ∃ (y : List T × T) (A : Option Addr) (n c : Nat) (v1 v2 v3 : Value) (pb : Bool), cs = [.slice A n c, v1, v2, v3, .bool pb] ∧ CLV w y.1 A n c ∧ Rd w y.2 (.agg #[v1, v2, v3]) ∧ (∀ z ∈ y.1, nd z ≤ Rows.uptoBulk x.1) ∧ nd y.2 ≤ Rows.uptoBulk x.1 := by
  obtain ⟨ys, n, rfl, hxe, hl, hyl, hf⟩ := DataW.trod_struct Tryz.underlying42 hx
  rw [Tryz.cellsMd] at hl
  match cs, hl with
  | [v0, v1, v2, v3, v4], _ =>
    match ys, hyl with
    | [y0, y1, y2], _ =>
      have h0 : DataW.trod enc Tryz.prog w base spare held n 24 (([v0, v1, v2, v3, v4].drop 0).take (Tryz.prog.cellsOf 24)) = some y0 := hf 0 _ rfl
      have h1 : DataW.trod enc Tryz.prog w base spare held n 39 (([v0, v1, v2, v3, v4].drop 1).take (Tryz.prog.cellsOf 39)) = some y1 := hf 1 _ rfl
      have h2 : DataW.trod enc Tryz.prog w base spare held n 4 (([v0, v1, v2, v3, v4].drop 4).take (Tryz.prog.cellsOf 4)) = some y2 := hf 2 _ rfl
      simp only [Tryz.cellsArgs, Tryz.cellsTerm, Tryz.cellsBl, List.drop_zero, List.drop_succ_cons, List.take_succ_cons, List.take_zero] at h0 h1 h2
      obtain ⟨xs, A, m, c, rfl, hcl, hle0⟩ := trod_terms h0
      obtain ⟨t, u0, u1, u2, e, hr, hle, _⟩ := trod_term n _ _ h1
      simp only [List.cons.injEq, and_true] at e
      obtain ⟨rfl, rfl, rfl⟩ := e
      obtain ⟨pb, e4, _⟩ := DataW.trod_bool Tryz.underlying4 h2
      simp only [List.cons.injEq, and_true] at e4
      subst e4
      have hd : x.1 = .agg [y0.1, y1.1, y2.1] := congrArg Prod.fst hxe
      refine ⟨(xs, t), A, m, c, _, _, _, pb, rfl, hcl, hr, fun z hz => ?_, ?_⟩
      · have : nd z ≤ ndL xs := nd_mem hz
        rw [hd]
        simp only [Rows.uptoBulk, Rows.uptoBulkAll]
        omega
      · rw [hd]
        simp only [Rows.uptoBulk, Rows.uptoBulkAll]
        omega
theorem list_ofV {α : Type} {M : Nat → α → Prop} : ∀ n : Nat, (∀ i, i < n → ∃ t, M i t) → ∃ xs : List α, xs.length = n ∧ ∀ i t, xs[i]? = some t → M i t
  | 0, _ => ⟨[], rfl, fun i t h => by simp at h⟩
  | n + 1, h => by
    obtain ⟨xs, h1, h2⟩ := list_ofV n fun i hi => h i (by omega)
    obtain ⟨t, ht⟩ := h n (by omega)
    refine ⟨xs ++ [t], by simp [h1], fun i u hu => ?_⟩
    by_cases hi : i < n
    · rw [List.getElem?_append_left (by omega)] at hu
      exact h2 i u hu
    · have hin : i = n := by have := (List.getElem?_eq_some_iff.1 hu).1; simp [h1] at this; omega
      subst hin
      rw [List.getElem?_append_right (by omega), h1, Nat.sub_self] at hu
      obtain rfl : t = u := by simpa using hu
      exact ht
theorem open_metas {r : Reach} {b0 : Nat} {v : Value} {d : DataW H} {p : List MemPlace} (hv : Value.okWide Tryz.prog w r b0 23 v) (h : DataW.Trod enc Tryz.prog w base spare held 23 v d p) :
    ∃ (xs : List (List T × T)) (A : Option Addr) (n c : Nat), v = .slice A n c ∧ ML w xs A n c ∧ ∀ x ∈ xs, (∀ z ∈ x.1, nd z ≤ Rows.uptoBulk d) ∧ nd x.2 ≤ Rows.uptoBulk d := by
  obtain ⟨fuel, hf⟩ := h
  obtain ⟨a0, l0, c0, rfl⟩ := okWide_slice Tryz.underlying23 hv
  rcases DataW.trod_slice Tryz.underlying23 hf with ⟨e2, hy2⟩ | ⟨a, len, cap, elems, rest, m, rfl, e2, hy2, hb, hlc, hm, hel, hat, _, _⟩
  · simp only [Value.cells, List.cons.injEq, and_true] at e2
    exact ⟨[], none, 0, 0, e2, ⟨rfl, Nat.le_refl _, Nat.zero_le _, fun i t ht => by simp at ht⟩, fun x hx => by cases hx⟩
  · simp only [Value.cells, List.cons.injEq, and_true] at e2
    rw [e2]
    have first : ∀ i, i < len → ∃ y : List T × T, ∃ A n c v1 v2 v3 pb dd, w.cell? (a.add (i * 5 + 0)) = some (.slice A n c) ∧ w.cell? (a.add (i * 5 + 1)) = some v1 ∧ w.cell? (a.add (i * 5 + 2)) = some v2 ∧ w.cell? (a.add (i * 5 + 3)) = some v3 ∧ w.cell? (a.add (i * 5 + 4)) = some (.bool pb) ∧ CLV w y.1 A n c ∧ Rd w y.2 (.agg #[v1, v2, v3]) ∧ (elems.map (·.1))[i]? = some dd ∧ (∀ z ∈ y.1, nd z ≤ Rows.uptoBulk dd) ∧ nd y.2 ≤ Rows.uptoBulk dd := by
      intro i hi
      have hi' := hat i hi
      rw [List.getElem?_eq_getElem (by omega), Option.bind_eq_some_iff] at hi'
      obtain ⟨cs', hcs, htr⟩ := hi'
      obtain ⟨y, A, n, c, u1, u2, u3, pb, rfl, hcl, hr, hle1, hle2⟩ := trod_meta htr
      rw [Tryz.cellsMd] at hcs
      obtain ⟨_, _, hcell⟩ := World.cells?_some hcs
      have c0 := hcell 0 (by omega)
      have c1 := hcell 1 (by omega)
      have c2 := hcell 2 (by omega)
      have c3 := hcell 3 (by omega)
      have c4 := hcell 4 (by omega)
      simp only [List.getElem?_cons_zero, List.getElem?_cons_succ, add_add] at c0 c1 c2 c3 c4
      exact ⟨y, A, n, c, u1, u2, u3, pb, _, c0, c1, c2, c3, c4, hcl, hr, by rw [List.getElem?_map, List.getElem?_eq_getElem (by omega)]; rfl, hle1, hle2⟩
    have each : ∀ i, i < len → ∃ y : List T × T, MAt w (some a) i y ∧ (∀ z ∈ y.1, nd z ≤ Rows.uptoBulk d) ∧ nd y.2 ≤ Rows.uptoBulk d := by
      intro i hi
      obtain ⟨y, A1, n1, c1', v1, v2, v3, pb, dd, c0, c1, c2, c3, c4, hcl, hr, hdd, hle1, hle2⟩ := first i hi
      obtain ⟨y', _, _, _, _, _, _, _, _, c00, _⟩ := first 0 (by omega)
      have hs := spot_ofQ c0 (by simpa using c00)
      obtain ⟨b, o, sp⟩ := a
      dsimp only at hs
      subst hs
      rw [addr_add] at c0 c1 c2 c3 c4
      obtain ⟨k, h, A, n, c, e⟩ := hr.full
      simp only [Value.agg.injEq, Array.mk.injEq, List.cons.injEq, and_true] at e
      obtain ⟨rfl, rfl, rfl⟩ := e
      have h1 := bulk_mem _ _ _ hdd
      have hd : d = DataW.slice (elems.map (·.1)) (rest.map (·.1)) := congrArg Prod.fst hy2
      refine ⟨y, ⟨b, o, A1, n1, c1', k, h, A, n, c, pb, rfl, c0, by rw [Nat.add_assoc]; exact c1, by rw [Nat.add_assoc]; exact c2, by rw [Nat.add_assoc]; exact c3, by rw [Nat.add_assoc]; exact c4, hcl, hr⟩, fun z hz => ?_, ?_⟩
      · have := hle1 z hz
        rw [hd]
        simp only [Rows.uptoBulk]
        omega
      · rw [hd]
        simp only [Rows.uptoBulk]
        omega
    obtain ⟨xs, hxl, hxs⟩ := list_ofV len each
    exact ⟨xs, some a, len, cap, rfl, ⟨hxl, hlc, hm, fun i y hy => (hxs i y hy).1⟩, fun x hx => by
      obtain ⟨i, hi⟩ := List.getElem?_of_mem hx
      exact (hxs i x hi).2⟩
end
end Go.Proofs.YtbbjjdnnlnabaaaGreat
namespace Go.Proofs.YtbbjjdnnlnabaaaGreat
open Go.ChangeShapes Go.WideShapes Go.ChangeAt Go.RowKit Go.Shelf
set_option linter.unusedVariables false
set_option linter.unusedSimpArgs false
set_option maxRecDepth 100000
set_option maxHeartbeats 8000000
attribute [local go_sem] Oper.semAt_some
abbrev MP := (List T × T) × Bool
def PAt (w : World) (A : Option Addr) (i : Nat) (x : MP) : Prop :=
  ∃ b o A1 n1 c1 k h A2 n2 c2, A = some ⟨b, o, none⟩ ∧ w.cell? ⟨b, o + i * 5, none⟩ = some (.slice A1 n1 c1) ∧ w.cell? ⟨b, o + i * 5 + 1, none⟩ = some (.int .i64 k) ∧ w.cell? ⟨b, o + i * 5 + 2, none⟩ = some (.int .i64 h) ∧
    w.cell? ⟨b, o + i * 5 + 3, none⟩ = some (.slice A2 n2 c2) ∧ w.cell? ⟨b, o + i * 5 + 4, none⟩ = some (.bool x.2) ∧ CLV w x.1.1 A1 n1 c1 ∧ Rd w x.1.2 (.agg #[.int .i64 k, .int .i64 h, .slice A2 n2 c2])
structure PL (w : World) (ds : List MP) (A : Option Addr) (n c : Nat) : Prop where
  len : ds.length = n
  le : n ≤ c
  cap : c ≤ maxLen
  at_ : ∀ i x, ds[i]? = some x → PAt w A i x
theorem PAt.keep {w w' : World} {A : Option Addr} {i : Nat} {x : MP} (h : PAt w A i x) (hb : Below w.heap.size w w') : PAt w' A i x := by
  obtain ⟨b, o, A1, n1, c1, k, g, A2, n2, c2, rfl, d0, d1, d2, d3, d4, hl, hr⟩ := h
  exact ⟨b, o, A1, n1, c1, k, g, A2, n2, c2, rfl, (hb.cell (cell_lt d0)).trans d0, (hb.cell (cell_lt d1)).trans d1, (hb.cell (cell_lt d2)).trans d2, (hb.cell (cell_lt d3)).trans d3, (hb.cell (cell_lt d4)).trans d4, hl.keep hb, Rd.keep hb _ _ hr⟩
theorem PL.keep {w w' : World} {ds : List MP} {A : Option Addr} {n c : Nat} (h : PL w ds A n c) (hb : Below w.heap.size w w') : PL w' ds A n c :=
  ⟨h.len, h.le, h.cap, fun i x hx => (h.at_ i x hx).keep hb⟩
theorem PL.take {w : World} {ds : List MP} {A : Option Addr} {n c i : Nat} (h : PL w ds A n c) (hi : i ≤ n) : PL w (ds.take i) A i c :=
  ⟨by rw [List.length_take, h.len]; omega, by have := h.le; omega, h.cap, fun j x hx => h.at_ j x (by
    by_cases hj : j < i
    · rwa [List.getElem?_take_of_lt hj] at hx
    · rw [List.getElem?_eq_none (by rw [List.length_take]; omega)] at hx; cases hx)⟩
def msP (ds : List MP) : List (List T × T) := ds.map (·.1)
theorem PL.ml {w : World} {ds : List MP} {A : Option Addr} {n c : Nat} (h : PL w ds A n c) : ML w (msP ds) A n c :=
  ⟨by rw [msP, List.length_map]; exact h.len, h.le, h.cap, fun i x hx => by
    rw [msP, List.getElem?_map] at hx
    cases hq : ds[i]? with
    | none => rw [hq] at hx; cases hx
    | some y =>
      rw [hq] at hx
      cases hx
      obtain ⟨b, o, A1, n1, c1, k, g, A2, n2, c2, e, d0, d1, d2, d3, d4, hl, hr⟩ := h.at_ i y hq
      exact ⟨b, o, A1, n1, c1, k, g, A2, n2, c2, y.2, e, d0, d1, d2, d3, d4, hl, hr⟩⟩
theorem ML.pl {w : World} {ms : List (List T × T)} {A : Option Addr} {n c : Nat} (h : ML w ms A n c) : ∃ ds, PL w ds A n c ∧ msP ds = ms := by
  obtain ⟨ds, h1, h2⟩ := list_ofV (M := fun i (x : MP) => ms[i]? = some x.1 ∧ PAt w A i x) n fun i hi => by
    obtain ⟨x, hx⟩ := at_of h.len hi
    obtain ⟨b, o, A1, n1, c1, k, g, A2, n2, c2, p, e, d0, d1, d2, d3, d4, hl, hr⟩ := h.at_ i x hx
    exact ⟨(x, p), hx, b, o, A1, n1, c1, k, g, A2, n2, c2, e, d0, d1, d2, d3, d4, hl, hr⟩
  refine ⟨ds, ⟨h1, h.le, h.cap, fun i x hx => (h2 i x hx).2⟩, ?_⟩
  refine List.ext_getElem? fun i => ?_
  rw [msP, List.getElem?_map]
  cases hq : ds[i]? with
  | none =>
    rw [List.getElem?_eq_none_iff] at hq
    rw [Option.map_none]
    exact (List.getElem?_eq_none (by rw [h.len]; omega)).symm
  | some x => rw [Option.map_some]; exact (h2 i x hq).1.symm
structure ME (w0 : World) (A : Option Addr) (ds : List MP) where
  i : Nat
  A1 : Option Addr
  n1 : Nat
  c1 : Nat
  k : Int
  h : Int
  A2 : Option Addr
  n2 : Nat
  c2 : Nat
  p : Bool
  ok : ∃ d, ds[i]? = some (d, p) ∧ CLV w0 d.1 A1 n1 c1 ∧ Rd w0 d.2 (.agg #[.int .i64 k, .int .i64 h, .slice A2 n2 c2])
structure TE (w0 : World) (A : Option Addr) (ds : List T) where
  i : Nat
  k : Int
  h : Int
  A2 : Option Addr
  n2 : Nat
  c2 : Nat
  ok : ∃ d, ds[i]? = some d ∧ Rd w0 d (.agg #[.int .i64 k, .int .i64 h, .slice A2 n2 c2])
def encM (c : Nat) {w0 : World} {A : Option Addr} {ds : List MP} (x : ME w0 A ds) : Array Value := #[.slice A x.i x.i, .agg #[.slice x.A1 x.n1 x.c1, .int .i64 x.k, .int .i64 x.h, .slice x.A2 x.n2 x.c2, .bool x.p]]
def encT (c : Nat) {w0 : World} {A : Option Addr} {ds : List T} (x : TE w0 A ds) : Array Value := #[.slice A x.i x.i, .agg #[.int .i64 x.k, .int .i64 x.h, .slice x.A2 x.n2 x.c2]]
theorem yb_of {P Q : Prop} {e : Ending} (h : (e = .returned (.bool true) ∧ P) ∨ (e = .returned (.bool false) ∧ Q)) : ∃ b, e = .returned (.bool b) ∧ (b = true → P) ∧ (b = false → Q) := by
  rcases h with ⟨h, hp⟩ | ⟨h, hq⟩
  · exact ⟨true, h, (fun _ => hp), (fun e => Bool.noConfusion e)⟩
  · exact ⟨false, h, (fun e => Bool.noConfusion e), (fun _ => hq)⟩
theorem eachTC (A : Option Addr) (n c : Nat) (w : World) :
    Calls Tryz.prog 23 #[.slice A n c] w fun e w' => e = .returned (.func (.func 34) #[] #[.pointer (some ⟨w.heap.size, 0, none⟩)]) ∧ w' = w.alloc (.cells #[.slice A n c] 24) := by
  have hmf : ∀ (fn : Fn) (first cap : Array Value) (w : World), (Instr.makeFunc fn first cap).run Tryz.prog w = .ok (.func fn first cap) w := fun _ _ _ _ => rfl
  go_enter Tryz.func23, Tryz.ntmps23
  go_wp2_with fail
  go_ret
  exact ⟨rfl, rfl⟩
theorem eachTStops (m : Nat) (w0 w : World) (ds : List T) (A : Option Addr) (n c : Nat) (Bs : Nat) (hd : CLV w0 ds A n c) (hb : Below w0.heap.size w0 w) (hBs : Box w Bs 24 #[.slice A n c]) :
    SeqStopsK Fence.wide m Tryz.prog 34 #[.pointer (some ⟨Bs, 0, none⟩)] (encT c (w0 := w0) (A := A) (ds := ds)) (Below w.heap.size) (fun ys => ys.map (·.i) = List.range n) (fun pre => pre.map (·.i) = List.range pre.length) n w := by
  intro l J Jx W hW hJ hJx hY h00
  refine callsIn_wide.2 ?_
  have xs := hBs.keep hW hBs.lt
  have hlt1 := hBs.lt
  have hcap := hd.cap
  have hle := hd.le
  unfold maxLen at hcap
  have p0 : W.cell? ⟨Bs, 0, none⟩ = some (.slice A n c) := xs.cell 0
  have hs0 := hb.size
  have hsW := hW.size
  have HXS := Lib.hid hBs
  have HD := Lib.hid hd
  have HWW := Lib.hid hW
  have HB := Lib.hid hb
  have HJ := Lib.hid (fun s W W' (hs : J s W) (hb : Below W.heap.size W W') => hJ s W W' none hs (grown_of_below hb) (fun r e => by cases e))
  have HY := Lib.hid hY
  have H00 := Lib.hid h00
  clear xs hd hJ hJx hY h00 hb hW hBs
  refine (callsIn_wide (n := 1)).1 (callsIn_of_wp Tryz.func34 rfl trivial ?_ rfl)
  simp only [Tryz.ntmps34, List.size_toArray, List.length_cons, List.length_nil, Nat.reduceAdd, Nat.reduceSub, Array.replicate_succ, Array.replicate_zero, List.push_toArray, List.append_toArray, List.nil_append, List.cons_append]
  gi_wp2_with fail
  gi_loopw [7] (fun i wr => ∃ (j : Nat) (ys : List (TE w0 A ds)), j ≤ n ∧ i = .int .i64 j ∧ Hid (ys.map (·.i) = List.range j) ∧ Hid (J ys wr) ∧ Hid (Below w.heap.size w wr)) (fun i _ => n - (intOf i).toNat)
  case atStart => exact ⟨0, [], Nat.zero_le _, rfl, Lib.hid rfl, H00, HWW⟩
  case round =>
    obtain ⟨j, ys, hj, rfl, HS, HJr, HK⟩ := hrel
    by_cases hlt : j < n
    · obtain ⟨x, hx⟩ := at_of HD.out.len hlt
      have HK0 := Lib.hid (HB.out.trans (HK.out.mono HB.out.size))
      obtain ⟨b1, o1, k1, h1, A2, n2, c2, rfl, e0, e1, e2, hr1⟩ := (HD.out.at_ j x hx).full
      have HX0 := Lib.hid (show ∃ d, ds[j]? = some d ∧ Rd w0 d (.agg #[.int .i64 k1, .int .i64 h1, .slice A2 n2 c2]) from ⟨x, hx, hr1⟩)
      have d0 := (HK0.out.cell (cell_lt e0)).trans e0
      have d1 := (HK0.out.cell (cell_lt e1)).trans e1
      have d2 := (HK0.out.cell (cell_lt e2)).trans e2
      obtain ⟨Wa, hWa⟩ : ∃ Wa, wr.alloc (.cells #[.int .i64 k1, .int .i64 h1, .slice A2 n2 c2] 39) = Wa := ⟨_, rfl⟩
      have hbA : Below wr.heap.size wr Wa := by rw [← hWa]; exact (Below.refl _ _).alloc (Nat.le_refl _) _
      have z5 : Box Wa wr.heap.size 39 #[.int .i64 k1, .int .i64 h1, .slice A2 n2 c2] := by rw [← hWa]; exact Box.new _ _ _
      have hKa : Below w.heap.size w Wa := HK.out.trans (hbA.mono HK.out.size)
      have hBsA := (HXS.out.keep hKa HXS.out.lt)
      have ap : Wa.cell? ⟨Bs, 0, none⟩ = some (.slice (some ⟨b1, o1, none⟩) n c) := hBsA.cell 0
      have a0 : Wa.cell? ⟨wr.heap.size, 0, none⟩ = some (.int .i64 k1) := z5.cell 0
      have a1 : Wa.cell? ⟨wr.heap.size, 1, none⟩ = some (.int .i64 h1) := z5.cell 1
      have a2 : Wa.cell? ⟨wr.heap.size, 2, none⟩ = some (.slice A2 n2 c2) := z5.cell 2
      have HKA := Lib.hid hKa
      have HJA := Lib.hid (HJ.out _ _ _ HJr.out hbA)
      have hi0 : (0 : Int) ≤ j := by omega
      have hi1 : (j : Int) < n := by omega
      have hi2 : (j : Int) ≤ c := by omega
      have hlen : ys.length = j := by have e := congrArg List.length HS.out; simpa using e
      have HLN := Lib.hid hlen
      clear hx hr1 e0 e1 e2 hlen z5 hKa hbA hBsA
      have hJd := HJ.out _ _ _ HJA.out (show Below Wa.heap.size Wa Wa.drew from (Below.refl _ Wa).drew)
      obtain ⟨fn, tmps, assign, body, hy, hR⟩ := yieldAny 0 (HY.out ys (⟨j, k1, h1, A2, n2, c2, HX0.out⟩ : TE w0 _ ds) Wa.drew hJd (by rw [HLN.out]; exact hlt))
      have HRR := Lib.hid (hR.mono fun e W' h => yb_of h)
      rw [encT] at hy
      clear hJd hR
      have hmo : Tryz.prog.follows .mixedOrders = true := by kernel_rfl
      have HWA := Lib.hid hWa
      gi_wp2_with fail
      try rw [HWA.out]
      clear HWA hWa
      gi_region_with_o (refine HRR.out.mono ?_; rintro e W3 ⟨b, rfl, hE⟩; have HE3 := Lib.hid hE; clear hE)
      all_goals
        cases b
        · have HJX := Lib.hid (HE3.out.2 rfl)
          clear HE3 hy HRR
          gi_wp2_with fail
          refine bodyPost_ret (v := .tuple #[]) (by simp [results, Tryz.results34, go_sem]) rfl ⟨⟨_, rfl⟩, .inr ⟨_, ?_, HJX.out⟩⟩
          rw [List.map_append, HS.out, List.length_append, HLN.out, List.length_singleton, List.range_succ]
          rfl
        · have HJ3 := Lib.hid (HE3.out.1 rfl)
          clear HE3 hy HRR
          gi_wp2_with fail
          go_roundw
          case rel => exact ⟨j + 1, ys ++ [(⟨j, k1, h1, A2, n2, c2, HX0.out⟩ : TE w0 _ ds)], by omega, by go_num, Lib.hid (by rw [List.map_append, HS.out, List.range_succ]; rfl), Lib.hid HJ3.out.1, Lib.hid (HKA.out.trans (((Below.refl _ _).drew).trans HJ3.out.2))⟩
          case measure => simp [intOf]; omega
    · have HE := Lib.hid (show ys.map (·.i) = List.range n by rw [HS.out]; congr 1; omega)
      gi_wp2_with fail
      go_end0
      exact ⟨⟨_, rfl⟩, .inl ⟨ys, HE.out, HJr.out⟩⟩
theorem eachMC (A : Option Addr) (n c : Nat) (w : World) :
    Calls Tryz.prog 20 #[.slice A n c] w fun e w' => e = .returned (.func (.func 29) #[] #[.pointer (some ⟨w.heap.size, 0, none⟩)]) ∧ w' = w.alloc (.cells #[.slice A n c] 23) := by
  have hmf : ∀ (fn : Fn) (first cap : Array Value) (w : World), (Instr.makeFunc fn first cap).run Tryz.prog w = .ok (.func fn first cap) w := fun _ _ _ _ => rfl
  go_enter Tryz.func20, Tryz.ntmps20
  go_wp2_with fail
  go_ret
  exact ⟨rfl, rfl⟩
theorem eachMStops (m : Nat) (w0 w : World) (ds : List MP) (A : Option Addr) (n c : Nat) (Bs : Nat) (hd : PL w0 ds A n c) (hb : Below w0.heap.size w0 w) (hBs : Box w Bs 23 #[.slice A n c]) :
    SeqStopsK Fence.wide m Tryz.prog 29 #[.pointer (some ⟨Bs, 0, none⟩)] (encM c (w0 := w0) (A := A) (ds := ds)) (Below w.heap.size) (fun ys => ys.map (·.i) = List.range n) (fun pre => pre.map (·.i) = List.range pre.length) n w := by
  intro l J Jx W hW hJ hJx hY h00
  refine callsIn_wide.2 ?_
  have xs := hBs.keep hW hBs.lt
  have hlt1 := hBs.lt
  have hcap := hd.cap
  have hle := hd.le
  unfold maxLen at hcap
  have p0 : W.cell? ⟨Bs, 0, none⟩ = some (.slice A n c) := xs.cell 0
  have hs0 := hb.size
  have hsW := hW.size
  have HXS := Lib.hid hBs
  have HD := Lib.hid hd
  have HWW := Lib.hid hW
  have HB := Lib.hid hb
  have HJ := Lib.hid (fun s W W' (hs : J s W) (hb : Below W.heap.size W W') => hJ s W W' none hs (grown_of_below hb) (fun r e => by cases e))
  have HY := Lib.hid hY
  have H00 := Lib.hid h00
  clear xs hd hJ hJx hY h00 hb hW hBs
  refine (callsIn_wide (n := 1)).1 (callsIn_of_wp Tryz.func29 rfl trivial ?_ rfl)
  simp only [Tryz.ntmps29, List.size_toArray, List.length_cons, List.length_nil, Nat.reduceAdd, Nat.reduceSub, Array.replicate_succ, Array.replicate_zero, List.push_toArray, List.append_toArray, List.nil_append, List.cons_append]
  gi_wp2_with fail
  gi_loopw [7] (fun i wr => ∃ (j : Nat) (ys : List (ME w0 A ds)), j ≤ n ∧ i = .int .i64 j ∧ Hid (ys.map (·.i) = List.range j) ∧ Hid (J ys wr) ∧ Hid (Below w.heap.size w wr)) (fun i _ => n - (intOf i).toNat)
  case atStart => exact ⟨0, [], Nat.zero_le _, rfl, Lib.hid rfl, H00, HWW⟩
  case round =>
    obtain ⟨j, ys, hj, rfl, HS, HJr, HK⟩ := hrel
    by_cases hlt : j < n
    · obtain ⟨x, hx⟩ := at_of HD.out.len hlt
      have HK0 := Lib.hid (HB.out.trans (HK.out.mono HB.out.size))
      obtain ⟨b1, o1, A1, n1, c1, k1, h1, A2, n2, c2, rfl, e0, e1, e2, e3, e4, hl1, hr1⟩ := HD.out.at_ j x hx
      obtain ⟨d, p1⟩ := x
      have HX0 := Lib.hid (show ∃ d, ds[j]? = some (d, p1) ∧ CLV w0 d.1 A1 n1 c1 ∧ Rd w0 d.2 (.agg #[.int .i64 k1, .int .i64 h1, .slice A2 n2 c2]) from ⟨d, hx, hl1, hr1⟩)
      dsimp only at e4 hl1 hr1
      have d0 := (HK0.out.cell (cell_lt e0)).trans e0
      have d1 := (HK0.out.cell (cell_lt e1)).trans e1
      have d2 := (HK0.out.cell (cell_lt e2)).trans e2
      have d3 := (HK0.out.cell (cell_lt e3)).trans e3
      have d4 := (HK0.out.cell (cell_lt e4)).trans e4
      obtain ⟨Wa, hWa⟩ : ∃ Wa, wr.alloc (.cells #[.slice A1 n1 c1, .int .i64 k1, .int .i64 h1, .slice A2 n2 c2, .bool p1] 42) = Wa := ⟨_, rfl⟩
      have hbA : Below wr.heap.size wr Wa := by rw [← hWa]; exact (Below.refl _ _).alloc (Nat.le_refl _) _
      have z5 : Box Wa wr.heap.size 42 #[.slice A1 n1 c1, .int .i64 k1, .int .i64 h1, .slice A2 n2 c2, .bool p1] := by rw [← hWa]; exact Box.new _ _ _
      have hKa : Below w.heap.size w Wa := HK.out.trans (hbA.mono HK.out.size)
      have hBsA := (HXS.out.keep hKa HXS.out.lt)
      have ap : Wa.cell? ⟨Bs, 0, none⟩ = some (.slice (some ⟨b1, o1, none⟩) n c) := hBsA.cell 0
      have a0 : Wa.cell? ⟨wr.heap.size, 0, none⟩ = some (.slice A1 n1 c1) := z5.cell 0
      have a1 : Wa.cell? ⟨wr.heap.size, 1, none⟩ = some (.int .i64 k1) := z5.cell 1
      have a2 : Wa.cell? ⟨wr.heap.size, 2, none⟩ = some (.int .i64 h1) := z5.cell 2
      have a3 : Wa.cell? ⟨wr.heap.size, 3, none⟩ = some (.slice A2 n2 c2) := z5.cell 3
      have a4 : Wa.cell? ⟨wr.heap.size, 4, none⟩ = some (.bool p1) := z5.cell 4
      have HKA := Lib.hid hKa
      have HJA := Lib.hid (HJ.out _ _ _ HJr.out hbA)
      have hi0 : (0 : Int) ≤ j := by omega
      have hi1 : (j : Int) < n := by omega
      have hi2 : (j : Int) ≤ c := by omega
      have hlen : ys.length = j := by have e := congrArg List.length HS.out; simpa using e
      have HLN := Lib.hid hlen
      clear hx hr1 hl1 e0 e1 e2 e3 e4 hlen z5 hKa hbA hBsA
      have hJd := HJ.out _ _ _ HJA.out (show Below Wa.heap.size Wa Wa.drew from (Below.refl _ Wa).drew)
      obtain ⟨fn, tmps, assign, body, hy, hR⟩ := yieldAny 0 (HY.out ys (⟨j, A1, n1, c1, k1, h1, A2, n2, c2, p1, HX0.out⟩ : ME w0 _ ds) Wa.drew hJd (by rw [HLN.out]; exact hlt))
      have HRR := Lib.hid (hR.mono fun e W' h => yb_of h)
      rw [encM] at hy
      clear hJd hR
      have hmo : Tryz.prog.follows .mixedOrders = true := by kernel_rfl
      have HWA := Lib.hid hWa
      gi_wp2_with fail
      try rw [HWA.out]
      clear HWA hWa
      gi_region_with_o (refine HRR.out.mono ?_; rintro e W3 ⟨b, rfl, hE⟩; have HE3 := Lib.hid hE; clear hE)
      all_goals
        cases b
        · have HJX := Lib.hid (HE3.out.2 rfl)
          clear HE3 hy HRR
          gi_wp2_with fail
          refine bodyPost_ret (v := .tuple #[]) (by simp [results, Tryz.results29, go_sem]) rfl ⟨⟨_, rfl⟩, .inr ⟨_, ?_, HJX.out⟩⟩
          rw [List.map_append, HS.out, List.length_append, HLN.out, List.length_singleton, List.range_succ]
          rfl
        · have HJ3 := Lib.hid (HE3.out.1 rfl)
          clear HE3 hy HRR
          gi_wp2_with fail
          go_roundw
          case rel => exact ⟨j + 1, ys ++ [(⟨j, A1, n1, c1, k1, h1, A2, n2, c2, p1, HX0.out⟩ : ME w0 _ ds)], by omega, by go_num, Lib.hid (by rw [List.map_append, HS.out, List.range_succ]; rfl), Lib.hid HJ3.out.1, Lib.hid (HKA.out.trans (((Below.refl _ _).drew).trans HJ3.out.2))⟩
          case measure => simp [intOf]; omega
    · have HE := Lib.hid (show ys.map (·.i) = List.range n by rw [HS.out]; congr 1; omega)
      gi_wp2_with fail
      go_end0
      exact ⟨⟨_, rfl⟩, .inl ⟨ys, HE.out, HJr.out⟩⟩
end Go.Proofs.YtbbjjdnnlnabaaaGreat
