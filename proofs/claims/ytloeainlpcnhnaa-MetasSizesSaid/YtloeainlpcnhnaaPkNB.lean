/-
  Texts of one proof, put together. No statement is proved here.
-/
import Derived.Test.YtloeainlpcnhnaaVi
import Derived.Deep.RegionHeld
import Derived.Test.YtloeainlpcnhnaaPkYB
import Derived.Test.YtloeainlpcnhnaaPkKB
import Derived.Test.YtloeainlpcnhnaaPkZB
/-
  A region that draws its order, in the body of a range over a function: what holds of it outside holds there. No statement is proved here.
-/
namespace Go.Proofs.Ytloeainlpcnhnaa
open Go.RowKit
set_option linter.unusedVariables false
theorem rowsIn_wideN {n : Nat} {P : Program} {row : String} {args : Array Value} {w : World} {R : Value → World → Prop} (h : Rows P row args w R) : RowsIn Fence.wide n P row args w R := fun c cs _ =>
  let ⟨v, w', r, s⟩ := h c cs; ⟨v, w', r, stepsIn_wide.2 s⟩
theorem RowsIn.inRoundN {F : Fence} {n : Nat} {P : Program} {row : String} {args : Array Value} {w : World} {R : Value → World → Prop} (l : Nat) (h : RowsIn F n P row args w R) : RowsIn (F.inRound l) n P row args w R := h
theorem wpOpsIn_roundN {P : Program} {ops : Array Oper} {Q : Exit → Act → World → Prop} (hL : ¬ LetsOut Q) (hd : ∀ (i : Nat) (o : Oper) (c : Call), ops[i]? = some o → o.op ≠ .defer c) (l n : Nat) : ∀ (is : List Nat) (a : Act) (w : World), wpOps P ops Q is a w → wpOpsIn (Fence.wide.inRound l) n P ops Q is a w
  | [], a, w, h => h
  | i :: is, a, w, h => by
    unfold wpOps at h
    unfold wpOpsIn
    cases ho : ops[i]? with
    | none => rw [ho] at h; exact wpOpsIn_roundN hL hd l n is a w h
    | some o =>
      rw [ho] at h
      simp only at h ⊢
      by_cases hw : Region.wanted o (yielded ops a.tmps) = true
      · rw [if_pos hw] at h ⊢
        rcases h with h | ⟨_, h⟩
        · unfold Oper.wp at h
          unfold Oper.wpIn
          refine ⟨fun _ _ => trivial, ?_⟩
          rw [Oper.semAt_plain _ _ _ (fun c => hd i o c ho)]
          generalize (execOp a.eval o).run P w = r at h ⊢
          cases r with
          | ok x w' =>
            cases x <;> simp only [Oper.upon, Oper.uponIn] at h ⊢
            case value v => exact wpOpsIn_roundN hL hd l n is _ _ h
            case skip => exact wpOpsIn_roundN hL hd l n is _ _ h
            case defer d => exact wpOpsIn_roundN hL hd l n is _ _ h
            case enter f args =>
              refine ⟨fun e => (by cases e), CallsIn.inRound l (callsIn_wide.2 (h.mono fun e w'' he => ?_))⟩
              cases e with
              | returned u => exact wpOpsIn_roundN hL hd l n is _ _ he
              | panicked c => exact he
              | outgrown => exact he
            case row row args =>
              refine ⟨fun e => (by cases e), RowsIn.inRoundN l (rowsIn_wideN (h.mono fun u w'' he => wpOpsIn_roundN hL hd l n is _ _ he))⟩
          | halt x w' => cases x <;> simp only [Oper.upon, Oper.uponIn] at h ⊢ <;> exact h
        · exact absurd h hL
      · rw [if_neg hw] at h ⊢
        exact ⟨fun _ _ => trivial, wpOpsIn_roundN hL hd l n is _ _ h⟩
/-- no operation of a list defers -/
def noDefN (ops : Array Oper) : Bool := ops.toList.all fun o => match o.op with
  | .defer _ => false
  | _ => true
theorem noDefN_spec {ops : Array Oper} (h : noDefN ops = true) (i : Nat) (o : Oper) (c : Call) (ho : ops[i]? = some o) : o.op ≠ .defer c := fun e => by
  have hm : o ∈ ops.toList := by
    rw [← Array.getElem?_toList] at ho
    exact List.mem_of_getElem? ho
  have := List.all_eq_true.1 h o hm
  rw [e] at this
  cases this
theorem wpIn_region_heldN {P : Program} {ops : Array Oper} {Q : Exit → Act → World → Prop} {S : World → Prop} {id l n : Nat} {a : Act} {w : World} (hL : ¬ LetsOut Q) (hd : noDefN ops = true) (hm : P.follows .mixedOrders = true) (hS : S w.drew)
    (h : S w.drew → wpAnyH P .any ops Q S ops.size (Array.replicate ops.size false) a w.drew) : (Code.region id ops true).wpIn (Fence.wide.inRound l) n P Q a w :=
  wpIn_region_draw fun t => by
    simp only [Region.schedule, hm, Bool.true_or, if_true]
    exact wpOpsIn_roundN hL (noDefN_spec hd) l n _ _ _ (wpAny_sound ops.size t _ a _ (wpAny_of_held _ _ _ _ (h hS)))
end Go.Proofs.Ytloeainlpcnhnaa
/-
  Metas in memory, with what they stand for; package metas' each. No statement is proved here.
-/
namespace Go.Proofs.Ytloeainlpcnhnaa
open Go.ChangeShapes Go.WideShapes Go.ChangeAt Go.RowKit Go.Shelf
set_option linter.unusedVariables false
attribute [local go_sem] Oper.semAt_some
abbrev MP := (List T × T) × Bool
/-- a meta of a list, and whether it stands for a variable alone -/
def PAt (w : World) (A : Option Addr) (i : Nat) (x : MP) : Prop :=
  ∃ b o A1 n1 c1 k h A2 n2 c2, A = some ⟨b, o, none⟩ ∧ w.cell? ⟨b, o + i * 5, none⟩ = some (.slice A1 n1 c1) ∧ w.cell? ⟨b, o + i * 5 + 1, none⟩ = some (.int .i64 k) ∧ w.cell? ⟨b, o + i * 5 + 2, none⟩ = some (.int .i64 h) ∧
    w.cell? ⟨b, o + i * 5 + 3, none⟩ = some (.slice A2 n2 c2) ∧ w.cell? ⟨b, o + i * 5 + 4, none⟩ = some (.bool x.2) ∧ CLV w x.1.1 A1 n1 c1 ∧ Rd w x.1.2 (.agg #[.int .i64 k, .int .i64 h, .slice A2 n2 c2])
structure PL (w : World) (ds : List MP) (A : Option Addr) (n c : Nat) : Prop where
  len : ds.length = n
  le : n ≤ c
  cap : c ≤ maxLen
  at_ : ∀ i x, ds[i]? = some x → PAt w A i x
theorem PAt.keep {w w' : World} {A : Option Addr} {i : Nat} {x : MP} (h : PAt w A i x) (hb : Below w.heap.size w w') : PAt w' A i x := by
  obtain ⟨b, o, A1, n1, c1, k, g, A2, n2, c2, rfl, d0, d1, d2, d3, d4, hl, hr⟩ := h
  exact ⟨b, o, A1, n1, c1, k, g, A2, n2, c2, rfl, (hb.cell (cell_lt d0)).trans d0, (hb.cell (cell_lt d1)).trans d1, (hb.cell (cell_lt d2)).trans d2, (hb.cell (cell_lt d3)).trans d3, (hb.cell (cell_lt d4)).trans d4, hl.keep hb, Rd.keep hb _ _ hr⟩
theorem PL.keep {w w' : World} {ds : List MP} {A : Option Addr} {n c : Nat} (h : PL w ds A n c) (hb : Below w.heap.size w w') : PL w' ds A n c :=
  ⟨h.len, h.le, h.cap, fun i x hx => (h.at_ i x hx).keep hb⟩
theorem PL.take {w : World} {ds : List MP} {A : Option Addr} {n c i : Nat} (h : PL w ds A n c) (hi : i ≤ n) : PL w (ds.take i) A i c :=
  ⟨by rw [List.length_take, h.len]; omega, by have := h.le; omega, h.cap, fun j x hx => h.at_ j x (by
    by_cases hj : j < i
    · rwa [List.getElem?_take_of_lt hj] at hx
    · rw [List.getElem?_eq_none (by rw [List.length_take]; omega)] at hx; cases hx)⟩
def msP (ds : List MP) : List (List T × T) := ds.map (·.1)
theorem PL.ml {w : World} {ds : List MP} {A : Option Addr} {n c : Nat} (h : PL w ds A n c) : ML w (msP ds) A n c :=
  ⟨by rw [msP, List.length_map]; exact h.len, h.le, h.cap, fun i x hx => by
    rw [msP, List.getElem?_map] at hx
    cases hq : ds[i]? with
    | none => rw [hq] at hx; cases hx
    | some y =>
      rw [hq] at hx
      cases hx
      obtain ⟨b, o, A1, n1, c1, k, g, A2, n2, c2, e, d0, d1, d2, d3, d4, hl, hr⟩ := h.at_ i y hq
      exact ⟨b, o, A1, n1, c1, k, g, A2, n2, c2, y.2, e, d0, d1, d2, d3, d4, hl, hr⟩⟩
theorem ML.pl {w : World} {ms : List (List T × T)} {A : Option Addr} {n c : Nat} (h : ML w ms A n c) : ∃ ds, PL w ds A n c ∧ msP ds = ms := by
  obtain ⟨ds, h1, h2⟩ := list_ofV (M := fun i (x : MP) => ms[i]? = some x.1 ∧ PAt w A i x) n fun i hi => by
    obtain ⟨x, hx⟩ := at_of h.len hi
    obtain ⟨b, o, A1, n1, c1, k, g, A2, n2, c2, p, e, d0, d1, d2, d3, d4, hl, hr⟩ := h.at_ i x hx
    exact ⟨(x, p), hx, b, o, A1, n1, c1, k, g, A2, n2, c2, e, d0, d1, d2, d3, d4, hl, hr⟩
  refine ⟨ds, ⟨h1, h.le, h.cap, fun i x hx => (h2 i x hx).2⟩, ?_⟩
  refine List.ext_getElem? fun i => ?_
  rw [msP, List.getElem?_map]
  cases hq : ds[i]? with
  | none =>
    rw [List.getElem?_eq_none_iff] at hq
    rw [Option.map_none]
    exact (List.getElem?_eq_none (by rw [h.len]; omega)).symm
  | some x => rw [Option.map_some]; exact (h2 i x hq).1.symm
/-- what is handed on: its place, its cells, and that they are what the list has there -/
structure ME (w0 : World) (A : Option Addr) (ds : List MP) where
  i : Nat
  A1 : Option Addr
  n1 : Nat
  c1 : Nat
  k : Int
  h : Int
  A2 : Option Addr
  n2 : Nat
  c2 : Nat
  p : Bool
  ok : ∃ d, ds[i]? = some (d, p) ∧ CLV w0 d.1 A1 n1 c1 ∧ Rd w0 d.2 (.agg #[.int .i64 k, .int .i64 h, .slice A2 n2 c2])
structure TE (w0 : World) (A : Option Addr) (ds : List T) where
  i : Nat
  k : Int
  h : Int
  A2 : Option Addr
  n2 : Nat
  c2 : Nat
  ok : ∃ d, ds[i]? = some d ∧ Rd w0 d (.agg #[.int .i64 k, .int .i64 h, .slice A2 n2 c2])
def encM (c : Nat) {w0 : World} {A : Option Addr} {ds : List MP} (x : ME w0 A ds) : Array Value := #[.slice A x.i x.i, .agg #[.slice x.A1 x.n1 x.c1, .int .i64 x.k, .int .i64 x.h, .slice x.A2 x.n2 x.c2, .bool x.p]]
def encT (c : Nat) {w0 : World} {A : Option Addr} {ds : List T} (x : TE w0 A ds) : Array Value := #[.slice A x.i x.i, .agg #[.int .i64 x.k, .int .i64 x.h, .slice x.A2 x.n2 x.c2]]
theorem yb_of {P Q : Prop} {e : Ending} (h : (e = .returned (.bool true) ∧ P) ∨ (e = .returned (.bool false) ∧ Q)) : ∃ b, e = .returned (.bool b) ∧ (b = true → P) ∧ (b = false → Q) := by
  rcases h with ⟨h, hp⟩ | ⟨h, hq⟩
  · exact ⟨true, h, (fun _ => hp), (fun e => Bool.noConfusion e)⟩
  · exact ⟨false, h, (fun e => Bool.noConfusion e), (fun _ => hq)⟩
theorem eachTC (A : Option Addr) (n c : Nat) (w : World) :
    Calls Try.prog 48 #[.slice A n c] w fun e w' => e = .returned (.func (.func 76) #[] #[.pointer (some ⟨w.heap.size, 0, none⟩)]) ∧ w' = w.alloc (.cells #[.slice A n c] 24) := by
  have hmf : ∀ (fn : Fn) (first cap : Array Value) (w : World), (Instr.makeFunc fn first cap).run Try.prog w = .ok (.func fn first cap) w := fun _ _ _ _ => rfl
  go_enter Try.func48, Try.ntmps48
  go_wp2_with fail
  go_ret
  exact ⟨rfl, rfl⟩
set_option maxRecDepth 100000 in
set_option maxHeartbeats 8000000 in
theorem eachTStops (m : Nat) (w0 w : World) (ds : List T) (A : Option Addr) (n c : Nat) (Bs : Nat) (hd : CLV w0 ds A n c) (hb : Below w0.heap.size w0 w) (hBs : Box w Bs 24 #[.slice A n c]) :
    SeqStopsK Fence.wide m Try.prog 76 #[.pointer (some ⟨Bs, 0, none⟩)] (encT c (w0 := w0) (A := A) (ds := ds)) (Below w.heap.size) (fun ys => ys.map (·.i) = List.range n) (fun pre => pre.map (·.i) = List.range pre.length) n w := by
  intro l J Jx W hW hJ hJx hY h00
  refine callsIn_wide.2 ?_
  have xs := hBs.keep hW hBs.lt
  have hlt1 := hBs.lt
  have hcap := hd.cap
  have hle := hd.le
  unfold maxLen at hcap
  have p0 : W.cell? ⟨Bs, 0, none⟩ = some (.slice A n c) := xs.cell 0
  have hs0 := hb.size
  have hsW := hW.size
  have HXS := Lib.hid hBs
  have HD := Lib.hid hd
  have HWW := Lib.hid hW
  have HB := Lib.hid hb
  have HJ := Lib.hid (fun s W W' (hs : J s W) (hb : Below W.heap.size W W') => hJ s W W' none hs (grown_of_below hb) (fun r e => by cases e))
  have HY := Lib.hid hY
  have H00 := Lib.hid h00
  clear xs hd hJ hJx hY h00 hb hW hBs
  refine (callsIn_wide (n := 1)).1 (callsIn_of_wp Try.func76 rfl trivial ?_ rfl)
  simp only [Try.ntmps76, List.size_toArray, List.length_cons, List.length_nil, Nat.reduceAdd, Nat.reduceSub, Array.replicate_succ, Array.replicate_zero, List.push_toArray, List.append_toArray, List.nil_append, List.cons_append]
  gi_wp2_with fail
  gi_loopw [7] (fun i wr => ∃ (j : Nat) (ys : List (TE w0 A ds)), j ≤ n ∧ i = .int .i64 j ∧ Hid (ys.map (·.i) = List.range j) ∧ Hid (J ys wr) ∧ Hid (Below w.heap.size w wr)) (fun i _ => n - (intOf i).toNat)
  case atStart => exact ⟨0, [], Nat.zero_le _, rfl, Lib.hid rfl, H00, HWW⟩
  case round =>
    obtain ⟨j, ys, hj, rfl, HS, HJr, HK⟩ := hrel
    by_cases hlt : j < n
    · obtain ⟨x, hx⟩ := at_of HD.out.len hlt
      have HK0 := Lib.hid (HB.out.trans (HK.out.mono HB.out.size))
      obtain ⟨b1, o1, k1, h1, A2, n2, c2, rfl, e0, e1, e2, hr1⟩ := (HD.out.at_ j x hx).full
      have HX0 := Lib.hid (show ∃ d, ds[j]? = some d ∧ Rd w0 d (.agg #[.int .i64 k1, .int .i64 h1, .slice A2 n2 c2]) from ⟨x, hx, hr1⟩)
      have d0 := (HK0.out.cell (cell_lt e0)).trans e0
      have d1 := (HK0.out.cell (cell_lt e1)).trans e1
      have d2 := (HK0.out.cell (cell_lt e2)).trans e2
      obtain ⟨Wa, hWa⟩ : ∃ Wa, wr.alloc (.cells #[.int .i64 k1, .int .i64 h1, .slice A2 n2 c2] 26) = Wa := ⟨_, rfl⟩
      have hbA : Below wr.heap.size wr Wa := by rw [← hWa]; exact (Below.refl _ _).alloc (Nat.le_refl _) _
      have z5 : Box Wa wr.heap.size 26 #[.int .i64 k1, .int .i64 h1, .slice A2 n2 c2] := by rw [← hWa]; exact Box.new _ _ _
      have hKa : Below w.heap.size w Wa := HK.out.trans (hbA.mono HK.out.size)
      have hBsA := (HXS.out.keep hKa HXS.out.lt)
      have ap : Wa.cell? ⟨Bs, 0, none⟩ = some (.slice (some ⟨b1, o1, none⟩) n c) := hBsA.cell 0
      have a0 : Wa.cell? ⟨wr.heap.size, 0, none⟩ = some (.int .i64 k1) := z5.cell 0
      have a1 : Wa.cell? ⟨wr.heap.size, 1, none⟩ = some (.int .i64 h1) := z5.cell 1
      have a2 : Wa.cell? ⟨wr.heap.size, 2, none⟩ = some (.slice A2 n2 c2) := z5.cell 2
      have HKA := Lib.hid hKa
      have HJA := Lib.hid (HJ.out _ _ _ HJr.out hbA)
      have hi0 : (0 : Int) ≤ j := by omega
      have hi1 : (j : Int) < n := by omega
      have hi2 : (j : Int) ≤ c := by omega
      have hlen : ys.length = j := by have e := congrArg List.length HS.out; simpa using e
      have HLN := Lib.hid hlen
      clear hx hr1 e0 e1 e2 hlen z5 hKa hbA hBsA
      have hJd := HJ.out _ _ _ HJA.out (show Below Wa.heap.size Wa Wa.drew from (Below.refl _ Wa).drew)
      obtain ⟨fn, tmps, assign, body, hy, hR⟩ := yieldAny 0 (HY.out ys (⟨j, k1, h1, A2, n2, c2, HX0.out⟩ : TE w0 _ ds) Wa.drew hJd (by rw [HLN.out]; exact hlt))
      have HRR := Lib.hid (hR.mono fun e W' h => yb_of h)
      rw [encT] at hy
      clear hJd hR
      have hmo : Try.prog.follows .mixedOrders = true := by kernel_rfl
      have HWA := Lib.hid hWa
      gi_wp2_with fail
      try rw [HWA.out]
      clear HWA hWa
      gi_region_with_o (refine HRR.out.mono ?_; rintro e W3 ⟨b, rfl, hE⟩; have HE3 := Lib.hid hE; clear hE)
      all_goals
        cases b
        · have HJX := Lib.hid (HE3.out.2 rfl)
          clear HE3 hy HRR
          gi_wp2_with fail
          refine bodyPost_ret (v := .tuple #[]) (by simp [results, Try.results76, go_sem]) rfl ⟨⟨_, rfl⟩, .inr ⟨_, ?_, HJX.out⟩⟩
          rw [List.map_append, HS.out, List.length_append, HLN.out, List.length_singleton, List.range_succ]
          rfl
        · have HJ3 := Lib.hid (HE3.out.1 rfl)
          clear HE3 hy HRR
          gi_wp2_with fail
          go_roundw
          case rel => exact ⟨j + 1, ys ++ [(⟨j, k1, h1, A2, n2, c2, HX0.out⟩ : TE w0 _ ds)], by omega, by go_num, Lib.hid (by rw [List.map_append, HS.out, List.range_succ]; rfl), Lib.hid HJ3.out.1, Lib.hid (HKA.out.trans (((Below.refl _ _).drew).trans HJ3.out.2))⟩
          case measure => simp [intOf]; omega
    · have HE := Lib.hid (show ys.map (·.i) = List.range n by rw [HS.out]; congr 1; omega)
      gi_wp2_with fail
      go_end0
      exact ⟨⟨_, rfl⟩, .inl ⟨ys, HE.out, HJr.out⟩⟩
theorem eachMC (A : Option Addr) (n c : Nat) (w : World) :
    Calls Try.prog 46 #[.slice A n c] w fun e w' => e = .returned (.func (.func 75) #[] #[.pointer (some ⟨w.heap.size, 0, none⟩)]) ∧ w' = w.alloc (.cells #[.slice A n c] 23) := by
  have hmf : ∀ (fn : Fn) (first cap : Array Value) (w : World), (Instr.makeFunc fn first cap).run Try.prog w = .ok (.func fn first cap) w := fun _ _ _ _ => rfl
  go_enter Try.func46, Try.ntmps46
  go_wp2_with fail
  go_ret
  exact ⟨rfl, rfl⟩
set_option maxRecDepth 100000 in
set_option maxHeartbeats 8000000 in
theorem eachMStops (m : Nat) (w0 w : World) (ds : List MP) (A : Option Addr) (n c : Nat) (Bs : Nat) (hd : PL w0 ds A n c) (hb : Below w0.heap.size w0 w) (hBs : Box w Bs 23 #[.slice A n c]) :
    SeqStopsK Fence.wide m Try.prog 75 #[.pointer (some ⟨Bs, 0, none⟩)] (encM c (w0 := w0) (A := A) (ds := ds)) (Below w.heap.size) (fun ys => ys.map (·.i) = List.range n) (fun pre => pre.map (·.i) = List.range pre.length) n w := by
  intro l J Jx W hW hJ hJx hY h00
  refine callsIn_wide.2 ?_
  have xs := hBs.keep hW hBs.lt
  have hlt1 := hBs.lt
  have hcap := hd.cap
  have hle := hd.le
  unfold maxLen at hcap
  have p0 : W.cell? ⟨Bs, 0, none⟩ = some (.slice A n c) := xs.cell 0
  have hs0 := hb.size
  have hsW := hW.size
  have HXS := Lib.hid hBs
  have HD := Lib.hid hd
  have HWW := Lib.hid hW
  have HB := Lib.hid hb
  have HJ := Lib.hid (fun s W W' (hs : J s W) (hb : Below W.heap.size W W') => hJ s W W' none hs (grown_of_below hb) (fun r e => by cases e))
  have HY := Lib.hid hY
  have H00 := Lib.hid h00
  clear xs hd hJ hJx hY h00 hb hW hBs
  refine (callsIn_wide (n := 1)).1 (callsIn_of_wp Try.func75 rfl trivial ?_ rfl)
  simp only [Try.ntmps75, List.size_toArray, List.length_cons, List.length_nil, Nat.reduceAdd, Nat.reduceSub, Array.replicate_succ, Array.replicate_zero, List.push_toArray, List.append_toArray, List.nil_append, List.cons_append]
  gi_wp2_with fail
  gi_loopw [7] (fun i wr => ∃ (j : Nat) (ys : List (ME w0 A ds)), j ≤ n ∧ i = .int .i64 j ∧ Hid (ys.map (·.i) = List.range j) ∧ Hid (J ys wr) ∧ Hid (Below w.heap.size w wr)) (fun i _ => n - (intOf i).toNat)
  case atStart => exact ⟨0, [], Nat.zero_le _, rfl, Lib.hid rfl, H00, HWW⟩
  case round =>
    obtain ⟨j, ys, hj, rfl, HS, HJr, HK⟩ := hrel
    by_cases hlt : j < n
    · obtain ⟨x, hx⟩ := at_of HD.out.len hlt
      have HK0 := Lib.hid (HB.out.trans (HK.out.mono HB.out.size))
      obtain ⟨b1, o1, A1, n1, c1, k1, h1, A2, n2, c2, rfl, e0, e1, e2, e3, e4, hl1, hr1⟩ := HD.out.at_ j x hx
      obtain ⟨d, p1⟩ := x
      have HX0 := Lib.hid (show ∃ d, ds[j]? = some (d, p1) ∧ CLV w0 d.1 A1 n1 c1 ∧ Rd w0 d.2 (.agg #[.int .i64 k1, .int .i64 h1, .slice A2 n2 c2]) from ⟨d, hx, hl1, hr1⟩)
      dsimp only at e4 hl1 hr1
      have d0 := (HK0.out.cell (cell_lt e0)).trans e0
      have d1 := (HK0.out.cell (cell_lt e1)).trans e1
      have d2 := (HK0.out.cell (cell_lt e2)).trans e2
      have d3 := (HK0.out.cell (cell_lt e3)).trans e3
      have d4 := (HK0.out.cell (cell_lt e4)).trans e4
      obtain ⟨Wa, hWa⟩ : ∃ Wa, wr.alloc (.cells #[.slice A1 n1 c1, .int .i64 k1, .int .i64 h1, .slice A2 n2 c2, .bool p1] 39) = Wa := ⟨_, rfl⟩
      have hbA : Below wr.heap.size wr Wa := by rw [← hWa]; exact (Below.refl _ _).alloc (Nat.le_refl _) _
      have z5 : Box Wa wr.heap.size 39 #[.slice A1 n1 c1, .int .i64 k1, .int .i64 h1, .slice A2 n2 c2, .bool p1] := by rw [← hWa]; exact Box.new _ _ _
      have hKa : Below w.heap.size w Wa := HK.out.trans (hbA.mono HK.out.size)
      have hBsA := (HXS.out.keep hKa HXS.out.lt)
      have ap : Wa.cell? ⟨Bs, 0, none⟩ = some (.slice (some ⟨b1, o1, none⟩) n c) := hBsA.cell 0
      have a0 : Wa.cell? ⟨wr.heap.size, 0, none⟩ = some (.slice A1 n1 c1) := z5.cell 0
      have a1 : Wa.cell? ⟨wr.heap.size, 1, none⟩ = some (.int .i64 k1) := z5.cell 1
      have a2 : Wa.cell? ⟨wr.heap.size, 2, none⟩ = some (.int .i64 h1) := z5.cell 2
      have a3 : Wa.cell? ⟨wr.heap.size, 3, none⟩ = some (.slice A2 n2 c2) := z5.cell 3
      have a4 : Wa.cell? ⟨wr.heap.size, 4, none⟩ = some (.bool p1) := z5.cell 4
      have HKA := Lib.hid hKa
      have HJA := Lib.hid (HJ.out _ _ _ HJr.out hbA)
      have hi0 : (0 : Int) ≤ j := by omega
      have hi1 : (j : Int) < n := by omega
      have hi2 : (j : Int) ≤ c := by omega
      have hlen : ys.length = j := by have e := congrArg List.length HS.out; simpa using e
      have HLN := Lib.hid hlen
      clear hx hr1 hl1 e0 e1 e2 e3 e4 hlen z5 hKa hbA hBsA
      have hJd := HJ.out _ _ _ HJA.out (show Below Wa.heap.size Wa Wa.drew from (Below.refl _ Wa).drew)
      obtain ⟨fn, tmps, assign, body, hy, hR⟩ := yieldAny 0 (HY.out ys (⟨j, A1, n1, c1, k1, h1, A2, n2, c2, p1, HX0.out⟩ : ME w0 _ ds) Wa.drew hJd (by rw [HLN.out]; exact hlt))
      have HRR := Lib.hid (hR.mono fun e W' h => yb_of h)
      rw [encM] at hy
      clear hJd hR
      have hmo : Try.prog.follows .mixedOrders = true := by kernel_rfl
      have HWA := Lib.hid hWa
      gi_wp2_with fail
      try rw [HWA.out]
      clear HWA hWa
      gi_region_with_o (refine HRR.out.mono ?_; rintro e W3 ⟨b, rfl, hE⟩; have HE3 := Lib.hid hE; clear hE)
      all_goals
        cases b
        · have HJX := Lib.hid (HE3.out.2 rfl)
          clear HE3 hy HRR
          gi_wp2_with fail
          refine bodyPost_ret (v := .tuple #[]) (by simp [results, Try.results75, go_sem]) rfl ⟨⟨_, rfl⟩, .inr ⟨_, ?_, HJX.out⟩⟩
          rw [List.map_append, HS.out, List.length_append, HLN.out, List.length_singleton, List.range_succ]
          rfl
        · have HJ3 := Lib.hid (HE3.out.1 rfl)
          clear HE3 hy HRR
          gi_wp2_with fail
          go_roundw
          case rel => exact ⟨j + 1, ys ++ [(⟨j, A1, n1, c1, k1, h1, A2, n2, c2, p1, HX0.out⟩ : ME w0 _ ds)], by omega, by go_num, Lib.hid (by rw [List.map_append, HS.out, List.range_succ]; rfl), Lib.hid HJ3.out.1, Lib.hid (HKA.out.trans (((Below.refl _ _).drew).trans HJ3.out.2))⟩
          case measure => simp [intOf]; omega
    · have HE := Lib.hid (show ys.map (·.i) = List.range n by rw [HS.out]; congr 1; omega)
      gi_wp2_with fail
      go_end0
      exact ⟨⟨_, rfl⟩, .inl ⟨ys, HE.out, HJr.out⟩⟩
end Go.Proofs.Ytloeainlpcnhnaa
/-
  Package metas, plain. No statement is proved here.
-/
namespace Go.Proofs.Ytloeainlpcnhnaa
open Go.ChangeShapes Go.WideShapes Go.ChangeAt Go.RowKit
set_option linter.unusedVariables false
/-- what goes wrong first, and where -/
def fiG {α : Type} (g : Nat → α → Int) : Nat → List α → Nat × Int
  | _, [] => (0, 0)
  | i, x :: xs => if g i x = 0 then fiG g (i + 1) xs else (i, g i x)
theorem fiG_zero {α : Type} {g : Nat → α → Int} : ∀ (l : List α) (i : Nat), (fiG g i l).2 = 0 ↔ ∀ j x, l[j]? = some x → g (i + j) x = 0
  | [], i => ⟨fun _ j x hx => by simp at hx, fun _ => rfl⟩
  | y :: l, i => by
    rw [fiG]
    by_cases h : g i y = 0
    · rw [if_pos h, fiG_zero l (i + 1)]
      constructor
      · intro hh j x hx
        cases j with
        | zero => simp at hx; subst hx; exact h
        | succ j =>
          have := hh j x (by simpa using hx)
          rwa [show i + 1 + j = i + (j + 1) by omega] at this
      · intro hh j x hx
        have := hh (j + 1) x (by simpa using hx)
        rwa [show i + (j + 1) = i + 1 + j by omega] at this
    · rw [if_neg h]
      constructor
      · intro hh; exact absurd hh h
      · intro hh
        have := hh 0 y rfl
        exact absurd this h
theorem fiG_none {α : Type} {g : Nat → α → Int} : ∀ (l : List α) (i : Nat), (∀ j x, l[j]? = some x → g (i + j) x = 0) → fiG g i l = (0, 0)
  | [], i, _ => rfl
  | y :: l, i, h => by
    rw [fiG, if_pos (show g i y = 0 from h 0 y rfl)]
    exact fiG_none l (i + 1) fun j x hx => by
      have := h (j + 1) x (by simpa using hx)
      rwa [show i + (j + 1) = i + 1 + j by omega] at this
theorem fiG_first {α : Type} {g : Nat → α → Int} {e : Int} (he : e ≠ 0) : ∀ (l : List α) (i k : Nat) (y : α), (∀ j x, j < k → l[j]? = some x → g (i + j) x = 0) → l[k]? = some y → g (i + k) y = e → fiG g i l = (i + k, e)
  | [], i, k, y, _, h, _ => by simp at h
  | x :: l, i, k, y, h, hk, hg => by
    rw [fiG]
    cases k with
    | zero =>
      simp at hk
      subst hk
      rw [Nat.add_zero] at hg
      rw [if_neg (by rw [hg]; exact he), hg]
      rfl
    | succ k =>
      rw [if_pos (show g i x = 0 from h 0 x (by omega) rfl), fiG_first he l (i + 1) k y (fun j x hj hx => by
        have := h (j + 1) x (by omega) (by simpa using hx)
        rwa [show i + (j + 1) = i + 1 + j by omega] at this) (by simpa using hk) (by rwa [show i + 1 + k = i + (k + 1) by omega])]
      rw [show i + 1 + k = i + (k + 1) by omega]
/-- what is wrong with a meta, over those ahead -/
def deV (W : WV) (d : MP) : Int :=
  if ctV W [] d.1.1 = 0 then (if kdQ d.1.2 = 2 ∧ (d.2 = true → d.1.1.length = 0) then ckTy W d.1.1 d.1.2 else 1) else ctV W [] d.1.1
def dcV (sg : List T) (ds : List MP) : Nat × Int := if 40 < ds.length then (0, 4) else fiG (fun i d => deV ⟨sg, msP (ds.take i)⟩ d) 0 ds
/-- is it a variable, or a meta that stands for one -/
def vaV (l : List MP) : T → Bool
  | .node k h xs => (k == 4 && xs.length == 0) || (k == 6 && (l.getD h.toNat (([], .node 0 0 []), false)).2)
/-- what is wrong with a meta's term -/
def plV (W : WV) (l : List MP) (ext dn : List T) (d : MP) (t : T) : Int :=
  match cxL dn 0 d.1.1 with
  | .error e => e
  | .ok (cx, _) => match fiR dn cx.length d.1.2 with
    | .error e => e
    | .ok a => if ckT W (ext ++ cx) t a = 0 then (if d.2 = true ∧ vaV l t = false then 3 else 0) else ckT W (ext ++ cx) t a
def noMP : MP := (([], .node 0 0 []), false)
def suV (sg : List T) (l : List MP) (ext : List T) (delta : List MP) (theta : List T) : Int :=
  if 40 < delta.length then 4 else if theta.length = delta.length then (fiG (fun i t => plV ⟨sg, msP l⟩ l ext (theta.take i) (delta.getD i noMP) t) 0 theta).2 else 3
theorem wrap_smallN {x : Int} (h0 : 0 ≤ x) (h1 : x ≤ 1000000) : wrap64 x = x := by
  unfold wrap64
  omega
end Go.Proofs.Ytloeainlpcnhnaa
/-
  Constants replaced by closed terms in lambda terms with dependent types; telescopes. No statement is proved here.
-/
namespace Go.Proofs.Ytloeainlpcnhnaa.Cr
open Go.RowKit
set_option linter.unusedVariables false
/-- constants become something -/
def csub (q : Int → Int → Lm) : Lm → Lm
  | .v i => .v i
  | .c k h => q k h
  | .a f x => .a (csub q f) (csub q x)
  | .l b => .l (csub q b)
structure CK (q : Int → Int → Lm) : Prop where
  clo : ∀ k h, Clo (q k h)
  pi : q 1 0 = .c 1 0
theorem csub_ren {q : Int → Int → Lm} (hq : CK q) (t : Lm) : ∀ r, csub q (ren r t) = ren r (csub q t) := by
  induction t with
  | v i => intro r; rfl
  | c k h => intro r; exact ((hq.clo k h).ren r).symm
  | a f x ihf ihx => intro r; rw [ren, csub, csub, ren, ihf, ihx]
  | l b ih => intro r; rw [ren, csub, csub, ren, ih]
theorem csub_sub {q : Int → Int → Lm} (hq : CK q) (t : Lm) : ∀ s, csub q (sub s t) = sub (fun i => csub q (s i)) (csub q t) := by
  induction t with
  | v i => intro s; rfl
  | c k h => intro s; exact (hq.clo k h _).symm
  | a f x ihf ihx => intro s; rw [sub, csub, csub, sub, ihf, ihx]
  | l b ih =>
    intro s
    rw [sub, csub, csub, sub, ih]
    congr 1
    refine sub_ext (fun i => ?_) _
    cases i with
    | zero => rfl
    | succ i => exact csub_ren hq (s i) _
theorem csub_one {q : Int → Int → Lm} (hq : CK q) (x b : Lm) : csub q (sub (one x) b) = sub (one (csub q x)) (csub q b) := by
  rw [csub_sub hq]
  refine sub_ext (fun i => ?_) _
  cases i <;> rfl
theorem csub_pi {q : Int → Int → Lm} (hq : CK q) (A B : Lm) : csub q (pi A B) = pi (csub q A) (csub q B) := by
  unfold pi
  rw [csub, csub, csub, csub, hq.pi]
theorem Par.csub {q : Int → Int → Lm} (hq : CK q) {t t' : Lm} (h : Par t t') : Par (Cr.csub q t) (Cr.csub q t') := by
  induction h with
  | v i => exact .refl _
  | c k h => exact .refl _
  | a _ _ ihf ihx => exact .a ihf ihx
  | l _ ih => exact .l ih
  | beta _ _ ihb ihx => rw [csub_one hq]; exact .beta ihb ihx
theorem Ps.csub {q : Int → Int → Lm} (hq : CK q) {t t' : Lm} (h : Ps t t') : Ps (Cr.csub q t) (Cr.csub q t') := by
  induction h with
  | refl t => exact .refl _
  | step p _ ih => exact .step (p.csub hq) ih
theorem Cv.csub {q : Int → Int → Lm} (hq : CK q) {t t' : Lm} (h : Cv t t') : Cv (Cr.csub q t) (Cr.csub q t') := by
  obtain ⟨x, h1, h2⟩ := h
  exact ⟨_, h1.csub hq, h2.csub hq⟩
/-- what has a type has it with constants that became something of their types -/
theorem Ty.csub {q : Int → Int → Lm} (hq : CK q) {K K' : Int → Int → Lm → Prop} (hK : ∀ k h A, K k h A → ∀ G, Ty K' G (q k h) (Cr.csub q A)) {G : List Lm} {t A : Lm} (h : Ty K G t A) : Ty K' (G.map (Cr.csub q)) (Cr.csub q t) (Cr.csub q A) := by
  induction h with
  | v hi => rw [csub_ren hq]; exact .v (by rw [List.getElem?_map, hi]; rfl)
  | c hk => exact hK _ _ _ hk _
  | a _ _ ihf ihx =>
    rw [csub_one hq]
    rw [csub_pi hq] at ihf
    exact .a ihf ihx
  | l _ ih => rw [csub_pi hq]; exact .l ih
  | conv _ hc ih => exact .conv ih (hc.csub hq)
/-! ### Telescopes -/
def piL : List Lm → Lm → Lm
  | [], T => T
  | e :: es, T => pi e (piL es T)
def lamN : Nat → Lm → Lm
  | 0, b => b
  | n + 1, b => .l (lamN n b)
theorem Ty.lamN {K : Int → Int → Lm → Prop} {b T : Lm} : ∀ {es : List Lm} {G : List Lm}, Ty K (es.reverse ++ G) b T → Ty K G (Cr.lamN es.length b) (piL es T)
  | [], G, h => h
  | e :: es, G, h => by
    rw [List.reverse_cons, List.append_assoc] at h
    exact .l (Ty.lamN (es := es) (G := e :: G) h)
end Go.Proofs.Ytloeainlpcnhnaa.Cr
/-
  What is checked has its simple type, over metas. No statement is proved here.
-/
namespace Go.Proofs.Ytloeainlpcnhnaa
open Go.RowKit
set_option linter.unusedVariables false
/-- the simple type of a meta -/
def arr : List T → S0
  | [] => .o
  | e :: es => .r (er e) (arr es)
/-- simple types of constants, families and metas -/
def cM (W : WV) (k h : Int) : Option S0 :=
  if k = 6 then (if 0 ≤ h then (match W.ms[h.toNat]? with
    | some m => some (arr m.1)
    | none => none) else none) else cS W.sg k h
theorem cM_cS {W : WV} : ∀ (k h : Int) (s : S0), cS W.sg k h = some s → cM W k h = some s := fun k h s e => by
  by_cases hk : k = 6
  · subst hk
    unfold cS at e
    split at e
    · split at e
      · rw [if_neg (by omega)] at e; cases e
      · cases e
    · cases e
  · unfold cM
    rw [if_neg hk]; exact e
theorem cM_at {W : WV} {h : Int} {m : List T × T} (h0 : 0 ≤ h) (hm : W.ms[h.toNat]? = some m) : cM W 6 h = some (arr m.1) := by
  unfold cM
  rw [if_pos rfl, if_pos h0, hm]
theorem cM_six {W : WV} {h : Int} {s : S0} (e : cM W 6 h = some s) : 0 ≤ h ∧ ∃ m, W.ms[h.toNat]? = some m ∧ s = arr m.1 := by
  unfold cM at e
  rw [if_pos rfl] at e
  by_cases h0 : 0 ≤ h
  · rw [if_pos h0] at e
    cases hq : W.ms[h.toNat]? with
    | none => rw [hq] at e; cases e
    | some m => rw [hq] at e; cases e; exact ⟨h0, m, rfl, rfl⟩
  · rw [if_neg h0] at e; cases e
theorem cM_no {W : WV} {k h : Int} (hk : k ≠ 6) : cM W k h = cS W.sg k h := by unfold cM; rw [if_neg hk]
theorem cM_take {sg : List T} {ms : List (List T × T)} {i : Nat} : ∀ (k h : Int) (s : S0), cM ⟨sg, ms.take i⟩ k h = some s → cM ⟨sg, ms⟩ k h = some s := fun k h s e => by
  by_cases hk : k = 6
  · subst hk
    obtain ⟨h0, m, hm, rfl⟩ := cM_six e
    refine cM_at h0 ?_
    simp only at hm
    have hl := (List.getElem?_eq_some_iff.1 hm).1
    rw [List.length_take] at hl
    rwa [List.getElem?_take_of_lt (by omega)] at hm
  · rw [cM_no hk] at e ⊢; exact e
/-- entries that are types, each behind those ahead; metas in order; declarations -/
def WfM (W : WV) (cx : List T) : Prop := ∀ i x, cx[i]? = some x → nodB x = true ∧ Wf (cM W) true (gS (cx.take i)) x
def SgM (W : WV) : Prop := ∀ t ∈ W.sg, nodB t = true ∧ (kiB t = true → Wf (cM W) false [] t) ∧ (kiB t = false → Wf (cM W) true [] t)
theorem SgX.m {W : WV} (h : SgX W.sg) : SgM W := fun t ht =>
  ⟨(h t ht).1, fun e => ((h t ht).2.1 e).more cM_cS fun _ _ h => h, fun e => ((h t ht).2.2 e).more cM_cS fun _ _ h => h⟩
theorem WfM.more {sg : List T} {ms : List (List T × T)} {i : Nat} {cx : List T} (h : WfM ⟨sg, ms.take i⟩ cx) : WfM ⟨sg, ms⟩ cx := fun j x hx =>
  ⟨(h j x hx).1, (h j x hx).2.more cM_take fun _ _ h => h⟩
theorem WfM.take {W : WV} {cx : List T} (h : WfM W cx) (n : Nat) : WfM W (cx.take n) := fun i x hx => by
  have hi := (List.getElem?_eq_some_iff.1 hx).1
  rw [List.length_take] at hi
  rw [List.getElem?_take_of_lt (by omega)] at hx
  have := h i x hx
  rwa [List.take_take, Nat.min_eq_left (by omega)]
theorem WfM.snoc {W : WV} {cx : List T} {a : T} (h : WfM W cx) (hn : nodB a = true) (ha : Wf (cM W) true (gS cx) a) : WfM W (cx ++ [a]) := fun i x hx => by
  by_cases hi : i < cx.length
  · rw [List.getElem?_append_left hi] at hx
    rw [List.take_append_of_le_length (by omega)]
    exact h i x hx
  · have hl := (List.getElem?_eq_some_iff.1 hx).1
    rw [List.length_append, List.length_singleton] at hl
    obtain rfl : i = cx.length := by omega
    rw [List.getElem?_append_right (Nat.le_refl _), Nat.sub_self] at hx
    simp at hx
    subst hx
    rw [List.take_left']
    · exact ⟨hn, ha⟩
    · rfl
theorem WfM.up {W : WV} {cx : List T} (h : WfM W cx) {i : Nat} {x : T} (hx : cx[i]? = some x) : Wf (cM W) true (gS cx) (upT ((cx.length - i : Nat) : Int) x 0) := by
  have hi := (List.getElem?_eq_some_iff.1 hx).1
  have e : gS cx = ((cx.drop i).map er).reverse ++ gS (cx.take i) := by
    unfold gS
    rw [← List.reverse_append, ← List.map_append, List.take_append_drop]
  have := (h i x hx).2.up (E := ((cx.drop i).map er).reverse) (D := []) rfl
  simp only [List.nil_append, List.length_reverse, List.length_map, List.length_drop, List.length_nil] at this
  rw [e]
  exact this
end Go.Proofs.Ytloeainlpcnhnaa
/-
  Types up to conversion over metas; what has both its types is checked, but for what is too great. No statement is proved here.
-/
namespace Go.Proofs.Ytloeainlpcnhnaa
open Go.RowKit
set_option linter.unusedVariables false
/-! ### What has a simple type is closed in its context -/
theorem StS.mem {C : Int → Int → Option S0} {G : List S0} : ∀ {xs : List T} {s : S0}, StS C G xs s → ∀ x ∈ xs, ∃ a, StT C G x a
  | [], _, _, x, hx => by cases hx
  | y :: xs, s, h, x, hx => by
    cases h with
    | cons h1 h2 =>
      rcases List.mem_cons.1 hx with rfl | hx
      · exact ⟨_, h1⟩
      · exact StS.mem h2 x hx
theorem StT.cl {C : Int → Int → Option S0} (t : T) : ∀ {G : List S0} {a : S0}, StT C G t a → clL G.length (Cr.tr t) := by
  induction t using T.ind with
  | step k h xs ih =>
    intro G a ht
    have hsp : ∀ {s : S0}, StS C G xs s → ∀ y ∈ xs.map Cr.tr, clL G.length y := fun hs y hy => by
      obtain ⟨x, hx, rfl⟩ := List.mem_map.1 hy
      obtain ⟨b, hb⟩ := hs.mem x hx
      exact ih x hx hb
    cases ht with
    | @lam _ _ x a b hb =>
      rw [Cr.tr_lam]
      exact ih x (by simp) hb
    | var h0 hg hs =>
      rw [Cr.tr_app (by omega)]
      refine clL_apps ?_ (hsp hs)
      unfold Cr.at0
      rw [if_pos rfl]
      exact (List.getElem?_eq_some_iff.1 hg).1
    | con hk hc hs =>
      rw [Cr.tr_app (by omega)]
      refine clL_apps ?_ (hsp hs)
      unfold Cr.at0
      rw [if_neg (by omega)]
      trivial
theorem StS.cl {C : Int → Int → Option S0} {G : List S0} {xs : List T} {s : S0} (hs : StS C G xs s) : ∀ y ∈ xs.map Cr.tr, clL G.length y := fun y hy => by
  obtain ⟨x, hx, rfl⟩ := List.mem_map.1 hy
  obtain ⟨b, hb⟩ := hs.mem x hx
  exact hb.cl
theorem Wf.cl {C : Int → Int → Option S0} {b : Bool} {G : List S0} {t : T} (h : Wf C b G t) : clL G.length (Cr.tr t) := by
  induction h with
  | sort => rw [Cr.tr_app (by omega)]; unfold Cr.at0; rw [if_neg (by omega)]; trivial
  | @pi b G h x y _ _ ih1 ih2 =>
    rw [show Cr.tr (.node 1 h [x, y]) = .a (.a (Cr.at0 1 h) (Cr.tr x)) (.l (Cr.tr y)) by simp [Cr.tr, Cr.trL, bdn, Cr.wrap1, Cr.apps]]
    unfold Cr.at0
    rw [if_neg (by omega)]
    exact ⟨⟨trivial, ih1⟩, ih2⟩
  | fam hc hs =>
    rw [Cr.tr_app (by omega)]
    refine clL_apps ?_ hs.cl
    unfold Cr.at0
    rw [if_neg (by omega)]
    trivial
end Go.Proofs.Ytloeainlpcnhnaa
/-
  What is filled keeps its simple type, and is what constants' replacement reduces to, or it is too great. No statement is proved here.
-/
namespace Go.Proofs.Ytloeainlpcnhnaa
open Go.RowKit
set_option linter.unusedVariables false
/-- terms for metas, of their simple types -/
structure FlH (C C' : Int → Int → Option S0) (th : List T) (q : Int → Int → Cr.Lm) : Prop where
  same : ∀ k h s, k ≠ 6 → C k h = some s → C' k h = some s
  six : ∀ h s, C 6 h = some s → 0 ≤ h ∧ ∃ x es, th[h.toNat]? = some x ∧ s = arr es ∧ myB x = true ∧ es.length ≤ 200 ∧ StT C' (gS es) x .o ∧ q 6 h = Cr.lamN es.length (Cr.tr x)
  ck : Cr.CK q
  qk : ∀ k h, k ≠ 6 → q k h = .c k h
end Go.Proofs.Ytloeainlpcnhnaa
/-
  What has a type over metas has, filled with terms for these, what its type is then, or it is too great. No statement is proved here.
-/
namespace Go.Proofs.Ytloeainlpcnhnaa
open Go.RowKit
set_option linter.unusedVariables false
/-- metas in order, each over those ahead -/
structure MsO (sg : List T) (ms : List (List T × T)) : Prop where
  len : ms.length ≤ 40
  at_ : ∀ i m, ms[i]? = some m → WfM ⟨sg, ms.take i⟩ m.1 ∧ nodB m.2 = true ∧ kdQ m.2 = 2 ∧ Wf (cM ⟨sg, ms.take i⟩) true (gS m.1) m.2 ∧ (∀ e ∈ m.1, myB e = true) ∧ myB m.2 = true ∧ m.1.length ≤ 40
theorem MsO.take {sg : List T} {ms : List (List T × T)} (h : MsO sg ms) (n : Nat) : MsO sg (ms.take n) :=
  ⟨by rw [List.length_take]; have := h.len; omega, fun i m hm => by
    have hi := (List.getElem?_eq_some_iff.1 hm).1
    rw [List.length_take] at hi
    rw [List.getElem?_take_of_lt (by omega)] at hm
    rw [List.take_take, Nat.min_eq_left (by omega)]
    exact h.at_ i m hm⟩
/-! ### Contexts filled -/
theorem gS_congr {es es' : List T} (hl : es'.length = es.length) (h : ∀ (j : Nat) (e e' : T), es[j]? = some e → es'[j]? = some e' → er e' = er e) : gS es' = gS es := by
  unfold gS
  congr 1
  refine List.ext_getElem? fun j => ?_
  rw [List.getElem?_map, List.getElem?_map]
  cases hq : es[j]? with
  | none => rw [List.getElem?_eq_none (by rw [List.getElem?_eq_none_iff] at hq; omega)]
  | some e =>
    obtain ⟨e', he'⟩ : ∃ e', es'[j]? = some e' := ⟨_, List.getElem?_eq_getElem (by have := (List.getElem?_eq_some_iff.1 hq).1; omega)⟩
    rw [he', Option.map_some, Option.map_some, h j e e' hq he']
/-- what an entry becomes -/
structure EnF (C' : Int → Int → Option S0) (q : Int → Int → Cr.Lm) (es es' : List T) : Prop where
  len : es'.length = es.length
  at_ : ∀ j e e', es[j]? = some e → es'[j]? = some e' → myB e' = true ∧ nodB e' = true ∧ Wf C' true (gS (es.take j)) e' ∧ er e' = er e ∧ Cr.Ps (Cr.csub q (Cr.tr e)) (Cr.tr e')
theorem EnF.gS {C' : Int → Int → Option S0} {q : Int → Int → Cr.Lm} {es es' : List T} (h : EnF C' q es es') (n : Nat) : Go.Proofs.Ytloeainlpcnhnaa.gS (es'.take n) = Go.Proofs.Ytloeainlpcnhnaa.gS (es.take n) :=
  gS_congr (by rw [List.length_take, List.length_take, h.len]) fun j e e' he he' => by
    have hj : j < n := by have := (List.getElem?_eq_some_iff.1 he).1; rw [List.length_take] at this; omega
    rw [List.getElem?_take_of_lt hj] at he he'
    exact (h.at_ j e e' he he').2.2.2.1
theorem EnF.wf {W' : WV} {q : Int → Int → Cr.Lm} {es es' : List T} (h : EnF (cM W') q es es') : WfM W' es' := fun j e' he' => by
  obtain ⟨e, he⟩ : ∃ e, es[j]? = some e := ⟨_, List.getElem?_eq_getElem (by have := (List.getElem?_eq_some_iff.1 he').1; rw [h.len] at this; exact this)⟩
  obtain ⟨h1, h2, h3, h4, h5⟩ := h.at_ j e e' he he'
  rw [h.gS j]
  exact ⟨h2, h3⟩
theorem CvG_map {q : Int → Int → Cr.Lm} : ∀ {l l' : List T}, l'.length = l.length → (∀ (j : Nat) (e e' : T), l[j]? = some e → l'[j]? = some e' → Cr.Cv (Cr.csub q (Cr.tr e)) (Cr.tr e')) → Cr.CvG ((l.map Cr.tr).map (Cr.csub q)) (l'.map Cr.tr)
  | [], [], _, _ => trivial
  | [], _ :: _, h, _ => by simp at h
  | _ :: _, [], h, _ => by simp at h
  | e :: l, e' :: l', h, hc => ⟨hc 0 e e' rfl rfl, CvG_map (by simpa using h) fun j x x' hx hx' => hc (j + 1) x x' (by simpa using hx) (by simpa using hx')⟩
theorem EnF.cv {C' : Int → Int → Option S0} {q : Int → Int → Cr.Lm} {es es' : List T} (h : EnF C' q es es') : Cr.CvG ((gT es).map (Cr.csub q)) (gT es') := by
  unfold gT
  rw [← List.map_reverse, ← List.map_reverse]
  refine CvG_map (by rw [List.length_reverse, List.length_reverse, h.len]) fun j e e' he he' => ?_
  have hj := (List.getElem?_eq_some_iff.1 he).1
  rw [List.length_reverse] at hj
  rw [List.getElem?_reverse hj] at he
  rw [List.getElem?_reverse (by rw [h.len]; exact hj), h.len] at he'
  exact Cr.Cv.of (h.at_ _ e e' he he').2.2.2.2
end Go.Proofs.Ytloeainlpcnhnaa
/-
  Terms for metas keep types. No statement is proved here.
-/
namespace Go.Proofs.Ytloeainlpcnhnaa
open Go.RowKit
set_option linter.unusedVariables false
mutual
theorem StT.low {C : Int → Int → Option S0} {B : Int} : ∀ (t : T) {G : List S0} {a : S0}, StT C G t a → (G.length : Int) + dp t ≤ B → okT B t
  | .node k h xs, G, a, ht, hb => by
    rw [dp] at hb
    rw [okT]
    cases ht with
    | @lam _ _ x a b hx =>
      refine ⟨fun e => by omega, ?_⟩
      rw [okL, okL]
      rw [dpL, dpL] at hb
      exact ⟨StT.low x hx (by rw [List.length_cons]; omega), trivial⟩
    | var h0 hg hs =>
      have := (List.getElem?_eq_some_iff.1 hg).1
      exact ⟨fun _ => ⟨h0, by omega⟩, StS.low xs hs (by omega)⟩
    | con hk hc hs => exact ⟨fun e => by omega, StS.low xs hs (by omega)⟩
theorem StS.low {C : Int → Int → Option S0} {B : Int} : ∀ (xs : List T) {G : List S0} {s : S0}, StS C G xs s → (G.length : Int) + dpL xs ≤ B → okL B xs
  | [], _, _, _, _ => by rw [okL]; trivial
  | x :: xs, G, s, hs, hb => by
    rw [dpL] at hb
    rw [okL]
    cases hs with
    | cons h1 h2 => exact ⟨StT.low x h1 (by omega), StS.low xs h2 (by omega)⟩
end
theorem ckT_okN {W : WV} {cx : List T} {m a : T} (h : ckT W cx m a = 0) : mayV W cx [m, a] = true ∧ tmV W m cx a = 0 := by
  unfold ckT at h
  split at h
  · rename_i h1; exact ⟨h1, h⟩
  · cases h
end Go.Proofs.Ytloeainlpcnhnaa
