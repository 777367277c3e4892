/-
  Texts of one proof, put together. No statement is proved here.
-/
import Derived.Test.YtloeainlpcnhnaaVi
import Derived.Deep.RegionHeld
import Derived.Test.YtloeainlpcnhnaaPkYA
import Derived.Test.YtloeainlpcnhnaaPkKA
import Derived.Test.YtloeainlpcnhnaaPkZA
/-
  A region that draws its order, in the body of a range over a function: what holds of it outside holds there. No statement is proved here.
-/
namespace Go.Proofs.Ytloeainlpcnhnaa
open Go.RowKit
set_option linter.unusedVariables false
theorem rowsIn_wideN {n : Nat} {P : Program} {row : String} {args : Array Value} {w : World} {R : Value → World → Prop} (h : Rows P row args w R) : RowsIn Fence.wide n P row args w R := fun c cs _ =>
  let ⟨v, w', r, s⟩ := h c cs; ⟨v, w', r, stepsIn_wide.2 s⟩
theorem RowsIn.inRoundN {F : Fence} {n : Nat} {P : Program} {row : String} {args : Array Value} {w : World} {R : Value → World → Prop} (l : Nat) (h : RowsIn F n P row args w R) : RowsIn (F.inRound l) n P row args w R := h
theorem wpOpsIn_roundN {P : Program} {ops : Array Oper} {Q : Exit → Act → World → Prop} (hL : ¬ LetsOut Q) (hd : ∀ (i : Nat) (o : Oper) (c : Call), ops[i]? = some o → o.op ≠ .defer c) (l n : Nat) : ∀ (is : List Nat) (a : Act) (w : World), wpOps P ops Q is a w → wpOpsIn (Fence.wide.inRound l) n P ops Q is a w
  | [], a, w, h => h
  | i :: is, a, w, h => by
    unfold wpOps at h
    unfold wpOpsIn
    cases ho : ops[i]? with
    | none => rw [ho] at h; exact wpOpsIn_roundN hL hd l n is a w h
    | some o =>
      rw [ho] at h
      simp only at h ⊢
      by_cases hw : Region.wanted o (yielded ops a.tmps) = true
      · rw [if_pos hw] at h ⊢
        rcases h with h | ⟨_, h⟩
        · unfold Oper.wp at h
          unfold Oper.wpIn
          refine ⟨fun _ _ => trivial, ?_⟩
          rw [Oper.semAt_plain _ _ _ (fun c => hd i o c ho)]
          generalize (execOp a.eval o).run P w = r at h ⊢
          cases r with
          | ok x w' =>
            cases x <;> simp only [Oper.upon, Oper.uponIn] at h ⊢
            case value v => exact wpOpsIn_roundN hL hd l n is _ _ h
            case skip => exact wpOpsIn_roundN hL hd l n is _ _ h
            case defer d => exact wpOpsIn_roundN hL hd l n is _ _ h
            case enter f args =>
              refine ⟨fun e => (by cases e), CallsIn.inRound l (callsIn_wide.2 (h.mono fun e w'' he => ?_))⟩
              cases e with
              | returned u => exact wpOpsIn_roundN hL hd l n is _ _ he
              | panicked c => exact he
              | outgrown => exact he
            case row row args =>
              refine ⟨fun e => (by cases e), RowsIn.inRoundN l (rowsIn_wideN (h.mono fun u w'' he => wpOpsIn_roundN hL hd l n is _ _ he))⟩
          | halt x w' => cases x <;> simp only [Oper.upon, Oper.uponIn] at h ⊢ <;> exact h
        · exact absurd h hL
      · rw [if_neg hw] at h ⊢
        exact ⟨fun _ _ => trivial, wpOpsIn_roundN hL hd l n is _ _ h⟩
/-- no operation of a list defers -/
def noDefN (ops : Array Oper) : Bool := ops.toList.all fun o => match o.op with
  | .defer _ => false
  | _ => true
theorem noDefN_spec {ops : Array Oper} (h : noDefN ops = true) (i : Nat) (o : Oper) (c : Call) (ho : ops[i]? = some o) : o.op ≠ .defer c := fun e => by
  have hm : o ∈ ops.toList := by
    rw [← Array.getElem?_toList] at ho
    exact List.mem_of_getElem? ho
  have := List.all_eq_true.1 h o hm
  rw [e] at this
  cases this
theorem wpIn_region_heldN {P : Program} {ops : Array Oper} {Q : Exit → Act → World → Prop} {S : World → Prop} {id l n : Nat} {a : Act} {w : World} (hL : ¬ LetsOut Q) (hd : noDefN ops = true) (hm : P.follows .mixedOrders = true) (hS : S w.drew)
    (h : S w.drew → wpAnyH P .any ops Q S ops.size (Array.replicate ops.size false) a w.drew) : (Code.region id ops true).wpIn (Fence.wide.inRound l) n P Q a w :=
  wpIn_region_draw fun t => by
    simp only [Region.schedule, hm, Bool.true_or, if_true]
    exact wpOpsIn_roundN hL (noDefN_spec hd) l n _ _ _ (wpAny_sound ops.size t _ a _ (wpAny_of_held _ _ _ _ (h hS)))
end Go.Proofs.Ytloeainlpcnhnaa
/-
  Metas in memory, with what they stand for; package metas' each. No statement is proved here.
-/
namespace Go.Proofs.Ytloeainlpcnhnaa
open Go.ChangeShapes Go.WideShapes Go.ChangeAt Go.RowKit Go.Shelf
set_option linter.unusedVariables false
attribute [local go_sem] Oper.semAt_some
abbrev MP := (List T × T) × Bool
/-- a meta of a list, and whether it stands for a variable alone -/
def PAt (w : World) (A : Option Addr) (i : Nat) (x : MP) : Prop :=
  ∃ b o A1 n1 c1 k h A2 n2 c2, A = some ⟨b, o, none⟩ ∧ w.cell? ⟨b, o + i * 5, none⟩ = some (.slice A1 n1 c1) ∧ w.cell? ⟨b, o + i * 5 + 1, none⟩ = some (.int .i64 k) ∧ w.cell? ⟨b, o + i * 5 + 2, none⟩ = some (.int .i64 h) ∧
    w.cell? ⟨b, o + i * 5 + 3, none⟩ = some (.slice A2 n2 c2) ∧ w.cell? ⟨b, o + i * 5 + 4, none⟩ = some (.bool x.2) ∧ CLV w x.1.1 A1 n1 c1 ∧ Rd w x.1.2 (.agg #[.int .i64 k, .int .i64 h, .slice A2 n2 c2])
structure PL (w : World) (ds : List MP) (A : Option Addr) (n c : Nat) : Prop where
  len : ds.length = n
  le : n ≤ c
  cap : c ≤ maxLen
  at_ : ∀ i x, ds[i]? = some x → PAt w A i x
theorem PAt.keep {w w' : World} {A : Option Addr} {i : Nat} {x : MP} (h : PAt w A i x) (hb : Below w.heap.size w w') : PAt w' A i x := by
  obtain ⟨b, o, A1, n1, c1, k, g, A2, n2, c2, rfl, d0, d1, d2, d3, d4, hl, hr⟩ := h
  exact ⟨b, o, A1, n1, c1, k, g, A2, n2, c2, rfl, (hb.cell (cell_lt d0)).trans d0, (hb.cell (cell_lt d1)).trans d1, (hb.cell (cell_lt d2)).trans d2, (hb.cell (cell_lt d3)).trans d3, (hb.cell (cell_lt d4)).trans d4, hl.keep hb, Rd.keep hb _ _ hr⟩
theorem PL.keep {w w' : World} {ds : List MP} {A : Option Addr} {n c : Nat} (h : PL w ds A n c) (hb : Below w.heap.size w w') : PL w' ds A n c :=
  ⟨h.len, h.le, h.cap, fun i x hx => (h.at_ i x hx).keep hb⟩
theorem PL.take {w : World} {ds : List MP} {A : Option Addr} {n c i : Nat} (h : PL w ds A n c) (hi : i ≤ n) : PL w (ds.take i) A i c :=
  ⟨by rw [List.length_take, h.len]; omega, by have := h.le; omega, h.cap, fun j x hx => h.at_ j x (by
    by_cases hj : j < i
    · rwa [List.getElem?_take_of_lt hj] at hx
    · rw [List.getElem?_eq_none (by rw [List.length_take]; omega)] at hx; cases hx)⟩
def msP (ds : List MP) : List (List T × T) := ds.map (·.1)
theorem PL.ml {w : World} {ds : List MP} {A : Option Addr} {n c : Nat} (h : PL w ds A n c) : ML w (msP ds) A n c :=
  ⟨by rw [msP, List.length_map]; exact h.len, h.le, h.cap, fun i x hx => by
    rw [msP, List.getElem?_map] at hx
    cases hq : ds[i]? with
    | none => rw [hq] at hx; cases hx
    | some y =>
      rw [hq] at hx
      cases hx
      obtain ⟨b, o, A1, n1, c1, k, g, A2, n2, c2, e, d0, d1, d2, d3, d4, hl, hr⟩ := h.at_ i y hq
      exact ⟨b, o, A1, n1, c1, k, g, A2, n2, c2, y.2, e, d0, d1, d2, d3, d4, hl, hr⟩⟩
theorem ML.pl {w : World} {ms : List (List T × T)} {A : Option Addr} {n c : Nat} (h : ML w ms A n c) : ∃ ds, PL w ds A n c ∧ msP ds = ms := by
  obtain ⟨ds, h1, h2⟩ := list_ofV (M := fun i (x : MP) => ms[i]? = some x.1 ∧ PAt w A i x) n fun i hi => by
    obtain ⟨x, hx⟩ := at_of h.len hi
    obtain ⟨b, o, A1, n1, c1, k, g, A2, n2, c2, p, e, d0, d1, d2, d3, d4, hl, hr⟩ := h.at_ i x hx
    exact ⟨(x, p), hx, b, o, A1, n1, c1, k, g, A2, n2, c2, e, d0, d1, d2, d3, d4, hl, hr⟩
  refine ⟨ds, ⟨h1, h.le, h.cap, fun i x hx => (h2 i x hx).2⟩, ?_⟩
  refine List.ext_getElem? fun i => ?_
  rw [msP, List.getElem?_map]
  cases hq : ds[i]? with
  | none =>
    rw [List.getElem?_eq_none_iff] at hq
    rw [Option.map_none]
    exact (List.getElem?_eq_none (by rw [h.len]; omega)).symm
  | some x => rw [Option.map_some]; exact (h2 i x hq).1.symm
theorem msP_take (ds : List MP) (i : Nat) : msP (ds.take i) = (msP ds).take i := by rw [msP, msP, List.map_take]
/-- what is handed on: its place, its cells, and that they are what the list has there -/
structure ME (w0 : World) (A : Option Addr) (ds : List MP) where
  i : Nat
  A1 : Option Addr
  n1 : Nat
  c1 : Nat
  k : Int
  h : Int
  A2 : Option Addr
  n2 : Nat
  c2 : Nat
  p : Bool
  ok : ∃ d, ds[i]? = some (d, p) ∧ CLV w0 d.1 A1 n1 c1 ∧ Rd w0 d.2 (.agg #[.int .i64 k, .int .i64 h, .slice A2 n2 c2])
structure TE (w0 : World) (A : Option Addr) (ds : List T) where
  i : Nat
  k : Int
  h : Int
  A2 : Option Addr
  n2 : Nat
  c2 : Nat
  ok : ∃ d, ds[i]? = some d ∧ Rd w0 d (.agg #[.int .i64 k, .int .i64 h, .slice A2 n2 c2])
def encM (c : Nat) {w0 : World} {A : Option Addr} {ds : List MP} (x : ME w0 A ds) : Array Value := #[.slice A x.i x.i, .agg #[.slice x.A1 x.n1 x.c1, .int .i64 x.k, .int .i64 x.h, .slice x.A2 x.n2 x.c2, .bool x.p]]
def encT (c : Nat) {w0 : World} {A : Option Addr} {ds : List T} (x : TE w0 A ds) : Array Value := #[.slice A x.i x.i, .agg #[.int .i64 x.k, .int .i64 x.h, .slice x.A2 x.n2 x.c2]]
theorem yb_of {P Q : Prop} {e : Ending} (h : (e = .returned (.bool true) ∧ P) ∨ (e = .returned (.bool false) ∧ Q)) : ∃ b, e = .returned (.bool b) ∧ (b = true → P) ∧ (b = false → Q) := by
  rcases h with ⟨h, hp⟩ | ⟨h, hq⟩
  · exact ⟨true, h, (fun _ => hp), (fun e => Bool.noConfusion e)⟩
  · exact ⟨false, h, (fun e => Bool.noConfusion e), (fun _ => hq)⟩
theorem eachTC (A : Option Addr) (n c : Nat) (w : World) :
    Calls Try.prog 48 #[.slice A n c] w fun e w' => e = .returned (.func (.func 76) #[] #[.pointer (some ⟨w.heap.size, 0, none⟩)]) ∧ w' = w.alloc (.cells #[.slice A n c] 24) := by
  have hmf : ∀ (fn : Fn) (first cap : Array Value) (w : World), (Instr.makeFunc fn first cap).run Try.prog w = .ok (.func fn first cap) w := fun _ _ _ _ => rfl
  go_enter Try.func48, Try.ntmps48
  go_wp2_with fail
  go_ret
  exact ⟨rfl, rfl⟩
set_option maxRecDepth 100000 in
set_option maxHeartbeats 8000000 in
theorem eachTStops (m : Nat) (w0 w : World) (ds : List T) (A : Option Addr) (n c : Nat) (Bs : Nat) (hd : CLV w0 ds A n c) (hb : Below w0.heap.size w0 w) (hBs : Box w Bs 24 #[.slice A n c]) :
    SeqStopsK Fence.wide m Try.prog 76 #[.pointer (some ⟨Bs, 0, none⟩)] (encT c (w0 := w0) (A := A) (ds := ds)) (Below w.heap.size) (fun ys => ys.map (·.i) = List.range n) (fun pre => pre.map (·.i) = List.range pre.length) n w := by
  intro l J Jx W hW hJ hJx hY h00
  refine callsIn_wide.2 ?_
  have xs := hBs.keep hW hBs.lt
  have hlt1 := hBs.lt
  have hcap := hd.cap
  have hle := hd.le
  unfold maxLen at hcap
  have p0 : W.cell? ⟨Bs, 0, none⟩ = some (.slice A n c) := xs.cell 0
  have hs0 := hb.size
  have hsW := hW.size
  have HXS := Lib.hid hBs
  have HD := Lib.hid hd
  have HWW := Lib.hid hW
  have HB := Lib.hid hb
  have HJ := Lib.hid (fun s W W' (hs : J s W) (hb : Below W.heap.size W W') => hJ s W W' none hs (grown_of_below hb) (fun r e => by cases e))
  have HY := Lib.hid hY
  have H00 := Lib.hid h00
  clear xs hd hJ hJx hY h00 hb hW hBs
  refine (callsIn_wide (n := 1)).1 (callsIn_of_wp Try.func76 rfl trivial ?_ rfl)
  simp only [Try.ntmps76, List.size_toArray, List.length_cons, List.length_nil, Nat.reduceAdd, Nat.reduceSub, Array.replicate_succ, Array.replicate_zero, List.push_toArray, List.append_toArray, List.nil_append, List.cons_append]
  gi_wp2_with fail
  gi_loopw [7] (fun i wr => ∃ (j : Nat) (ys : List (TE w0 A ds)), j ≤ n ∧ i = .int .i64 j ∧ Hid (ys.map (·.i) = List.range j) ∧ Hid (J ys wr) ∧ Hid (Below w.heap.size w wr)) (fun i _ => n - (intOf i).toNat)
  case atStart => exact ⟨0, [], Nat.zero_le _, rfl, Lib.hid rfl, H00, HWW⟩
  case round =>
    obtain ⟨j, ys, hj, rfl, HS, HJr, HK⟩ := hrel
    by_cases hlt : j < n
    · obtain ⟨x, hx⟩ := at_of HD.out.len hlt
      have HK0 := Lib.hid (HB.out.trans (HK.out.mono HB.out.size))
      obtain ⟨b1, o1, k1, h1, A2, n2, c2, rfl, e0, e1, e2, hr1⟩ := (HD.out.at_ j x hx).full
      have HX0 := Lib.hid (show ∃ d, ds[j]? = some d ∧ Rd w0 d (.agg #[.int .i64 k1, .int .i64 h1, .slice A2 n2 c2]) from ⟨x, hx, hr1⟩)
      have d0 := (HK0.out.cell (cell_lt e0)).trans e0
      have d1 := (HK0.out.cell (cell_lt e1)).trans e1
      have d2 := (HK0.out.cell (cell_lt e2)).trans e2
      obtain ⟨Wa, hWa⟩ : ∃ Wa, wr.alloc (.cells #[.int .i64 k1, .int .i64 h1, .slice A2 n2 c2] 26) = Wa := ⟨_, rfl⟩
      have hbA : Below wr.heap.size wr Wa := by rw [← hWa]; exact (Below.refl _ _).alloc (Nat.le_refl _) _
      have z5 : Box Wa wr.heap.size 26 #[.int .i64 k1, .int .i64 h1, .slice A2 n2 c2] := by rw [← hWa]; exact Box.new _ _ _
      have hKa : Below w.heap.size w Wa := HK.out.trans (hbA.mono HK.out.size)
      have hBsA := (HXS.out.keep hKa HXS.out.lt)
      have ap : Wa.cell? ⟨Bs, 0, none⟩ = some (.slice (some ⟨b1, o1, none⟩) n c) := hBsA.cell 0
      have a0 : Wa.cell? ⟨wr.heap.size, 0, none⟩ = some (.int .i64 k1) := z5.cell 0
      have a1 : Wa.cell? ⟨wr.heap.size, 1, none⟩ = some (.int .i64 h1) := z5.cell 1
      have a2 : Wa.cell? ⟨wr.heap.size, 2, none⟩ = some (.slice A2 n2 c2) := z5.cell 2
      have HKA := Lib.hid hKa
      have HJA := Lib.hid (HJ.out _ _ _ HJr.out hbA)
      have hi0 : (0 : Int) ≤ j := by omega
      have hi1 : (j : Int) < n := by omega
      have hi2 : (j : Int) ≤ c := by omega
      have hlen : ys.length = j := by have e := congrArg List.length HS.out; simpa using e
      have HLN := Lib.hid hlen
      clear hx hr1 e0 e1 e2 hlen z5 hKa hbA hBsA
      have hJd := HJ.out _ _ _ HJA.out (show Below Wa.heap.size Wa Wa.drew from (Below.refl _ Wa).drew)
      obtain ⟨fn, tmps, assign, body, hy, hR⟩ := yieldAny 0 (HY.out ys (⟨j, k1, h1, A2, n2, c2, HX0.out⟩ : TE w0 _ ds) Wa.drew hJd (by rw [HLN.out]; exact hlt))
      have HRR := Lib.hid (hR.mono fun e W' h => yb_of h)
      rw [encT] at hy
      clear hJd hR
      have hmo : Try.prog.follows .mixedOrders = true := by kernel_rfl
      have HWA := Lib.hid hWa
      gi_wp2_with fail
      try rw [HWA.out]
      clear HWA hWa
      gi_region_with_o (refine HRR.out.mono ?_; rintro e W3 ⟨b, rfl, hE⟩; have HE3 := Lib.hid hE; clear hE)
      all_goals
        cases b
        · have HJX := Lib.hid (HE3.out.2 rfl)
          clear HE3 hy HRR
          gi_wp2_with fail
          refine bodyPost_ret (v := .tuple #[]) (by simp [results, Try.results76, go_sem]) rfl ⟨⟨_, rfl⟩, .inr ⟨_, ?_, HJX.out⟩⟩
          rw [List.map_append, HS.out, List.length_append, HLN.out, List.length_singleton, List.range_succ]
          rfl
        · have HJ3 := Lib.hid (HE3.out.1 rfl)
          clear HE3 hy HRR
          gi_wp2_with fail
          go_roundw
          case rel => exact ⟨j + 1, ys ++ [(⟨j, k1, h1, A2, n2, c2, HX0.out⟩ : TE w0 _ ds)], by omega, by go_num, Lib.hid (by rw [List.map_append, HS.out, List.range_succ]; rfl), Lib.hid HJ3.out.1, Lib.hid (HKA.out.trans (((Below.refl _ _).drew).trans HJ3.out.2))⟩
          case measure => simp [intOf]; omega
    · have HE := Lib.hid (show ys.map (·.i) = List.range n by rw [HS.out]; congr 1; omega)
      gi_wp2_with fail
      go_end0
      exact ⟨⟨_, rfl⟩, .inl ⟨ys, HE.out, HJr.out⟩⟩
theorem eachMC (A : Option Addr) (n c : Nat) (w : World) :
    Calls Try.prog 46 #[.slice A n c] w fun e w' => e = .returned (.func (.func 75) #[] #[.pointer (some ⟨w.heap.size, 0, none⟩)]) ∧ w' = w.alloc (.cells #[.slice A n c] 23) := by
  have hmf : ∀ (fn : Fn) (first cap : Array Value) (w : World), (Instr.makeFunc fn first cap).run Try.prog w = .ok (.func fn first cap) w := fun _ _ _ _ => rfl
  go_enter Try.func46, Try.ntmps46
  go_wp2_with fail
  go_ret
  exact ⟨rfl, rfl⟩
set_option maxRecDepth 100000 in
set_option maxHeartbeats 8000000 in
theorem eachMStops (m : Nat) (w0 w : World) (ds : List MP) (A : Option Addr) (n c : Nat) (Bs : Nat) (hd : PL w0 ds A n c) (hb : Below w0.heap.size w0 w) (hBs : Box w Bs 23 #[.slice A n c]) :
    SeqStopsK Fence.wide m Try.prog 75 #[.pointer (some ⟨Bs, 0, none⟩)] (encM c (w0 := w0) (A := A) (ds := ds)) (Below w.heap.size) (fun ys => ys.map (·.i) = List.range n) (fun pre => pre.map (·.i) = List.range pre.length) n w := by
  intro l J Jx W hW hJ hJx hY h00
  refine callsIn_wide.2 ?_
  have xs := hBs.keep hW hBs.lt
  have hlt1 := hBs.lt
  have hcap := hd.cap
  have hle := hd.le
  unfold maxLen at hcap
  have p0 : W.cell? ⟨Bs, 0, none⟩ = some (.slice A n c) := xs.cell 0
  have hs0 := hb.size
  have hsW := hW.size
  have HXS := Lib.hid hBs
  have HD := Lib.hid hd
  have HWW := Lib.hid hW
  have HB := Lib.hid hb
  have HJ := Lib.hid (fun s W W' (hs : J s W) (hb : Below W.heap.size W W') => hJ s W W' none hs (grown_of_below hb) (fun r e => by cases e))
  have HY := Lib.hid hY
  have H00 := Lib.hid h00
  clear xs hd hJ hJx hY h00 hb hW hBs
  refine (callsIn_wide (n := 1)).1 (callsIn_of_wp Try.func75 rfl trivial ?_ rfl)
  simp only [Try.ntmps75, List.size_toArray, List.length_cons, List.length_nil, Nat.reduceAdd, Nat.reduceSub, Array.replicate_succ, Array.replicate_zero, List.push_toArray, List.append_toArray, List.nil_append, List.cons_append]
  gi_wp2_with fail
  gi_loopw [7] (fun i wr => ∃ (j : Nat) (ys : List (ME w0 A ds)), j ≤ n ∧ i = .int .i64 j ∧ Hid (ys.map (·.i) = List.range j) ∧ Hid (J ys wr) ∧ Hid (Below w.heap.size w wr)) (fun i _ => n - (intOf i).toNat)
  case atStart => exact ⟨0, [], Nat.zero_le _, rfl, Lib.hid rfl, H00, HWW⟩
  case round =>
    obtain ⟨j, ys, hj, rfl, HS, HJr, HK⟩ := hrel
    by_cases hlt : j < n
    · obtain ⟨x, hx⟩ := at_of HD.out.len hlt
      have HK0 := Lib.hid (HB.out.trans (HK.out.mono HB.out.size))
      obtain ⟨b1, o1, A1, n1, c1, k1, h1, A2, n2, c2, rfl, e0, e1, e2, e3, e4, hl1, hr1⟩ := HD.out.at_ j x hx
      obtain ⟨d, p1⟩ := x
      have HX0 := Lib.hid (show ∃ d, ds[j]? = some (d, p1) ∧ CLV w0 d.1 A1 n1 c1 ∧ Rd w0 d.2 (.agg #[.int .i64 k1, .int .i64 h1, .slice A2 n2 c2]) from ⟨d, hx, hl1, hr1⟩)
      dsimp only at e4 hl1 hr1
      have d0 := (HK0.out.cell (cell_lt e0)).trans e0
      have d1 := (HK0.out.cell (cell_lt e1)).trans e1
      have d2 := (HK0.out.cell (cell_lt e2)).trans e2
      have d3 := (HK0.out.cell (cell_lt e3)).trans e3
      have d4 := (HK0.out.cell (cell_lt e4)).trans e4
      obtain ⟨Wa, hWa⟩ : ∃ Wa, wr.alloc (.cells #[.slice A1 n1 c1, .int .i64 k1, .int .i64 h1, .slice A2 n2 c2, .bool p1] 39) = Wa := ⟨_, rfl⟩
      have hbA : Below wr.heap.size wr Wa := by rw [← hWa]; exact (Below.refl _ _).alloc (Nat.le_refl _) _
      have z5 : Box Wa wr.heap.size 39 #[.slice A1 n1 c1, .int .i64 k1, .int .i64 h1, .slice A2 n2 c2, .bool p1] := by rw [← hWa]; exact Box.new _ _ _
      have hKa : Below w.heap.size w Wa := HK.out.trans (hbA.mono HK.out.size)
      have hBsA := (HXS.out.keep hKa HXS.out.lt)
      have ap : Wa.cell? ⟨Bs, 0, none⟩ = some (.slice (some ⟨b1, o1, none⟩) n c) := hBsA.cell 0
      have a0 : Wa.cell? ⟨wr.heap.size, 0, none⟩ = some (.slice A1 n1 c1) := z5.cell 0
      have a1 : Wa.cell? ⟨wr.heap.size, 1, none⟩ = some (.int .i64 k1) := z5.cell 1
      have a2 : Wa.cell? ⟨wr.heap.size, 2, none⟩ = some (.int .i64 h1) := z5.cell 2
      have a3 : Wa.cell? ⟨wr.heap.size, 3, none⟩ = some (.slice A2 n2 c2) := z5.cell 3
      have a4 : Wa.cell? ⟨wr.heap.size, 4, none⟩ = some (.bool p1) := z5.cell 4
      have HKA := Lib.hid hKa
      have HJA := Lib.hid (HJ.out _ _ _ HJr.out hbA)
      have hi0 : (0 : Int) ≤ j := by omega
      have hi1 : (j : Int) < n := by omega
      have hi2 : (j : Int) ≤ c := by omega
      have hlen : ys.length = j := by have e := congrArg List.length HS.out; simpa using e
      have HLN := Lib.hid hlen
      clear hx hr1 hl1 e0 e1 e2 e3 e4 hlen z5 hKa hbA hBsA
      have hJd := HJ.out _ _ _ HJA.out (show Below Wa.heap.size Wa Wa.drew from (Below.refl _ Wa).drew)
      obtain ⟨fn, tmps, assign, body, hy, hR⟩ := yieldAny 0 (HY.out ys (⟨j, A1, n1, c1, k1, h1, A2, n2, c2, p1, HX0.out⟩ : ME w0 _ ds) Wa.drew hJd (by rw [HLN.out]; exact hlt))
      have HRR := Lib.hid (hR.mono fun e W' h => yb_of h)
      rw [encM] at hy
      clear hJd hR
      have hmo : Try.prog.follows .mixedOrders = true := by kernel_rfl
      have HWA := Lib.hid hWa
      gi_wp2_with fail
      try rw [HWA.out]
      clear HWA hWa
      gi_region_with_o (refine HRR.out.mono ?_; rintro e W3 ⟨b, rfl, hE⟩; have HE3 := Lib.hid hE; clear hE)
      all_goals
        cases b
        · have HJX := Lib.hid (HE3.out.2 rfl)
          clear HE3 hy HRR
          gi_wp2_with fail
          refine bodyPost_ret (v := .tuple #[]) (by simp [results, Try.results75, go_sem]) rfl ⟨⟨_, rfl⟩, .inr ⟨_, ?_, HJX.out⟩⟩
          rw [List.map_append, HS.out, List.length_append, HLN.out, List.length_singleton, List.range_succ]
          rfl
        · have HJ3 := Lib.hid (HE3.out.1 rfl)
          clear HE3 hy HRR
          gi_wp2_with fail
          go_roundw
          case rel => exact ⟨j + 1, ys ++ [(⟨j, A1, n1, c1, k1, h1, A2, n2, c2, p1, HX0.out⟩ : ME w0 _ ds)], by omega, by go_num, Lib.hid (by rw [List.map_append, HS.out, List.range_succ]; rfl), Lib.hid HJ3.out.1, Lib.hid (HKA.out.trans (((Below.refl _ _).drew).trans HJ3.out.2))⟩
          case measure => simp [intOf]; omega
    · have HE := Lib.hid (show ys.map (·.i) = List.range n by rw [HS.out]; congr 1; omega)
      gi_wp2_with fail
      go_end0
      exact ⟨⟨_, rfl⟩, .inl ⟨ys, HE.out, HJr.out⟩⟩
end Go.Proofs.Ytloeainlpcnhnaa
/-
  Package metas, plain. No statement is proved here.
-/
namespace Go.Proofs.Ytloeainlpcnhnaa
open Go.ChangeShapes Go.WideShapes Go.ChangeAt Go.RowKit
set_option linter.unusedVariables false
/-- what goes wrong first, and where -/
def fiG {α : Type} (g : Nat → α → Int) : Nat → List α → Nat × Int
  | _, [] => (0, 0)
  | i, x :: xs => if g i x = 0 then fiG g (i + 1) xs else (i, g i x)
theorem fiG_zero {α : Type} {g : Nat → α → Int} : ∀ (l : List α) (i : Nat), (fiG g i l).2 = 0 ↔ ∀ j x, l[j]? = some x → g (i + j) x = 0
  | [], i => ⟨fun _ j x hx => by simp at hx, fun _ => rfl⟩
  | y :: l, i => by
    rw [fiG]
    by_cases h : g i y = 0
    · rw [if_pos h, fiG_zero l (i + 1)]
      constructor
      · intro hh j x hx
        cases j with
        | zero => simp at hx; subst hx; exact h
        | succ j =>
          have := hh j x (by simpa using hx)
          rwa [show i + 1 + j = i + (j + 1) by omega] at this
      · intro hh j x hx
        have := hh (j + 1) x (by simpa using hx)
        rwa [show i + (j + 1) = i + 1 + j by omega] at this
    · rw [if_neg h]
      constructor
      · intro hh; exact absurd hh h
      · intro hh
        have := hh 0 y rfl
        exact absurd this h
theorem fiG_none {α : Type} {g : Nat → α → Int} : ∀ (l : List α) (i : Nat), (∀ j x, l[j]? = some x → g (i + j) x = 0) → fiG g i l = (0, 0)
  | [], i, _ => rfl
  | y :: l, i, h => by
    rw [fiG, if_pos (show g i y = 0 from h 0 y rfl)]
    exact fiG_none l (i + 1) fun j x hx => by
      have := h (j + 1) x (by simpa using hx)
      rwa [show i + (j + 1) = i + 1 + j by omega] at this
theorem fiG_first {α : Type} {g : Nat → α → Int} {e : Int} (he : e ≠ 0) : ∀ (l : List α) (i k : Nat) (y : α), (∀ j x, j < k → l[j]? = some x → g (i + j) x = 0) → l[k]? = some y → g (i + k) y = e → fiG g i l = (i + k, e)
  | [], i, k, y, _, h, _ => by simp at h
  | x :: l, i, k, y, h, hk, hg => by
    rw [fiG]
    cases k with
    | zero =>
      simp at hk
      subst hk
      rw [Nat.add_zero] at hg
      rw [if_neg (by rw [hg]; exact he), hg]
      rfl
    | succ k =>
      rw [if_pos (show g i x = 0 from h 0 x (by omega) rfl), fiG_first he l (i + 1) k y (fun j x hj hx => by
        have := h (j + 1) x (by omega) (by simpa using hx)
        rwa [show i + (j + 1) = i + 1 + j by omega] at this) (by simpa using hk) (by rwa [show i + 1 + k = i + (k + 1) by omega])]
      rw [show i + 1 + k = i + (k + 1) by omega]
theorem fiG_take {α : Type} {g g' : Nat → α → Int} {l : List α} {n : Nat} (h : (fiG g 0 l).2 = 0) (hg : ∀ i x, i < n → l[i]? = some x → g i x = g' i x) : (fiG g' 0 (l.take n)).2 = 0 := by
  rw [fiG_zero] at h ⊢
  intro j x hx
  have hj := (List.getElem?_eq_some_iff.1 hx).1
  rw [List.length_take] at hj
  rw [List.getElem?_take_of_lt (by omega)] at hx
  rw [Nat.zero_add, ← hg j x (by omega) hx]
  have := h j x hx
  rwa [Nat.zero_add] at this
/-- what is wrong with a meta, over those ahead -/
def deV (W : WV) (d : MP) : Int :=
  if ctV W [] d.1.1 = 0 then (if kdQ d.1.2 = 2 ∧ (d.2 = true → d.1.1.length = 0) then ckTy W d.1.1 d.1.2 else 1) else ctV W [] d.1.1
def dcV (sg : List T) (ds : List MP) : Nat × Int := if 40 < ds.length then (0, 4) else fiG (fun i d => deV ⟨sg, msP (ds.take i)⟩ d) 0 ds
/-- is it a variable, or a meta that stands for one -/
def vaV (l : List MP) : T → Bool
  | .node k h xs => (k == 4 && xs.length == 0) || (k == 6 && (l.getD h.toNat (([], .node 0 0 []), false)).2)
/-- what is wrong with a meta's term -/
def plV (W : WV) (l : List MP) (ext dn : List T) (d : MP) (t : T) : Int :=
  match cxL dn 0 d.1.1 with
  | .error e => e
  | .ok (cx, _) => match fiR dn cx.length d.1.2 with
    | .error e => e
    | .ok a => if ckT W (ext ++ cx) t a = 0 then (if d.2 = true ∧ vaV l t = false then 3 else 0) else ckT W (ext ++ cx) t a
def noMP : MP := (([], .node 0 0 []), false)
def suV (sg : List T) (l : List MP) (ext : List T) (delta : List MP) (theta : List T) : Int :=
  if 40 < delta.length then 4 else if theta.length = delta.length then (fiG (fun i t => plV ⟨sg, msP l⟩ l ext (theta.take i) (delta.getD i noMP) t) 0 theta).2 else 3
theorem fi_errN {th : List T} {n e : Int} {t : T} (h : fiR th n t = .error e) : e ≠ 0 := by
  unfold fiR at h
  split at h
  · cases hq : flT th t n with
    | error e' =>
      rw [hq] at h
      cases h
      exact fl_err _ _ _ _ hq
    | ok t' =>
      rw [hq] at h
      simp only at h
      split at h
      · cases h
      · cases h; decide
  · cases h; decide
theorem ea_errN {F : Nat → T → Except Int T} (hF : ∀ i t e, F i t = .error e → e ≠ 0) : ∀ (xs : List T) (i c : Nat) (e : Int), eaL (fun i t c => wc (F i t) c) xs i c = .error e → e ≠ 0
  | [], i, c, e, h => by rw [eaL] at h; cases h
  | x :: xs, i, c, e, h => by
    rw [eaL] at h
    cases hf : F i x with
    | error e' =>
      simp only [hf, wc] at h
      cases h
      exact hF _ _ _ hf
    | ok y =>
      simp only [hf, wc] at h
      split at h
      · rename_i e' hr
        cases h
        exact ea_errN hF xs _ _ _ hr
      · cases h
theorem cx_errN {th xs : List T} {n e : Int} (h : cxL th n xs = .error e) : e ≠ 0 := ea_errN (fun _ _ _ => fi_errN) xs 0 0 e h
theorem wrap_smallN {x : Int} (h0 : 0 ≤ x) (h1 : x ≤ 1000000) : wrap64 x = x := by
  unfold wrap64
  omega
end Go.Proofs.Ytloeainlpcnhnaa
/-
  Constants replaced by closed terms in lambda terms with dependent types; telescopes. No statement is proved here.
-/
namespace Go.Proofs.Ytloeainlpcnhnaa.Cr
open Go.RowKit
set_option linter.unusedVariables false
/-- constants become something -/
def csub (q : Int → Int → Lm) : Lm → Lm
  | .v i => .v i
  | .c k h => q k h
  | .a f x => .a (csub q f) (csub q x)
  | .l b => .l (csub q b)
structure CK (q : Int → Int → Lm) : Prop where
  clo : ∀ k h, Clo (q k h)
  pi : q 1 0 = .c 1 0
theorem csub_ren {q : Int → Int → Lm} (hq : CK q) (t : Lm) : ∀ r, csub q (ren r t) = ren r (csub q t) := by
  induction t with
  | v i => intro r; rfl
  | c k h => intro r; exact ((hq.clo k h).ren r).symm
  | a f x ihf ihx => intro r; rw [ren, csub, csub, ren, ihf, ihx]
  | l b ih => intro r; rw [ren, csub, csub, ren, ih]
theorem csub_sub {q : Int → Int → Lm} (hq : CK q) (t : Lm) : ∀ s, csub q (sub s t) = sub (fun i => csub q (s i)) (csub q t) := by
  induction t with
  | v i => intro s; rfl
  | c k h => intro s; exact (hq.clo k h _).symm
  | a f x ihf ihx => intro s; rw [sub, csub, csub, sub, ihf, ihx]
  | l b ih =>
    intro s
    rw [sub, csub, csub, sub, ih]
    congr 1
    refine sub_ext (fun i => ?_) _
    cases i with
    | zero => rfl
    | succ i => exact csub_ren hq (s i) _
theorem csub_one {q : Int → Int → Lm} (hq : CK q) (x b : Lm) : csub q (sub (one x) b) = sub (one (csub q x)) (csub q b) := by
  rw [csub_sub hq]
  refine sub_ext (fun i => ?_) _
  cases i <;> rfl
theorem csub_pi {q : Int → Int → Lm} (hq : CK q) (A B : Lm) : csub q (pi A B) = pi (csub q A) (csub q B) := by
  unfold pi
  rw [csub, csub, csub, csub, hq.pi]
theorem csub_apps (q : Int → Int → Lm) : ∀ (xs : List Lm) (f : Lm), csub q (apps f xs) = apps (csub q f) (xs.map (csub q))
  | [], f => rfl
  | x :: xs, f => csub_apps q xs (.a f x)
theorem Par.csub {q : Int → Int → Lm} (hq : CK q) {t t' : Lm} (h : Par t t') : Par (Cr.csub q t) (Cr.csub q t') := by
  induction h with
  | v i => exact .refl _
  | c k h => exact .refl _
  | a _ _ ihf ihx => exact .a ihf ihx
  | l _ ih => exact .l ih
  | beta _ _ ihb ihx => rw [csub_one hq]; exact .beta ihb ihx
theorem Ps.csub {q : Int → Int → Lm} (hq : CK q) {t t' : Lm} (h : Ps t t') : Ps (Cr.csub q t) (Cr.csub q t') := by
  induction h with
  | refl t => exact .refl _
  | step p _ ih => exact .step (p.csub hq) ih
theorem Cv.csub {q : Int → Int → Lm} (hq : CK q) {t t' : Lm} (h : Cv t t') : Cv (Cr.csub q t) (Cr.csub q t') := by
  obtain ⟨x, h1, h2⟩ := h
  exact ⟨_, h1.csub hq, h2.csub hq⟩
/-- what has a type has it with constants that became something of their types -/
theorem Ty.csub {q : Int → Int → Lm} (hq : CK q) {K K' : Int → Int → Lm → Prop} (hK : ∀ k h A, K k h A → ∀ G, Ty K' G (q k h) (Cr.csub q A)) {G : List Lm} {t A : Lm} (h : Ty K G t A) : Ty K' (G.map (Cr.csub q)) (Cr.csub q t) (Cr.csub q A) := by
  induction h with
  | v hi => rw [csub_ren hq]; exact .v (by rw [List.getElem?_map, hi]; rfl)
  | c hk => exact hK _ _ _ hk _
  | a _ _ ihf ihx =>
    rw [csub_one hq]
    rw [csub_pi hq] at ihf
    exact .a ihf ihx
  | l _ ih => rw [csub_pi hq]; exact .l ih
  | conv _ hc ih => exact .conv ih (hc.csub hq)
/-! ### Telescopes -/
def piL : List Lm → Lm → Lm
  | [], T => T
  | e :: es, T => pi e (piL es T)
def lamN : Nat → Lm → Lm
  | 0, b => b
  | n + 1, b => .l (lamN n b)
def scons (x : Lm) (s : Nat → Lm) : Nat → Lm
  | 0 => x
  | i + 1 => s i
def consL (s : Nat → Lm) : List Lm → Nat → Lm
  | [] => s
  | x :: xs => consL (scons x s) xs
theorem sub_scons (x : Lm) (s : Nat → Lm) (b : Lm) : sub (one x) (sub (ups s) b) = sub (scons x s) b := by
  rw [sub_sub]
  refine sub_ext (fun i => ?_) _
  cases i with
  | zero => rfl
  | succ i =>
    show sub (one x) (ren (· + 1) (s i)) = s i
    rw [sub_ren]
    exact sub_v _
theorem csub_piL {q : Int → Int → Lm} (hq : CK q) (T : Lm) : ∀ es : List Lm, csub q (piL es T) = piL (es.map (csub q)) (csub q T)
  | [] => rfl
  | e :: es => by rw [piL, csub_pi hq, csub_piL hq T es]; rfl
theorem Ty.lamN {K : Int → Int → Lm → Prop} {b T : Lm} : ∀ {es : List Lm} {G : List Lm}, Ty K (es.reverse ++ G) b T → Ty K G (Cr.lamN es.length b) (piL es T)
  | [], G, h => h
  | e :: es, G, h => by
    rw [List.reverse_cons, List.append_assoc] at h
    exact .l (Ty.lamN (es := es) (G := e :: G) h)
theorem Ty.teleN {K : Int → Int → Lm → Prop} {G : List Lm} {f e T x : Lm} {es : List Lm} {s : Nat → Lm} (h : Ty K G f (Cr.sub s (piL (e :: es) T))) (hx : Ty K G x (Cr.sub s e)) : Ty K G (.a f x) (Cr.sub (scons x s) (piL es T)) := by
  rw [piL, sub_pi] at h
  rw [← sub_scons]
  exact .a h hx
theorem lamN_red {b : Lm} : ∀ (xs : List Lm) (s : Nat → Lm), Ps (apps (sub s (lamN xs.length b)) xs) (sub (consL s xs) b)
  | [], s => .refl _
  | x :: xs, s => by
    have h1 : Ps (apps (Lm.a (Lm.l (sub (ups s) (lamN xs.length b))) x) xs) (apps (sub (scons x s) (lamN xs.length b)) xs) := by
      refine PsL.apps ?_ (PsL.refl _)
      rw [← sub_scons]
      exact .of (.beta (.refl _) (.refl _))
    exact h1.trans (lamN_red xs (scons x s))
theorem sg_snoc (L : List T) (x : T) (sh : Int) (i : Nat) : sg (L ++ [x]) sh i = scons (tr x) (sg L sh) i := by
  unfold sg
  rw [List.length_append, List.length_singleton]
  cases i with
  | zero =>
    rw [if_neg (by omega), scons]
    rw [List.getD_eq_getElem?_getD, show L.length + 1 - 1 - 0 = L.length by omega, List.getElem?_append_right (Nat.le_refl _), Nat.sub_self]
    rfl
  | succ i =>
    rw [scons]
    by_cases h : L.length ≤ i
    · rw [if_pos (by omega), if_pos h]
      congr 1
      omega
    · rw [if_neg (by omega), if_neg h]
      rw [List.getD_eq_getElem?_getD, List.getD_eq_getElem?_getD, List.getElem?_append_left (by omega), show L.length + 1 - 1 - (i + 1) = L.length - 1 - i by omega]
theorem consL_ext {s s' : Nat → Lm} (h : ∀ i, s i = s' i) : ∀ (xs : List Lm) (i : Nat), consL s xs i = consL s' xs i
  | [], i => h i
  | x :: xs, i => consL_ext (fun i => by cases i with
    | zero => rfl
    | succ i => exact h i) xs i
theorem consL_sg (sh : Int) : ∀ (xs L : List T) (i : Nat), consL (sg L sh) (xs.map tr) i = sg (L ++ xs) sh i
  | [], L, i => by rw [List.append_nil]; rfl
  | x :: xs, L, i => by
    show consL (scons (tr x) (sg L sh)) (xs.map tr) i = _
    rw [consL_ext (fun i => (sg_snoc L x sh i).symm), consL_sg sh xs (L ++ [x]), List.append_assoc]
    rfl
end Go.Proofs.Ytloeainlpcnhnaa.Cr
/-
  What is checked has its simple type, over metas. No statement is proved here.
-/
namespace Go.Proofs.Ytloeainlpcnhnaa
open Go.RowKit
set_option linter.unusedVariables false
/-- the simple type of a meta -/
def arr : List T → S0
  | [] => .o
  | e :: es => .r (er e) (arr es)
/-- simple types of constants, families and metas -/
def cM (W : WV) (k h : Int) : Option S0 :=
  if k = 6 then (if 0 ≤ h then (match W.ms[h.toNat]? with
    | some m => some (arr m.1)
    | none => none) else none) else cS W.sg k h
theorem cM_cS {W : WV} : ∀ (k h : Int) (s : S0), cS W.sg k h = some s → cM W k h = some s := fun k h s e => by
  by_cases hk : k = 6
  · subst hk
    unfold cS at e
    split at e
    · split at e
      · rw [if_neg (by omega)] at e; cases e
      · cases e
    · cases e
  · unfold cM
    rw [if_neg hk]; exact e
theorem cM_at {W : WV} {h : Int} {m : List T × T} (h0 : 0 ≤ h) (hm : W.ms[h.toNat]? = some m) : cM W 6 h = some (arr m.1) := by
  unfold cM
  rw [if_pos rfl, if_pos h0, hm]
theorem cM_six {W : WV} {h : Int} {s : S0} (e : cM W 6 h = some s) : 0 ≤ h ∧ ∃ m, W.ms[h.toNat]? = some m ∧ s = arr m.1 := by
  unfold cM at e
  rw [if_pos rfl] at e
  by_cases h0 : 0 ≤ h
  · rw [if_pos h0] at e
    cases hq : W.ms[h.toNat]? with
    | none => rw [hq] at e; cases e
    | some m => rw [hq] at e; cases e; exact ⟨h0, m, rfl, rfl⟩
  · rw [if_neg h0] at e; cases e
theorem cM_no {W : WV} {k h : Int} (hk : k ≠ 6) : cM W k h = cS W.sg k h := by unfold cM; rw [if_neg hk]
theorem cM_take {sg : List T} {ms : List (List T × T)} {i : Nat} : ∀ (k h : Int) (s : S0), cM ⟨sg, ms.take i⟩ k h = some s → cM ⟨sg, ms⟩ k h = some s := fun k h s e => by
  by_cases hk : k = 6
  · subst hk
    obtain ⟨h0, m, hm, rfl⟩ := cM_six e
    refine cM_at h0 ?_
    simp only at hm
    have hl := (List.getElem?_eq_some_iff.1 hm).1
    rw [List.length_take] at hl
    rwa [List.getElem?_take_of_lt (by omega)] at hm
  · rw [cM_no hk] at e ⊢; exact e
/-- entries that are types, each behind those ahead; metas in order; declarations -/
def WfM (W : WV) (cx : List T) : Prop := ∀ i x, cx[i]? = some x → nodB x = true ∧ Wf (cM W) true (gS (cx.take i)) x
def SgM (W : WV) : Prop := ∀ t ∈ W.sg, nodB t = true ∧ (kiB t = true → Wf (cM W) false [] t) ∧ (kiB t = false → Wf (cM W) true [] t)
def MsM (W : WV) : Prop := ∀ m ∈ W.ms, WfM W m.1 ∧ nodB m.2 = true ∧ kdQ m.2 = 2 ∧ Wf (cM W) true (gS m.1) m.2
theorem SgX.m {W : WV} (h : SgX W.sg) : SgM W := fun t ht =>
  ⟨(h t ht).1, fun e => ((h t ht).2.1 e).more cM_cS fun _ _ h => h, fun e => ((h t ht).2.2 e).more cM_cS fun _ _ h => h⟩
theorem WfM.more {sg : List T} {ms : List (List T × T)} {i : Nat} {cx : List T} (h : WfM ⟨sg, ms.take i⟩ cx) : WfM ⟨sg, ms⟩ cx := fun j x hx =>
  ⟨(h j x hx).1, (h j x hx).2.more cM_take fun _ _ h => h⟩
theorem WfM.take {W : WV} {cx : List T} (h : WfM W cx) (n : Nat) : WfM W (cx.take n) := fun i x hx => by
  have hi := (List.getElem?_eq_some_iff.1 hx).1
  rw [List.length_take] at hi
  rw [List.getElem?_take_of_lt (by omega)] at hx
  have := h i x hx
  rwa [List.take_take, Nat.min_eq_left (by omega)]
theorem WfM.snoc {W : WV} {cx : List T} {a : T} (h : WfM W cx) (hn : nodB a = true) (ha : Wf (cM W) true (gS cx) a) : WfM W (cx ++ [a]) := fun i x hx => by
  by_cases hi : i < cx.length
  · rw [List.getElem?_append_left hi] at hx
    rw [List.take_append_of_le_length (by omega)]
    exact h i x hx
  · have hl := (List.getElem?_eq_some_iff.1 hx).1
    rw [List.length_append, List.length_singleton] at hl
    obtain rfl : i = cx.length := by omega
    rw [List.getElem?_append_right (Nat.le_refl _), Nat.sub_self] at hx
    simp at hx
    subst hx
    rw [List.take_left']
    · exact ⟨hn, ha⟩
    · rfl
theorem WfM.up {W : WV} {cx : List T} (h : WfM W cx) {i : Nat} {x : T} (hx : cx[i]? = some x) : Wf (cM W) true (gS cx) (upT ((cx.length - i : Nat) : Int) x 0) := by
  have hi := (List.getElem?_eq_some_iff.1 hx).1
  have e : gS cx = ((cx.drop i).map er).reverse ++ gS (cx.take i) := by
    unfold gS
    rw [← List.reverse_append, ← List.map_append, List.take_append_drop]
  have := (h i x hx).2.up (E := ((cx.drop i).map er).reverse) (D := []) rfl
  simp only [List.nil_append, List.length_reverse, List.length_map, List.length_drop, List.length_nil] at this
  rw [e]
  exact this
theorem apT_okN {t : T} {L : List T} {n : Int} (h : apE t L n = 0) (ht : nodB t = true) : myB t = true ∧ sbB L n = true ∧ nodB (apT t L n) = true ∧ myB (apT t L n) = true ∧ Cr.Ps (Cr.sub (Cr.sg L n) (Cr.tr t)) (Cr.tr (apT t L n)) ∧ ∃ c, ap fl L n 0 t 0 = .ok (apT t L n, c) := by
  obtain ⟨h1, h2, m, hr, hm⟩ := ap_zero h
  have hr' : ap fl L n 0 t 0 = .ok (apT t L n, m) := hr
  obtain ⟨g1, g2⟩ := Cr.ap_red fl L n 0 t 0 _ m (fun y hy => ((myB_iff y).1 ((sb_parts h2).2.2 y hy)).1) (sb_parts h2).2.1.1 ht hr'
  rw [Cr.upn] at g2
  exact ⟨h1, h2, g1, hm, g2, m, hr'⟩
theorem ap_wfN {C : Int → Int → Option S0} {b : Bool} {G0 G : List S0} {t : T} {L : List T} {n : Int} (h : apE t L n = 0) (ht : nodB t = true) (hS : Sub0 C G0 G L n) (wt : Wf C b G0 t) : Wf C b G (apT t L n) ∧ er (apT t L n) = er t := by
  obtain ⟨_, h2, _, _, _, c, e⟩ := apT_okN h ht
  rcases (ap_St fl hS (sb_parts h2).2.1.1 t [] 0).2 b wt with e' | ⟨t', n', e', h1⟩
  · simp only [List.length_nil] at e'
    rw [e] at e'; cases e'
  · simp only [List.length_nil] at e'
    rw [e] at e'
    cases e'
    exact h1
theorem sub0_all {C : Int → Int → Option S0} {G : List S0} {dn done : List T} {n : Int} (hl : dn.length = done.length) (h : ∀ (j : Nat) (e x : T), done[j]? = some e → dn[j]? = some x → StT C G x (er e)) : Sub0 C (gS done) G dn n := fun i s hi => by
  have hi' := (List.getElem?_eq_some_iff.1 hi).1
  rw [gS_len] at hi'
  refine ⟨fun _ => ?_, fun e => by omega⟩
  obtain ⟨e, he⟩ : ∃ e, done[done.length - 1 - i]? = some e := ⟨_, List.getElem?_eq_getElem (by omega)⟩
  obtain ⟨x, hx⟩ : ∃ x, dn[dn.length - 1 - i]? = some x := ⟨_, List.getElem?_eq_getElem (by omega)⟩
  have h1 := gS_at he
  rw [show done.length - 1 - (done.length - 1 - i) = i by omega, hi] at h1
  injection h1 with h1
  rw [List.getD_eq_getElem?_getD, hx, Option.getD_some, h1]
  rw [hl] at hx
  exact h _ e x he hx
/-- the head of a term: its type -/
theorem hd_wfM {W : WV} {cx : List T} (hsg : SgM W) (hcx : WfM W cx) {k h : Int} {t : T} (h0 : 0 ≤ h) (hk : k = 4 ∨ k = 5) (hd : hdV W k h cx = .ok t) :
    nodB t = true ∧ Wf (cM W) true (gS cx) t ∧ ∀ {xs : List T}, StS (cM W) (gS cx) xs (er t) → StT (cM W) (gS cx) (.node k h xs) .o := by
  unfold hdV at hd
  by_cases hk4 : k = 4
  · rw [if_pos hk4] at hd
    subst hk4
    by_cases hl : h < cx.length
    · rw [if_pos hl] at hd
      cases hd
      obtain ⟨e, he⟩ : ∃ e, cx[cx.length - 1 - h.toNat]? = some e := ⟨_, List.getElem?_eq_getElem (by omega)⟩
      rw [List.getD_eq_getElem?_getD, he, Option.getD_some]
      have hw := hcx.up he
      rw [show ((cx.length - (cx.length - 1 - h.toNat) : Nat) : Int) = h + 1 by omega] at hw
      refine ⟨nodB_up (by omega) _ _ (hcx _ _ he).1, hw, fun hs => .var h0 ?_ hs⟩
      rw [er_up]
      have := gS_at he
      rwa [show cx.length - 1 - (cx.length - 1 - h.toNat) = h.toNat by omega] at this
    · rw [if_neg hl] at hd; cases hd
  · rw [if_neg hk4] at hd
    have hk5 : k = 5 := by omega
    subst hk5
    by_cases hl : h < W.sg.length
    · rw [if_pos hl] at hd
      obtain ⟨e, he⟩ : ∃ e, W.sg[h.toNat]? = some e := ⟨_, List.getElem?_eq_getElem (by omega)⟩
      rw [List.getD_eq_getElem?_getD, he, Option.getD_some] at hd
      by_cases hki : kiB e = true
      · rw [if_pos hki] at hd; cases hd
      · rw [if_neg hki] at hd
        have hkf : kiB e = false := by simpa using hki
        obtain ⟨h1, _, h2⟩ := hsg e (List.mem_of_getElem? he)
        injection hd with hd
        rw [← hd]
        exact ⟨h1, (h2 hkf).more (fun _ _ _ h => h) (fun i s hi => by simp at hi), fun hs => .con (.inl rfl) (cM_cS _ _ _ (cS_of h0 he (.inr ⟨rfl, hkf⟩))) hs⟩
    · rw [if_neg hl] at hd; cases hd
theorem sp_wfM {W : WV} {cx : List T} {b : Bool} : ∀ (xs : List T) (t t' : T), (∀ x ∈ xs, nodB x = true ∧ ∀ a, nodB a = true → Wf (cM W) true (gS cx) a → tmV W x cx a = 0 → StT (cM W) (gS cx) x (er a)) → nodB t = true → Wf (cM W) b (gS cx) t →
    spV W xs cx t = .ok t' → kdQ t' ≠ 1 → StS (cM W) (gS cx) xs (er t) ∧ nodB t' = true ∧ Wf (cM W) b (gS cx) t'
  | [], t, t', _, hn, hw, h, hk => by
    rw [spV] at h
    cases h
    rw [er_end hw hk]
    exact ⟨.nil, hn, hw⟩
  | x :: xs, t, t', ih, hn, hw, h, hk => by
    rw [spV] at h
    by_cases h1 : kdQ t = 1
    · rw [if_pos h1] at h
      obtain ⟨p, q, rfl, np, nq, wp, wq⟩ := wf_pi hw hn h1
      obtain ⟨nx, hx⟩ := ih x (by simp)
      have e0 : ag0 (.node 1 0 [p, q]) = p := rfl
      have e1 : ag1 (.node 1 0 [p, q]) = q := rfl
      rw [e0, e1] at h
      by_cases h2 : tmV W x cx p = 0
      · rw [if_pos h2] at h
        by_cases h3 : apE q [x] 0 = 0
        · rw [if_pos h3] at h
          have sx := hx p np wp h2
          obtain ⟨w1, e2⟩ := ap_wf h3 nx nq sx wq
          obtain ⟨r1, r2, r3⟩ := sp_wfM xs _ t' (fun y hy => ih y (by simp [hy])) (apT_ok h3 nx nq).2.2.1 w1 h hk
          rw [e2] at r1
          rw [er_pi]
          exact ⟨.cons sx r1, r2, r3⟩
        · rw [if_neg h3] at h; cases h
      · rw [if_neg h2] at h; cases h
    · rw [if_neg h1] at h; cases h
/-- a meta's Args against its context -/
theorem mt_wfM {W : WV} {cx : List T} : ∀ (xs dn es done : List T), (∀ x ∈ xs, nodB x = true ∧ ∀ a, nodB a = true → Wf (cM W) true (gS cx) a → tmV W x cx a = 0 → StT (cM W) (gS cx) x (er a)) → WfM W (done ++ es) → dn.length = done.length →
    (∀ (j : Nat) (e x : T), done[j]? = some e → dn[j]? = some x → StT (cM W) (gS cx) x (er e)) → xs.length = es.length → mtV W xs dn cx es = 0 → StS (cM W) (gS cx) xs (arr es)
  | [], dn, es, done, _, _, _, _, hl, _ => by
    obtain rfl : es = [] := List.length_eq_zero_iff.1 (by simpa using hl.symm)
    exact .nil
  | x :: xs, dn, [], done, _, _, _, _, hl, _ => by simp at hl
  | x :: xs, dn, e :: es, done, ih, hW, hd, hst, hl, h => by
    obtain ⟨nx, hx⟩ := ih x (by simp)
    rw [mtV, List.headD_cons, List.tail_cons] at h
    by_cases h1 : apE e dn cx.length = 0
    · rw [if_pos h1] at h
      by_cases h2 : tmV W x cx (apT e dn cx.length) = 0
      · rw [if_pos h2] at h
        have he := hW done.length e (by rw [List.getElem?_append_right (Nat.le_refl _), Nat.sub_self]; rfl)
        rw [List.take_left' rfl] at he
        obtain ⟨w1, e1⟩ := ap_wfN h1 he.1 (sub0_all hd hst) he.2
        have sx := hx _ (apT_okN h1 he.1).2.2.1 w1 h2
        rw [e1] at sx
        rw [arr]
        refine .cons sx (mt_wfM xs (dn ++ [x]) es (done ++ [e]) (fun y hy => ih y (by simp [hy])) (by rw [List.append_assoc]; exact hW) (by simp [hd]) (fun j e' x' he' hx' => ?_) (by simpa using hl) h)
        by_cases hj : j < done.length
        · rw [List.getElem?_append_left hj] at he'
          rw [List.getElem?_append_left (by omega)] at hx'
          exact hst j e' x' he' hx'
        · rw [List.getElem?_append_right (by omega)] at he'
          rw [List.getElem?_append_right (by omega), hd] at hx'
          obtain ⟨q, hq⟩ : ∃ q, j - done.length = q := ⟨_, rfl⟩
          rw [hq] at he' hx'
          cases q with
          | zero => simp at he' hx'; subst he'; subst hx'; exact sx
          | succ q => simp at he'
      · rw [if_neg h2] at h; exact absurd h h2
    · rw [if_neg h1] at h; exact absurd h h1
/-- what is checked has its simple type -/
theorem tm_StM {W : WV} (hsg : SgM W) (hms : MsM W) (m : T) : ∀ (cx : List T) (a : T), nodB m = true → nodB a = true → WfM W cx → Wf (cM W) true (gS cx) a → tmV W m cx a = 0 → StT (cM W) (gS cx) m (er a) := by
  induction m using T.ind with
  | step k h xs ih =>
    intro cx a hn ha hcx hw ht
    by_cases hk : k = 3
    · subst hk
      obtain ⟨rfl, x, rfl, hx⟩ := lamV hn
      rw [tm_lam] at ht
      by_cases hq : kdQ a = 1
      · rw [if_pos hq] at ht
        obtain ⟨p, q, rfl, np, nq, wp, wq⟩ := wf_pi hw ha hq
        have e0 : ag0 (.node 1 0 [p, q]) = p := rfl
        have e1 : ag1 (.node 1 0 [p, q]) = q := rfl
        rw [e0, e1] at ht
        have g := ih x (by simp) _ _ hx nq (hcx.snoc np wp) (by rw [gS_snoc]; exact wq) ht
        rw [gS_snoc] at g
        rw [er_pi]
        exact .lam g
      · rw [if_neg hq] at ht; cases ht
    · obtain ⟨hq, t, hc, hs⟩ := tm_neu_ok hk ht
      have hao : er a = .o := by
        obtain ⟨ka, ga, ya⟩ := a
        rw [kdQ] at hq
        exact er_no (by omega)
      rw [hao]
      obtain rfl := sam_eqZ t a hs
      rw [cmV] at hc
      by_cases hk45 : k = 4 ∨ k = 5
      · rw [if_pos hk45] at hc
        cases hh : hdV W k h cx with
        | error e => rw [hh] at hc; cases hc
        | ok t0 =>
          rw [hh] at hc
          obtain ⟨n0, w0, fin⟩ := hd_wfM hsg hcx (headV hn) hk45 hh
          exact fin (sp_wfM xs t0 t (fun x hx => ⟨(nodV hn).2 x hx, fun b nb wb hb => ih x hx cx b ((nodV hn).2 x hx) nb hcx wb hb⟩) n0 w0 hc (by omega)).1
      · rw [if_neg hk45] at hc
        by_cases hk6 : k = 6
        · rw [if_pos hk6] at hc
          by_cases hl : h < W.ms.length
          · rw [if_pos hl] at hc
            have h0 := headV hn
            obtain ⟨md, hmd⟩ : ∃ md, W.ms[h.toNat]? = some md := ⟨_, List.getElem?_eq_getElem (by omega)⟩
            have e1 : mdV W h = md := by unfold mdV; rw [List.getD_eq_getElem?_getD, hmd]; rfl
            rw [e1] at hc
            by_cases hxl : xs.length = md.1.length
            · rw [if_pos hxl] at hc
              by_cases hmt : mtV W xs [] cx md.1 = 0
              · subst hk6
                refine .con (.inr rfl) (cM_at h0 hmd) (mt_wfM xs [] md.1 [] (fun x hx => ⟨(nodV hn).2 x hx, fun b nb wb hb => ih x hx cx b ((nodV hn).2 x hx) nb hcx wb hb⟩) ?_ rfl (fun j e x he => by simp at he) hxl hmt)
                exact (hms md (List.mem_of_getElem? hmd)).1
              · rw [if_neg hmt] at hc; cases hc
            · rw [if_neg hxl] at hc; cases hc
          · rw [if_neg hl] at hc; cases hc
        · rw [if_neg hk6] at hc; cases hc
theorem ty_WfM {W : WV} (hsg : SgM W) (hms : MsM W) (a : T) : ∀ (cx : List T), nodB a = true → WfM W cx → tyV W a cx = 0 → Wf (cM W) true (gS cx) a := by
  induction a using T.ind with
  | step k h xs ih =>
    intro cx hn hcx ht
    by_cases h1 : k = 1
    · subst h1
      obtain ⟨rfl, x, y, rfl, hx, hy⟩ := piV hn
      rw [ty_pi] at ht
      by_cases h2 : tyV W x cx = 0
      · rw [if_pos h2] at ht
        have wx := ih x (by simp) cx hx hcx h2
        have wy := ih y (by simp) _ hy (hcx.snoc hx wx) ht
        rw [gS_snoc] at wy
        exact .pi wx wy
      · rw [if_neg h2] at ht; exact absurd ht h2
    · by_cases h2 : k = 2
      · subst h2
        rw [ty_fam, faV] at ht
        by_cases hl : h < W.sg.length
        · rw [if_pos hl] at ht
          have h0 := headV hn
          obtain ⟨e, he⟩ : ∃ e, W.sg[h.toNat]? = some e := ⟨_, List.getElem?_eq_getElem (by omega)⟩
          rw [List.getD_eq_getElem?_getD, he, Option.getD_some] at ht
          by_cases hki : kiB e = true
          · rw [if_pos hki] at ht
            cases hsp : spV W xs cx e with
            | error r => rw [hsp] at ht; exact absurd (show r = 0 from ht) (sp_err _ _ _ _ _ hsp)
            | ok t =>
              rw [hsp] at ht
              have hkt : kdQ t ≠ 1 := fun e1 => by
                unfold knV at ht
                simp only [e1] at ht
                revert ht
                decide
              obtain ⟨n1, w1, _⟩ := hsg e (List.mem_of_getElem? he)
              have := sp_wfM (W := W) (cx := cx) xs e t (fun x hx => ⟨(nodV hn).2 x hx, fun b nb wb hb => tm_StM hsg hms x cx b ((nodV hn).2 x hx) nb hcx wb hb⟩) n1 ((w1 hki).more (fun _ _ _ h => h) (fun i s hi => by simp at hi)) hsp hkt
              exact .fam (cM_cS _ _ _ (cS_of h0 he (.inl ⟨rfl, hki⟩))) this.1
          · rw [if_neg hki] at ht; cases ht
        · rw [if_neg hl] at ht; cases ht
      · rw [ty_no _ h1 h2] at ht; cases ht
end Go.Proofs.Ytloeainlpcnhnaa
/-
  Types up to conversion over metas; what has both its types is checked, but for what is too great. No statement is proved here.
-/
namespace Go.Proofs.Ytloeainlpcnhnaa
open Go.RowKit
set_option linter.unusedVariables false
/-! ### What has a simple type is closed in its context -/
theorem StS.mem {C : Int → Int → Option S0} {G : List S0} : ∀ {xs : List T} {s : S0}, StS C G xs s → ∀ x ∈ xs, ∃ a, StT C G x a
  | [], _, _, x, hx => by cases hx
  | y :: xs, s, h, x, hx => by
    cases h with
    | cons h1 h2 =>
      rcases List.mem_cons.1 hx with rfl | hx
      · exact ⟨_, h1⟩
      · exact StS.mem h2 x hx
theorem StT.cl {C : Int → Int → Option S0} (t : T) : ∀ {G : List S0} {a : S0}, StT C G t a → clL G.length (Cr.tr t) := by
  induction t using T.ind with
  | step k h xs ih =>
    intro G a ht
    have hsp : ∀ {s : S0}, StS C G xs s → ∀ y ∈ xs.map Cr.tr, clL G.length y := fun hs y hy => by
      obtain ⟨x, hx, rfl⟩ := List.mem_map.1 hy
      obtain ⟨b, hb⟩ := hs.mem x hx
      exact ih x hx hb
    cases ht with
    | @lam _ _ x a b hb =>
      rw [Cr.tr_lam]
      exact ih x (by simp) hb
    | var h0 hg hs =>
      rw [Cr.tr_app (by omega)]
      refine clL_apps ?_ (hsp hs)
      unfold Cr.at0
      rw [if_pos rfl]
      exact (List.getElem?_eq_some_iff.1 hg).1
    | con hk hc hs =>
      rw [Cr.tr_app (by omega)]
      refine clL_apps ?_ (hsp hs)
      unfold Cr.at0
      rw [if_neg (by omega)]
      trivial
theorem StS.cl {C : Int → Int → Option S0} {G : List S0} {xs : List T} {s : S0} (hs : StS C G xs s) : ∀ y ∈ xs.map Cr.tr, clL G.length y := fun y hy => by
  obtain ⟨x, hx, rfl⟩ := List.mem_map.1 hy
  obtain ⟨b, hb⟩ := hs.mem x hx
  exact hb.cl
theorem Wf.cl {C : Int → Int → Option S0} {b : Bool} {G : List S0} {t : T} (h : Wf C b G t) : clL G.length (Cr.tr t) := by
  induction h with
  | sort => rw [Cr.tr_app (by omega)]; unfold Cr.at0; rw [if_neg (by omega)]; trivial
  | @pi b G h x y _ _ ih1 ih2 =>
    rw [show Cr.tr (.node 1 h [x, y]) = .a (.a (Cr.at0 1 h) (Cr.tr x)) (.l (Cr.tr y)) by simp [Cr.tr, Cr.trL, bdn, Cr.wrap1, Cr.apps]]
    unfold Cr.at0
    rw [if_neg (by omega)]
    exact ⟨⟨trivial, ih1⟩, ih2⟩
  | fam hc hs =>
    rw [Cr.tr_app (by omega)]
    refine clL_apps ?_ hs.cl
    unfold Cr.at0
    rw [if_neg (by omega)]
    trivial
theorem clL_pi {n : Nat} {A B : Cr.Lm} (h1 : clL n A) (h2 : clL (n + 1) B) : clL n (Cr.pi A B) := ⟨⟨trivial, h1⟩, h2⟩
theorem clL_piL {T : Cr.Lm} : ∀ {es : List Cr.Lm} {n : Nat}, (∀ j e, es[j]? = some e → clL (n + j) e) → clL (n + es.length) T → clL n (Cr.piL es T)
  | [], n, _, h => h
  | e :: es, n, he, h => by
    refine clL_pi (he 0 e rfl) (clL_piL (es := es) (fun j x hx => ?_) ?_)
    · have := he (j + 1) x (by simpa using hx)
      rwa [show n + 1 + j = n + (j + 1) by omega]
    · rw [List.length_cons] at h
      rwa [show n + 1 + es.length = n + (es.length + 1) by omega]
theorem clL_clo {t : Cr.Lm} (h : clL 0 t) : Cr.Clo t := fun s => clL_sub h fun i hi => by omega
/-- the type of a meta -/
def piM (m : List T × T) : Cr.Lm := Cr.piL (m.1.map Cr.tr) (Cr.tr m.2)
/-- constants' types, and metas' -/
def kM (W : WV) (k h : Int) (A : Cr.Lm) : Prop := kS W.sg k h A ∨ (k = 6 ∧ 0 ≤ h ∧ ∃ m, W.ms[h.toNat]? = some m ∧ A = piM m)
theorem piM_cl {W : WV} {m : List T × T} (h : WfM W m.1) (hT : Wf (cM W) true (gS m.1) m.2) : clL 0 (piM m) := by
  refine clL_piL (fun j e he => ?_) ?_
  · rw [List.getElem?_map] at he
    cases hq : m.1[j]? with
    | none => rw [hq] at he; cases he
    | some x =>
      rw [hq] at he
      cases he
      have hj := (List.getElem?_eq_some_iff.1 hq).1
      have := (h j x hq).2.cl
      rw [gS_len, List.length_take, Nat.min_eq_left (by omega)] at this
      rwa [Nat.zero_add]
  · have := hT.cl
    rw [gS_len] at this
    rw [List.length_map, Nat.zero_add]
    exact this
theorem kM_clo {W : WV} (hsg : SgM W) (hms : MsM W) : ∀ k h A, kM W k h A → Cr.Clo A := fun k h A hk => by
  rcases hk with ⟨_, _, t, ht, hkt, rfl⟩ | ⟨_, _, m, hm, rfl⟩
  · exact clL_clo (((hsg t (List.mem_of_getElem? ht)).2.2 hkt).cl)
  · obtain ⟨h1, _, _, h2⟩ := hms m (List.mem_of_getElem? hm)
    exact clL_clo (piM_cl h1 h2)
/-- the head's type -/
theorem hd_TyM {W : WV} {cx : List T} (hcn : ∀ e ∈ cx, nodB e = true) {k h : Int} {t : T} (h0 : 0 ≤ h) (hk : k = 4 ∨ k = 5) (hd : hdV W k h cx = .ok t) : Cr.Ty (kM W) (gT cx) (Cr.at0 k h) (Cr.tr t) ∧
    ∀ {A : Cr.Lm}, Cr.Ty (kM W) (gT cx) (Cr.at0 k h) A → Cr.Cv A (Cr.tr t) := by
  unfold hdV at hd
  by_cases hk4 : k = 4
  · rw [if_pos hk4] at hd
    subst hk4
    by_cases hl : h < cx.length
    · rw [if_pos hl] at hd
      obtain ⟨e, he⟩ : ∃ e, cx[cx.length - 1 - h.toNat]? = some e := ⟨_, List.getElem?_eq_getElem (by omega)⟩
      rw [List.getD_eq_getElem?_getD, he, Option.getD_some] at hd
      injection hd with hd
      have hl2 := gT_at he
      rw [show cx.length - 1 - (cx.length - 1 - h.toNat) = h.toNat by omega] at hl2
      rw [← hd, up_ren h0 (hcn e (List.mem_of_getElem? he))]
      unfold Cr.at0
      rw [if_pos rfl]
      refine ⟨.v hl2, fun hA => ?_⟩
      obtain ⟨B, hB, hc⟩ := hA.gen_v rfl
      rw [hl2] at hB
      cases hB
      exact hc
    · rw [if_neg hl] at hd; cases hd
  · rw [if_neg hk4] at hd
    have hk5 : k = 5 := by omega
    subst hk5
    by_cases hl : h < W.sg.length
    · rw [if_pos hl] at hd
      obtain ⟨e, he⟩ : ∃ e, W.sg[h.toNat]? = some e := ⟨_, List.getElem?_eq_getElem (by omega)⟩
      rw [List.getD_eq_getElem?_getD, he, Option.getD_some] at hd
      by_cases hki : kiB e = true
      · rw [if_pos hki] at hd; cases hd
      · rw [if_neg hki] at hd
        injection hd with hd
        rw [← hd]
        unfold Cr.at0
        rw [if_neg (by omega)]
        refine ⟨.c (.inl ⟨rfl, h0, e, he, by simpa using hki, rfl⟩), fun hA => ?_⟩
        obtain ⟨B, hB, hc⟩ := hA.gen_c rfl
        rcases hB with ⟨_, _, t', ht', _, rfl⟩ | ⟨e6, _⟩
        · rw [he] at ht'
          cases ht'
          exact hc
        · omega
    · rw [if_neg hl] at hd; cases hd
theorem sp_TyM {W : WV} {cx : List T} : ∀ (xs : List T) (t t' : T) (f : Cr.Lm), (∀ x ∈ xs, nodB x = true ∧ ∀ a, nodB a = true → tmV W x cx a = 0 → Cr.Ty (kM W) (gT cx) (Cr.tr x) (Cr.tr a)) → nodB t = true →
    spV W xs cx t = .ok t' → Cr.Ty (kM W) (gT cx) f (Cr.tr t) → Cr.Ty (kM W) (gT cx) (Cr.apps f (xs.map Cr.tr)) (Cr.tr t') ∧ nodB t' = true
  | [], t, t', f, _, hn, h, hf => by
    rw [spV] at h
    cases h
    exact ⟨hf, hn⟩
  | x :: xs, t, t', f, ih, hn, h, hf => by
    rw [spV] at h
    by_cases h1 : kdQ t = 1
    · rw [if_pos h1] at h
      obtain ⟨p, q, rfl, np, nq⟩ := pi_of_kd hn h1
      obtain ⟨nx, hx⟩ := ih x (by simp)
      have e0 : ag0 (.node 1 0 [p, q]) = p := rfl
      have e1 : ag1 (.node 1 0 [p, q]) = q := rfl
      rw [e0, e1] at h
      by_cases h2 : tmV W x cx p = 0
      · rw [if_pos h2] at h
        by_cases h3 : apE q [x] 0 = 0
        · rw [if_pos h3] at h
          obtain ⟨_, _, n1, _, hps, _⟩ := apT_ok h3 nx nq
          rw [tr_pi] at hf
          exact sp_TyM xs _ t' _ (fun y hy => ih y (by simp [hy])) n1 h (.conv (.a hf (hx p np h2)) (Cr.Cv.of hps))
        · rw [if_neg h3] at h; cases h
      · rw [if_neg h2] at h; cases h
    · rw [if_neg h1] at h; cases h
/-- a meta's Args, up to conversion -/
theorem mt_TyM {W : WV} {cx : List T} {U : Cr.Lm} : ∀ (xs dn es : List T) (f : Cr.Lm), (∀ x ∈ xs, nodB x = true ∧ ∀ a, nodB a = true → tmV W x cx a = 0 → Cr.Ty (kM W) (gT cx) (Cr.tr x) (Cr.tr a)) → (∀ e ∈ es, nodB e = true) → xs.length = es.length →
    mtV W xs dn cx es = 0 → Cr.Ty (kM W) (gT cx) f (Cr.sub (Cr.sg dn cx.length) (Cr.piL (es.map Cr.tr) U)) → Cr.Ty (kM W) (gT cx) (Cr.apps f (xs.map Cr.tr)) (Cr.sub (Cr.sg (dn ++ xs) cx.length) U)
  | [], dn, es, f, _, _, hl, _, hf => by
    obtain rfl : es = [] := List.length_eq_zero_iff.1 (by simpa using hl.symm)
    rw [List.append_nil]
    exact hf
  | x :: xs, dn, [], f, _, _, hl, _, _ => by simp at hl
  | x :: xs, dn, e :: es, f, ih, hn, hl, h, hf => by
    obtain ⟨nx, hx⟩ := ih x (by simp)
    rw [mtV, List.headD_cons, List.tail_cons] at h
    by_cases h1 : apE e dn cx.length = 0
    · rw [if_pos h1] at h
      by_cases h2 : tmV W x cx (apT e dn cx.length) = 0
      · rw [if_pos h2] at h
        obtain ⟨_, _, n1, _, hps, _⟩ := apT_okN h1 (hn e (by simp))
        have tx := Cr.Ty.conv (hx _ n1 h2) (Cr.Cv.of hps).symm
        rw [List.map_cons] at hf
        have hf2 := hf.teleN tx
        rw [Cr.sub_ext (fun i => (Cr.sg_snoc dn x cx.length i).symm)] at hf2
        have := mt_TyM xs (dn ++ [x]) es _ (fun y hy => ih y (by simp [hy])) (fun y hy => hn y (by simp [hy])) (by simpa using hl) h hf2
        rw [List.append_assoc] at this
        exact this
      · rw [if_neg h2] at h; exact absurd h h2
    · rw [if_neg h1] at h; exact absurd h h1
theorem ty_metaM {W : WV} {cx : List T} {h : Int} {m : List T × T} (hcl : clL 0 (piM m)) (h0 : 0 ≤ h) (hm : W.ms[h.toNat]? = some m) : Cr.Ty (kM W) (gT cx) (Cr.at0 6 h) (Cr.sub (Cr.sg [] cx.length) (Cr.piL (m.1.map Cr.tr) (Cr.tr m.2))) := by
  unfold Cr.at0
  rw [if_neg (by omega), show Cr.piL (m.1.map Cr.tr) (Cr.tr m.2) = piM m from rfl, clL_clo hcl]
  exact .c (.inr ⟨rfl, h0, m, hm, rfl⟩)
/-- what is checked has its type, up to conversion -/
theorem tm_TyM {W : WV} (hsn : ∀ t ∈ W.sg, nodB t = true) (hmn : ∀ m ∈ W.ms, (∀ e ∈ m.1, nodB e = true) ∧ nodB m.2 = true ∧ clL 0 (piM m)) (m : T) : ∀ (cx : List T) (a : T), nodB m = true → nodB a = true → (∀ e ∈ cx, nodB e = true) → tmV W m cx a = 0 → Cr.Ty (kM W) (gT cx) (Cr.tr m) (Cr.tr a) := by
  induction m using T.ind with
  | step k h xs ih =>
    intro cx a hn ha hcx ht
    by_cases hk : k = 3
    · subst hk
      obtain ⟨rfl, x, rfl, hx⟩ := lamV hn
      rw [tm_lam] at ht
      by_cases hq : kdQ a = 1
      · rw [if_pos hq] at ht
        obtain ⟨p, q, rfl, np, nq⟩ := pi_of_kd ha hq
        have e0 : ag0 (.node 1 0 [p, q]) = p := rfl
        have e1 : ag1 (.node 1 0 [p, q]) = q := rfl
        rw [e0, e1] at ht
        have g := ih x (by simp) _ _ hx nq (fun e he => by
          rcases List.mem_append.1 he with he | he
          · exact hcx e he
          · rw [List.mem_singleton.1 he]; exact np) ht
        rw [gT_snoc] at g
        rw [tr_pi, Cr.tr_lam]
        exact .l g
      · rw [if_neg hq] at ht; cases ht
    · obtain ⟨hq, t, hc, hs⟩ := tm_neu_ok hk ht
      obtain rfl := sam_eqZ t a hs
      rw [cmV] at hc
      by_cases hk45 : k = 4 ∨ k = 5
      · rw [if_pos hk45] at hc
        cases hh : hdV W k h cx with
        | error e => rw [hh] at hc; cases hc
        | ok t0 =>
          rw [hh] at hc
          have n0 : nodB t0 = true := by
            unfold hdV at hh
            split at hh
            · split at hh
              · injection hh with hh
                rw [← hh]
                exact nodB_up (by have := headV hn; omega) _ _ (hcx _ (getD_memV _ (by have := headV hn; omega)))
              · cases hh
            · split at hh
              · rename_i hl
                split at hh
                · cases hh
                · injection hh with hh
                  rw [← hh]
                  exact hsn _ (getD_memV _ (by have := headV hn; omega))
              · cases hh
          rw [Cr.tr_app (by omega)]
          exact (sp_TyM xs t0 t _ (fun x hx => ⟨(nodV hn).2 x hx, fun b nb hb => ih x hx cx b ((nodV hn).2 x hx) nb hcx hb⟩) n0 hc (hd_TyM hcx (headV hn) hk45 hh).1).1
      · rw [if_neg hk45] at hc
        by_cases hk6 : k = 6
        · rw [if_pos hk6] at hc
          by_cases hl : h < W.ms.length
          · rw [if_pos hl] at hc
            have h0 := headV hn
            obtain ⟨md, hmd⟩ : ∃ md, W.ms[h.toNat]? = some md := ⟨_, List.getElem?_eq_getElem (by omega)⟩
            have e1 : mdV W h = md := by unfold mdV; rw [List.getD_eq_getElem?_getD, hmd]; rfl
            rw [e1] at hc
            by_cases hxl : xs.length = md.1.length
            · rw [if_pos hxl] at hc
              by_cases hmt : mtV W xs [] cx md.1 = 0
              · rw [if_pos hmt, apV] at hc
                by_cases hap : apE md.2 xs cx.length = 0
                · rw [if_pos hap] at hc
                  injection hc with hc
                  subst hk6
                  obtain ⟨m1, m2, m3⟩ := hmn md (List.mem_of_getElem? hmd)
                  obtain ⟨_, _, _, _, hps, _⟩ := apT_okN hap m2
                  have := mt_TyM xs [] md.1 _ (fun x hx => ⟨(nodV hn).2 x hx, fun b nb hb => ih x hx cx b ((nodV hn).2 x hx) nb hcx hb⟩) m1 hxl hmt (ty_metaM m3 h0 hmd)
                  rw [List.nil_append] at this
                  rw [Cr.tr_app (by omega), ← hc]
                  exact .conv this (Cr.Cv.of hps)
                · rw [if_neg hap] at hc; cases hc
              · rw [if_neg hmt] at hc; cases hc
            · rw [if_neg hxl] at hc; cases hc
          · rw [if_neg hl] at hc; cases hc
        · rw [if_neg hk6] at hc; cases hc
theorem sp_cmpM {W : WV} {cx : List T} {b : Bool} : ∀ (xs : List T) (t : T) (A : Cr.Lm),
    (∀ x ∈ xs, myB x = true ∧ ∀ a B, myB a = true → Wf (cM W) true (gS cx) a → StT (cM W) (gS cx) x (er a) → Cr.Ty (kM W) (gT cx) (Cr.tr x) B → Cr.Cv B (Cr.tr a) → Ok4 (tmV W x cx a)) → myB t = true → Wf (cM W) b (gS cx) t →
    StS (cM W) (gS cx) xs (er t) → Cr.Spn (kM W) (gT cx) (Cr.tr t) (xs.map Cr.tr) A → spV W xs cx t = .error 4 ∨ ∃ t', spV W xs cx t = .ok t' ∧ nodB t' = true ∧ Cr.Cv (Cr.tr t') A
  | [], t, A, _, ht, _, _, hsp => .inr ⟨t, by rw [spV], ((myB_iff t).1 ht).1, hsp⟩
  | x :: xs, t, A, ih, ht, hw, hs, hsp => by
    have hn := ((myB_iff t).1 ht).1
    have h1 : kdQ t = 1 := by
      refine Decidable.byContradiction fun e => ?_
      rw [er_end hw e] at hs
      cases hs
    obtain ⟨p, q, rfl, np, nq, wp, wq⟩ := wf_pi hw hn h1
    rw [er_pi] at hs
    obtain ⟨mx, hx⟩ := ih x (by simp)
    have mp : myB p = true := my_arg ht (by simp)
    have mq : myB q = true := my_arg ht (by simp)
    have nx := ((myB_iff x).1 mx).1
    cases hs with
    | cons sx sxs =>
      obtain ⟨P, Q, hc, hxP, hrest⟩ := hsp
      rw [tr_pi] at hc
      obtain ⟨hcP, hcQ⟩ := hc.pi_inj
      have e0 : ag0 (.node 1 0 [p, q]) = p := rfl
      have e1 : ag1 (.node 1 0 [p, q]) = q := rfl
      rw [spV, if_pos h1, e0, e1]
      rcases hx p P mp wp sx hxP hcP.symm with h2 | h2
      · rw [if_pos h2]
        rcases apE_of ((ap_St fl (sub0_one sx) (by omega) q [] 0).2 b wq) mq (sb_one mx) with ⟨h3, w1, e2⟩ | h3
        · rw [if_pos h3]
          obtain ⟨_, _, n1, m1, hps, _⟩ := apT_ok h3 nx nq
          refine sp_cmpM xs _ A (fun y hy => ih y (by simp [hy])) m1 w1 (by rw [e2]; exact sxs) (hrest.cv ?_)
          exact (Cr.Cv.of hps).symm.trans (hcQ.sub _)
        · rw [if_neg (by omega), h3]; exact .inl rfl
      · rw [if_neg (by omega), h2]; exact .inl rfl
/-- a meta's Args that have both their types -/
theorem mt_cmpM {W : WV} {cx : List T} {U : Cr.Lm} (hcl : cx.length ≤ 1000) : ∀ (xs dn es done : List T) (t A : Cr.Lm),
    (∀ x ∈ xs, myB x = true ∧ ∀ a B, myB a = true → Wf (cM W) true (gS cx) a → StT (cM W) (gS cx) x (er a) → Cr.Ty (kM W) (gT cx) (Cr.tr x) B → Cr.Cv B (Cr.tr a) → Ok4 (tmV W x cx a)) → (∀ e ∈ es, myB e = true) → WfM W (done ++ es) → dn.length = done.length →
    (∀ (j : Nat) (e x : T), done[j]? = some e → dn[j]? = some x → StT (cM W) (gS cx) x (er e)) → (∀ x ∈ dn, myB x = true) → dn.length + xs.length ≤ 200 → StS (cM W) (gS cx) xs (arr es) → Cr.Cv t (Cr.sub (Cr.sg dn cx.length) (Cr.piL (es.map Cr.tr) U)) → Cr.Spn (kM W) (gT cx) t (xs.map Cr.tr) A →
    mtV W xs dn cx es = 4 ∨ (mtV W xs dn cx es = 0 ∧ Cr.Cv (Cr.sub (Cr.sg (dn ++ xs) cx.length) U) A ∧ xs.length = es.length)
  | [], dn, es, done, t, A, _, _, _, _, _, _, _, hs, hc, hsp => by
    cases es with
    | nil => rw [List.append_nil, mtV]; exact .inr ⟨rfl, hc.symm.trans hsp, rfl⟩
    | cons e es => rw [arr] at hs; cases hs
  | x :: xs, dn, [], done, t, A, _, _, _, _, _, _, _, hs, _, _ => by rw [arr] at hs; cases hs
  | x :: xs, dn, e :: es, done, t, A, ih, hme, hW, hd, hst, hmd, hl, hs, hc, hsp => by
    obtain ⟨mx, hx⟩ := ih x (by simp)
    have he := hW done.length e (by rw [List.getElem?_append_right (Nat.le_refl _), Nat.sub_self]; rfl)
    rw [List.take_left' rfl] at he
    rw [mtV, List.headD_cons, List.tail_cons]
    rw [arr] at hs
    rw [List.length_cons] at hl
    cases hs with
    | cons sx sxs =>
      obtain ⟨P, Q, hcq, hxP, hrest⟩ := hsp
      rw [List.map_cons, Cr.piL, Cr.sub_pi] at hc
      obtain ⟨hcP, hcQ⟩ := (hcq.symm.trans hc).pi_inj
      rcases apE_of ((ap_St fl (sub0_all (n := (cx.length : Int)) hd hst) (by omega) e [] 0).2 true he.2) (hme e (by simp)) (sb_of (by omega) (by omega) hmd) with ⟨h3, w1, e2⟩ | h3
      · rw [if_pos h3]
        obtain ⟨_, _, n1, m1, hps, _⟩ := apT_okN h3 he.1
        rcases hx _ P m1 w1 (by rw [e2]; exact sx) hxP (hcP.trans (Cr.Cv.of hps)) with h4 | h4
        · rw [if_pos h4]
          have := mt_cmpM (U := U) hcl xs (dn ++ [x]) es (done ++ [e]) (Cr.sub (Cr.one (Cr.tr x)) Q) A (fun y hy => ih y (by simp [hy])) (fun y hy => hme y (by simp [hy])) (by rw [List.append_assoc]; exact hW) (by simp [hd]) (fun j e' x' he' hx' => by
            by_cases hj : j < done.length
            · rw [List.getElem?_append_left hj] at he'
              rw [List.getElem?_append_left (by omega)] at hx'
              exact hst j e' x' he' hx'
            · rw [List.getElem?_append_right (by omega)] at he'
              rw [List.getElem?_append_right (by omega), hd] at hx'
              obtain ⟨q, hq⟩ : ∃ q, j - done.length = q := ⟨_, rfl⟩
              rw [hq] at he' hx'
              cases q with
              | zero => simp at he' hx'; subst he'; subst hx'; exact sx
              | succ q => simp at he') (fun y hy => by
              rcases List.mem_append.1 hy with hy | hy
              · exact hmd y hy
              · rw [List.mem_singleton.1 hy]; exact mx) (by rw [List.length_append, List.length_singleton]; omega) sxs ?_ hrest
          · rcases this with h5 | ⟨h5, h6, h7⟩
            · exact .inl h5
            · rw [List.append_assoc] at h6
              exact .inr ⟨h5, h6, by rw [List.length_cons, List.length_cons, h7]⟩
          · rw [Cr.sub_ext (fun i => Cr.sg_snoc dn x cx.length i), ← Cr.sub_scons]
            exact hcQ.sub _
        · rw [if_neg (by omega), h4]; exact .inl rfl
      · rw [if_neg (by omega), h3]; exact .inl rfl
theorem stS_len {C : Int → Int → Option S0} {G : List S0} : ∀ {xs es : List T}, StS C G xs (arr es) → xs.length = es.length
  | [], [], _ => rfl
  | [], e :: es, h => by rw [arr] at h; cases h
  | x :: xs, [], h => by rw [arr] at h; cases h
  | x :: xs, e :: es, h => by
    rw [arr] at h
    cases h with
    | cons _ h2 => rw [List.length_cons, List.length_cons, stS_len h2]
theorem stS_at {C : Int → Int → Option S0} {G : List S0} : ∀ {xs es : List T}, StS C G xs (arr es) → ∀ (j : Nat) (e x : T), es[j]? = some e → xs[j]? = some x → StT C G x (er e)
  | [], _, _, j, e, x, _, hx => by simp at hx
  | x :: xs, [], h, j, e, y, he, _ => by simp at he
  | x :: xs, e :: es, h, j, e', x', he, hx => by
    rw [arr] at h
    cases h with
    | cons h1 h2 =>
      cases j with
      | zero => simp at he hx; subst he; subst hx; exact h1
      | succ j => exact stS_at h2 j e' x' (by simpa using he) (by simpa using hx)
theorem tm_cmpM {W : WV} (hsg : SgM W) (hms : MsM W) (hmm : ∀ m ∈ W.ms, (∀ e ∈ m.1, myB e = true) ∧ myB m.2 = true ∧ m.1.length ≤ 200) (hK : ∀ k h A, kM W k h A → Cr.Clo A) (hsm : ∀ t ∈ W.sg, myB t = true) (m : T) : ∀ (cx : List T) (a : T) (A : Cr.Lm), myB m = true → myB a = true → (∀ e ∈ cx, myB e = true) → cx.length + dp m ≤ 1000 → WfM W cx → Wf (cM W) true (gS cx) a →
    StT (cM W) (gS cx) m (er a) → Cr.Ty (kM W) (gT cx) (Cr.tr m) A → Cr.Cv A (Cr.tr a) → Ok4 (tmV W m cx a) := by
  induction m using T.ind with
  | step k h xs ih =>
    intro cx a A hm ha hcm hlen hcx hw hst hty hcv
    have hn := ((myB_iff _).1 hm).1
    have hna := ((myB_iff _).1 ha).1
    by_cases hk : k = 3
    · subst hk
      obtain ⟨rfl, x, rfl, hx⟩ := lamV hn
      rw [tm_lam]
      have hq : kdQ a = 1 := by
        refine Decidable.byContradiction fun e => ?_
        rw [er_end hw e] at hst
        cases hst with
        | con h5 _ _ => omega
      obtain ⟨p, q, rfl, np, nq, wp, wq⟩ := wf_pi hw hna hq
      rw [er_pi] at hst
      rw [if_pos hq]
      have e0 : ag0 (.node 1 0 [p, q]) = p := rfl
      have e1 : ag1 (.node 1 0 [p, q]) = q := rfl
      rw [e0, e1]
      rw [Cr.tr_lam] at hty
      obtain ⟨P, Q, hb, hc⟩ := hty.gen_l rfl
      have hcp := hc.symm.trans hcv
      rw [tr_pi] at hcp
      obtain ⟨hcP, hcQ⟩ := hcp.pi_inj
      have mp : myB p = true := my_arg ha (by simp)
      have mq : myB q = true := my_arg ha (by simp)
      cases hst with
      | lam hsx =>
        refine ih x (by simp) (cx ++ [p]) q Q (my_arg hm (by simp)) mq (fun e he => ?_) (by rw [List.length_append, List.length_singleton]; rw [dp, dpL, dpL] at hlen; omega) (hcx.snoc np wp) (by rw [gS_snoc]; exact wq) (by rw [gS_snoc]; exact hsx) ?_ hcQ
        · rcases List.mem_append.1 he with he | he
          · exact hcm e he
          · rw [List.mem_singleton.1 he]; exact mp
        · rw [gT_snoc]
          exact hb.ctx hK ⟨hcP, Cr.CvG.refl _⟩
    · rw [tm_neu _ hk]
      have hq : kdQ a = 2 := by
        have hne : kdQ a ≠ 1 := fun e => by
          obtain ⟨p, q, rfl, _, _, _, _⟩ := wf_pi hw hna e
          rw [er_pi] at hst
          cases hst with
          | lam _ => exact hk rfl
        cases hw with
        | pi _ _ => exact absurd rfl hne
        | fam _ _ => rfl
      rw [if_pos hq]
      have hao : er a = .o := er_end hw (by omega)
      rw [hao] at hst
      have hcn : ∀ e ∈ cx, nodB e = true := fun e he => ((myB_iff e).1 (hcm e he)).1
      have key : ∀ (k' : Int), k' = k → k' = 4 ∨ k' = 5 → (∃ t0, hdV W k' h cx = .ok t0 ∧ myB t0 = true ∧ StS (cM W) (gS cx) xs (er t0)) → Ok4 (enV a (cmV W cx (.node k' h xs))) := by
        rintro k' rfl hk45 ⟨t0, hh, m0, hs0⟩
        obtain ⟨n0, w0, _⟩ := hd_wfM hsg hcx (headV hn) hk45 hh
        rw [Cr.tr_app (by omega)] at hty
        obtain ⟨t1, ht1, hsp⟩ := Cr.Spn.of hty
        have hcv0 := (hd_TyM hcn (headV hn) hk45 hh).2 ht1
        rw [cmV, if_pos hk45, hh]
        rcases sp_cmpM xs t0 A (fun x hx => ⟨my_arg hm hx, fun b B mb wb sb tb cb => ih x hx cx b B (my_arg hm hx) mb hcm (by rw [dp] at hlen; have := dp_memV hx; omega) hcx wb sb tb cb⟩) m0 w0 hs0 (hsp.cv hcv0.symm) with e | ⟨t', e, n', hc'⟩
        · simp only [e]; exact .inr rfl
        · simp only [e]
          obtain rfl := tr_same n' hna (hc'.trans hcv)
          rw [enV, if_pos (sam_refl _)]
          exact .inl rfl
      cases hst with
      | @var _ h xs s h0 hg hs =>
        refine key 4 rfl (.inl rfl) ?_
        have hl : h.toNat < (gS cx).length := (List.getElem?_eq_some_iff.1 hg).1
        rw [gS_len] at hl
        obtain ⟨e, he⟩ : ∃ e, cx[cx.length - 1 - h.toNat]? = some e := ⟨_, List.getElem?_eq_getElem (by omega)⟩
        have hge := gS_at he
        rw [show cx.length - 1 - (cx.length - 1 - h.toNat) = h.toNat by omega, hg] at hge
        injection hge with hge
        refine ⟨upT (h + 1) e 0, ?_, my_up (by omega) (hcm e (List.mem_of_getElem? he)), by rw [er_up, ← hge]; exact hs⟩
        unfold hdV
        rw [if_pos rfl, if_pos (by omega), List.getD_eq_getElem?_getD, he, Option.getD_some]
      | con hk5 hc hs =>
        by_cases hk6 : k = 6
        · subst hk6
          obtain ⟨h0, md, hmd, rfl⟩ := cM_six hc
          have e1 : mdV W h = md := by unfold mdV; rw [List.getD_eq_getElem?_getD, hmd]; rfl
          have hl := (List.getElem?_eq_some_iff.1 hmd).1
          obtain ⟨d1, d2, d3, d4⟩ := hms md (List.mem_of_getElem? hmd)
          obtain ⟨y1, y2, y3⟩ := hmm md (List.mem_of_getElem? hmd)
          have hcl1 : cx.length ≤ 1000 := by omega
          rw [Cr.tr_app (by omega)] at hty
          obtain ⟨t1, ht1, hsp⟩ := Cr.Spn.of hty
          have hcv0 : Cr.Cv t1 (Cr.sub (Cr.sg [] cx.length) (Cr.piL (md.1.map Cr.tr) (Cr.tr md.2))) := by
            have hcl := piM_cl d1 d4
            rw [show Cr.piL (md.1.map Cr.tr) (Cr.tr md.2) = piM md from rfl, clL_clo hcl]
            unfold Cr.at0 at ht1
            rw [if_neg (by omega)] at ht1
            obtain ⟨B, hB, hcB⟩ := ht1.gen_c rfl
            rcases hB with ⟨e6, _⟩ | ⟨_, _, m', hm', rfl⟩
            · omega
            · rw [hmd] at hm'
              cases hm'
              exact hcB
          rw [cmV, if_neg (by omega), if_pos rfl, if_pos (by omega), e1]
          rcases stS_len hs with hxl
          rcases mt_cmpM (W := W) (U := Cr.tr md.2) hcl1 xs [] md.1 [] t1 A (fun x hx => ⟨my_arg hm hx, fun b B mb wb sb tb cb => ih x hx cx b B (my_arg hm hx) mb hcm (by rw [dp] at hlen; have := dp_memV hx; omega) hcx wb sb tb cb⟩) y1 d1 rfl (fun j e x he => by simp at he) (fun x hx => by cases hx) (by rw [hxl]; simpa using y3) hs hcv0 hsp with h5 | ⟨h5, h6, h7⟩
          · rw [if_pos hxl, if_neg (by omega), h5]; exact .inr rfl
          · rw [if_pos hxl, if_pos h5, apV]
            have hS0 : Sub0 (cM W) (gS md.1) (gS cx) xs cx.length := sub0_all hxl (stS_at hs)
            rcases apE_of ((ap_St fl hS0 (by omega) md.2 [] 0).2 true d4) y2 (sb_of (by omega) (by omega) (fun x hx => my_arg hm hx)) with ⟨h8, w8, _⟩ | h8
            · rw [if_pos h8]
              obtain ⟨_, _, n1, m1, hps, _⟩ := apT_okN h8 d2
              rw [List.nil_append] at h6
              obtain rfl := tr_same n1 hna (((Cr.Cv.of hps).symm.trans h6).trans hcv)
              rw [enV, if_pos (sam_refl _)]
              exact .inl rfl
            · rw [if_neg (by omega), h8]; exact .inr rfl
        · rw [cM_no hk6] at hc
          unfold cS at hc
          by_cases h0 : 0 ≤ h
          · rw [if_pos h0] at hc
            cases he : W.sg[h.toNat]? with
            | none => rw [he] at hc; cases hc
            | some e =>
              rw [he] at hc
              simp only at hc
              by_cases hcond : (k = 2 ∧ kiB e = true) ∨ (k = 5 ∧ kiB e = false)
              · rw [if_pos hcond] at hc
                injection hc with hc
                have hk55 : k = 5 := by omega
                have hki : kiB e = false := by
                  rcases hcond with h | h
                  · omega
                  · exact h.2
                subst hk55
                refine key 5 rfl (.inr rfl) ⟨e, ?_, hsm e (List.mem_of_getElem? he), by rw [hc]; exact hs⟩
                have hl := (List.getElem?_eq_some_iff.1 he).1
                unfold hdV
                rw [if_neg (by omega), if_pos (by omega), List.getD_eq_getElem?_getD, he, Option.getD_some, if_neg (by rw [hki]; decide)]
              · rw [if_neg hcond] at hc; cases hc
          · rw [if_neg h0] at hc; cases hc
end Go.Proofs.Ytloeainlpcnhnaa
/-
  What is filled keeps its simple type, and is what constants' replacement reduces to, or it is too great. No statement is proved here.
-/
namespace Go.Proofs.Ytloeainlpcnhnaa
open Go.RowKit
set_option linter.unusedVariables false
/-- terms for metas, of their simple types -/
structure FlH (C C' : Int → Int → Option S0) (th : List T) (q : Int → Int → Cr.Lm) : Prop where
  same : ∀ k h s, k ≠ 6 → C k h = some s → C' k h = some s
  six : ∀ h s, C 6 h = some s → 0 ≤ h ∧ ∃ x es, th[h.toNat]? = some x ∧ s = arr es ∧ myB x = true ∧ es.length ≤ 200 ∧ StT C' (gS es) x .o ∧ q 6 h = Cr.lamN es.length (Cr.tr x)
  ck : Cr.CK q
  qk : ∀ k h, k ≠ 6 → q k h = .c k h
theorem nod_ofN {k h : Int} {xs ys : List T} (hn : nodB (.node k h xs) = true) (hl : ys.length = xs.length) (hy : ∀ y ∈ ys, nodB y = true) : nodB (.node k h ys) = true := by
  rw [nodB, Bool.and_eq_true]
  rw [hl]
  exact ⟨(nodV hn).1, nodL_of hy⟩
theorem flL_St {C C' : Int → Int → Option S0} {th : List T} {q : Int → Int → Cr.Lm} {G : List S0} {k n : Int} {m : Nat} (hk : k ≠ 1 ∧ k ≠ 3) : ∀ (xs : List T) (i : Nat) (s : S0),
    (∀ x ∈ xs, ∀ a, StT C G x a → flT th x n = .error 4 ∨ ∃ t', flT th x n = .ok t' ∧ nodB t' = true ∧ StT C' G t' a ∧ Cr.Ps (Cr.csub q (Cr.tr x)) (Cr.tr t')) → StS C G xs s →
    flL th k m xs i n = .error 4 ∨ ∃ ys, flL th k m xs i n = .ok ys ∧ (∀ y ∈ ys, nodB y = true) ∧ ys.length = xs.length ∧ StS C' G ys s ∧ Cr.PsL ((xs.map Cr.tr).map (Cr.csub q)) (ys.map Cr.tr)
  | [], i, s, _, hs => by
    cases hs
    exact .inr ⟨[], by rw [flL], by simp, rfl, .nil, trivial⟩
  | x :: xs, i, s, hA, hs => by
    cases hs with
    | @cons _ _ _ a b hx hxs =>
      rw [flL, bd_var hk, Int.add_zero]
      rcases hA x (by simp) a hx with e | ⟨y, e, n1, h1, p1⟩
      · rw [e]; exact .inl rfl
      · rw [e]
        rcases flL_St (m := m) hk xs (i + 1) b (fun y hy => hA y (by simp [hy])) hxs with e2 | ⟨ys, e2, n2, l2, h2, p2⟩
        · simp only [e2]; exact .inl trivial
        · simp only [e2]
          refine .inr ⟨y :: ys, rfl, fun z hz => ?_, by simp [l2], .cons h1 h2, ⟨p1, p2⟩⟩
          rcases List.mem_cons.1 hz with rfl | hz
          · exact n1
          · exact n2 z hz
theorem fl_St {C C' : Int → Int → Option S0} {th : List T} {q : Int → Int → Cr.Lm} (H : FlH C C' th q) (t : T) : ∀ (G : List S0), G.length + dp t ≤ 1048576 → nodB t = true →
    (∀ a, StT C G t a → flT th t (G.length : Int) = .error 4 ∨ ∃ t', flT th t (G.length : Int) = .ok t' ∧ nodB t' = true ∧ StT C' G t' a ∧ Cr.Ps (Cr.csub q (Cr.tr t)) (Cr.tr t')) ∧
    (∀ b, Wf C b G t → flT th t (G.length : Int) = .error 4 ∨ ∃ t', flT th t (G.length : Int) = .ok t' ∧ nodB t' = true ∧ Wf C' b G t' ∧ er t' = er t ∧ Cr.Ps (Cr.csub q (Cr.tr t)) (Cr.tr t')) := by
  induction t using T.ind with
  | step k h xs ih =>
    intro G hlen hn
    rw [dp] at hlen
    have hsp : ∀ {s : S0}, k ≠ 1 ∧ k ≠ 3 → StS C G xs s → flL th k xs.length xs 0 (G.length : Int) = .error 4 ∨ ∃ ys, flL th k xs.length xs 0 (G.length : Int) = .ok ys ∧ (∀ y ∈ ys, nodB y = true) ∧ ys.length = xs.length ∧ StS C' G ys s ∧ Cr.PsL ((xs.map Cr.tr).map (Cr.csub q)) (ys.map Cr.tr) := fun hk hs =>
      flL_St hk xs 0 _ (fun x hx a ha => (ih x hx G (by have := dp_memV hx; omega) ((nodV hn).2 x hx)).1 a ha) hs
    constructor
    · intro a ht
      rw [flT]
      cases ht with
      | @lam _ _ x a b hb =>
        have h1 := (ih x (by simp) (a :: G) (by rw [dpL, dpL] at hlen; rw [List.length_cons]; omega) ((nodV hn).2 x (by simp))).1 b hb
        rw [List.length_cons, Int.natCast_add, Int.natCast_one] at h1
        rw [flL, show bd 3 [x].length 0 = 1 from rfl]
        rcases h1 with e | ⟨y, e, n1, h1, p1⟩
        · rw [e]; exact .inl rfl
        · rw [e, flL]
          simp only [flN]
          rw [if_neg (by omega)]
          refine .inr ⟨_, rfl, nod_ofN hn rfl (fun z hz => by rw [List.mem_singleton.1 hz]; exact n1), .lam h1, ?_⟩
          rw [Cr.tr_lam, Cr.tr_lam, Cr.csub]
          exact p1.l
      | var hh hg hs =>
        rcases hsp (by omega) hs with e | ⟨ys, e, n1, l1, h1, p1⟩
        · rw [e]; exact .inl rfl
        · rw [e]
          simp only [flN]
          rw [if_neg (by omega)]
          refine .inr ⟨_, rfl, nod_ofN hn l1 n1, .var hh hg h1, ?_⟩
          rw [Cr.tr_app (by omega), Cr.tr_app (by omega), Cr.csub_apps]
          refine Cr.PsL.apps ?_ p1
          unfold Cr.at0
          rw [if_pos rfl, Cr.csub]
          exact .refl _
      | con hk hc hs =>
        rcases hsp (by omega) hs with e | ⟨ys, e, n1, l1, h1, p1⟩
        · rw [e]; exact .inl rfl
        · rw [e]
          by_cases hk6 : k = 6
          · subst hk6
            obtain ⟨h0, x, es, hx, rfl, mx, hle, sx, hq⟩ := H.six _ _ hc
            have hlt := (List.getElem?_eq_some_iff.1 hx).1
            have hyl := stS_len h1
            simp only [flN, if_true]
            rw [if_neg (by omega), List.getD_eq_getElem?_getD, hx, Option.getD_some]
            by_cases hal : ys.all myB = true
            · rw [if_pos hal]
              have hmy : ∀ y ∈ ys, myB y = true := List.all_eq_true.1 hal
              have hS0 : Sub0 C' (gS es) G ys (G.length : Int) := sub0_all hyl (stS_at h1)
              rcases apE_of ((ap_St fl hS0 (by omega) x [] 0).1 .o sx) mx (sb_of (by omega) (by omega) hmy) with ⟨h8, w8⟩ | h8
              · rw [if_pos h8]
                have nx := ((myB_iff x).1 mx).1
                obtain ⟨_, _, n2, m2, hps, _⟩ := apT_okN h8 nx
                refine .inr ⟨_, rfl, n2, w8, ?_⟩
                rw [Cr.tr_app (by omega), Cr.csub_apps]
                unfold Cr.at0
                rw [if_neg (by omega), Cr.csub]
                have hclo : q 6 h = Cr.sub (Cr.sg [] (G.length : Int)) (Cr.lamN (ys.map Cr.tr).length (Cr.tr x)) := by
                  rw [List.length_map, hyl, ← hq]
                  exact (H.ck.clo 6 h _).symm
                refine (Cr.PsL.apps (.refl _) p1).trans ?_
                rw [hclo]
                refine (Cr.lamN_red (ys.map Cr.tr) (Cr.sg [] (G.length : Int))).trans ?_
                rw [Cr.sub_ext (Cr.consL_sg _ ys []), List.nil_append]
                exact hps
              · rw [if_neg (by omega), h8]; exact .inl rfl
            · rw [if_neg hal]; exact .inl rfl
          · simp only [flN]
            rw [if_neg hk6]
            refine .inr ⟨_, rfl, nod_ofN hn l1 n1, .con hk (H.same _ _ _ hk6 hc) h1, ?_⟩
            rw [Cr.tr_app (by omega), Cr.tr_app (by omega), Cr.csub_apps]
            refine Cr.PsL.apps ?_ p1
            unfold Cr.at0
            rw [if_neg (by omega), Cr.csub, H.qk _ _ hk6]
            exact .refl _
    · intro b ht
      rw [flT]
      cases ht with
      | sort =>
        rw [flL]
        simp only [flN]
        rw [if_neg (by omega)]
        refine .inr ⟨_, rfl, hn, .sort, rfl, ?_⟩
        rw [Cr.tr_app (by omega)]
        unfold Cr.at0
        rw [if_neg (by omega)]
        show Cr.Ps (q 0 h) (.c 0 h)
        rw [H.qk _ _ (by omega)]
        exact .refl _
      | @pi _ _ _ x y hx hy =>
        rw [dpL, dpL, dpL] at hlen
        have h1 := (ih x (by simp) G (by omega) ((nodV hn).2 x (by simp))).2 true hx
        rw [flL, show bd 1 [x, y].length 0 = 0 from rfl, Int.add_zero]
        rcases h1 with e | ⟨x', e, nx, hx', ex, px⟩
        · rw [e]; exact .inl rfl
        · rw [e, flL, show bd 1 [x, y].length (0 + 1) = 1 from rfl]
          have h2 := (ih y (by simp) (er x :: G) (by rw [List.length_cons]; omega) ((nodV hn).2 y (by simp))).2 b hy
          rw [List.length_cons, Int.natCast_add, Int.natCast_one] at h2
          rcases h2 with e2 | ⟨y', e2, ny, hy', ey, py⟩
          · simp only [e2]; exact .inl trivial
          · simp only [e2, flL, flN]
            rw [if_neg (by omega)]
            refine .inr ⟨_, rfl, nod_ofN hn rfl (fun z hz => ?_), .pi hx' (by rw [ex]; exact hy'), by rw [er_pi, er_pi, ex, ey], ?_⟩
            · rcases List.mem_cons.1 hz with rfl | hz
              · exact nx
              · rw [List.mem_singleton.1 hz]; exact ny
            · have etr : ∀ u v : T, Cr.tr (.node 1 h [u, v]) = .a (.a (.c 1 h) (Cr.tr u)) (.l (Cr.tr v)) := fun u v => by simp [Cr.tr, Cr.trL, bdn, Cr.wrap1, Cr.apps, Cr.at0]
              rw [etr, etr, Cr.csub, Cr.csub, Cr.csub, Cr.csub, H.qk _ _ (by omega)]
              exact ((Cr.Ps.refl _).a px).a py.l
      | fam hc hs =>
        rcases hsp (by omega) hs with e | ⟨ys, e, n1, l1, h1, p1⟩
        · rw [e]; exact .inl rfl
        · rw [e]
          simp only [flN]
          rw [if_neg (by omega)]
          refine .inr ⟨_, rfl, nod_ofN hn l1 n1, .fam (H.same _ _ _ (by omega) hc) h1, by rw [er_no (by omega), er_no (by omega)], ?_⟩
          rw [Cr.tr_app (by omega), Cr.tr_app (by omega), Cr.csub_apps]
          refine Cr.PsL.apps ?_ p1
          unfold Cr.at0
          rw [if_neg (by omega), Cr.csub, H.qk _ _ (by omega)]
          exact .refl _
end Go.Proofs.Ytloeainlpcnhnaa
/-
  What has a type over metas has, filled with terms for these, what its type is then, or it is too great. No statement is proved here.
-/
namespace Go.Proofs.Ytloeainlpcnhnaa
open Go.RowKit
set_option linter.unusedVariables false
/-! ### What is in order has its simple types -/
theorem ctV_at {W : WV} {cx : List T} (h : ctV W [] cx = 0) : cx.length ≤ 40 ∧ ∀ i x, cx[i]? = some x → ckTy W (cx.take i) x = 0 := by
  have hl := fir_len (g := cxW W []) h
  refine ⟨hl, fun i x hx => ?_⟩
  have := (fir_zero hl).1 h i x hx
  rwa [cxW, List.nil_append] at this
theorem cx_okM {W : WV} (hsg : SgM W) (hms : MsM W) {cx : List T} (h : ctV W [] cx = 0) : WfM W cx := by
  obtain ⟨hl, hc⟩ := ctV_at h
  have key : ∀ n, n ≤ cx.length → WfM W (cx.take n) := by
    intro n
    induction n with
    | zero => intro _ i x hx; simp at hx
    | succ n ih =>
      intro hn
      obtain ⟨x, hx⟩ : ∃ x, cx[n]? = some x := ⟨_, List.getElem?_eq_getElem (by omega)⟩
      obtain ⟨h1, h2⟩ := ckTy_okZ (hc n x hx)
      have nx := ((myB_iff _).1 (((mayV_iff _ _ _).1 h1).2.2.1 x (by simp))).1
      rw [take_snoc hx]
      exact (ih (by omega)).snoc nx (ty_WfM hsg hms x _ nx (ih (by omega)) h2)
  have := key cx.length (Nat.le_refl _)
  rwa [List.take_length] at this
theorem cx_my {W : WV} {cx : List T} (h : ctV W [] cx = 0) : ∀ e ∈ cx, myB e = true := fun e he => by
  obtain ⟨i, hi⟩ := List.getElem?_of_mem he
  obtain ⟨h1, _⟩ := ckTy_okZ ((ctV_at h).2 i e hi)
  exact ((mayV_iff _ _ _).1 h1).2.2.1 e (by simp)
theorem sg_okM {sg : List T} (h : (siV sg).2 = 0) : SgX sg ∧ gdS [] sg = true ∧ ∀ t ∈ sg, myB t = true := by
  have hl := fir_len h
  have hc := (fir_zero hl).1 h
  have hg : ∀ i x, sg[i]? = some x → (ckTy ⟨sg.take i, []⟩ [] x = 0 ∨ ckKi ⟨sg.take i, []⟩ [] x = 0) := fun i x hx => by
    have := hc i x hx
    unfold sgW at this
    split at this
    · exact .inr this
    · exact .inl this
  have key : ∀ (l dn : List T), dn ++ l = sg → gdS dn l = true := by
    intro l
    induction l with
    | nil => intro dn _; rfl
    | cons x l ih =>
      intro dn e
      have hx : sg[dn.length]? = some x := by rw [← e, List.getElem?_append_right (Nat.le_refl _), Nat.sub_self]; rfl
      have ht : sg.take dn.length = dn := by rw [← e]; exact List.take_left' rfl
      have := hg _ _ hx
      rw [ht] at this
      rw [gdS, Bool.and_eq_true, Bool.or_eq_true, decide_eq_true_eq, decide_eq_true_eq]
      exact ⟨this, ih (dn ++ [x]) (by rw [List.append_assoc]; exact e)⟩
  have hgd := key sg [] rfl
  have hs := sg_ok sg [] (fun t ht => by cases ht) hgd
  rw [List.nil_append] at hs
  refine ⟨hs, hgd, fun t ht => ?_⟩
  obtain ⟨i, hi⟩ := List.getElem?_of_mem ht
  rcases hg i t hi with e | e
  · exact ((mayV_iff _ _ _).1 (ckTy_okZ e).1).2.2.1 t (by simp)
  · exact ((mayV_iff _ _ _).1 (ckKi_okZ e).1).2.2.1 t (by simp)
theorem deV_ok {W : WV} {d : MP} (h : deV W d = 0) : ctV W [] d.1.1 = 0 ∧ kdQ d.1.2 = 2 ∧ (d.2 = true → d.1.1.length = 0) ∧ ckTy W d.1.1 d.1.2 = 0 := by
  unfold deV at h
  split at h
  · rename_i h1
    split at h
    · rename_i h2
      exact ⟨h1, h2.1, h2.2, h⟩
    · cases h
  · rename_i h1
    exact absurd h h1
/-- metas in order, each over those ahead -/
structure MsO (sg : List T) (ms : List (List T × T)) : Prop where
  len : ms.length ≤ 40
  at_ : ∀ i m, ms[i]? = some m → WfM ⟨sg, ms.take i⟩ m.1 ∧ nodB m.2 = true ∧ kdQ m.2 = 2 ∧ Wf (cM ⟨sg, ms.take i⟩) true (gS m.1) m.2 ∧ (∀ e ∈ m.1, myB e = true) ∧ myB m.2 = true ∧ m.1.length ≤ 40
theorem MsO.msM {sg : List T} {ms : List (List T × T)} (h : MsO sg ms) : MsM ⟨sg, ms⟩ := fun m hm => by
  obtain ⟨i, hi⟩ := List.getElem?_of_mem hm
  obtain ⟨h1, h2, h3, h4, _⟩ := h.at_ i m hi
  exact ⟨h1.more, h2, h3, h4.more cM_take fun _ _ h => h⟩
theorem MsO.take {sg : List T} {ms : List (List T × T)} (h : MsO sg ms) (n : Nat) : MsO sg (ms.take n) :=
  ⟨by rw [List.length_take]; have := h.len; omega, fun i m hm => by
    have hi := (List.getElem?_eq_some_iff.1 hm).1
    rw [List.length_take] at hi
    rw [List.getElem?_take_of_lt (by omega)] at hm
    rw [List.take_take, Nat.min_eq_left (by omega)]
    exact h.at_ i m hm⟩
theorem dc_ok {sg : List T} {ds : List MP} (hsg : SgX sg) (h : (dcV sg ds).2 = 0) : MsO sg (msP ds) ∧ ∀ i d, ds[i]? = some d → deV ⟨sg, (msP ds).take i⟩ d = 0 := by
  unfold dcV at h
  by_cases hl : 40 < ds.length
  · rw [if_pos hl] at h; cases h
  rw [if_neg hl, fiG_zero] at h
  have hd : ∀ i d, ds[i]? = some d → deV ⟨sg, (msP ds).take i⟩ d = 0 := fun i d hi => by
    have := h i d hi
    rwa [Nat.zero_add, msP_take] at this
  refine ⟨?_, hd⟩
  have hlm : (msP ds).length = ds.length := by rw [msP, List.length_map]
  have key : ∀ n, n ≤ ds.length → MsO sg ((msP ds).take n) := by
    intro n
    induction n with
    | zero => intro _; exact ⟨by simp, fun i m hm => by simp at hm⟩
    | succ n ih =>
      intro hn
      obtain ⟨d, hdn⟩ : ∃ d, ds[n]? = some d := ⟨_, List.getElem?_eq_getElem (by omega)⟩
      have hm : (msP ds)[n]? = some d.1 := by rw [msP, List.getElem?_map, hdn]; rfl
      have hI := ih (by omega)
      obtain ⟨e1, e2, e3, e4⟩ := deV_ok (hd n d hdn)
      have hS : SgM ⟨sg, (msP ds).take n⟩ := SgX.m hsg
      have hC := cx_okM hS hI.msM e1
      obtain ⟨t1, t2⟩ := ckTy_okZ e4
      have mt := ((mayV_iff _ _ _).1 t1).2.2.1 d.1.2 (by simp)
      have nt := ((myB_iff _).1 mt).1
      refine ⟨by rw [List.length_take]; omega, fun i m hmi => ?_⟩
      have hi := (List.getElem?_eq_some_iff.1 hmi).1
      rw [List.length_take] at hi
      by_cases hin : i < n
      · have := hI.at_ i m (by rw [List.getElem?_take_of_lt hin]; rw [List.getElem?_take_of_lt (by omega)] at hmi; exact hmi)
        rw [List.take_take, Nat.min_eq_left (by omega)] at this ⊢
        exact this
      · obtain rfl : i = n := by omega
        rw [List.getElem?_take_of_lt (by omega), hm] at hmi
        cases hmi
        rw [List.take_take, Nat.min_eq_left (by omega)]
        exact ⟨hC, nt, e2, ty_WfM hS hI.msM _ _ nt hC t2, cx_my e1, mt, (ctV_at e1).1⟩
  have := key ds.length (Nat.le_refl _)
  rwa [List.take_of_length_le (by omega)] at this
/-! ### Contexts filled -/
theorem gS_congr {es es' : List T} (hl : es'.length = es.length) (h : ∀ (j : Nat) (e e' : T), es[j]? = some e → es'[j]? = some e' → er e' = er e) : gS es' = gS es := by
  unfold gS
  congr 1
  refine List.ext_getElem? fun j => ?_
  rw [List.getElem?_map, List.getElem?_map]
  cases hq : es[j]? with
  | none => rw [List.getElem?_eq_none (by rw [List.getElem?_eq_none_iff] at hq; omega)]
  | some e =>
    obtain ⟨e', he'⟩ : ∃ e', es'[j]? = some e' := ⟨_, List.getElem?_eq_getElem (by have := (List.getElem?_eq_some_iff.1 hq).1; omega)⟩
    rw [he', Option.map_some, Option.map_some, h j e e' hq he']
/-- an answer of Fill -/
theorem fiR_ok {th : List T} {n : Int} {t t' : T} (h : fiR th n t = .ok t') : flT th t n = .ok t' ∧ myB t = true ∧ myB t' = true := by
  unfold fiR at h
  split at h
  · rename_i hc
    simp only [Bool.and_eq_true] at hc
    cases hq : flT th t n with
    | error e => rw [hq] at h; cases h
    | ok u =>
      rw [hq] at h
      simp only at h
      split at h
      · rename_i hu
        cases h
        exact ⟨rfl, hc.2, hu⟩
      · cases h
  · cases h
theorem fiR_of {th : List T} {n : Int} {t : T} (h1 : thB th = true) (h2 : 0 ≤ n ∧ n ≤ 1000) (h3 : myB t = true) {P : T → Prop} (h : flT th t n = .error 4 ∨ ∃ t', flT th t n = .ok t' ∧ P t') : fiR th n t = .error 4 ∨ ∃ t', fiR th n t = .ok t' ∧ myB t' = true ∧ P t' := by
  rw [fi_good h1 h2.1 h2.2 h3]
  rcases h with e | ⟨t', e, hp⟩
  · rw [e]; exact .inl rfl
  · rw [e]
    simp only
    by_cases hm : myB t' = true
    · rw [if_pos hm]; exact .inr ⟨t', rfl, hm, hp⟩
    · rw [if_neg hm]; exact .inl rfl
/-- what an entry becomes -/
structure EnF (C' : Int → Int → Option S0) (q : Int → Int → Cr.Lm) (es es' : List T) : Prop where
  len : es'.length = es.length
  at_ : ∀ j e e', es[j]? = some e → es'[j]? = some e' → myB e' = true ∧ nodB e' = true ∧ Wf C' true (gS (es.take j)) e' ∧ er e' = er e ∧ Cr.Ps (Cr.csub q (Cr.tr e)) (Cr.tr e')
theorem EnF.gS {C' : Int → Int → Option S0} {q : Int → Int → Cr.Lm} {es es' : List T} (h : EnF C' q es es') (n : Nat) : Go.Proofs.Ytloeainlpcnhnaa.gS (es'.take n) = Go.Proofs.Ytloeainlpcnhnaa.gS (es.take n) :=
  gS_congr (by rw [List.length_take, List.length_take, h.len]) fun j e e' he he' => by
    have hj : j < n := by have := (List.getElem?_eq_some_iff.1 he).1; rw [List.length_take] at this; omega
    rw [List.getElem?_take_of_lt hj] at he he'
    exact (h.at_ j e e' he he').2.2.2.1
theorem EnF.gSa {C' : Int → Int → Option S0} {q : Int → Int → Cr.Lm} {es es' : List T} (h : EnF C' q es es') : Go.Proofs.Ytloeainlpcnhnaa.gS es' = Go.Proofs.Ytloeainlpcnhnaa.gS es := by
  have := h.gS es.length
  rwa [List.take_length, ← h.len, List.take_length] at this
theorem EnF.wf {W' : WV} {q : Int → Int → Cr.Lm} {es es' : List T} (h : EnF (cM W') q es es') : WfM W' es' := fun j e' he' => by
  obtain ⟨e, he⟩ : ∃ e, es[j]? = some e := ⟨_, List.getElem?_eq_getElem (by have := (List.getElem?_eq_some_iff.1 he').1; rw [h.len] at this; exact this)⟩
  obtain ⟨h1, h2, h3, h4, h5⟩ := h.at_ j e e' he he'
  rw [h.gS j]
  exact ⟨h2, h3⟩
theorem CvG_map {q : Int → Int → Cr.Lm} : ∀ {l l' : List T}, l'.length = l.length → (∀ (j : Nat) (e e' : T), l[j]? = some e → l'[j]? = some e' → Cr.Cv (Cr.csub q (Cr.tr e)) (Cr.tr e')) → Cr.CvG ((l.map Cr.tr).map (Cr.csub q)) (l'.map Cr.tr)
  | [], [], _, _ => trivial
  | [], _ :: _, h, _ => by simp at h
  | _ :: _, [], h, _ => by simp at h
  | e :: l, e' :: l', h, hc => ⟨hc 0 e e' rfl rfl, CvG_map (by simpa using h) fun j x x' hx hx' => hc (j + 1) x x' (by simpa using hx) (by simpa using hx')⟩
theorem EnF.cv {C' : Int → Int → Option S0} {q : Int → Int → Cr.Lm} {es es' : List T} (h : EnF C' q es es') : Cr.CvG ((gT es).map (Cr.csub q)) (gT es') := by
  unfold gT
  rw [← List.map_reverse, ← List.map_reverse]
  refine CvG_map (by rw [List.length_reverse, List.length_reverse, h.len]) fun j e e' he he' => ?_
  have hj := (List.getElem?_eq_some_iff.1 he).1
  rw [List.length_reverse] at hj
  rw [List.getElem?_reverse hj] at he
  rw [List.getElem?_reverse (by rw [h.len]; exact hj), h.len] at he'
  exact Cr.Cv.of (h.at_ _ e e' he he').2.2.2.2
theorem ea_or4 {F : Nat → T → Except Int T} {P : Nat → T → T → Prop} : ∀ (xs : List T) (i c : Nat), (∀ j x, xs[j]? = some x → F (i + j) x = .error 4 ∨ ∃ y, F (i + j) x = .ok y ∧ P (i + j) x y) →
    eaL (fun i t c => wc (F i t) c) xs i c = .error 4 ∨ ∃ ys c', eaL (fun i t c => wc (F i t) c) xs i c = .ok (ys, c') ∧ ys.length = xs.length ∧ ∀ j x y, xs[j]? = some x → ys[j]? = some y → P (i + j) x y
  | [], i, c, _ => .inr ⟨[], c, by rw [eaL], rfl, fun j x y hx => by simp at hx⟩
  | x :: xs, i, c, h => by
    rw [eaL]
    rcases h 0 x rfl with e | ⟨y, e, hp⟩
    · rw [Nat.add_zero] at e
      have hw : wc (F i x) c = .error 4 := by rw [e]; rfl
      simp only [hw]; exact .inl trivial
    · rw [Nat.add_zero] at e hp
      have hw : wc (F i x) c = .ok (y, c) := by rw [e]; rfl
      simp only [hw]
      rcases ea_or4 (F := F) (P := P) xs (i + 1) c (fun j z hz => by
        have := h (j + 1) z (by simpa using hz)
        rwa [show i + (j + 1) = i + 1 + j by omega] at this) with e2 | ⟨ys, c', e2, hl, hp2⟩
      · simp only [e2]; exact .inl trivial
      · simp only [e2]
        refine .inr ⟨y :: ys, c', rfl, by simp [hl], fun j z u hz hu => ?_⟩
        cases j with
        | zero => simp at hz hu; subst hz; subst hu; exact hp
        | succ j =>
          have := hp2 j z u (by simpa using hz) (by simpa using hu)
          rwa [show i + 1 + j = i + (j + 1) by omega] at this
/-- a context, filled -/
theorem cx_fill {W W' : WV} {th : List T} {q : Int → Int → Cr.Lm} (H : FlH (cM W) (cM W') th q) (hth : thB th = true) {es : List T} (hw : WfM W es) (hm : ∀ e ∈ es, myB e = true) (hl : es.length ≤ 40) :
    cxL th 0 es = .error 4 ∨ ∃ es' c, cxL th 0 es = .ok (es', c) ∧ EnF (cM W') q es es' := by
  have hstep : ∀ j e, es[j]? = some e → fiR th (wrap64 (0 + ((0 + j : Nat) : Int))) e = .error 4 ∨ ∃ e', fiR th (wrap64 (0 + ((0 + j : Nat) : Int))) e = .ok e' ∧ (myB e' = true ∧ nodB e' = true ∧ Wf (cM W') true (gS (es.take j)) e' ∧ er e' = er e ∧ Cr.Ps (Cr.csub q (Cr.tr e)) (Cr.tr e')) := fun j e he => by
    have hj := (List.getElem?_eq_some_iff.1 he).1
    have me := hm e (List.mem_of_getElem? he)
    obtain ⟨ne, we⟩ := hw j e he
    have hd := ((myB_iff e).1 me).2.2
    have hg : (gS (es.take j)).length = j := by rw [gS_len, List.length_take]; omega
    have h1 := (fl_St H e (gS (es.take j)) (by rw [hg]; omega) ne).2 true we
    rw [hg] at h1
    rw [Int.zero_add, Nat.zero_add, wrap_smallN (by omega) (by omega)]
    rcases fiR_of hth (by omega) me h1 with h2 | ⟨e', h2, h3, h4, h5, h6, h7⟩
    · exact .inl h2
    · exact .inr ⟨e', h2, h3, h4, h5, h6, h7⟩
  rcases ea_or4 (F := fun i t => fiR th (wrap64 (0 + (i : Int))) t) (P := fun j e e' => myB e' = true ∧ nodB e' = true ∧ Wf (cM W') true (gS (es.take j)) e' ∧ er e' = er e ∧ Cr.Ps (Cr.csub q (Cr.tr e)) (Cr.tr e')) es 0 0 (fun j e he => by
    have := hstep j e he
    simp only [Nat.zero_add] at this ⊢
    exact this) with h | ⟨ys, c', h, hl', hp⟩
  · exact .inl h
  · refine .inr ⟨ys, c', h, hl', fun j e e' he he' => ?_⟩
    have := hp j e e' he he'
    rwa [Nat.zero_add] at this
end Go.Proofs.Ytloeainlpcnhnaa
/-
  Terms for metas keep types. No statement is proved here.
-/
namespace Go.Proofs.Ytloeainlpcnhnaa
open Go.RowKit
set_option linter.unusedVariables false
theorem CvG_symm : ∀ {l l' : List Cr.Lm}, Cr.CvG l l' → Cr.CvG l' l
  | [], [], _ => trivial
  | [], _ :: _, h => h.elim
  | _ :: _, [], h => h.elim
  | _ :: _, _ :: _, h => ⟨h.1.symm, CvG_symm h.2⟩
theorem ren_idN (t : Cr.Lm) : Cr.ren (fun j => j) t = t := by rw [Cr.ren_eq_sub]; exact Cr.sub_v t
theorem ty_tail {K : Int → Int → Cr.Lm → Prop} (hK : ∀ k h A, K k h A → Cr.Clo A) {G D : List Cr.Lm} {t A : Cr.Lm} (h : Cr.Ty K G t A) : Cr.Ty K (G ++ D) t A := by
  have := h.ren hK (G' := G ++ D) (r := fun j => j) fun i B hB => ⟨B, by rw [List.getElem?_append_left (List.getElem?_eq_some_iff.1 hB).1]; exact hB, (ren_idN _).symm⟩
  rwa [ren_idN, ren_idN] at this
mutual
theorem StT.low {C : Int → Int → Option S0} {B : Int} : ∀ (t : T) {G : List S0} {a : S0}, StT C G t a → (G.length : Int) + dp t ≤ B → okT B t
  | .node k h xs, G, a, ht, hb => by
    rw [dp] at hb
    rw [okT]
    cases ht with
    | @lam _ _ x a b hx =>
      refine ⟨fun e => by omega, ?_⟩
      rw [okL, okL]
      rw [dpL, dpL] at hb
      exact ⟨StT.low x hx (by rw [List.length_cons]; omega), trivial⟩
    | var h0 hg hs =>
      have := (List.getElem?_eq_some_iff.1 hg).1
      exact ⟨fun _ => ⟨h0, by omega⟩, StS.low xs hs (by omega)⟩
    | con hk hc hs => exact ⟨fun e => by omega, StS.low xs hs (by omega)⟩
theorem StS.low {C : Int → Int → Option S0} {B : Int} : ∀ (xs : List T) {G : List S0} {s : S0}, StS C G xs s → (G.length : Int) + dpL xs ≤ B → okL B xs
  | [], _, _, _, _ => by rw [okL]; trivial
  | x :: xs, G, s, hs, hb => by
    rw [dpL] at hb
    rw [okL]
    cases hs with
    | cons h1 h2 => exact ⟨StT.low x h1 (by omega), StS.low xs h2 (by omega)⟩
end
theorem wf_low {C : Int → Int → Option S0} {B : Int} {b : Bool} {G : List S0} {t : T} (h : Wf C b G t) : (G.length : Int) + dp t ≤ B → okT B t := by
  induction h with
  | sort => intro _; rw [okT, okL]; exact ⟨fun e => by omega, trivial⟩
  | @pi b G h x y _ _ ih1 ih2 =>
    intro hb
    rw [dp, dpL, dpL, dpL] at hb
    rw [okT, okL, okL, okL]
    exact ⟨fun e => by omega, ih1 (by omega), ih2 (by rw [List.length_cons]; omega), trivial⟩
  | fam hc hs => intro hb; rw [dp] at hb; rw [okT]; exact ⟨fun e => by omega, StS.low _ hs (by omega)⟩
mutual
/-- without metas nothing is replaced -/
theorem csub_idT {C : Int → Int → Option S0} {q : Int → Int → Cr.Lm} (hq : ∀ k h, k ≠ 6 → q k h = .c k h) (hC : ∀ k h s, C k h = some s → k ≠ 6) : ∀ (t : T) {G : List S0} {a : S0}, StT C G t a → Cr.csub q (Cr.tr t) = Cr.tr t
  | .node k h xs, G, a, ht => by
    cases ht with
    | @lam _ _ x a b hx => rw [Cr.tr_lam, Cr.csub, csub_idT hq hC x hx]
    | var h0 hg hs =>
      rw [Cr.tr_app (by omega), Cr.csub_apps, csub_idS hq hC xs hs]
      congr 1
    | con hk hc hs =>
      rw [Cr.tr_app (by omega), Cr.csub_apps, csub_idS hq hC xs hs]
      unfold Cr.at0
      rw [if_neg (by omega), Cr.csub, hq _ _ (hC _ _ _ hc)]
theorem csub_idS {C : Int → Int → Option S0} {q : Int → Int → Cr.Lm} (hq : ∀ k h, k ≠ 6 → q k h = .c k h) (hC : ∀ k h s, C k h = some s → k ≠ 6) : ∀ (xs : List T) {G : List S0} {s : S0}, StS C G xs s → (xs.map Cr.tr).map (Cr.csub q) = xs.map Cr.tr
  | [], _, _, _ => rfl
  | x :: xs, G, s, hs => by
    cases hs with
    | cons h1 h2 => rw [List.map_cons, List.map_cons, csub_idT hq hC x h1, csub_idS hq hC xs h2]
end
theorem csub_idW {C : Int → Int → Option S0} {q : Int → Int → Cr.Lm} (hq : ∀ k h, k ≠ 6 → q k h = .c k h) (hC : ∀ k h s, C k h = some s → k ≠ 6) {b : Bool} {G : List S0} {t : T} (h : Wf C b G t) : Cr.csub q (Cr.tr t) = Cr.tr t := by
  induction h with
  | @sort G h =>
    rw [Cr.tr_app (by omega)]
    unfold Cr.at0
    rw [if_neg (by omega)]
    exact hq 0 h (by omega)
  | @pi b G h x y _ _ ih1 ih2 =>
    have etr : Cr.tr (.node 1 h [x, y]) = .a (.a (.c 1 h) (Cr.tr x)) (.l (Cr.tr y)) := by simp [Cr.tr, Cr.trL, bdn, Cr.wrap1, Cr.apps, Cr.at0]
    rw [etr, Cr.csub, Cr.csub, Cr.csub, Cr.csub, ih1, ih2, hq _ _ (by omega)]
  | fam hc hs =>
    rw [Cr.tr_app (by omega), Cr.csub_apps, csub_idS hq hC _ hs]
    unfold Cr.at0
    rw [if_neg (by omega), Cr.csub, hq _ _ (by omega)]
theorem cS_six {sg : List T} : ∀ k h s, cS sg k h = some s → k ≠ 6 := fun k h s e hk => by
  subst hk
  unfold cS at e
  split at e
  · split at e
    · rw [if_neg (by omega)] at e; cases e
    · cases e
  · cases e
/-- what metas become -/
def qM (ms : List (List T × T)) (th : List T) (N : Nat) (k h : Int) : Cr.Lm :=
  if k = 6 ∧ 0 ≤ h ∧ h < N then Cr.lamN (ms.getD h.toNat ([], .node 0 0 [])).1.length (Cr.tr (th.getD h.toNat (.node 0 0 []))) else .c k h
def ThO (C' : Int → Int → Option S0) (ms : List (List T × T)) (th : List T) (N : Nat) : Prop := ∀ j m, j < N → ms[j]? = some m → ∃ x, th[j]? = some x ∧ myB x = true ∧ StT C' (gS m.1) x .o
theorem clL_lamN {b : Cr.Lm} : ∀ {n k : Nat}, clL (k + n) b → clL k (Cr.lamN n b)
  | 0, _, h => h
  | n + 1, k, h => clL_lamN (n := n) (k := k + 1) (by rwa [show k + 1 + n = k + (n + 1) by omega])
theorem qM_at {ms : List (List T × T)} {th : List T} {N : Nat} {h : Int} {m : List T × T} {x : T} (h0 : 0 ≤ h) (hN : h < N) (hm : ms[h.toNat]? = some m) (hx : th[h.toNat]? = some x) : qM ms th N 6 h = Cr.lamN m.1.length (Cr.tr x) := by
  unfold qM
  rw [if_pos ⟨rfl, h0, hN⟩, List.getD_eq_getElem?_getD, List.getD_eq_getElem?_getD, hm, hx]
  rfl
theorem flH_of {sg : List T} {ms : List (List T × T)} {W' : WV} {th : List T} {n N : Nat} (hsg : W'.sg = sg) (hO : MsO sg ms) (hn : n ≤ N) (hN : N ≤ ms.length) (hS : ThO (cM W') ms th N) : FlH (cM ⟨sg, ms.take n⟩) (cM W') (th.take n) (qM ms th N) := by
  refine ⟨fun k h s hk e => ?_, fun h s e => ?_, ⟨fun k h => ?_, ?_⟩, fun k h hk => ?_⟩
  · rw [cM_no hk] at e ⊢
    rw [hsg]; exact e
  · obtain ⟨h0, m, hm, rfl⟩ := cM_six e
    simp only at hm
    have hl := (List.getElem?_eq_some_iff.1 hm).1
    rw [List.length_take] at hl
    rw [List.getElem?_take_of_lt (by omega)] at hm
    obtain ⟨x, hx, mx, sx⟩ := hS h.toNat m (by omega) hm
    refine ⟨h0, x, m.1, by rw [List.getElem?_take_of_lt (by omega)]; exact hx, rfl, mx, ?_, sx, qM_at h0 (by omega) hm hx⟩
    have := (hO.at_ _ m hm).2.2.2.2.2.2
    omega
  · unfold qM
    split
    · rename_i hc
      obtain ⟨m, hm⟩ : ∃ m, ms[h.toNat]? = some m := ⟨_, List.getElem?_eq_getElem (by omega)⟩
      obtain ⟨x, hx, mx, sx⟩ := hS h.toNat m (by omega) hm
      rw [List.getD_eq_getElem?_getD, List.getD_eq_getElem?_getD, hm, hx]
      refine clL_clo (clL_lamN ?_)
      have := sx.cl
      rw [gS_len] at this
      rw [Nat.zero_add]
      exact this
    · exact fun s => rfl
  · unfold qM
    rw [if_neg (by omega)]
  · unfold qM
    rw [if_neg (fun e => hk e.1)]
theorem thB_takeN {C' : Int → Int → Option S0} {ms : List (List T × T)} {th : List T} {n N : Nat} (hn : n ≤ N) (hN : N ≤ ms.length) (h40 : ms.length ≤ 40) (hS : ThO C' ms th N) : thB (th.take n) = true := by
  unfold thB
  rw [Bool.and_eq_true, decide_eq_true_eq, List.length_take]
  refine ⟨by omega, List.all_eq_true.2 fun x hx => ?_⟩
  obtain ⟨j, hj⟩ := List.getElem?_of_mem hx
  have hl := (List.getElem?_eq_some_iff.1 hj).1
  rw [List.length_take] at hl
  rw [List.getElem?_take_of_lt (by omega)] at hj
  obtain ⟨m, hm⟩ : ∃ m, ms[j]? = some m := ⟨_, List.getElem?_eq_getElem (by omega)⟩
  obtain ⟨y, hy, my, _⟩ := hS j m (by omega) hm
  rw [hj] at hy
  cases hy
  exact my
theorem ckT_okN {W : WV} {cx : List T} {m a : T} (h : ckT W cx m a = 0) : mayV W cx [m, a] = true ∧ tmV W m cx a = 0 := by
  unfold ckT at h
  split at h
  · rename_i h1; exact ⟨h1, h⟩
  · cases h
/-- what Sub found -/
theorem su_at {sg : List T} {l ds : List MP} {ext theta : List T} (h : suV sg l ext ds theta = 0) : ds.length ≤ 40 ∧ theta.length = ds.length ∧ ∀ i d t, ds[i]? = some d → theta[i]? = some t →
    ∃ cx c a, cxL (theta.take i) 0 d.1.1 = .ok (cx, c) ∧ fiR (theta.take i) cx.length d.1.2 = .ok a ∧ ckT ⟨sg, msP l⟩ (ext ++ cx) t a = 0 ∧ ¬ (d.2 = true ∧ vaV l t = false) := by
  unfold suV at h
  by_cases hl : 40 < ds.length
  · rw [if_pos hl] at h; cases h
  rw [if_neg hl] at h
  by_cases hl2 : theta.length = ds.length
  · rw [if_pos hl2, fiG_zero] at h
    refine ⟨by omega, hl2, fun i d t hd ht => ?_⟩
    have := h i t ht
    rw [Nat.zero_add, List.getD_eq_getElem?_getD, hd, Option.getD_some, plV] at this
    cases hc : cxL (theta.take i) 0 d.1.1 with
    | error e => rw [hc] at this; exact absurd this (cx_errN hc)
    | ok p =>
      obtain ⟨cx, c⟩ := p
      rw [hc] at this
      simp only at this
      cases hf : fiR (theta.take i) cx.length d.1.2 with
      | error e => rw [hf] at this; exact absurd this (fi_errN hf)
      | ok a =>
        rw [hf] at this
        simp only at this
        by_cases hk : ckT ⟨sg, msP l⟩ (ext ++ cx) t a = 0
        · rw [if_pos hk] at this
          refine ⟨cx, c, a, rfl, hf, hk, fun e => ?_⟩
          rw [if_pos e] at this
          cases this
        · rw [if_neg hk] at this; exact absurd this hk
  · rw [if_neg hl2] at h; cases h
theorem sam_kd2 {T0 : T} (h : kdQ T0 = 2) : er T0 = .o := by
  obtain ⟨k, g, xs⟩ := T0
  rw [kdQ] at h
  exact er_no (by omega)
/-- what is put for a meta: its context and type, filled, and that it has both its types -/
theorem su_one {sg : List T} {ds over : List MP} {theta : List T} (hsg : SgX sg) (hsn : ∀ t ∈ sg, myB t = true) (hO : MsO sg (msP ds)) (hO' : MsO sg (msP over)) (hsu : suV sg over [] ds theta = 0) {i N : Nat} {d : MP} {x : T} (hiN : i ≤ N) (hN : N ≤ ds.length)
    (hS : ThO (cM ⟨sg, msP over⟩) (msP ds) theta N) (hd : ds[i]? = some d) (hx : theta[i]? = some x) :
    myB x = true ∧ StT (cM ⟨sg, msP over⟩) (gS d.1.1) x .o ∧ Cr.Ty (kM ⟨sg, msP over⟩) ((gT d.1.1).map (Cr.csub (qM (msP ds) theta N))) (Cr.tr x) (Cr.csub (qM (msP ds) theta N) (Cr.tr d.1.2)) := by
  obtain ⟨h40, hlt, hat⟩ := su_at hsu
  obtain ⟨cx, c, a, hcx, hfa, hck, _⟩ := hat i d x hd hx
  rw [List.nil_append] at hck
  have hlm : (msP ds).length = ds.length := by rw [msP, List.length_map]
  have hm : (msP ds)[i]? = some d.1 := by rw [msP, List.getElem?_map, hd]; rfl
  obtain ⟨w1, w2, w3, w4, w5, w6, w7⟩ := hO.at_ i d.1 hm
  have H := flH_of (W' := ⟨sg, msP over⟩) rfl hO hiN (by omega) hS
  have hthB := thB_takeN hiN (by omega) (by omega) hS
  have hcf := cx_fill H hthB w1 w5 w7
  rw [hcx] at hcf
  have hE : EnF (cM ⟨sg, msP over⟩) (qM (msP ds) theta N) d.1.1 cx := by
    rcases hcf with e | ⟨es', c', e, hE⟩
    · cases e
    · cases e; exact hE
  obtain ⟨f1, f2, f3⟩ := fiR_ok hfa
  have hg : (gS d.1.1).length = cx.length := by rw [gS_len, hE.len]
  have hdt := ((myB_iff _).1 w6).2.2
  have hfl := (fl_St H d.1.2 (gS d.1.1) (by rw [gS_len]; omega) w2).2 true w4
  rw [hg, f1] at hfl
  obtain ⟨na, wa, ea, pa⟩ : nodB a = true ∧ Wf (cM ⟨sg, msP over⟩) true (gS d.1.1) a ∧ er a = er d.1.2 ∧ Cr.Ps (Cr.csub (qM (msP ds) theta N) (Cr.tr d.1.2)) (Cr.tr a) := by
    rcases hfl with e | ⟨t', e, h1, h2, h3, h4⟩
    · cases e
    · cases e; exact ⟨h1, h2, h3, h4⟩
  obtain ⟨k1, k2⟩ := ckT_okN hck
  have mx := ((mayV_iff _ _ _).1 k1).2.2.1 x (by simp)
  have nx := ((myB_iff _).1 mx).1
  have hSg : SgM ⟨sg, msP over⟩ := SgX.m hsg
  have hst := tm_StM hSg hO'.msM x cx a nx na hE.wf (by rw [hE.gSa]; exact wa) k2
  rw [hE.gSa, ea, sam_kd2 w3] at hst
  have hms' := hO'.msM
  have hK := kM_clo hSg hms'
  have hty := tm_TyM (W := ⟨sg, msP over⟩) (fun t ht => ((myB_iff t).1 (hsn t ht)).1) (fun m hm => by
    obtain ⟨j, hj⟩ := List.getElem?_of_mem hm
    obtain ⟨v1, v2, v3, v4, v5, v6, v7⟩ := hO'.at_ j m hj
    obtain ⟨u1, u2, u3, u4⟩ := hms' m hm
    exact ⟨fun e he => ((myB_iff e).1 (v5 e he)).1, v2, piM_cl u1 u4⟩) x cx a nx na (fun e he => by
    obtain ⟨j, hj⟩ := List.getElem?_of_mem he
    exact (hE.wf j e hj).1) k2
  refine ⟨mx, hst, ?_⟩
  exact .conv (hty.ctx hK (CvG_symm hE.cv)) (Cr.Cv.of pa).symm
theorem su_St {sg : List T} {ds over : List MP} {theta : List T} (hsg : SgX sg) (hsn : ∀ t ∈ sg, myB t = true) (hO : MsO sg (msP ds)) (hO' : MsO sg (msP over)) (hsu : suV sg over [] ds theta = 0) :
    ∀ N, N ≤ ds.length → ThO (cM ⟨sg, msP over⟩) (msP ds) theta N := by
  intro N
  induction N with
  | zero => intro _ j m hj; omega
  | succ N ih =>
    intro hN j m hj hm
    have hS := ih (by omega)
    by_cases hjN : j < N
    · exact hS j m hjN hm
    · obtain rfl : j = N := by omega
      obtain ⟨d, hd⟩ : ∃ d, ds[j]? = some d := ⟨_, List.getElem?_eq_getElem (by omega)⟩
      obtain ⟨x, hx⟩ : ∃ x, theta[j]? = some x := ⟨_, List.getElem?_eq_getElem (by have := (su_at hsu).2.1; omega)⟩
      have hm' : (msP ds)[j]? = some d.1 := by rw [msP, List.getElem?_map, hd]; rfl
      rw [hm] at hm'
      cases hm'
      obtain ⟨h1, h2, _⟩ := su_one hsg hsn hO hO' hsu (Nat.le_refl j) (by omega) hS hd hx
      exact ⟨x, hx, h1, h2⟩
/-- terms for metas keep types -/
theorem filled_ok {sg : List T} {ds over : List MP} {theta cx : List T} {m a : T} (hs : (siV sg).2 = 0) (hd : (dcV sg ds).2 = 0) (ho : (dcV sg over).2 = 0) (hc : ctV ⟨sg, msP ds⟩ [] cx = 0) (ha : ckTy ⟨sg, msP ds⟩ cx a = 0) (hm : ckT ⟨sg, msP ds⟩ cx m a = 0) (hsu : suV sg over [] ds theta = 0) :
    (cxL theta 0 cx = .error 4 ∨ ∃ l c, cxL theta 0 cx = .ok (l, c) ∧ l.length = cx.length ∧ ∀ e ∈ l, okT loV e) ∧ (fiR theta cx.length m = .error 4 ∨ ∃ x, fiR theta cx.length m = .ok x ∧ okT loV x) ∧ (fiR theta cx.length a = .error 4 ∨ ∃ b, fiR theta cx.length a = .ok b ∧ okT loV b) ∧
    ∀ l c x b, cxL theta 0 cx = .ok (l, c) → fiR theta cx.length m = .ok x → fiR theta cx.length a = .ok b → ckT ⟨sg, msP over⟩ l x b = 0 ∨ ckT ⟨sg, msP over⟩ l x b = 4 := by
  obtain ⟨hsg, _, hsm⟩ := sg_okM hs
  obtain ⟨hO, _⟩ := dc_ok hsg hd
  obtain ⟨hO', _⟩ := dc_ok hsg ho
  have hlm : (msP ds).length = ds.length := by rw [msP, List.length_map]
  obtain ⟨h40, hlt, _⟩ := su_at hsu
  have hS := su_St hsg hsm hO hO' hsu ds.length (Nat.le_refl _)
  have H := flH_of (W' := ⟨sg, msP over⟩) rfl hO (Nat.le_refl ds.length) (by omega) hS
  have hthB := thB_takeN (Nat.le_refl ds.length) (by omega) (by omega) hS
  rw [List.take_of_length_le (by omega), List.take_of_length_le (by omega)] at H
  rw [List.take_of_length_le (by omega)] at hthB
  have hSg : SgM ⟨sg, msP ds⟩ := SgX.m hsg
  have hSg' : SgM ⟨sg, msP over⟩ := SgX.m hsg
  have hms := hO.msM
  have hms' := hO'.msM
  have hwc := cx_okM hSg hms hc
  have hmc := cx_my hc
  have hl40 := (ctV_at hc).1
  obtain ⟨a1, a2⟩ := ckTy_okZ ha
  obtain ⟨m1, m2⟩ := ckT_okN hm
  have ya := ((mayV_iff _ _ _).1 a1).2.2.1 a (by simp)
  have ym := ((mayV_iff _ _ _).1 m1).2.2.1 m (by simp)
  have na := ((myB_iff _).1 ya).1
  have nm := ((myB_iff _).1 ym).1
  have hwa := ty_WfM hSg hms a cx na hwc a2
  have hsm0 := tm_StM hSg hms m cx a nm na hwc hwa m2
  have hcf := cx_fill H hthB hwc hmc hl40
  have hg : (gS cx).length = cx.length := gS_len cx
  have hdm := ((myB_iff _).1 ym).2.2
  have hda := ((myB_iff _).1 ya).2.2
  have hfm := (fl_St H m (gS cx) (by omega) nm).1 _ hsm0
  have hfa := (fl_St H a (gS cx) (by omega) na).2 true hwa
  rw [hg] at hfm hfa
  have hrm := fiR_of hthB (by omega) ym hfm
  have hra := fiR_of hthB (by omega) ya hfa
  have okd : ∀ {u : T}, myB u = true → (cx.length : Int) + dp u ≤ loV := fun hu => by
    have := ((myB_iff _).1 hu).2.2
    unfold loV
    omega
  refine ⟨?_, ?_, ?_, fun l c x b el ex eb => ?_⟩
  · rcases hcf with e | ⟨l, c, e, hE⟩
    · exact .inl e
    · refine .inr ⟨l, c, e, hE.len, fun e' he' => ?_⟩
      obtain ⟨j, hj⟩ := List.getElem?_of_mem he'
      obtain ⟨e0, he0⟩ : ∃ e0, cx[j]? = some e0 := ⟨_, List.getElem?_eq_getElem (by have := (List.getElem?_eq_some_iff.1 hj).1; rw [hE.len] at this; exact this)⟩
      obtain ⟨g1, g2, g3, _, _⟩ := hE.at_ j e0 e' he0 hj
      have hj2 := (List.getElem?_eq_some_iff.1 he0).1
      exact wf_low g3 (by rw [gS_len, List.length_take]; have := okd g1; omega)
  · rcases hrm with e | ⟨x, e, g1, g2, g3, g4⟩
    · exact .inl e
    · exact .inr ⟨x, e, StT.low x g3 (by rw [hg]; exact okd g1)⟩
  · rcases hra with e | ⟨x, e, g1, g2, g3, g4⟩
    · exact .inl e
    · exact .inr ⟨x, e, wf_low g3 (by rw [hg]; exact okd g1)⟩
  · rw [el] at hcf
    rw [ex] at hrm
    rw [eb] at hra
    have hE : EnF (cM ⟨sg, msP over⟩) (qM (msP ds) theta ds.length) cx l := by
      rcases hcf with e | ⟨es', c', e, hE⟩
      · cases e
      · cases e; exact hE
    obtain ⟨mx, nx, sx, px⟩ : myB x = true ∧ nodB x = true ∧ StT (cM ⟨sg, msP over⟩) (gS cx) x (er a) ∧ Cr.Ps (Cr.csub (qM (msP ds) theta ds.length) (Cr.tr m)) (Cr.tr x) := by
      rcases hrm with e | ⟨t', e, h⟩
      · cases e
      · cases e; exact h
    obtain ⟨mb, nb, wb, eb', pb⟩ : myB b = true ∧ nodB b = true ∧ Wf (cM ⟨sg, msP over⟩) true (gS cx) b ∧ er b = er a ∧ Cr.Ps (Cr.csub (qM (msP ds) theta ds.length) (Cr.tr a)) (Cr.tr b) := by
      rcases hra with e | ⟨t', e, h⟩
      · cases e
      · cases e; exact h
    have hK' := kM_clo hSg' hms'
    have hKq : ∀ k h A, kM ⟨sg, msP ds⟩ k h A → ∀ G, Cr.Ty (kM ⟨sg, msP over⟩) G (qM (msP ds) theta ds.length k h) (Cr.csub (qM (msP ds) theta ds.length) A) := by
      intro k h A hk G
      rcases hk with ⟨rfl, h0, t, ht, hkt, rfl⟩ | ⟨rfl, h0, mm, hmm, rfl⟩
      · rw [H.qk _ _ (by omega), csub_idW H.qk cS_six ((hsg t (List.mem_of_getElem? ht)).2.2 hkt)]
        exact .c (.inl ⟨rfl, h0, t, ht, hkt, rfl⟩)
      · have hl := (List.getElem?_eq_some_iff.1 hmm).1
        simp only at hmm hl
        obtain ⟨d, hdd⟩ : ∃ d, ds[h.toNat]? = some d := ⟨_, List.getElem?_eq_getElem (by omega)⟩
        obtain ⟨x0, hx0⟩ : ∃ x, theta[h.toNat]? = some x := ⟨_, List.getElem?_eq_getElem (by omega)⟩
        have hmd : (msP ds)[h.toNat]? = some d.1 := by rw [msP, List.getElem?_map, hdd]; rfl
        rw [hmm] at hmd
        cases hmd
        obtain ⟨_, _, hty0⟩ := su_one hsg hsm hO hO' hsu (by omega : h.toNat ≤ ds.length) (Nat.le_refl _) hS hdd hx0
        rw [qM_at h0 (by omega) hmm hx0, piM, Cr.csub_piL H.ck]
        have := Cr.Ty.lamN (K := kM ⟨sg, msP over⟩) (es := (d.1.1.map Cr.tr).map (Cr.csub (qM (msP ds) theta ds.length))) (G := G) (b := Cr.tr x0) (T := Cr.csub (qM (msP ds) theta ds.length) (Cr.tr d.1.2)) (by
          rw [← List.map_reverse]
          exact ty_tail hK' hty0)
        rw [List.length_map, List.length_map] at this
        exact this
    have htm := tm_TyM (W := ⟨sg, msP ds⟩) (fun t ht => ((myB_iff t).1 (hsm t ht)).1) (fun mm hm => by
      obtain ⟨j, hj⟩ := List.getElem?_of_mem hm
      obtain ⟨v1, v2, v3, v4, v5, v6, v7⟩ := hO.at_ j mm hj
      obtain ⟨u1, u2, u3, u4⟩ := hms mm hm
      exact ⟨fun e he => ((myB_iff e).1 (v5 e he)).1, v2, piM_cl u1 u4⟩) m cx a nm na (fun e he => ((myB_iff e).1 (hmc e he)).1) m2
    have ht1 := htm.csub H.ck hKq
    have ht2 := (ht1.ctx hK' hE.cv).ps hK' px
    have hcl : ∀ e ∈ l, myB e = true := fun e he => by
      obtain ⟨j, hj⟩ := List.getElem?_of_mem he
      obtain ⟨e0, he0⟩ : ∃ e0, cx[j]? = some e0 := ⟨_, List.getElem?_eq_getElem (by have := (List.getElem?_eq_some_iff.1 hj).1; rw [hE.len] at this; exact this)⟩
      exact (hE.at_ j e0 e he0 hj).1
    have hmm' : ∀ mm ∈ (msP over), (∀ e ∈ mm.1, myB e = true) ∧ myB mm.2 = true ∧ mm.1.length ≤ 200 := fun mm hm => by
      obtain ⟨j, hj⟩ := List.getElem?_of_mem hm
      obtain ⟨v1, v2, v3, v4, v5, v6, v7⟩ := hO'.at_ j mm hj
      exact ⟨v5, v6, by omega⟩
    have hll := hE.len
    have hdx := ((myB_iff _).1 mx).2.2
    have hfin := tm_cmpM (W := ⟨sg, msP over⟩) hSg' hms' hmm' hK' hsm x l b _ mx mb hcl (by omega) hE.wf (by rw [hE.gSa]; exact wb) (by rw [hE.gSa, eb']; exact sx) ht2 (Cr.Cv.of pb)
    unfold ckT
    rw [if_pos]
    · exact hfin
    · refine (mayV_iff _ _ _).2 ⟨by omega, hcl, fun t ht => ?_, hsm, fun mm hm => ⟨(hmm' mm hm).1, (hmm' mm hm).2.1⟩⟩
      simp at ht
      rcases ht with rfl | rfl
      · exact mx
      · exact mb
end Go.Proofs.Ytloeainlpcnhnaa
