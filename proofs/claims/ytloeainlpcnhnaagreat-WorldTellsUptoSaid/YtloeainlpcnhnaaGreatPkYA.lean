/-
  Texts of one proof, put together. No statement is proved here.
-/
import Derived.Test.YtloeainlpcnhnaaGreatPkVA
import Derived.Test.YtloeainlpcnhnaaGreatQh
import Derived.Test.YtloeainlpcnhnaaGreatOl
import Derived.ChangeSlices
import Derived.Carry
import Derived.Test.YtloeainlpcnhnaaGreatWd
import Derived.Test.YtloeainlpcnhnaaGreatWl
/-
  Arguments' readings that are metas, and lists of them; six and seven arguments. No statement is proved here.
-/
namespace Go.Proofs.YtloeainlpcnhnaaGreat
open Go.ChangeShapes Go.WideShapes Go.ChangeAt Go.RowKit Go.Deep
set_option linter.unusedVariables false
set_option maxRecDepth 100000
section
variable {H : Type} {enc : TypeId × Value → H} {P : Program} {w : World} {base : Nat} {spare : Nat → Bool} {held : Bool}
theorem trodAll_five {t0 t1 t2 t3 t4 : TypeId} {args : Array Value} {ds : List (DataW H)} {ps : List MemPlace} (h : DataW.TrodAll enc P w base spare held [t0, t1, t2, t3, t4] args.toList ds ps) :
    ∃ v0 v1 v2 v3 v4 d0 d1 d2 d3 d4 p0 p1 p2 p3 p4, args = #[v0, v1, v2, v3, v4] ∧ ds = [d0, d1, d2, d3, d4] ∧ ps = p0 ++ p1 ++ p2 ++ p3 ++ p4 ∧ DataW.Trod enc P w base spare held t0 v0 d0 p0 ∧ DataW.Trod enc P w base spare held t1 v1 d1 p1 ∧ DataW.Trod enc P w base spare held t2 v2 d2 p2 ∧ DataW.Trod enc P w base spare held t3 v3 d3 p3 ∧ DataW.Trod enc P w base spare held t4 v4 d4 p4 := by
  obtain ⟨v0, vs0, d0, ds0, p0, q0, hargs, rfl, rfl, h0, r0⟩ := trodAll_cons h
  obtain ⟨v1, vs1, d1, ds1, p1, q1, rfl, rfl, rfl, h1, r1⟩ := trodAll_cons r0
  obtain ⟨v2, vs2, d2, ds2, p2, q2, rfl, rfl, rfl, h2, r2⟩ := trodAll_cons r1
  obtain ⟨v3, vs3, d3, ds3, p3, q3, rfl, rfl, rfl, h3, r3⟩ := trodAll_cons r2
  obtain ⟨v4, vs4, d4, ds4, p4, q4, rfl, rfl, rfl, h4, r4⟩ := trodAll_cons r3
  obtain ⟨rfl, rfl, rfl⟩ := trodAll_nil r4
  exact ⟨v0, v1, v2, v3, v4, d0, d1, d2, d3, d4, p0, p1, p2, p3, p4, by cases args; simp_all, rfl, by simp, h0, h1, h2, h3, h4⟩
theorem trodAll_mk5 {t0 t1 t2 t3 t4 : TypeId} {v0 v1 v2 v3 v4 : Value} {d0 d1 d2 d3 d4 : DataW H} {p0 p1 p2 p3 p4 : List MemPlace} (h0 : DataW.Trod enc P w base spare held t0 v0 d0 p0) (h1 : DataW.Trod enc P w base spare held t1 v1 d1 p1) (h2 : DataW.Trod enc P w base spare held t2 v2 d2 p2) (h3 : DataW.Trod enc P w base spare held t3 v3 d3 p3) (h4 : DataW.Trod enc P w base spare held t4 v4 d4 p4) : DataW.TrodAll enc P w base spare held [t0, t1, t2, t3, t4] [v0, v1, v2, v3, v4] [d0, d1, d2, d3, d4] (p0 ++ (p1 ++ (p2 ++ (p3 ++ p4)))) := ⟨p0, (p1 ++ (p2 ++ (p3 ++ p4))), h0, trodAll_mk4 h1 h2 h3 h4, rfl⟩
end
section
variable {H : Type} {enc : TypeId × Value → H} {w : World} {base : Nat} {spare : Nat → Bool} {held : Bool}
theorem trod_terms {fuel : Nat} {v : Value} {y : DataW H × List MemPlace} (hf : DataW.trod enc Tryz.prog w base spare held fuel 24 [v] = some y) :
    ∃ (xs : List T) (A : Option Addr) (n c : Nat), v = .slice A n c ∧ CLV w xs A n c ∧ ndL xs ≤ Rows.uptoBulk y.1 := by
  rcases DataW.trod_slice Tryz.underlying24 hf with ⟨e2, hy2⟩ | ⟨a, len, cap, elems, rest, m, rfl, e2, hy2, hb, hlc, hm, hel, hat, _, _⟩
  · simp only [List.cons.injEq, and_true] at e2
    exact ⟨[], none, 0, 0, e2, ⟨rfl, Nat.le_refl _, Nat.zero_le _, fun i t ht => by simp at ht⟩, by simp [ndL]⟩
  · simp only [List.cons.injEq, and_true] at e2
    rw [e2]
    have each : ∀ i, i < len → ∃ t : T, ∃ d, (elems.map (·.1))[i]? = some d ∧ nd t ≤ Rows.uptoBulk d ∧ ((∀ n ∈ d.weights Tryz.prog 44, n ≤ reachBytes) → wd t ≤ 3518437208780) ∧ RdAt w (some a) i t := by
      intro i hi
      have hi' := hat i hi
      rw [List.getElem?_eq_getElem (by omega), Option.bind_eq_some_iff] at hi'
      obtain ⟨cs', hcs, htr⟩ := hi'
      obtain ⟨t, u0, u1, u2, rfl, hr, hle, hwt⟩ := trod_term m cs' _ htr
      rw [Tryz.cellsTerm] at hcs
      obtain ⟨_, _, hcell⟩ := World.cells?_some hcs
      have c0 := hcell 0 (by omega)
      have c1 := hcell 1 (by omega)
      have c2 := hcell 2 (by omega)
      simp only [List.getElem?_cons_zero, List.getElem?_cons_succ, add_add, Nat.add_zero] at c0 c1 c2
      have hs : a.spot = none := by
        have := cell_spot c0
        unfold Addr.add at this
        split at this
        · exact this
        · rename_i h3
          -- the first entry's address has the same spot
          have h0' := hat 0 (by omega)
          rw [List.getElem?_eq_getElem (by omega), Option.bind_eq_some_iff] at h0'
          obtain ⟨cs0, hcs0, _⟩ := h0'
          rw [Tryz.cellsTerm] at hcs0
          obtain ⟨_, hl0, hcell0⟩ := World.cells?_some hcs0
          have := hcell0 0 (by omega)
          rw [List.getElem?_eq_getElem (by omega)] at this
          have := cell_spot this
          simpa [Addr.add] using this
      obtain ⟨b, o, s⟩ := a
      dsimp only at hs
      subst hs
      rw [addr_add] at c0 c1 c2
      refine ⟨t, _, by rw [List.getElem?_map, List.getElem?_eq_getElem (by omega)]; rfl, hle, hwt, b, o, u0, u1, u2, rfl, c0, ?_, ?_, hr⟩
      · rw [Nat.add_assoc]; exact c1
      · rw [Nat.add_assoc]; exact c2
    obtain ⟨xs, hxl, hxs⟩ := list_of len each
    refine ⟨xs, some a, len, cap, rfl, ⟨hxl, hlc, hm, fun i t ht => by obtain ⟨_, _, _, _, hr⟩ := hxs i t ht; exact hr⟩, ?_⟩
    have hge := bulk_ge xs (elems.map (·.1)) fun i t ht => by
      obtain ⟨d, hd, hle, _, _⟩ := hxs i t ht
      exact ⟨d, hd, hle⟩
    rw [show y.1 = _ from congrArg Prod.fst hy2]
    simp only [Rows.uptoBulk]
    omega
theorem open_clv {r : Reach} {b0 : Nat} {v : Value} {d : DataW H} {p : List MemPlace} (hv : Value.okWide Tryz.prog w r b0 24 v) (h : DataW.Trod enc Tryz.prog w base spare held 24 v d p) :
    ∃ (xs : List T) (A : Option Addr) (n c : Nat), v = .slice A n c ∧ CLV w xs A n c ∧ ∀ x ∈ xs, nd x ≤ Rows.uptoBulk d := by
  obtain ⟨xs, A, n, c, rfl, h1, h2, h3, h4, h5⟩ := open_terms hv h
  exact ⟨xs, A, n, c, rfl, ⟨h1, h2, h3, h4⟩, fun x hx => Nat.le_trans (nd_mem hx) h5⟩
theorem Tryz.cellsMd : Tryz.prog.cellsOf 47 = 5 := by kernel_rfl
theorem Tryz.cellsBl : Tryz.prog.cellsOf 4 = 1 := by kernel_rfl
theorem trod_meta {fuel : Nat} {cs : List Value} {x : DataW H × List MemPlace} (hx : DataW.trod enc Tryz.prog w base spare held fuel 47 cs = some x) :
    ∃ (y : List T × T) (A : Option Addr) (n c : Nat) (v1 v2 v3 : Value) (pb : Bool), cs = [.slice A n c, v1, v2, v3, .bool pb] ∧ CLV w y.1 A n c ∧ Rd w y.2 (.agg #[v1, v2, v3]) ∧ (∀ z ∈ y.1, nd z ≤ Rows.uptoBulk x.1) ∧ nd y.2 ≤ Rows.uptoBulk x.1 := by
  obtain ⟨ys, n, rfl, hxe, hl, hyl, hf⟩ := DataW.trod_struct Tryz.underlying47 hx
  rw [Tryz.cellsMd] at hl
  match cs, hl with
  | [v0, v1, v2, v3, v4], _ =>
    match ys, hyl with
    | [y0, y1, y2], _ =>
      have h0 : DataW.trod enc Tryz.prog w base spare held n 24 (([v0, v1, v2, v3, v4].drop 0).take (Tryz.prog.cellsOf 24)) = some y0 := hf 0 _ rfl
      have h1 : DataW.trod enc Tryz.prog w base spare held n 44 (([v0, v1, v2, v3, v4].drop 1).take (Tryz.prog.cellsOf 44)) = some y1 := hf 1 _ rfl
      have h2 : DataW.trod enc Tryz.prog w base spare held n 4 (([v0, v1, v2, v3, v4].drop 4).take (Tryz.prog.cellsOf 4)) = some y2 := hf 2 _ rfl
      simp only [Tryz.cellsArgs, Tryz.cellsTerm, Tryz.cellsBl, List.drop_zero, List.drop_succ_cons, List.take_succ_cons, List.take_zero] at h0 h1 h2
      obtain ⟨xs, A, m, c, rfl, hcl, hle0⟩ := trod_terms h0
      obtain ⟨t, u0, u1, u2, e, hr, hle, _⟩ := trod_term n _ _ h1
      simp only [List.cons.injEq, and_true] at e
      obtain ⟨rfl, rfl, rfl⟩ := e
      obtain ⟨pb, e4, _⟩ := DataW.trod_bool Tryz.underlying4 h2
      simp only [List.cons.injEq, and_true] at e4
      subst e4
      have hd : x.1 = .agg [y0.1, y1.1, y2.1] := congrArg Prod.fst hxe
      refine ⟨(xs, t), A, m, c, _, _, _, pb, rfl, hcl, hr, fun z hz => ?_, ?_⟩
      · have : nd z ≤ ndL xs := nd_mem hz
        rw [hd]
        simp only [Rows.uptoBulk, Rows.uptoBulkAll]
        omega
      · rw [hd]
        simp only [Rows.uptoBulk, Rows.uptoBulkAll]
        omega
theorem list_ofV {α : Type} {M : Nat → α → Prop} : ∀ n : Nat, (∀ i, i < n → ∃ t, M i t) → ∃ xs : List α, xs.length = n ∧ ∀ i t, xs[i]? = some t → M i t
  | 0, _ => ⟨[], rfl, fun i t h => by simp at h⟩
  | n + 1, h => by
    obtain ⟨xs, h1, h2⟩ := list_ofV n fun i hi => h i (by omega)
    obtain ⟨t, ht⟩ := h n (by omega)
    refine ⟨xs ++ [t], by simp [h1], fun i u hu => ?_⟩
    by_cases hi : i < n
    · rw [List.getElem?_append_left (by omega)] at hu
      exact h2 i u hu
    · have hin : i = n := by have := (List.getElem?_eq_some_iff.1 hu).1; simp [h1] at this; omega
      subst hin
      rw [List.getElem?_append_right (by omega), h1, Nat.sub_self] at hu
      obtain rfl : t = u := by simpa using hu
      exact ht
theorem open_metas {r : Reach} {b0 : Nat} {v : Value} {d : DataW H} {p : List MemPlace} (hv : Value.okWide Tryz.prog w r b0 23 v) (h : DataW.Trod enc Tryz.prog w base spare held 23 v d p) :
    ∃ (xs : List (List T × T)) (A : Option Addr) (n c : Nat), v = .slice A n c ∧ ML w xs A n c ∧ ∀ x ∈ xs, (∀ z ∈ x.1, nd z ≤ Rows.uptoBulk d) ∧ nd x.2 ≤ Rows.uptoBulk d := by
  obtain ⟨fuel, hf⟩ := h
  obtain ⟨a0, l0, c0, rfl⟩ := okWide_slice Tryz.underlying23 hv
  rcases DataW.trod_slice Tryz.underlying23 hf with ⟨e2, hy2⟩ | ⟨a, len, cap, elems, rest, m, rfl, e2, hy2, hb, hlc, hm, hel, hat, _, _⟩
  · simp only [Value.cells, List.cons.injEq, and_true] at e2
    exact ⟨[], none, 0, 0, e2, ⟨rfl, Nat.le_refl _, Nat.zero_le _, fun i t ht => by simp at ht⟩, fun x hx => by cases hx⟩
  · simp only [Value.cells, List.cons.injEq, and_true] at e2
    rw [e2]
    have first : ∀ i, i < len → ∃ y : List T × T, ∃ A n c v1 v2 v3 pb dd, w.cell? (a.add (i * 5 + 0)) = some (.slice A n c) ∧ w.cell? (a.add (i * 5 + 1)) = some v1 ∧ w.cell? (a.add (i * 5 + 2)) = some v2 ∧ w.cell? (a.add (i * 5 + 3)) = some v3 ∧ w.cell? (a.add (i * 5 + 4)) = some (.bool pb) ∧ CLV w y.1 A n c ∧ Rd w y.2 (.agg #[v1, v2, v3]) ∧ (elems.map (·.1))[i]? = some dd ∧ (∀ z ∈ y.1, nd z ≤ Rows.uptoBulk dd) ∧ nd y.2 ≤ Rows.uptoBulk dd := by
      intro i hi
      have hi' := hat i hi
      rw [List.getElem?_eq_getElem (by omega), Option.bind_eq_some_iff] at hi'
      obtain ⟨cs', hcs, htr⟩ := hi'
      obtain ⟨y, A, n, c, u1, u2, u3, pb, rfl, hcl, hr, hle1, hle2⟩ := trod_meta htr
      rw [Tryz.cellsMd] at hcs
      obtain ⟨_, _, hcell⟩ := World.cells?_some hcs
      have c0 := hcell 0 (by omega)
      have c1 := hcell 1 (by omega)
      have c2 := hcell 2 (by omega)
      have c3 := hcell 3 (by omega)
      have c4 := hcell 4 (by omega)
      simp only [List.getElem?_cons_zero, List.getElem?_cons_succ, add_add] at c0 c1 c2 c3 c4
      exact ⟨y, A, n, c, u1, u2, u3, pb, _, c0, c1, c2, c3, c4, hcl, hr, by rw [List.getElem?_map, List.getElem?_eq_getElem (by omega)]; rfl, hle1, hle2⟩
    have each : ∀ i, i < len → ∃ y : List T × T, MAt w (some a) i y ∧ (∀ z ∈ y.1, nd z ≤ Rows.uptoBulk d) ∧ nd y.2 ≤ Rows.uptoBulk d := by
      intro i hi
      obtain ⟨y, A1, n1, c1', v1, v2, v3, pb, dd, c0, c1, c2, c3, c4, hcl, hr, hdd, hle1, hle2⟩ := first i hi
      obtain ⟨y', _, _, _, _, _, _, _, _, c00, _⟩ := first 0 (by omega)
      have hs := spot_ofQ c0 (by simpa using c00)
      obtain ⟨b, o, sp⟩ := a
      dsimp only at hs
      subst hs
      rw [addr_add] at c0 c1 c2 c3 c4
      obtain ⟨k, h, A, n, c, e⟩ := hr.full
      simp only [Value.agg.injEq, Array.mk.injEq, List.cons.injEq, and_true] at e
      obtain ⟨rfl, rfl, rfl⟩ := e
      have h1 := bulk_mem _ _ _ hdd
      have hd : d = DataW.slice (elems.map (·.1)) (rest.map (·.1)) := congrArg Prod.fst hy2
      refine ⟨y, ⟨b, o, A1, n1, c1', k, h, A, n, c, pb, rfl, c0, by rw [Nat.add_assoc]; exact c1, by rw [Nat.add_assoc]; exact c2, by rw [Nat.add_assoc]; exact c3, by rw [Nat.add_assoc]; exact c4, hcl, hr⟩, fun z hz => ?_, ?_⟩
      · have := hle1 z hz
        rw [hd]
        simp only [Rows.uptoBulk]
        omega
      · rw [hd]
        simp only [Rows.uptoBulk]
        omega
    obtain ⟨xs, hxl, hxs⟩ := list_ofV len each
    exact ⟨xs, some a, len, cap, rfl, ⟨hxl, hlc, hm, fun i y hy => (hxs i y hy).1⟩, fun x hx => by
      obtain ⟨i, hi⟩ := List.getElem?_of_mem hx
      exact (hxs i x hi).2⟩
end
end Go.Proofs.YtloeainlpcnhnaaGreat
/-
  Package world, plain; contracts of first, given those of the closures that it is handed. No statement is proved here.
-/
namespace Go.Proofs.YtloeainlpcnhnaaGreat
open Go.ChangeShapes Go.WideShapes Go.ChangeAt Go.RowKit
set_option linter.unusedVariables false
/-- what goes wrong first, and where -/
def fiV (g : List T → T → Int) : List T → List T → Nat × Int
  | _, [] => (0, 0)
  | dn, x :: xs => if g dn x = 0 then fiV g (dn ++ [x]) xs else (dn.length, g dn x)
def firV (g : List T → T → Int) (l : List T) : Nat × Int := if 40 < l.length then (0, 4) else fiV g [] l
/-- what is wrong with a declaration, an entry, a type of a schema -/
def sgW (ah : List T) (d : T) : Int := if kiB d = true then ckKi ⟨ah, []⟩ [] d else ckTy ⟨ah, []⟩ [] d
def cxW (W : WV) (ar ah : List T) (a : T) : Int := ckTy W (ar ++ ah) a
def scW (sg ah : List T) (a : T) : Int := if kdQ a = 2 then ckTy ⟨sg, []⟩ [] a else 1
/-- does all conform -/
def cfV (sc cx : List T) : Bool := cx.all fun a => sc.any fun b => samB a b
theorem take_snoc {α : Type} {l : List α} {j : Nat} {x : α} (h : l[j]? = some x) : l.take (j + 1) = l.take j ++ [x] := by rw [List.take_add_one, h]; rfl
theorem fi_go {g : List T → T → Int} {l : List T} {j : Nat} {x : T} (h : l[j]? = some x) (h0 : g (l.take j) x = 0) : fiV g (l.take j) (l.drop j) = fiV g (l.take (j + 1)) (l.drop (j + 1)) := by
  rw [drop_at h, fiV, if_pos h0, take_snoc h]
theorem fi_e {g : List T → T → Int} {l : List T} {j : Nat} {x : T} {e : Int} (h : l[j]? = some x) (h0 : g (l.take j) x = e) (he : e ≠ 0) : fiV g (l.take j) (l.drop j) = (j, e) := by
  have hl := (List.getElem?_eq_some_iff.1 h).1
  rw [drop_at h, fiV, if_neg (by rw [h0]; exact he), h0, List.length_take, Nat.min_eq_left (by omega)]
theorem DL.take {w : World} {ds : List T} {A : Option Addr} {n c i : Nat} (h : DL w ds A n c) (hi : i ≤ n) : DL w (ds.take i) A i c :=
  ⟨by rw [List.length_take, h.len]; omega, by have := h.le; omega, h.cap, fun j x hx => h.at_ j x (by
    by_cases hj : j < i
    · rwa [List.getElem?_take_of_lt hj] at hx
    · rw [List.getElem?_eq_none (by rw [List.length_take]; omega)] at hx; cases hx)⟩
theorem CLV.take {w : World} {ds : List T} {A : Option Addr} {n c i : Nat} (h : CLV w ds A n c) (hi : i ≤ n) : CLV w (ds.take i) A i c :=
  ⟨by rw [List.length_take, h.len]; omega, by have := h.le; omega, h.cap, fun j x hx => h.at_ j x (by
    by_cases hj : j < i
    · rwa [List.getElem?_take_of_lt hj] at hx
    · rw [List.getElem?_eq_none (by rw [List.length_take]; omega)] at hx; cases hx)⟩
def FiE (r : Nat × Int) (w : World) (e : Ending) (w' : World) : Prop := e = .returned (.tuple #[.int .i64 (r.1 : Int), .int .i64 r.2]) ∧ Below w.heap.size w w'
theorem FiE.of {r : Nat × Int} {w w' : World} {i : Nat} {e : Int} (h : r = (i, e)) (hb : Below w.heap.size w w') : FiE r w (.returned (.tuple #[.int .i64 (i : Int), .int .i64 e])) w' := by subst h; exact ⟨rfl, hb⟩
theorem FiE.of0 {r : Nat × Int} {w w' : World} {e : Int} (h : r = (0, e)) (hb : Below w.heap.size w w') : FiE r w (.returned (.tuple #[.int .i64 0, .int .i64 e])) w' := by subst h; exact ⟨rfl, hb⟩
set_option maxRecDepth 100000 in
set_option maxHeartbeats 4000000 in
theorem yFirstD (g : List T → T → Int) (ds : List T) (A : Option Addr) (n c : Nat) (w : World) (hx : DL w ds A n c)
    (HF : ∀ (i : Nat) (x : T) (s : ByteArray) (k h : Int) (A2 : Option Addr) (n2 c2 : Nat) (W : World), ds[i]? = some x → Below w.heap.size w W → Rd W x (.agg #[.int .i64 k, .int .i64 h, .slice A2 n2 c2]) → DL W (ds.take i) A i c → Calls Tryz.prog 31 #[.slice A i c, .agg #[.string s, .int .i64 k, .int .i64 h, .slice A2 n2 c2]] W fun e w' => e = .returned (.int .i64 (g (ds.take i) x)) ∧ Below W.heap.size W w') :
    Calls Tryz.prog 30 #[.slice A n c, .func (.func 31) #[] #[]] w (FiE (firV g ds) w) := by
  have hm := hx.cap
  have hc := hx.le
  unfold maxLen at hm
  have HX := Lib.hid hx; clear hx
  replace HF := Lib.hid HF
  by_cases hbig : 40 < n
  · have d1 : decide ((40 : Int) < (n : Int)) = true := by simp; omega
    have HE := Lib.hid (show firV g ds = (0, 4) by unfold firV; rw [if_pos (by rw [HX.out.len]; omega)])
    go_enter Tryz.func30, Tryz.ntmps30
    go_wp2_with fail
    refine bodyPost_ret (v := .tuple #[.int .i64 0, .int .i64 4]) (by simp [results, Tryz.results30, go_sem]) rfl ?_
    exact FiE.of0 HE.out (Below.refl _ _)
  have d1 : decide ((40 : Int) < (n : Int)) = false := by simp; omega
  have HE := Lib.hid (show firV g ds = fiV g [] ds by unfold firV; rw [if_neg (by rw [HX.out.len]; omega)])
  go_enter Tryz.func30, Tryz.ntmps30
  go_wp2_with fail
  go_loopw [14] (fun i wr => ∃ (j : Nat), j ≤ n ∧ i = .int .i64 j ∧ Hid (fiV g (ds.take j) (ds.drop j) = fiV g [] ds) ∧ Hid (Below w.heap.size w wr)) (fun i _ => n - (Go.RowKit.intOf i).toNat)
  case atStart => exact ⟨0, Nat.zero_le _, rfl, Lib.hid (by simp), Lib.hid (Below.refl _ _)⟩
  case round =>
    obtain ⟨j, hj, rfl, HS, HB⟩ := hrel
    by_cases hlt : j < n
    · obtain ⟨x, ht⟩ := at_of HX.out.len hlt
      obtain ⟨b, o, s, k2, h2, A2, n2, c2', rfl, c0, c1, c2, c3, hr⟩ := (HX.out.at_ j x ht).keep HB.out
      have hi0 : (0 : Int) ≤ j := by omega
      have hi1 : (j : Int) < n := by omega
      have hi2 : (j : Int) ≤ c := by omega
      obtain ⟨W1, hW1⟩ : ∃ W1, wr.alloc (.cells #[.string s, .int .i64 k2, .int .i64 h2, .slice A2 n2 c2'] 51) = W1 := ⟨_, rfl⟩
      have hbA : Below wr.heap.size wr W1 := by rw [← hW1]; exact (Below.refl _ _).alloc (Nat.le_refl _) _
      have z5 : Box W1 wr.heap.size 51 #[.string s, .int .i64 k2, .int .i64 h2, .slice A2 n2 c2'] := by rw [← hW1]; exact Box.new _ _ _
      have hbw := HB.out.trans (hbA.mono HB.out.size)
      obtain ⟨e1, he1⟩ : ∃ e, g (ds.take j) x = e := ⟨_, rfl⟩
      have HC := fun (W' : World) (h' : Below W1.heap.size W1 W') => HF.out j x s k2 h2 A2 n2 c2' W' ht (hbw.trans (h'.mono hbw.size)) (Rd.keep (hbA.trans (h'.mono hbA.size)) _ _ hr) ((HX.out.take (by omega)).keep (hbw.trans (h'.mono hbw.size)))
      rw [he1] at HC
      replace HC := Lib.hid HC
      have HE1 := Lib.hid he1; clear he1
      have HT := Lib.hid ht; clear ht
      have HBW := Lib.hid hbw; clear hbw
      have a0 : W1.cell? ⟨wr.heap.size, 0, none⟩ = some (.string s) := z5.cell 0
      have a1 : W1.cell? ⟨wr.heap.size, 1, none⟩ = some (.int .i64 k2) := z5.cell 1
      have a2 : W1.cell? ⟨wr.heap.size, 2, none⟩ = some (.int .i64 h2) := z5.cell 2
      have a3 : W1.cell? ⟨wr.heap.size, 3, none⟩ = some (.slice A2 n2 c2') := z5.cell 3
      clear hr hbA z5
      have HW1 := Lib.hid hW1; clear hW1
      go_wp2_with fail
      try rw [HW1.out]
      have HKS : Hid (∀ w' : World, Below W1.heap.size W1 w' → (fun w' => w'.cell? ⟨wr.heap.size, 0, none⟩ = some (.string s) ∧ w'.cell? ⟨wr.heap.size, 1, none⟩ = some (.int .i64 k2) ∧ w'.cell? ⟨wr.heap.size, 2, none⟩ = some (.int .i64 h2) ∧ w'.cell? ⟨wr.heap.size, 3, none⟩ = some (.slice A2 n2 c2')) w') := Lib.hid fun w' h => ⟨(h.cell (cell_lt a0)).trans a0, (h.cell (cell_lt a1)).trans a1, (h.cell (cell_lt a2)).trans a2, (h.cell (cell_lt a3)).trans a3⟩
      have hbd : Below W1.heap.size W1 W1.drew := (Below.refl _ W1).drew
      refine wp_region_held_drew (S := fun w' => w'.cell? ⟨wr.heap.size, 0, none⟩ = some (.string s) ∧ w'.cell? ⟨wr.heap.size, 1, none⟩ = some (.int .i64 k2) ∧ w'.cell? ⟨wr.heap.size, 2, none⟩ = some (.int .i64 h2) ∧ w'.cell? ⟨wr.heap.size, 3, none⟩ = some (.slice A2 n2 c2')) (by kernel_rfl) (HKS.out _ hbd) (fun hS => ?_)
      simp only [List.size_toArray, List.length_cons, List.length_nil, Nat.reduceAdd]
      refine wpAnyH_take (i := 0) (v := .func (.func 31) #[] #[]) rfl (by kernel_rfl) (by kernel_rfl) (by kernel_rfl) (fun _ _ _ h => h) (Or.inl ⟨by kernel_rfl, ?_⟩) hS ?_
      · intro w' hSw
        obtain ⟨s0, s1, s2, s3⟩ := hSw
        go_simp
      try simp only [Act.put, List.setIfInBounds_toArray]
      refine wpAnyH_take (i := 1) (v := .slice (some ⟨b, o, none⟩) n c) rfl (by kernel_rfl) (by kernel_rfl) (by kernel_rfl) (fun _ _ _ h => h) (Or.inl ⟨by kernel_rfl, ?_⟩) hS ?_
      · intro w' hSw
        obtain ⟨s0, s1, s2, s3⟩ := hSw
        go_simp
      try simp only [Act.put]
      refine wpAnyH_take (i := 2) (v := .int .i64 j) rfl (by kernel_rfl) (by kernel_rfl) (by kernel_rfl) (fun _ _ _ h => h) (Or.inl ⟨by kernel_rfl, ?_⟩) hS ?_
      · intro w' hSw
        obtain ⟨s0, s1, s2, s3⟩ := hSw
        go_simp
      try simp only [Act.put]
      refine wpAnyH_take (i := 3) (v := .slice (some ⟨b, o, none⟩) j c) rfl (by kernel_rfl) (by kernel_rfl) (by kernel_rfl) (fun _ _ _ h => h) (Or.inl ⟨by kernel_rfl, ?_⟩) hS ?_
      · intro w' hSw
        obtain ⟨s0, s1, s2, s3⟩ := hSw
        go_simp
      try simp only [Act.put]
      refine wpAnyH_take (i := 4) (v := .agg #[.string s, .int .i64 k2, .int .i64 h2, .slice A2 n2 c2']) rfl (by kernel_rfl) (by kernel_rfl) (by kernel_rfl) (fun _ _ _ h => h) (Or.inl ⟨by kernel_rfl, ?_⟩) hS ?_
      · intro w' hSw
        obtain ⟨s0, s1, s2, s3⟩ := hSw
        go_simp
      try simp only [Act.put]
      refine wpAnyH_ready (rs := [5]) (by kernel_rfl) (by simp) ?_
      refine AllReadyH.cons rfl (fun KN hK => ?_) AllReadyH.nil
      go_simp
      refine (HC.out W1.drew hbd).mono ?_
      rintro e w1 ⟨rfl, hb8⟩
      have hb8' : Below W1.heap.size W1 w1 := hbd.trans (hb8.mono hbd.size)
      refine hK.out _ _ (HKS.out _ hb8') (fun hS => ?_)
      clear hK KN
      try simp only [Act.put, List.setIfInBounds_toArray, List.set_cons_zero, List.set_cons_succ]
      refine wpAnyH_take (i := 6) (v := .int .i64 e1) rfl (by kernel_rfl) (by kernel_rfl) (by kernel_rfl) (fun _ _ _ h => h) (Or.inl ⟨by kernel_rfl, ?_⟩) hS ?_
      · intro w' hSw
        obtain ⟨s0, s1, s2, s3⟩ := hSw
        go_simp
      try simp only [Act.put, List.setIfInBounds_toArray]
      refine wpAnyH_done (by kernel_rfl) ?_ _
      try simp only [List.setIfInBounds_toArray]
      try simp only [List.getElem_toArray, List.getElem_cons_succ, List.getElem_cons_zero, List.set_cons_zero, List.set_cons_succ]
      have HB1 := Lib.hid (HBW.out.trans (hb8'.mono HBW.out.size))
      clear hb8 hb8' HC HBW HKS hS hbd a0 a1 a2 a3 c0 c1 c2 c3
      by_cases hz : e1 = 0
      case' neg =>
        have d2 : (e1 != 0) = true := by simpa using hz
        have HQ := Lib.hid (HE.out.trans (HS.out.symm.trans (fi_e HT.out HE1.out hz)))
        go_wp2_with fail
        refine bodyPost_ret (v := .tuple #[.int .i64 j, .int .i64 e1]) (by simp [results, Tryz.results30, go_sem]) rfl ?_
        exact FiE.of HQ.out HB1.out
      subst hz
      have HQ := Lib.hid ((fi_go HT.out HE1.out).symm.trans HS.out)
      go_wp2_with fail
      go_roundw
      case rel => exact ⟨j + 1, by omega, by go_num, HQ, HB1⟩
      case measure => simp [Go.RowKit.intOf]; omega
    · have HQ := Lib.hid (show firV g ds = (0, 0) by rw [HE.out, ← HS.out, drop_all HX.out.len (by omega), fiV])
      go_wp2_with fail
      refine bodyPost_ret (v := .tuple #[.int .i64 0, .int .i64 0]) (by simp [results, Tryz.results30, go_sem]) rfl ?_
      exact FiE.of0 HQ.out HB.out
set_option maxRecDepth 100000 in
set_option maxHeartbeats 4000000 in
theorem yFirstC (g : List T → T → Int) (ds : List T) (A : Option Addr) (n c : Nat) (p1 : Value) (p2 : Value) (p3 : Value) (w : World) (hx : CLV w ds A n c)
    (HF : ∀ (i : Nat) (x : T) (k h : Int) (A2 : Option Addr) (n2 c2 : Nat) (W : World), ds[i]? = some x → Below w.heap.size w W → Rd W x (.agg #[.int .i64 k, .int .i64 h, .slice A2 n2 c2]) → CLV W (ds.take i) A i c → Calls Tryz.prog 40 #[.slice A i c, .agg #[.int .i64 k, .int .i64 h, .slice A2 n2 c2], p1, p2, p3] W fun e w' => e = .returned (.int .i64 (g (ds.take i) x)) ∧ Below W.heap.size W w') :
    Calls Tryz.prog 39 #[.slice A n c, .func (.func 40) #[] #[p1, p2, p3]] w (FiE (firV g ds) w) := by
  have hm := hx.cap
  have hc := hx.le
  unfold maxLen at hm
  have HX := Lib.hid hx; clear hx
  replace HF := Lib.hid HF
  by_cases hbig : 40 < n
  · have d1 : decide ((40 : Int) < (n : Int)) = true := by simp; omega
    have HE := Lib.hid (show firV g ds = (0, 4) by unfold firV; rw [if_pos (by rw [HX.out.len]; omega)])
    go_enter Tryz.func39, Tryz.ntmps39
    go_wp2_with fail
    refine bodyPost_ret (v := .tuple #[.int .i64 0, .int .i64 4]) (by simp [results, Tryz.results39, go_sem]) rfl ?_
    exact FiE.of0 HE.out (Below.refl _ _)
  have d1 : decide ((40 : Int) < (n : Int)) = false := by simp; omega
  have HE := Lib.hid (show firV g ds = fiV g [] ds by unfold firV; rw [if_neg (by rw [HX.out.len]; omega)])
  go_enter Tryz.func39, Tryz.ntmps39
  go_wp2_with fail
  go_loopw [14] (fun i wr => ∃ (j : Nat), j ≤ n ∧ i = .int .i64 j ∧ Hid (fiV g (ds.take j) (ds.drop j) = fiV g [] ds) ∧ Hid (Below w.heap.size w wr)) (fun i _ => n - (Go.RowKit.intOf i).toNat)
  case atStart => exact ⟨0, Nat.zero_le _, rfl, Lib.hid (by simp), Lib.hid (Below.refl _ _)⟩
  case round =>
    obtain ⟨j, hj, rfl, HS, HB⟩ := hrel
    by_cases hlt : j < n
    · obtain ⟨x, ht⟩ := at_of HX.out.len hlt
      obtain ⟨b, o, k2, h2, A2, n2, c2', rfl, c0, c1, c2, hr⟩ := (RdAt.keep HB.out (HX.out.at_ j x ht)).full
      have hi0 : (0 : Int) ≤ j := by omega
      have hi1 : (j : Int) < n := by omega
      have hi2 : (j : Int) ≤ c := by omega
      obtain ⟨W1, hW1⟩ : ∃ W1, wr.alloc (.cells #[.int .i64 k2, .int .i64 h2, .slice A2 n2 c2'] 44) = W1 := ⟨_, rfl⟩
      have hbA : Below wr.heap.size wr W1 := by rw [← hW1]; exact (Below.refl _ _).alloc (Nat.le_refl _) _
      have z5 : Box W1 wr.heap.size 44 #[.int .i64 k2, .int .i64 h2, .slice A2 n2 c2'] := by rw [← hW1]; exact Box.new _ _ _
      have hbw := HB.out.trans (hbA.mono HB.out.size)
      obtain ⟨e1, he1⟩ : ∃ e, g (ds.take j) x = e := ⟨_, rfl⟩
      have HC := fun (W' : World) (h' : Below W1.heap.size W1 W') => HF.out j x k2 h2 A2 n2 c2' W' ht (hbw.trans (h'.mono hbw.size)) (Rd.keep (hbA.trans (h'.mono hbA.size)) _ _ hr) ((HX.out.take (by omega)).keep (hbw.trans (h'.mono hbw.size)))
      rw [he1] at HC
      replace HC := Lib.hid HC
      have HE1 := Lib.hid he1; clear he1
      have HT := Lib.hid ht; clear ht
      have HBW := Lib.hid hbw; clear hbw
      have a0 : W1.cell? ⟨wr.heap.size, 0, none⟩ = some (.int .i64 k2) := z5.cell 0
      have a1 : W1.cell? ⟨wr.heap.size, 1, none⟩ = some (.int .i64 h2) := z5.cell 1
      have a2 : W1.cell? ⟨wr.heap.size, 2, none⟩ = some (.slice A2 n2 c2') := z5.cell 2
      clear hr hbA z5
      have HW1 := Lib.hid hW1; clear hW1
      go_wp2_with fail
      try rw [HW1.out]
      have HKS : Hid (∀ w' : World, Below W1.heap.size W1 w' → (fun w' => w'.cell? ⟨wr.heap.size, 0, none⟩ = some (.int .i64 k2) ∧ w'.cell? ⟨wr.heap.size, 1, none⟩ = some (.int .i64 h2) ∧ w'.cell? ⟨wr.heap.size, 2, none⟩ = some (.slice A2 n2 c2')) w') := Lib.hid fun w' h => ⟨(h.cell (cell_lt a0)).trans a0, (h.cell (cell_lt a1)).trans a1, (h.cell (cell_lt a2)).trans a2⟩
      have hbd : Below W1.heap.size W1 W1.drew := (Below.refl _ W1).drew
      refine wp_region_held_drew (S := fun w' => w'.cell? ⟨wr.heap.size, 0, none⟩ = some (.int .i64 k2) ∧ w'.cell? ⟨wr.heap.size, 1, none⟩ = some (.int .i64 h2) ∧ w'.cell? ⟨wr.heap.size, 2, none⟩ = some (.slice A2 n2 c2')) (by kernel_rfl) (HKS.out _ hbd) (fun hS => ?_)
      simp only [List.size_toArray, List.length_cons, List.length_nil, Nat.reduceAdd]
      refine wpAnyH_take (i := 0) (v := .func (.func 40) #[] #[p1, p2, p3]) rfl (by kernel_rfl) (by kernel_rfl) (by kernel_rfl) (fun _ _ _ h => h) (Or.inl ⟨by kernel_rfl, ?_⟩) hS ?_
      · intro w' hSw
        obtain ⟨s0, s1, s2⟩ := hSw
        go_simp
      try simp only [Act.put, List.setIfInBounds_toArray]
      refine wpAnyH_take (i := 1) (v := .slice (some ⟨b, o, none⟩) n c) rfl (by kernel_rfl) (by kernel_rfl) (by kernel_rfl) (fun _ _ _ h => h) (Or.inl ⟨by kernel_rfl, ?_⟩) hS ?_
      · intro w' hSw
        obtain ⟨s0, s1, s2⟩ := hSw
        go_simp
      try simp only [Act.put]
      refine wpAnyH_take (i := 2) (v := .int .i64 j) rfl (by kernel_rfl) (by kernel_rfl) (by kernel_rfl) (fun _ _ _ h => h) (Or.inl ⟨by kernel_rfl, ?_⟩) hS ?_
      · intro w' hSw
        obtain ⟨s0, s1, s2⟩ := hSw
        go_simp
      try simp only [Act.put]
      refine wpAnyH_take (i := 3) (v := .slice (some ⟨b, o, none⟩) j c) rfl (by kernel_rfl) (by kernel_rfl) (by kernel_rfl) (fun _ _ _ h => h) (Or.inl ⟨by kernel_rfl, ?_⟩) hS ?_
      · intro w' hSw
        obtain ⟨s0, s1, s2⟩ := hSw
        go_simp
      try simp only [Act.put]
      refine wpAnyH_take (i := 4) (v := .agg #[.int .i64 k2, .int .i64 h2, .slice A2 n2 c2']) rfl (by kernel_rfl) (by kernel_rfl) (by kernel_rfl) (fun _ _ _ h => h) (Or.inl ⟨by kernel_rfl, ?_⟩) hS ?_
      · intro w' hSw
        obtain ⟨s0, s1, s2⟩ := hSw
        go_simp
      try simp only [Act.put]
      refine wpAnyH_ready (rs := [5]) (by kernel_rfl) (by simp) ?_
      refine AllReadyH.cons rfl (fun KN hK => ?_) AllReadyH.nil
      go_simp
      refine (HC.out W1.drew hbd).mono ?_
      rintro e w1 ⟨rfl, hb8⟩
      have hb8' : Below W1.heap.size W1 w1 := hbd.trans (hb8.mono hbd.size)
      refine hK.out _ _ (HKS.out _ hb8') (fun hS => ?_)
      clear hK KN
      try simp only [Act.put, List.setIfInBounds_toArray, List.set_cons_zero, List.set_cons_succ]
      refine wpAnyH_take (i := 6) (v := .int .i64 e1) rfl (by kernel_rfl) (by kernel_rfl) (by kernel_rfl) (fun _ _ _ h => h) (Or.inl ⟨by kernel_rfl, ?_⟩) hS ?_
      · intro w' hSw
        obtain ⟨s0, s1, s2⟩ := hSw
        go_simp
      try simp only [Act.put, List.setIfInBounds_toArray]
      refine wpAnyH_done (by kernel_rfl) ?_ _
      try simp only [List.setIfInBounds_toArray]
      try simp only [List.getElem_toArray, List.getElem_cons_succ, List.getElem_cons_zero, List.set_cons_zero, List.set_cons_succ]
      have HB1 := Lib.hid (HBW.out.trans (hb8'.mono HBW.out.size))
      clear hb8 hb8' HC HBW HKS hS hbd a0 a1 a2 c0 c1 c2
      by_cases hz : e1 = 0
      case' neg =>
        have d2 : (e1 != 0) = true := by simpa using hz
        have HQ := Lib.hid (HE.out.trans (HS.out.symm.trans (fi_e HT.out HE1.out hz)))
        go_wp2_with fail
        refine bodyPost_ret (v := .tuple #[.int .i64 j, .int .i64 e1]) (by simp [results, Tryz.results39, go_sem]) rfl ?_
        exact FiE.of HQ.out HB1.out
      subst hz
      have HQ := Lib.hid ((fi_go HT.out HE1.out).symm.trans HS.out)
      go_wp2_with fail
      go_roundw
      case rel => exact ⟨j + 1, by omega, by go_num, HQ, HB1⟩
      case measure => simp [Go.RowKit.intOf]; omega
    · have HQ := Lib.hid (show firV g ds = (0, 0) by rw [HE.out, ← HS.out, drop_all HX.out.len (by omega), fiV])
      go_wp2_with fail
      refine bodyPost_ret (v := .tuple #[.int .i64 0, .int .i64 0]) (by simp [results, Tryz.results39, go_sem]) rfl ?_
      exact FiE.of0 HQ.out HB.out
set_option maxRecDepth 100000 in
set_option maxHeartbeats 4000000 in
theorem yFirstS (g : List T → T → Int) (ds : List T) (A : Option Addr) (n c : Nat) (p1 : Value) (w : World) (hx : CLV w ds A n c)
    (HF : ∀ (i : Nat) (x : T) (k h : Int) (A2 : Option Addr) (n2 c2 : Nat) (W : World), ds[i]? = some x → Below w.heap.size w W → Rd W x (.agg #[.int .i64 k, .int .i64 h, .slice A2 n2 c2]) → CLV W (ds.take i) A i c → Calls Tryz.prog 42 #[.slice A i c, .agg #[.int .i64 k, .int .i64 h, .slice A2 n2 c2], p1] W fun e w' => e = .returned (.int .i64 (g (ds.take i) x)) ∧ Below W.heap.size W w') :
    Calls Tryz.prog 39 #[.slice A n c, .func (.func 42) #[] #[p1]] w (FiE (firV g ds) w) := by
  have hm := hx.cap
  have hc := hx.le
  unfold maxLen at hm
  have HX := Lib.hid hx; clear hx
  replace HF := Lib.hid HF
  by_cases hbig : 40 < n
  · have d1 : decide ((40 : Int) < (n : Int)) = true := by simp; omega
    have HE := Lib.hid (show firV g ds = (0, 4) by unfold firV; rw [if_pos (by rw [HX.out.len]; omega)])
    go_enter Tryz.func39, Tryz.ntmps39
    go_wp2_with fail
    refine bodyPost_ret (v := .tuple #[.int .i64 0, .int .i64 4]) (by simp [results, Tryz.results39, go_sem]) rfl ?_
    exact FiE.of0 HE.out (Below.refl _ _)
  have d1 : decide ((40 : Int) < (n : Int)) = false := by simp; omega
  have HE := Lib.hid (show firV g ds = fiV g [] ds by unfold firV; rw [if_neg (by rw [HX.out.len]; omega)])
  go_enter Tryz.func39, Tryz.ntmps39
  go_wp2_with fail
  go_loopw [14] (fun i wr => ∃ (j : Nat), j ≤ n ∧ i = .int .i64 j ∧ Hid (fiV g (ds.take j) (ds.drop j) = fiV g [] ds) ∧ Hid (Below w.heap.size w wr)) (fun i _ => n - (Go.RowKit.intOf i).toNat)
  case atStart => exact ⟨0, Nat.zero_le _, rfl, Lib.hid (by simp), Lib.hid (Below.refl _ _)⟩
  case round =>
    obtain ⟨j, hj, rfl, HS, HB⟩ := hrel
    by_cases hlt : j < n
    · obtain ⟨x, ht⟩ := at_of HX.out.len hlt
      obtain ⟨b, o, k2, h2, A2, n2, c2', rfl, c0, c1, c2, hr⟩ := (RdAt.keep HB.out (HX.out.at_ j x ht)).full
      have hi0 : (0 : Int) ≤ j := by omega
      have hi1 : (j : Int) < n := by omega
      have hi2 : (j : Int) ≤ c := by omega
      obtain ⟨W1, hW1⟩ : ∃ W1, wr.alloc (.cells #[.int .i64 k2, .int .i64 h2, .slice A2 n2 c2'] 44) = W1 := ⟨_, rfl⟩
      have hbA : Below wr.heap.size wr W1 := by rw [← hW1]; exact (Below.refl _ _).alloc (Nat.le_refl _) _
      have z5 : Box W1 wr.heap.size 44 #[.int .i64 k2, .int .i64 h2, .slice A2 n2 c2'] := by rw [← hW1]; exact Box.new _ _ _
      have hbw := HB.out.trans (hbA.mono HB.out.size)
      obtain ⟨e1, he1⟩ : ∃ e, g (ds.take j) x = e := ⟨_, rfl⟩
      have HC := fun (W' : World) (h' : Below W1.heap.size W1 W') => HF.out j x k2 h2 A2 n2 c2' W' ht (hbw.trans (h'.mono hbw.size)) (Rd.keep (hbA.trans (h'.mono hbA.size)) _ _ hr) ((HX.out.take (by omega)).keep (hbw.trans (h'.mono hbw.size)))
      rw [he1] at HC
      replace HC := Lib.hid HC
      have HE1 := Lib.hid he1; clear he1
      have HT := Lib.hid ht; clear ht
      have HBW := Lib.hid hbw; clear hbw
      have a0 : W1.cell? ⟨wr.heap.size, 0, none⟩ = some (.int .i64 k2) := z5.cell 0
      have a1 : W1.cell? ⟨wr.heap.size, 1, none⟩ = some (.int .i64 h2) := z5.cell 1
      have a2 : W1.cell? ⟨wr.heap.size, 2, none⟩ = some (.slice A2 n2 c2') := z5.cell 2
      clear hr hbA z5
      have HW1 := Lib.hid hW1; clear hW1
      go_wp2_with fail
      try rw [HW1.out]
      have HKS : Hid (∀ w' : World, Below W1.heap.size W1 w' → (fun w' => w'.cell? ⟨wr.heap.size, 0, none⟩ = some (.int .i64 k2) ∧ w'.cell? ⟨wr.heap.size, 1, none⟩ = some (.int .i64 h2) ∧ w'.cell? ⟨wr.heap.size, 2, none⟩ = some (.slice A2 n2 c2')) w') := Lib.hid fun w' h => ⟨(h.cell (cell_lt a0)).trans a0, (h.cell (cell_lt a1)).trans a1, (h.cell (cell_lt a2)).trans a2⟩
      have hbd : Below W1.heap.size W1 W1.drew := (Below.refl _ W1).drew
      refine wp_region_held_drew (S := fun w' => w'.cell? ⟨wr.heap.size, 0, none⟩ = some (.int .i64 k2) ∧ w'.cell? ⟨wr.heap.size, 1, none⟩ = some (.int .i64 h2) ∧ w'.cell? ⟨wr.heap.size, 2, none⟩ = some (.slice A2 n2 c2')) (by kernel_rfl) (HKS.out _ hbd) (fun hS => ?_)
      simp only [List.size_toArray, List.length_cons, List.length_nil, Nat.reduceAdd]
      refine wpAnyH_take (i := 0) (v := .func (.func 42) #[] #[p1]) rfl (by kernel_rfl) (by kernel_rfl) (by kernel_rfl) (fun _ _ _ h => h) (Or.inl ⟨by kernel_rfl, ?_⟩) hS ?_
      · intro w' hSw
        obtain ⟨s0, s1, s2⟩ := hSw
        go_simp
      try simp only [Act.put, List.setIfInBounds_toArray]
      refine wpAnyH_take (i := 1) (v := .slice (some ⟨b, o, none⟩) n c) rfl (by kernel_rfl) (by kernel_rfl) (by kernel_rfl) (fun _ _ _ h => h) (Or.inl ⟨by kernel_rfl, ?_⟩) hS ?_
      · intro w' hSw
        obtain ⟨s0, s1, s2⟩ := hSw
        go_simp
      try simp only [Act.put]
      refine wpAnyH_take (i := 2) (v := .int .i64 j) rfl (by kernel_rfl) (by kernel_rfl) (by kernel_rfl) (fun _ _ _ h => h) (Or.inl ⟨by kernel_rfl, ?_⟩) hS ?_
      · intro w' hSw
        obtain ⟨s0, s1, s2⟩ := hSw
        go_simp
      try simp only [Act.put]
      refine wpAnyH_take (i := 3) (v := .slice (some ⟨b, o, none⟩) j c) rfl (by kernel_rfl) (by kernel_rfl) (by kernel_rfl) (fun _ _ _ h => h) (Or.inl ⟨by kernel_rfl, ?_⟩) hS ?_
      · intro w' hSw
        obtain ⟨s0, s1, s2⟩ := hSw
        go_simp
      try simp only [Act.put]
      refine wpAnyH_take (i := 4) (v := .agg #[.int .i64 k2, .int .i64 h2, .slice A2 n2 c2']) rfl (by kernel_rfl) (by kernel_rfl) (by kernel_rfl) (fun _ _ _ h => h) (Or.inl ⟨by kernel_rfl, ?_⟩) hS ?_
      · intro w' hSw
        obtain ⟨s0, s1, s2⟩ := hSw
        go_simp
      try simp only [Act.put]
      refine wpAnyH_ready (rs := [5]) (by kernel_rfl) (by simp) ?_
      refine AllReadyH.cons rfl (fun KN hK => ?_) AllReadyH.nil
      go_simp
      refine (HC.out W1.drew hbd).mono ?_
      rintro e w1 ⟨rfl, hb8⟩
      have hb8' : Below W1.heap.size W1 w1 := hbd.trans (hb8.mono hbd.size)
      refine hK.out _ _ (HKS.out _ hb8') (fun hS => ?_)
      clear hK KN
      try simp only [Act.put, List.setIfInBounds_toArray, List.set_cons_zero, List.set_cons_succ]
      refine wpAnyH_take (i := 6) (v := .int .i64 e1) rfl (by kernel_rfl) (by kernel_rfl) (by kernel_rfl) (fun _ _ _ h => h) (Or.inl ⟨by kernel_rfl, ?_⟩) hS ?_
      · intro w' hSw
        obtain ⟨s0, s1, s2⟩ := hSw
        go_simp
      try simp only [Act.put, List.setIfInBounds_toArray]
      refine wpAnyH_done (by kernel_rfl) ?_ _
      try simp only [List.setIfInBounds_toArray]
      try simp only [List.getElem_toArray, List.getElem_cons_succ, List.getElem_cons_zero, List.set_cons_zero, List.set_cons_succ]
      have HB1 := Lib.hid (HBW.out.trans (hb8'.mono HBW.out.size))
      clear hb8 hb8' HC HBW HKS hS hbd a0 a1 a2 c0 c1 c2
      by_cases hz : e1 = 0
      case' neg =>
        have d2 : (e1 != 0) = true := by simpa using hz
        have HQ := Lib.hid (HE.out.trans (HS.out.symm.trans (fi_e HT.out HE1.out hz)))
        go_wp2_with fail
        refine bodyPost_ret (v := .tuple #[.int .i64 j, .int .i64 e1]) (by simp [results, Tryz.results39, go_sem]) rfl ?_
        exact FiE.of HQ.out HB1.out
      subst hz
      have HQ := Lib.hid ((fi_go HT.out HE1.out).symm.trans HS.out)
      go_wp2_with fail
      go_roundw
      case rel => exact ⟨j + 1, by omega, by go_num, HQ, HB1⟩
      case measure => simp [Go.RowKit.intOf]; omega
    · have HQ := Lib.hid (show firV g ds = (0, 0) by rw [HE.out, ← HS.out, drop_all HX.out.len (by omega), fiV])
      go_wp2_with fail
      refine bodyPost_ret (v := .tuple #[.int .i64 0, .int .i64 0]) (by simp [results, Tryz.results39, go_sem]) rfl ?_
      exact FiE.of0 HQ.out HB.out
end Go.Proofs.YtloeainlpcnhnaaGreat
/-
  Contracts of package world. No statement is proved here.
-/
namespace Go.Proofs.YtloeainlpcnhnaaGreat
open Go.ChangeShapes Go.WideShapes Go.ChangeAt Go.RowKit
set_option linter.unusedVariables false
/-! ### Concat -/
set_option maxRecDepth 100000 in
set_option maxHeartbeats 2000000 in
theorem yConcatC {X : Nat → Prop} {w : World} {xs ys : List T} {A1 A2 : Option Addr} {n1 c1 n2 c2 B : Nat} (hx : RXL X w xs A1 n1 c1) (hy : RXL X w ys A2 n2 c2) (hX : ∀ b, X b → b < w.heap.size) (b0 : w.cell? ⟨B, 0, none⟩ = some (.slice A1 n1 c1)) (b1 : w.cell? ⟨B, 1, none⟩ = some (.slice A2 n2 c2))
    (h2 : 0 < n1 + n2) (hs : n1 + n2 ≤ 3518437208780) : Calls Tryz.prog 41 #[.slice (some ⟨B, 0, none⟩) 2 2] w (CEnd X (xs ++ ys) (n1 + n2) w) := by
  obtain ⟨cs, l1, k1, o1, e1⟩ := hx.cells
  obtain ⟨ds, l2, k2, o2, e2⟩ := hy.cells
  have ha1 : 0 < n1 → ∃ b o, A1 = some ⟨b, o, none⟩ := fun h => by
    obtain ⟨t, ht⟩ := at_of hx.len h
    obtain ⟨b, o, _, _, _, e, _⟩ := hx.at_ 0 t ht
    exact ⟨b, o, e⟩
  have ha2 : 0 < n2 → ∃ b o, A2 = some ⟨b, o, none⟩ := fun h => by
    obtain ⟨t, ht⟩ := at_of hy.len h
    obtain ⟨b, o, _, _, _, e, _⟩ := hy.at_ 0 t ht
    exact ⟨b, o, e⟩
  have lb := cell_lt b0
  dsimp only at lb
  have q1 := hx.le; have q2 := hx.cap; have q3 := hy.le; have q4 := hy.cap
  unfold maxLen at q2 q4
  have HX := Lib.hid hx; clear hx
  have HY := Lib.hid hy; clear hy
  have HXX := Lib.hid hX; clear hX
  have HL1 := Lib.hid (And.intro l1 (And.intro k1 (And.intro o1 e1))); clear l1 k1 o1 e1
  have HL2 := Lib.hid (And.intro l2 (And.intro k2 (And.intro o2 e2))); clear l2 k2 o2 e2
  have HA1 := Lib.hid ha1; clear ha1
  have HA2 := Lib.hid ha2; clear ha2
  go_enter Tryz.func41, Tryz.ntmps41
  go_wp2_with fail
  go_loop [3, 11] (fun z i => ∃ j : Nat, j ≤ 2 ∧ i = .int .i64 j ∧ z = .int .i64 (sm n1 n2 j : Nat)) (fun _ i => 2 - (intOf i).toNat)
  case atStart => exact ⟨0, by omega, rfl, rfl⟩
  case round =>
    obtain ⟨j, hj, rfl, rfl⟩ := hrel
    rcases (show j = 0 ∨ j = 1 ∨ j = 2 by omega) with rfl | rfl | rfl
    · have z0 : sm n1 n2 0 = 0 := rfl
      go_wp2_with fail
      go_round
      case rel => exact ⟨1, by omega, rfl, by simp [sm]⟩
      case measure => simp [intOf]
    · have z0 : sm n1 n2 1 = n1 := rfl
      go_wp2_with fail
      go_round
      case rel => exact ⟨2, by omega, rfl, by simp [sm]⟩
      case measure => simp [intOf]
    · have z0 : sm n1 n2 2 = n1 + n2 := rfl
      go_wp2_with fail
      have hG := growC (n1 + n2) (by omega) hs w
      rw [show ((n1 + n2 : Nat) : Int) = (n1 : Int) + n2 by omega] at hG
      refine hG.mono ?_
      clear hG
      rintro e w1 ⟨cap, rfl, how, hb⟩
      have HO := Lib.hid how; clear how
      have HB := Lib.hid hb; clear hb
      go_wp2_with fail
      go_loopw [6, 27] (fun v i wr => ∃ (j g cap : Nat), j ≤ 2 ∧ i = .int .i64 j ∧ v = .slice (some ⟨g, 0, none⟩) (sm n1 n2 j) cap ∧ Hid (wr.ownsRow w.heap.size 44 3 (.slice (some ⟨g, 0, none⟩) (sm n1 n2 j) cap) (sm n1 n2 j) (cl2 cs ds j)) ∧ sm n1 n2 j ≤ cap ∧ Hid (Below w.heap.size w wr)) (fun _ i _ => 2 - (intOf i).toNat)
      case atStart => exact ⟨0, w.heap.size, cap, by omega, rfl, rfl, HO, Nat.zero_le _, HB⟩
      case round =>
        obtain ⟨j, g, cap, hj, rfl, rfl, HO, hcap, HB⟩ := hrel
        have d0 : wr.cell? ⟨B, 0, none⟩ = some (.slice A1 n1 c1) := (HB.out.cell (p := ⟨B, 0, none⟩) lb).trans b0
        have d1 : wr.cell? ⟨B, 1, none⟩ = some (.slice A2 n2 c2) := (HB.out.cell (p := ⟨B, 1, none⟩) lb).trans b1
        rcases (show j = 0 ∨ j = 1 ∨ j = 2 by omega) with rfl | rfl | rfl
        · have hap := append_row (c := c1) (m := n1) HB.out HO.out hcap HL1.out.1 HL1.out.2.2.2 HL1.out.2.2.1 HA1.out (by show 0 + n1 ≤ _; omega)
          obtain ⟨g', cap', w', hrun, how', hle, hb'⟩ := hap 24
          have HO' := Lib.hid how'; clear how'
          have HB' := Lib.hid hb'; clear hb'
          have z0 : sm n1 n2 0 = 0 := rfl
          rw [z0] at hrun hle HO' ⊢
          go_wp2_with (at_builtin; refine Lib.wpList_append_run _ rfl _ _ _ _ rfl _ _ rfl rfl _ _ hrun ?_)
          go_roundw
          case rel => exact ⟨1, g', cap', by omega, rfl, by simp [sm], Lib.hid (by have := HO'.out; simpa [sm, cl2] using this), by simpa [sm] using hle, HB'⟩
          case measure => simp [intOf]
        · have hap := append_row (c := c2) (m := n2) HB.out HO.out hcap HL2.out.1 HL2.out.2.2.2 HL2.out.2.2.1 HA2.out (by show n1 + n2 ≤ _; omega)
          obtain ⟨g', cap', w', hrun, how', hle, hb'⟩ := hap 24
          have HO' := Lib.hid how'; clear how'
          have HB' := Lib.hid hb'; clear hb'
          have z0 : sm n1 n2 1 = n1 := rfl
          rw [z0] at hrun hle HO' ⊢
          go_wp2_with (at_builtin; refine Lib.wpList_append_run _ rfl _ _ _ _ rfl _ _ rfl rfl _ _ hrun ?_)
          go_roundw
          case rel => exact ⟨2, g', cap', by omega, rfl, by simp [sm], Lib.hid (by have := HO'.out; simpa [sm, cl2] using this), by simpa [sm] using hle, HB'⟩
          case measure => simp [intOf]
        · go_wp2_with fail
          go_ret
          refine ⟨_, cap, rfl, rxl_row (w := w) HO.out (KidL.app (HL1.out.2.1.move (fun _ h => h) fun b _ hl => HB.out.block b hl) (by rw [HL1.out.1, HX.out.len]) (HL2.out.2.1.move (fun _ h => h) fun b _ hl => HB.out.block b hl)) (by rw [List.length_append, HX.out.len, HY.out.len]) HXX.out, HB.out⟩
theorem clv_rxl {w : World} {xs : List T} {A : Option Addr} {n c : Nat} (h : CLV w xs A n c) : RXL (fun _ => False) w xs A n c :=
  ⟨h.len, h.le, h.cap, fun i t ht => by
    obtain ⟨b, o, k, g, A', n', c', e, c0, c1, c2, hr⟩ := (h.at_ i t ht).full
    exact ⟨b, o, _, _, _, e, id, c0, c1, c2, RdF.moveX (fun _ _ _ => ⟨id, rfl⟩) _ _ (rdF_anyQ _ _ hr)⟩⟩
theorem rxl_clv {w : World} {xs : List T} {A : Option Addr} {n c : Nat} (h : RXL (fun _ => False) w xs A n c) : CLV w xs A n c :=
  ⟨h.len, h.le, h.cap, fun i t ht => by
    obtain ⟨b, o, k, g, A', n', c', e, c0, c1, c2, hr⟩ := (h.at_ i t ht).full
    exact ⟨b, o, _, _, _, e, c0, c1, c2, RdF.rd _ _ hr⟩⟩
theorem yGrow0 (w : World) : Calls Tryz.prog 63 #[.slice none 0 0, .int .i64 0] w fun e w' => e = .returned (.slice none 0 0) ∧ Below w.heap.size w w' := by
  go_enter Tryz.func63, Tryz.ntmps63
  go_wp2_with fail
  go_ret
  exact ⟨rfl, Below.refl _ _⟩
theorem run_app_nil (ty : TypeId) (A : Option Addr) (c : Nat) (w : World) : (Builtin.append_ #[24, 24] ty #[.slice none 0 0, .slice A 0 c]).run Tryz.prog w = .ok (.slice none 0 0) w := by
  obtain ⟨i0, hi, hz0, hz1, hz2⟩ := info_parts infoTerm
  cases A <;> simp [Builtin.append_, run_underlying Tryz.underlying24, sizeOf, typeInfo, hi, Builtin.lenOf, Builtin.firstCells, loadCells, loadCellsFrom]
set_option maxRecDepth 100000 in
set_option maxHeartbeats 2000000 in
theorem yConcat0 {w : World} {A1 A2 : Option Addr} {c1 c2 B : Nat} (b0 : w.cell? ⟨B, 0, none⟩ = some (.slice A1 0 c1)) (b1 : w.cell? ⟨B, 1, none⟩ = some (.slice A2 0 c2)) :
    Calls Tryz.prog 41 #[.slice (some ⟨B, 0, none⟩) 2 2] w fun e w' => e = .returned (.slice none 0 0) ∧ Below w.heap.size w w' := by
  have lb := cell_lt b0
  dsimp only at lb
  go_enter Tryz.func41, Tryz.ntmps41
  go_wp2_with fail
  go_loop [3, 11] (fun z i => ∃ j : Nat, j ≤ 2 ∧ i = .int .i64 j ∧ z = .int .i64 0) (fun _ i => 2 - (intOf i).toNat)
  case atStart => exact ⟨0, by omega, rfl, rfl⟩
  case round =>
    obtain ⟨j, hj, rfl, rfl⟩ := hrel
    rcases (show j = 0 ∨ j = 1 ∨ j = 2 by omega) with rfl | rfl | rfl
    · go_wp2_with fail
      go_round
      case rel => exact ⟨1, by omega, rfl, by simp⟩
      case measure => simp [intOf]
    · go_wp2_with fail
      go_round
      case rel => exact ⟨2, by omega, rfl, by simp⟩
      case measure => simp [intOf]
    · go_wp2_with fail
      refine (yGrow0 w).mono ?_
      rintro e w1 ⟨rfl, hb⟩
      have HB := Lib.hid hb; clear hb
      go_wp2_with fail
      go_loopw [6, 27] (fun v i wr => ∃ (j : Nat), j ≤ 2 ∧ i = .int .i64 j ∧ v = .slice none 0 0 ∧ Hid (Below w.heap.size w wr)) (fun _ i _ => 2 - (intOf i).toNat)
      case atStart => exact ⟨0, by omega, rfl, rfl, HB⟩
      case round =>
        obtain ⟨j, hj, rfl, rfl, HB⟩ := hrel
        have d0 : wr.cell? ⟨B, 0, none⟩ = some (.slice A1 0 c1) := (HB.out.cell (p := ⟨B, 0, none⟩) lb).trans b0
        have d1 : wr.cell? ⟨B, 1, none⟩ = some (.slice A2 0 c2) := (HB.out.cell (p := ⟨B, 1, none⟩) lb).trans b1
        rcases (show j = 0 ∨ j = 1 ∨ j = 2 by omega) with rfl | rfl | rfl
        · have hrun := run_app_nil 24 A1 c1 wr
          go_wp2_with (at_builtin; refine Lib.wpList_append_run _ rfl _ _ _ _ rfl _ _ rfl rfl _ _ hrun ?_)
          go_roundw
          case rel => exact ⟨1, by omega, rfl, rfl, HB⟩
          case measure => simp [intOf]
        · have hrun := run_app_nil 24 A2 c2 wr
          go_wp2_with (at_builtin; refine Lib.wpList_append_run _ rfl _ _ _ _ rfl _ _ rfl rfl _ _ hrun ?_)
          go_roundw
          case rel => exact ⟨2, by omega, rfl, rfl, HB⟩
          case measure => simp [intOf]
        · go_wp2_with fail
          go_ret
          exact ⟨rfl, HB.out⟩
/-- two lists, one behind the other -/
theorem yConcat {w : World} {xs ys : List T} {A1 A2 : Option Addr} {n1 c1 n2 c2 B : Nat} (hx : CLV w xs A1 n1 c1) (hy : CLV w ys A2 n2 c2) (b0 : w.cell? ⟨B, 0, none⟩ = some (.slice A1 n1 c1)) (b1 : w.cell? ⟨B, 1, none⟩ = some (.slice A2 n2 c2)) (hs : n1 + n2 ≤ 3518437208780) :
    Calls Tryz.prog 41 #[.slice (some ⟨B, 0, none⟩) 2 2] w fun e w' => ∃ A c, e = .returned (.slice A (n1 + n2) c) ∧ CLV w' (xs ++ ys) A (n1 + n2) c ∧ Below w.heap.size w w' := by
  rcases Nat.eq_zero_or_pos (n1 + n2) with h | h
  · obtain ⟨rfl, rfl⟩ : n1 = 0 ∧ n2 = 0 := by omega
    refine (yConcat0 b0 b1).mono ?_
    rintro e w' ⟨rfl, hb⟩
    refine ⟨none, 0, rfl, ⟨by rw [List.length_append, hx.len, hy.len], Nat.le_refl _, Nat.zero_le _, fun i t ht => ?_⟩, hb⟩
    rw [List.length_eq_zero_iff.1 hx.len, List.length_eq_zero_iff.1 hy.len] at ht
    simp at ht
  · refine (yConcatC (clv_rxl hx) (clv_rxl hy) (fun b hb => hb.elim) b0 b1 h hs).mono ?_
    rintro e w' ⟨A, c, rfl, hr, hb⟩
    exact ⟨A, c, rfl, rxl_clv hr, hb⟩
/-! ### Conforms -/
theorem ySame1C (a b : T) (pa : Nat) (ka ha : Int) (Aa : Option Addr) (na ca : Nat) (v : Value) (w : World) (xa : Box w pa 44 #[.int .i64 ka, .int .i64 ha, .slice Aa na ca]) (hva : Rd w a (.agg #[.int .i64 ka, .int .i64 ha, .slice Aa na ca])) (hv : Rd w b v) :
    Calls Tryz.prog 44 #[v, .pointer (some ⟨pa, 0, none⟩)] w fun e w' => e = .returned (.bool (samB a b)) ∧ Below w.heap.size w w' := by
  obtain ⟨k, h, A, n, c, rfl⟩ := hv.full
  obtain ⟨W, hW⟩ : ∃ W, w.alloc (.cells #[.int .i64 k, .int .i64 h, .slice A n c] 44) = W := ⟨_, rfl⟩
  have hb : Below w.heap.size w W := by rw [← hW]; exact (Below.refl _ _).alloc (Nat.le_refl _) _
  have x0 : Box W w.heap.size 44 #[.int .i64 k, .int .i64 h, .slice A n c] := by rw [← hW]; exact Box.new _ _ _
  obtain ⟨a0, a1, a2⟩ := (xa.keep hb xa.lt).three
  obtain ⟨b0, b1, b2⟩ := x0.three
  have HC := Lib.hid (termSame a b _ _ W (Rd.keep hb _ _ hva) (Rd.keep hb _ _ hv))
  have HB := Lib.hid hb
  clear hva hv xa x0 hb
  generalize samB a b = r at *
  go_enter Tryz.func44, Tryz.ntmps44
  go_wp2_with fail
  try rw [hW]
  go_wp2_with fail
  refine HC.out.mono ?_
  rintro e w1 ⟨rfl, hb1⟩
  have HB1 := Lib.hid (HB.out.trans (hb1.mono HB.out.size))
  clear hb1
  go_wp2_with fail
  go_ret
  exact ⟨rfl, HB1.out⟩
theorem yIndexC (a : T) (ys : List T) (A : Option Addr) (n c : Nat) (pa : Nat) (ka ha : Int) (Aa : Option Addr) (na ca : Nat) (w : World) (hx : CLV w ys A n c) (xa : Box w pa 44 #[.int .i64 ka, .int .i64 ha, .slice Aa na ca]) (hva : Rd w a (.agg #[.int .i64 ka, .int .i64 ha, .slice Aa na ca])) :
    Calls Tryz.prog 64 #[.slice A n c, .func (.func 44) #[] #[.pointer (some ⟨pa, 0, none⟩)]] w fun e w' => ∃ i : Int, e = .returned (.int .i64 i) ∧ decide (0 ≤ i) = (ys.any fun b => samB a b) ∧ Below w.heap.size w w' := by
  have hm := hx.cap
  have hc := hx.le
  unfold maxLen at hm
  have HX := Lib.hid hx; clear hx
  have XA := Lib.hid xa; clear xa
  have HVA := Lib.hid hva; clear hva
  go_enter Tryz.func64, Tryz.ntmps64
  go_wp2_with fail
  go_loopw [8] (fun i wr => ∃ (j : Nat), j ≤ n ∧ i = .int .i64 j ∧ Hid (((ys.drop j).any fun b => samB a b) = ys.any fun b => samB a b) ∧ Hid (Below w.heap.size w wr)) (fun i _ => n - (Go.RowKit.intOf i).toNat)
  case atStart => exact ⟨0, Nat.zero_le _, rfl, Lib.hid (by simp), Lib.hid (Below.refl _ _)⟩
  case round =>
    obtain ⟨j, hj, rfl, HS, HB⟩ := hrel
    by_cases hlt : j < n
    · obtain ⟨x, ht⟩ := at_of HX.out.len hlt
      obtain ⟨b, o, k2, h2, A2, n2, c2', rfl, c0, c1, c2, hr⟩ := (RdAt.keep HB.out (HX.out.at_ j x ht)).full
      have HT := Lib.hid ht; clear ht
      have hi0 : (0 : Int) ≤ j := by omega
      have hi1 : (j : Int) < n := by omega
      have HM := Lib.hid (ySame1C a x pa ka ha Aa na ca _ wr (XA.out.keep HB.out XA.out.lt) (Rd.keep HB.out _ _ HVA.out) hr)
      clear hr
      have HS' := HS.out
      rw [drop_at HT.out, List.any_cons] at HS'
      have HS := Lib.hid HS'; clear HS'
      generalize samB a x = r at *
      go_wp2_with fail
      clear c0 c1 c2
      refine HM.out.mono ?_
      rintro e w1 ⟨rfl, hb1⟩
      have HB1 := Lib.hid (HB.out.trans (hb1.mono HB.out.size))
      clear hb1 HM
      cases r
      · go_wp2_with fail
        go_roundw
        case rel => exact ⟨j + 1, by omega, by go_num, Lib.hid (by simpa using HS.out), HB1⟩
        case measure => simp [Go.RowKit.intOf]; omega
      · go_wp2_with fail
        go_ret
        exact ⟨_, rfl, by rw [← HS.out]; simp, HB1.out⟩
    · go_wp2_with fail
      go_ret
      exact ⟨_, rfl, by have := HS.out; rw [drop_all HX.out.len (by omega)] at this; rw [← this]; simp, HB.out⟩
theorem yContainsC (a : T) (ys : List T) (A : Option Addr) (n c : Nat) (pa : Nat) (ka ha : Int) (Aa : Option Addr) (na ca : Nat) (w : World) (hx : CLV w ys A n c) (xa : Box w pa 44 #[.int .i64 ka, .int .i64 ha, .slice Aa na ca]) (hva : Rd w a (.agg #[.int .i64 ka, .int .i64 ha, .slice Aa na ca])) :
    Calls Tryz.prog 43 #[.slice A n c, .func (.func 44) #[] #[.pointer (some ⟨pa, 0, none⟩)]] w fun e w' => e = .returned (.bool (ys.any fun b => samB a b)) ∧ Below w.heap.size w w' := by
  have HI := Lib.hid (yIndexC a ys A n c pa ka ha Aa na ca w hx xa hva)
  clear hx xa hva
  generalize (ys.any fun b => samB a b) = r at *
  go_enter Tryz.func43, Tryz.ntmps43
  go_wp2_with fail
  refine HI.out.mono ?_
  rintro e w1 ⟨i, rfl, hi, hb1⟩
  go_wp2_with fail
  go_ret
  exact ⟨ret_bool (by first | exact hi | rfl | simp), hb1⟩
set_option maxRecDepth 100000 in
set_option maxHeartbeats 2000000 in
theorem yConformsC (sc cx : List T) (A1 A2 : Option Addr) (n1 c1 n2 c2 : Nat) (w : World) (hs : CLV w sc A1 n1 c1) (hx : CLV w cx A2 n2 c2) :
    Calls Tryz.prog 16 #[.slice A1 n1 c1, .slice A2 n2 c2] w fun e w' => e = .returned (.bool (cfV sc cx)) ∧ Below w.heap.size w w' := by
  have hm := hx.cap
  have hc := hx.le
  unfold maxLen at hm
  have HX := Lib.hid hx; clear hx
  have HS0 := Lib.hid hs; clear hs
  obtain ⟨R, hR⟩ : ∃ R, cfV sc cx = R := ⟨_, rfl⟩
  have HR := Lib.hid hR
  rw [hR]
  clear hR
  go_enter Tryz.func16, Tryz.ntmps16
  go_wp2_with fail
  go_loopw [9] (fun i wr => ∃ (j : Nat), j ≤ n2 ∧ i = .int .i64 j ∧ Hid (cfV sc (cx.drop j) = R) ∧ Hid (Below w.heap.size w wr)) (fun i _ => n2 - (Go.RowKit.intOf i).toNat)
  case atStart => exact ⟨0, Nat.zero_le _, rfl, Lib.hid (by simpa using HR.out), Lib.hid (Below.refl _ _)⟩
  case round =>
    obtain ⟨j, hj, rfl, HS, HB⟩ := hrel
    by_cases hlt : j < n2
    · obtain ⟨x, ht⟩ := at_of HX.out.len hlt
      obtain ⟨b, o, k3, h3, A3, n3, c3', rfl, e0, e1, e2, hr⟩ := (RdAt.keep HB.out (HX.out.at_ j x ht)).full
      have HT := Lib.hid ht; clear ht
      have hi0 : (0 : Int) ≤ j := by omega
      have hi1 : (j : Int) < n2 := by omega
      obtain ⟨W1, hW1⟩ : ∃ W1, wr.alloc (.cells #[.int .i64 k3, .int .i64 h3, .slice A3 n3 c3'] 44) = W1 := ⟨_, rfl⟩
      have hbA : Below wr.heap.size wr W1 := by rw [← hW1]; exact (Below.refl _ _).alloc (Nat.le_refl _) _
      have z5 : Box W1 wr.heap.size 44 #[.int .i64 k3, .int .i64 h3, .slice A3 n3 c3'] := by rw [← hW1]; exact Box.new _ _ _
      have HM := Lib.hid (yContainsC x sc A1 n1 c1 wr.heap.size k3 h3 A3 n3 c3' W1 (HS0.out.keep (HB.out.trans (hbA.mono HB.out.size))) z5 (Rd.keep hbA _ _ hr))
      have HBW := Lib.hid (HB.out.trans (hbA.mono HB.out.size))
      clear hr z5 hbA
      have HS' := HS.out
      rw [drop_at HT.out, cfV, List.all_cons] at HS'
      have HS := Lib.hid HS'; clear HS'
      generalize (sc.any fun b => samB x b) = r at *
      subst hW1
      go_wp2_with fail
      clear e0 e1 e2
      refine HM.out.mono ?_
      rintro e w1 ⟨rfl, hb1⟩
      have HB1 := Lib.hid (HBW.out.trans (hb1.mono HBW.out.size))
      clear hb1 HM HBW
      cases r
      · go_wp2_with fail
        go_ret
        exact ⟨ret_bool (by rw [← HS.out]; rfl), HB1.out⟩
      · go_wp2_with fail
        go_roundw
        case rel => exact ⟨j + 1, by omega, by go_num, Lib.hid (by have := HS.out; rw [Bool.true_and] at this; exact this), HB1⟩
        case measure => simp [Go.RowKit.intOf]; omega
    · go_wp2_with fail
      go_ret
      exact ⟨ret_bool (by have := HS.out; rw [drop_all HX.out.len (by omega)] at this; rw [← this]; rfl), HB.out⟩
end Go.Proofs.YtloeainlpcnhnaaGreat
/-
  Contracts of package world's Sig, Ctx and Schema. No statement is proved here.
-/
namespace Go.Proofs.YtloeainlpcnhnaaGreat
open Go.ChangeShapes Go.WideShapes Go.ChangeAt Go.RowKit
set_option linter.unusedVariables false
theorem ml_nil (w : World) : ML w [] none 0 0 := ⟨rfl, Nat.le_refl _, Nat.zero_le _, fun i x hx => by simp at hx⟩
theorem clv_nil (w : World) (A : Option Addr) (c : Nat) (hc : c ≤ maxLen) : CLV w [] A 0 c := ⟨rfl, Nat.zero_le _, hc, fun i x hx => by simp at hx⟩
/-- all that may be has low Heads -/
def LwV (l : List T) : Prop := ∀ t ∈ l, myB t = true → okT loV t
theorem LwV.take {l : List T} (h : LwV l) (i : Nat) : LwV (l.take i) := fun t ht => h t (List.mem_of_mem_take ht)
theorem LwV.at_ {l : List T} (h : LwV l) {i : Nat} {x : T} (hx : l[i]? = some x) : myB x = true → okT loV x := h x (List.mem_of_getElem? hx)
theorem LwV.app {l m : List T} (h : LwV l) (k : LwV m) : LwV (l ++ m) := fun t ht => by
  rcases List.mem_append.1 ht with ht | ht
  · exact h t ht
  · exact k t ht
theorem LwV.nil : LwV [] := fun t ht => by cases ht
theorem lo_sg {ah : List T} (h : LwV ah) : LoV ⟨ah, []⟩ [] := ⟨h, (fun m hm => by cases hm), (fun t ht => by cases ht)⟩
set_option maxRecDepth 100000 in
set_option maxHeartbeats 2000000 in
theorem ySig1C (ah : List T) (d : T) (A : Option Addr) (i c : Nat) (s : ByteArray) (k h : Int) (A2 : Option Addr) (n2 c2 : Nat) (w : World) (hx : DL w ah A i c) (hd : Rd w d (.agg #[.int .i64 k, .int .i64 h, .slice A2 n2 c2])) (hl : LwV ah) (hld : myB d = true → okT loV d) :
    Calls Tryz.prog 31 #[.slice A i c, .agg #[.string s, .int .i64 k, .int .i64 h, .slice A2 n2 c2]] w fun e w' => e = .returned (.int .i64 (sgW ah d)) ∧ Below w.heap.size w w' := by
  obtain ⟨W, hW⟩ : ∃ W, w.alloc (.cells #[.string s, .int .i64 k, .int .i64 h, .slice A2 n2 c2] 51) = W := ⟨_, rfl⟩
  have hb : Below w.heap.size w W := by rw [← hW]; exact (Below.refl _ _).alloc (Nat.le_refl _) _
  have z5 : Box W w.heap.size 51 #[.string s, .int .i64 k, .int .i64 h, .slice A2 n2 c2] := by rw [← hW]; exact Box.new _ _ _
  have a1 : W.cell? ⟨w.heap.size, 1, none⟩ = some (.int .i64 k) := z5.cell 1
  have a2 : W.cell? ⟨w.heap.size, 2, none⟩ = some (.int .i64 h) := z5.cell 2
  have a3 : W.cell? ⟨w.heap.size, 3, none⟩ = some (.slice A2 n2 c2) := z5.cell 3
  have HK := Lib.hid (kindC d _ W (Rd.keep hb _ _ hd))
  have HC : ∀ W', Below W.heap.size W W' → CkV W' ⟨ah, []⟩ [] A i c none 0 0 none 0 0 := fun W' h' => ⟨(hx.keep hb).keep h', ml_nil _, clv_nil _ _ _ (Nat.zero_le _)⟩
  have HCK := Lib.hid (fun W' (h' : Below W.heap.size W W') => vCheckKindC ⟨ah, []⟩ [] d A i c none 0 0 none 0 0 _ W' (HC W' h') (Rd.keep h' _ _ (Rd.keep hb _ _ hd)) (lo_sg hl) hld)
  have HCT := Lib.hid (fun W' (h' : Below W.heap.size W W') => vCheckTypeC ⟨ah, []⟩ [] d A i c none 0 0 none 0 0 _ W' (HC W' h') (Rd.keep h' _ _ (Rd.keep hb _ _ hd)) (lo_sg hl) hld)
  have HB := Lib.hid hb
  have HE := Lib.hid (show sgW ah d = if kiB d = true then ckKi ⟨ah, []⟩ [] d else ckTy ⟨ah, []⟩ [] d from rfl)
  clear HC hx hd hl hld z5 hb
  generalize sgW ah d = R at *
  generalize ckKi ⟨ah, []⟩ [] d = R1 at *
  generalize ckTy ⟨ah, []⟩ [] d = R2 at *
  generalize kiB d = r at *
  go_enter Tryz.func31, Tryz.ntmps31
  go_wp2_with fail
  try rw [hW]
  go_wp2_with fail
  refine HK.out.mono ?_
  rintro e w1 ⟨rfl, hb1⟩
  replace a1 := (hb1.cell (cell_lt a1)).trans a1
  replace a2 := (hb1.cell (cell_lt a2)).trans a2
  replace a3 := (hb1.cell (cell_lt a3)).trans a3
  have HB1 := Lib.hid (HB.out.trans (hb1.mono HB.out.size))
  cases r
  · have HF := Lib.hid (HCT.out w1 hb1)
    have HQ := Lib.hid (show R2 = R by rw [HE.out]; rfl)
    clear hb1 HK HCK HCT HE
    go_wp2_with fail
    refine HF.out.mono ?_
    rintro e w2 ⟨rfl, hb2⟩
    have HB2 := Lib.hid (HB1.out.trans (hb2.mono HB1.out.size))
    clear hb2 a1 a2 a3
    go_wp2_with fail
    go_ret
    exact ⟨ret_int HQ.out, HB2.out⟩
  · have HF := Lib.hid (HCK.out w1 hb1)
    have HQ := Lib.hid (show R1 = R by rw [HE.out]; rfl)
    clear hb1 HK HCK HCT HE
    go_wp2_with fail
    refine HF.out.mono ?_
    rintro e w2 ⟨rfl, hb2⟩
    have HB2 := Lib.hid (HB1.out.trans (hb2.mono HB1.out.size))
    clear hb2 a1 a2 a3
    go_wp2_with fail
    go_ret
    exact ⟨ret_int HQ.out, HB2.out⟩
/-- what Sig tells -/
def siV (sg : List T) : Nat × Int := firV sgW sg
theorem ySigC (sg : List T) (A : Option Addr) (n c : Nat) (w : World) (hx : DL w sg A n c) (hl : LwV sg) :
    Calls Tryz.prog 9 #[.slice A n c] w (FiE (siV sg) w) := by
  have HF := Lib.hid (yFirstD sgW sg A n c w hx fun i x s k h A2 n2 c2 W hi hb hr hd => ySig1C (sg.take i) x A i c s k h A2 n2 c2 W hd hr (hl.take i) (hl.at_ hi))
  clear hx hl
  rw [siV]
  generalize firV sgW sg = R at *
  go_enter Tryz.func9, Tryz.ntmps9
  go_wp2_with fail
  refine HF.out.mono ?_
  rintro e w1 ⟨rfl, hb1⟩
  have HB1 := Lib.hid hb1; clear hb1
  go_wp2_with fail
  refine bodyPost_ret (v := .tuple #[.int .i64 (R.1 : Int), .int .i64 R.2]) (by simp [results, Tryz.results9, go_sem]) rfl ?_
  exact ⟨rfl, HB1.out⟩
set_option maxRecDepth 100000 in
set_option maxHeartbeats 2000000 in
theorem ySchema1C (sg ah : List T) (a : T) (v0 : Value) (ps : Nat) (As : Option Addr) (ns cs : Nat) (k h : Int) (A2 : Option Addr) (n2 c2 : Nat) (w : World) (xs : Box w ps 22 #[.slice As ns cs]) (hx : DL w sg As ns cs) (hd : Rd w a (.agg #[.int .i64 k, .int .i64 h, .slice A2 n2 c2])) (hl : LwV sg) (hld : myB a = true → okT loV a) :
    Calls Tryz.prog 42 #[v0, .agg #[.int .i64 k, .int .i64 h, .slice A2 n2 c2], .pointer (some ⟨ps, 0, none⟩)] w fun e w' => e = .returned (.int .i64 (scW sg ah a)) ∧ Below w.heap.size w w' := by
  obtain ⟨W, hW⟩ : ∃ W, w.alloc (.cells #[.int .i64 k, .int .i64 h, .slice A2 n2 c2] 44) = W := ⟨_, rfl⟩
  have hb : Below w.heap.size w W := by rw [← hW]; exact (Below.refl _ _).alloc (Nat.le_refl _) _
  have z5 : Box W w.heap.size 44 #[.int .i64 k, .int .i64 h, .slice A2 n2 c2] := by rw [← hW]; exact Box.new _ _ _
  obtain ⟨a0, a1, a2⟩ := z5.three
  have s0 : W.cell? ⟨ps, 0, none⟩ = some (.slice As ns cs) := (xs.keep hb xs.lt).cell 0
  have hkd := (rdF_kind hd).1
  have HCT := Lib.hid (vCheckTypeC ⟨sg, []⟩ [] a As ns cs none 0 0 none 0 0 _ W ⟨hx.keep hb, ml_nil _, clv_nil _ _ _ (Nat.zero_le _)⟩ (Rd.keep hb _ _ hd) (lo_sg hl) hld)
  have HB := Lib.hid hb
  have HE := Lib.hid (show scW sg ah a = if kdQ a = 2 then ckTy ⟨sg, []⟩ [] a else 1 from rfl)
  rw [hkd] at HE
  clear hx hd hl hld z5 hb hkd xs
  generalize scW sg ah a = R at *
  generalize ckTy ⟨sg, []⟩ [] a = R2 at *
  by_cases hk : k = 2
  case' neg =>
    have d1 : (k != 2) = true := by simpa using hk
    have HQ := Lib.hid (show 1 = R by rw [HE.out, if_neg hk])
    clear HE HCT
    go_enter Tryz.func42, Tryz.ntmps42
    go_wp2_with fail
    try rw [hW]
    go_wp2_with fail
    go_ret
    exact ⟨ret_int HQ.out, HB.out⟩
  subst hk
  have HQ := Lib.hid (show R2 = R by rw [HE.out, if_pos rfl])
  clear HE
  go_enter Tryz.func42, Tryz.ntmps42
  go_wp2_with fail
  try rw [hW]
  go_wp2_with fail
  refine HCT.out.mono ?_
  rintro e w2 ⟨rfl, hb2⟩
  have HB2 := Lib.hid (HB.out.trans (hb2.mono HB.out.size))
  clear hb2 a0 a1 a2 s0
  go_wp2_with fail
  go_ret
  exact ⟨ret_int HQ.out, HB2.out⟩
/-- what Schema tells -/
def schV (sg sc : List T) : Int := (firV (scW sg) sc).2
set_option maxRecDepth 100000 in
set_option maxHeartbeats 2000000 in
theorem ySchemaC (sg sc : List T) (As : Option Addr) (ns cs : Nat) (A : Option Addr) (n c : Nat) (w : World) (hs : DL w sg As ns cs) (hx : CLV w sc A n c) (hl : LwV sg) (hls : LwV sc) :
    Calls Tryz.prog 14 #[.slice As ns cs, .slice A n c] w fun e w' => e = .returned (.int .i64 (schV sg sc)) ∧ Below w.heap.size w w' := by
  obtain ⟨W, hW⟩ : ∃ W, w.alloc (.cells #[.slice As ns cs] 22) = W := ⟨_, rfl⟩
  have hb : Below w.heap.size w W := by rw [← hW]; exact (Below.refl _ _).alloc (Nat.le_refl _) _
  have z5 : Box W w.heap.size 22 #[.slice As ns cs] := by rw [← hW]; exact Box.new _ _ _
  have HF := Lib.hid (yFirstS (scW sg) sc A n c (.pointer (some ⟨w.heap.size, 0, none⟩)) W (hx.keep hb) fun i x k h A2 n2 c2 W' hi hb' hr hd =>
    ySchema1C sg (sc.take i) x _ w.heap.size As ns cs k h A2 n2 c2 W' (z5.keep hb' z5.lt) ((hs.keep hb).keep hb') hr hl (hls.at_ hi))
  have HB := Lib.hid hb
  clear hx hl hls hs hb z5
  rw [schV]
  generalize firV (scW sg) sc = R at *
  go_enter Tryz.func14, Tryz.ntmps14
  go_wp2_with fail
  try rw [hW]
  go_wp2_with fail
  refine HF.out.mono ?_
  rintro e w1 ⟨rfl, hb1⟩
  have HB1 := Lib.hid (HB.out.trans (hb1.mono HB.out.size)); clear hb1
  go_wp2_with fail
  go_ret
  exact ⟨rfl, HB1.out⟩
set_option maxRecDepth 100000 in
set_option maxHeartbeats 4000000 in
theorem yCtx1C (W0 : WV) (ar ah : List T) (a : T) (ps pm pa : Nat) (As : Option Addr) (ns cs : Nat) (Am : Option Addr) (nm cm : Nat) (Aa : Option Addr) (na ca : Nat) (A : Option Addr) (i c : Nat) (k h : Int) (A2 : Option Addr) (n2 c2 : Nat) (w : World)
    (xs : Box w ps 22 #[.slice As ns cs]) (xm : Box w pm 23 #[.slice Am nm cm]) (xa : Box w pa 24 #[.slice Aa na ca]) (hk : CkV w W0 ar As ns cs Am nm cm Aa na ca) (hah : CLV w ah A i c) (hd : Rd w a (.agg #[.int .i64 k, .int .i64 h, .slice A2 n2 c2]))
    (hl : LoV W0 (ar ++ ah)) (hld : myB a = true → okT loV a) (hlen : na + i ≤ 3518437208780) :
    Calls Tryz.prog 40 #[.slice A i c, .agg #[.int .i64 k, .int .i64 h, .slice A2 n2 c2], .pointer (some ⟨ps, 0, none⟩), .pointer (some ⟨pm, 0, none⟩), .pointer (some ⟨pa, 0, none⟩)] w fun e w' => e = .returned (.int .i64 (cxW W0 ar ah a)) ∧ Below w.heap.size w w' := by
  obtain ⟨W, hW⟩ : ∃ W, w.alloc (.cells #[.int .i64 k, .int .i64 h, .slice A2 n2 c2] 44) = W := ⟨_, rfl⟩
  have hb : Below w.heap.size w W := by rw [← hW]; exact (Below.refl _ _).alloc (Nat.le_refl _) _
  have z5 : Box W w.heap.size 44 #[.int .i64 k, .int .i64 h, .slice A2 n2 c2] := by rw [← hW]; exact Box.new _ _ _
  obtain ⟨a0, a1, a2⟩ := z5.three
  have s0 : W.cell? ⟨ps, 0, none⟩ = some (.slice As ns cs) := (xs.keep hb xs.lt).cell 0
  have m0 : W.cell? ⟨pm, 0, none⟩ = some (.slice Am nm cm) := (xm.keep hb xm.lt).cell 0
  have r0 : W.cell? ⟨pa, 0, none⟩ = some (.slice Aa na ca) := (xa.keep hb xa.lt).cell 0
  have HTY := Lib.hid (fun (A8 : Option Addr) (c8 : Nat) (W' : World) (h' : Below W.heap.size W W') (hcl : CLV W' (ar ++ ah) A8 (na + i) c8) => vCheckTypeC W0 (ar ++ ah) a As ns cs Am nm cm A8 (na + i) c8 _ W' ⟨(hk.sg.keep hb).keep h', (hk.ms.keep hb).keep h', hcl⟩ (Rd.keep h' _ _ (Rd.keep hb _ _ hd)) hl hld)
  have HAR := Lib.hid (hk.cx.keep hb)
  have HAH := Lib.hid (hah.keep hb)
  have HB := Lib.hid hb
  rw [cxW]
  obtain ⟨R, hR⟩ : ∃ R, ckTy W0 (ar ++ ah) a = R := ⟨_, rfl⟩
  rw [hR] at HTY ⊢
  clear xs xm xa hk hah hd hl hld hb z5 hR
  go_enter Tryz.func40, Tryz.ntmps40
  go_wp2_with fail
  try rw [hW]
  have HKS : Hid (∀ w' : World, Below W.heap.size W w' → (fun w' => w'.cell? ⟨ps, 0, none⟩ = some (.slice As ns cs) ∧ w'.cell? ⟨pm, 0, none⟩ = some (.slice Am nm cm) ∧ w'.cell? ⟨pa, 0, none⟩ = some (.slice Aa na ca) ∧ w'.cell? ⟨w.heap.size, 0, none⟩ = some (.int .i64 k) ∧ w'.cell? ⟨w.heap.size, 1, none⟩ = some (.int .i64 h) ∧ w'.cell? ⟨w.heap.size, 2, none⟩ = some (.slice A2 n2 c2)) w') := Lib.hid fun w' h => ⟨(h.cell (cell_lt s0)).trans s0, (h.cell (cell_lt m0)).trans m0, (h.cell (cell_lt r0)).trans r0, (h.cell (cell_lt a0)).trans a0, (h.cell (cell_lt a1)).trans a1, (h.cell (cell_lt a2)).trans a2⟩
  have hbd : Below W.heap.size W W.drew := (Below.refl _ W).drew
  refine wp_region_held_drew (S := fun w' => w'.cell? ⟨ps, 0, none⟩ = some (.slice As ns cs) ∧ w'.cell? ⟨pm, 0, none⟩ = some (.slice Am nm cm) ∧ w'.cell? ⟨pa, 0, none⟩ = some (.slice Aa na ca) ∧ w'.cell? ⟨w.heap.size, 0, none⟩ = some (.int .i64 k) ∧ w'.cell? ⟨w.heap.size, 1, none⟩ = some (.int .i64 h) ∧ w'.cell? ⟨w.heap.size, 2, none⟩ = some (.slice A2 n2 c2)) (by kernel_rfl) (HKS.out _ hbd) (fun hS => ?_)
  simp only [List.size_toArray, List.length_cons, List.length_nil, Nat.reduceAdd]
  refine wpAnyH_take (i := 0) (v := .slice As ns cs) rfl (by kernel_rfl) (by kernel_rfl) (by kernel_rfl) (fun _ _ _ h => h) (Or.inl ⟨by kernel_rfl, ?_⟩) hS ?_
  · intro w' hSw
    obtain ⟨s0, s1, s2, s3, s4, s5⟩ := hSw
    go_simp
  try simp only [Act.put, List.setIfInBounds_toArray]
  refine wpAnyH_take (i := 1) (v := .slice Am nm cm) rfl (by kernel_rfl) (by kernel_rfl) (by kernel_rfl) (fun _ _ _ h => h) (Or.inl ⟨by kernel_rfl, ?_⟩) hS ?_
  · intro w' hSw
    obtain ⟨s0, s1, s2, s3, s4, s5⟩ := hSw
    go_simp
  try simp only [Act.put]
  refine wpAnyH_take (i := 2) (v := .slice Aa na ca) rfl (by kernel_rfl) (by kernel_rfl) (by kernel_rfl) (fun _ _ _ h => h) (Or.inl ⟨by kernel_rfl, ?_⟩) hS ?_
  · intro w' hSw
    obtain ⟨s0, s1, s2, s3, s4, s5⟩ := hSw
    go_simp
  try simp only [Act.put]
  refine wpAnyH_take (i := 3) (v := .slice A i c) rfl (by kernel_rfl) (by kernel_rfl) (by kernel_rfl) (fun _ _ _ h => h) (Or.inl ⟨by kernel_rfl, ?_⟩) hS ?_
  · intro w' hSw
    obtain ⟨s0, s1, s2, s3, s4, s5⟩ := hSw
    go_simp
  try simp only [Act.put]
  refine wpAnyH_take (i := 6) (v := .agg #[.int .i64 k, .int .i64 h, .slice A2 n2 c2]) rfl (by kernel_rfl) (by kernel_rfl) (by kernel_rfl) (fun _ _ _ h => h) (Or.inl ⟨by kernel_rfl, ?_⟩) hS ?_
  · intro w' hSw
    obtain ⟨s0, s1, s2, s3, s4, s5⟩ := hSw
    go_simp
  try simp only [Act.put]
  refine wpAnyH_ready (rs := [4]) (by kernel_rfl) (by simp) ?_
  refine AllReadyH.cons rfl (fun KN hK => ?_) AllReadyH.nil
  go_simp
  have hb7 : Below W.heap.size W (W.alloc (.cells #[.slice Aa na ca, .slice A i c] 24)).drew := ((Below.refl _ W).alloc (Nat.le_refl _) _).drew
  refine hK.out _ _ (HKS.out _ hb7) (fun hS => ?_)
  clear hK KN
  try simp only [Act.put, List.setIfInBounds_toArray, List.set_cons_zero, List.set_cons_succ]
  have xz : Box (W.alloc (.cells #[.slice Aa na ca, .slice A i c] 24)).drew W.heap.size 24 #[.slice Aa na ca, .slice A i c] := Box.drewI (Box.new _ _ _)
  have e0 : ((W.alloc (.cells #[.slice Aa na ca, .slice A i c] 24)).drew).cell? ⟨W.heap.size, 0, none⟩ = some (.slice Aa na ca) := xz.cell 0
  have e1 : ((W.alloc (.cells #[.slice Aa na ca, .slice A i c] 24)).drew).cell? ⟨W.heap.size, 1, none⟩ = some (.slice A i c) := xz.cell 1
  generalize (W.alloc (.cells #[.slice Aa na ca, .slice A i c] 24)).drew = w7 at *
  refine wpAnyH_ready (rs := [5]) (by kernel_rfl) (by simp) ?_
  refine AllReadyH.cons rfl (fun KN hK => ?_) AllReadyH.nil
  go_simp
  refine (yConcat (HAR.out.keep hb7) (HAH.out.keep hb7) e0 e1 (by omega)).mono ?_
  rintro e w8 ⟨A8, c8, rfl, hcl, hb8⟩
  have hb8' : Below W.heap.size W w8 := hb7.trans (hb8.mono hb7.size)
  refine hK.out _ _ (HKS.out _ hb8') (fun hS => ?_)
  clear hK KN
  try simp only [Act.put, List.setIfInBounds_toArray, List.set_cons_zero, List.set_cons_succ]
  clear hb8 hb7 xz e0 e1
  refine wpAnyH_ready (rs := [7]) (by kernel_rfl) (by simp) ?_
  refine AllReadyH.cons rfl (fun KN hK => ?_) AllReadyH.nil
  go_simp
  refine (HTY.out A8 c8 w8 hb8' hcl).mono ?_
  rintro e w9 ⟨rfl, hb9⟩
  have hb9' : Below W.heap.size W w9 := hb8'.trans (hb9.mono hb8'.size)
  refine hK.out _ _ (HKS.out _ hb9') (fun hS => ?_)
  clear hK KN
  try simp only [Act.put, List.setIfInBounds_toArray, List.set_cons_zero, List.set_cons_succ]
  refine wpAnyH_take (i := 8) (v := .int .i64 R) rfl (by kernel_rfl) (by kernel_rfl) (by kernel_rfl) (fun _ _ _ h => h) (Or.inl ⟨by kernel_rfl, ?_⟩) hS ?_
  · intro w' hSw
    obtain ⟨s0, s1, s2, s3, s4, s5⟩ := hSw
    go_simp
  try simp only [Act.put, List.setIfInBounds_toArray]
  refine wpAnyH_done (by kernel_rfl) ?_ _
  try simp only [List.setIfInBounds_toArray]
  try simp only [List.getElem_toArray, List.getElem_cons_succ, List.getElem_cons_zero, List.set_cons_zero, List.set_cons_succ]
  have HBF := Lib.hid (HB.out.trans (hb9'.mono HB.out.size))
  clear hb9 hb9' hb8' hcl
  go_wp2_with fail
  go_ret
  exact ⟨rfl, HBF.out⟩
/-- what Ctx tells -/
def ctV (W0 : WV) (ar cx : List T) : Int := (firV (cxW W0 ar) cx).2
theorem lo_take {W0 : WV} {ar cx : List T} (h : LoV W0 (ar ++ cx)) (i : Nat) : LoV W0 (ar ++ cx.take i) := ⟨h.sg, h.ms, fun t ht => h.cx t (by
  rcases List.mem_append.1 ht with ht | ht
  · exact List.mem_append_left _ ht
  · exact List.mem_append_right _ (List.mem_of_mem_take ht))⟩
set_option maxRecDepth 100000 in
set_option maxHeartbeats 2000000 in
theorem yCtxC (W0 : WV) (ar cx : List T) (As : Option Addr) (ns cs : Nat) (Am : Option Addr) (nm cm : Nat) (Aa : Option Addr) (na ca : Nat) (A : Option Addr) (n c : Nat) (w : World) (hk : CkV w W0 ar As ns cs Am nm cm Aa na ca) (hx : CLV w cx A n c) (hl : LoV W0 (ar ++ cx)) (hlen : na + n ≤ 3518437208780) :
    Calls Tryz.prog 12 #[.slice As ns cs, .slice Am nm cm, .slice Aa na ca, .slice A n c] w fun e w' => e = .returned (.int .i64 (ctV W0 ar cx)) ∧ Below w.heap.size w w' := by
  obtain ⟨W, hW⟩ : ∃ W, ((w.alloc (.cells #[.slice As ns cs] 22)).alloc (.cells #[.slice Am nm cm] 23)).alloc (.cells #[.slice Aa na ca] 24) = W := ⟨_, rfl⟩
  have hb : Below w.heap.size w W := by rw [← hW]; exact (((Below.refl _ _).alloc (Nat.le_refl _) _).alloc (by simp) _).alloc (by simp; omega) _
  have x0 : Box W w.heap.size 22 #[.slice As ns cs] := by rw [← hW]; exact ((Box.new _ _ _).alloc _).alloc _
  have x1 : Box W (w.heap.size + 1) 23 #[.slice Am nm cm] := by rw [← hW]; exact ((Box.new (w.alloc _) _ _).at (by simp)).alloc _
  have x2 : Box W (w.heap.size + 1 + 1) 24 #[.slice Aa na ca] := by rw [← hW]; exact (Box.new ((w.alloc _).alloc _) _ _).at (by simp)
  have HF := Lib.hid (yFirstC (cxW W0 ar) cx A n c (.pointer (some ⟨w.heap.size, 0, none⟩)) (.pointer (some ⟨w.heap.size + 1, 0, none⟩)) (.pointer (some ⟨w.heap.size + 1 + 1, 0, none⟩)) W (hx.keep hb) fun i x k h A2 n2 c2 W' hi hb' hr hd =>
    yCtx1C W0 ar (cx.take i) x _ _ _ As ns cs Am nm cm Aa na ca A i c k h A2 n2 c2 W' (x0.keep hb' x0.lt) (x1.keep hb' x1.lt) (x2.keep hb' x2.lt) ((hk.keep hb).keep hb') hd hr (lo_take hl i) (fun hm => hl.cx x (List.mem_append_right _ (List.mem_of_getElem? hi)) hm) (by have := (List.getElem?_eq_some_iff.1 hi).1; have := hx.len; omega))
  have HB := Lib.hid hb
  clear hx hl hk hb x0 x1 x2
  rw [ctV]
  generalize firV (cxW W0 ar) cx = R at *
  go_enter Tryz.func12, Tryz.ntmps12
  go_wp2_with fail
  try rw [hW]
  go_wp2_with fail
  refine HF.out.mono ?_
  rintro e w1 ⟨rfl, hb1⟩
  have HB1 := Lib.hid (HB.out.trans (hb1.mono HB.out.size)); clear hb1
  go_wp2_with fail
  go_ret
  exact ⟨rfl, HB1.out⟩
end Go.Proofs.YtloeainlpcnhnaaGreat
/-
  Package world, plain: beginnings, more declarations, what conforms. No statement is proved here.
-/
namespace Go.Proofs.YtloeainlpcnhnaaGreat
open Go.ChangeShapes Go.WideShapes Go.ChangeAt Go.RowKit
set_option linter.unusedVariables false
end Go.Proofs.YtloeainlpcnhnaaGreat
/-
  Contract of the laws' own Few; the Heads of what is few are low. No statement is proved here.
-/
namespace Go.Proofs.YtloeainlpcnhnaaGreat
open Go.ChangeShapes Go.WideShapes Go.ChangeAt Go.RowKit
set_option linter.unusedVariables false
def fmB (x : List T × T) : Bool := lsB x.1 500 80 && ltB x.2 500 80
/-- few -/
def fwV (W : WV) (cx : List T) (ns nm : Nat) : Bool := fwQ W.sg ns && (decide (nm ≤ 30) && (W.ms.all fmB && lsB cx 500 80))
theorem lo_lt {t : T} {s d : Int} (h : ltB t s d = true) (hm : myB t = true) : okT loV t := by
  have h4 := ((myB_iff t).1 hm).2.1
  rw [ltB, szW_small (by omega), dpW_eq t (by omega)] at h
  simp only [Bool.and_eq_true, decide_eq_true_eq] at h
  exact okT_of t ((myB_iff t).1 hm).1 h.1.1
theorem loV_of {W : WV} {cx : List T} {ns nm : Nat} (h : fwV W cx ns nm = true) : LoV W cx := by
  simp only [fwV, fwQ, fmB, lsB, Bool.and_eq_true, decide_eq_true_eq, List.all_eq_true] at h
  obtain ⟨⟨_, h1⟩, _, h3, _, h4⟩ := h
  exact ⟨fun t ht => lo_lt (h1 t ht), fun m hm => ⟨fun e he => lo_lt ((h3 m hm).1.2 e he), lo_lt (h3 m hm).2⟩, fun t ht => lo_lt (h4 t ht)⟩
theorem few_len {W : WV} {cx : List T} {ns nm : Nat} (h : fwV W cx ns nm = true) : ns ≤ 30 ∧ nm ≤ 30 ∧ cx.length ≤ 60 := by
  simp only [fwV, fwQ, fmB, lsB, Bool.and_eq_true, decide_eq_true_eq, List.all_eq_true] at h
  obtain ⟨⟨h1, _⟩, h2, _, h3, _⟩ := h
  exact ⟨h1, h2, h3⟩
set_option maxRecDepth 100000 in
set_option maxHeartbeats 4000000 in
theorem vFewC (W : WV) (cx : List T) (As Am Ac : Option Addr) (ns cs nm cm nc cc : Nat) (w : World) (hk : CkV w W cx As ns cs Am nm cm Ac nc cc) :
    Calls Tryz.prog 7 #[.slice As ns cs, .slice Am nm cm, .slice Ac nc cc] w fun e w' => e = .returned (.bool (fwV W cx ns nm)) ∧ Below w.heap.size w w' := by
  have hmcap := hk.ms.cap
  have hmle := hk.ms.le
  unfold maxLen at hmcap
  have HFW := Lib.hid (fewC W.sg As ns cs w hk.sg)
  have HLC := Lib.hid (fun W' (h' : Below w.heap.size w W') => lightsC cx Ac nc cc 500 80 W' (hk.cx.keep h').len (hk.cx.keep h').le (hk.cx.keep h').cap (hk.cx.keep h').at_)
  have HM := Lib.hid hk.ms
  clear hk
  have hR : fwV W cx ns nm = (fwQ W.sg ns && (decide (nm ≤ 30) && (W.ms.all fmB && lsB cx 500 80))) := rfl
  obtain ⟨R, hRR⟩ : ∃ R, fwV W cx ns nm = R := ⟨_, rfl⟩
  rw [hRR] at hR ⊢
  have HR := Lib.hid hR
  clear hR hRR
  generalize fwQ W.sg ns = r1 at *
  generalize lsB cx 500 80 = r3 at *
  go_enter Tryz.func7, Tryz.ntmps7
  go_wp2_with fail
  refine HFW.out.mono ?_
  rintro e w1 ⟨rfl, hb1⟩
  have HB1 := Lib.hid hb1
  clear hb1 HFW
  cases r1
  · go_wp2_with fail
    go_ret
    exact ⟨ret_bool (by rw [HR.out]; rfl), HB1.out⟩
  by_cases hgt : 30 < nm
  · have d1 : decide ((30 : Int) < (nm : Int)) = true := by simp; omega
    have HR1 := Lib.hid (show false = R by rw [HR.out, decide_eq_false (by omega)]; rfl)
    go_wp2_with fail
    go_ret
    exact ⟨ret_bool HR1.out, HB1.out⟩
  have d1 : decide ((30 : Int) < (nm : Int)) = false := by simp; omega
  have HR1 := Lib.hid (show R = (W.ms.all fmB && r3) by rw [HR.out, decide_eq_true (by omega), Bool.true_and, Bool.true_and])
  clear HR
  go_wp2_with fail
  go_loopw [8] (fun i wr => ∃ (j : Nat), j ≤ nm ∧ i = .int .i64 j ∧ Hid ((W.ms.drop j).all fmB = W.ms.all fmB) ∧ Hid (Below w.heap.size w wr)) (fun i _ => nm - (Go.RowKit.intOf i).toNat)
  case atStart => exact ⟨0, Nat.zero_le _, rfl, Lib.hid (by simp), HB1⟩
  case round =>
    clear HB1
    obtain ⟨i, hi, rfl, HJ, HB1⟩ := hrel
    by_cases hlt : i < nm
    · obtain ⟨x, hx⟩ := at_of HM.out.len hlt
      obtain ⟨b1, o1, A0, n0, c0, k1, h1, A1, n1, c1, pb, rfl, e0, e1, e2, e3, e4, hl1, hr1⟩ := (HM.out.at_ i x hx).keep HB1.out
      have HJ' := HJ.out
      rw [drop_at hx, List.all_cons] at HJ'
      have HJ1 := Lib.hid HJ'; clear HJ' hx HJ
      have HLS := Lib.hid (lightsC x.1 A0 n0 c0 500 80 wr hl1.len hl1.le hl1.cap hl1.at_)
      have HLT := Lib.hid (fun W' (h' : Below wr.heap.size wr W') => refLight x.2 500 80 _ W' (Rd.keep h' _ _ hr1))
      have hi0 : (0 : Int) ≤ i := by omega
      have hi1 : (i : Int) < nm := by omega
      have HMM := Lib.hid (show fmB x = (lsB x.1 500 80 && ltB x.2 500 80) from rfl)
      replace e1 : wr.cell? ⟨b1, o1 + i * 5 + 1, none⟩ = some (.int .i64 k1) := e1
      replace e2 : wr.cell? ⟨b1, o1 + i * 5 + 1 + 1, none⟩ = some (.int .i64 h1) := e2
      replace e3 : wr.cell? ⟨b1, o1 + i * 5 + 1 + 2, none⟩ = some (.slice A1 n1 c1) := e3
      clear hr1 hl1
      generalize fmB x = r at *
      generalize lsB x.1 500 80 = q1 at *
      generalize ltB x.2 500 80 = q2 at *
      go_wp2_with fail
      refine HLS.out.mono ?_
      rintro e w3 ⟨rfl, hb3⟩
      have HB3 := Lib.hid (HB1.out.trans (hb3.mono HB1.out.size))
      have HLT3 := Lib.hid (HLT.out w3 hb3)
      replace e1 := (hb3.cell (cell_lt e1)).trans e1
      replace e2 := (hb3.cell (cell_lt e2)).trans e2
      replace e3 := (hb3.cell (cell_lt e3)).trans e3
      clear hb3 HB1 HLS HLT e0 e4
      go_wp2_with fail
      refine HLT3.out.mono ?_
      rintro e w4 ⟨rfl, hb4⟩
      have HB4 := Lib.hid (HB3.out.trans (hb4.mono HB3.out.size))
      clear hb4 HB3 HLT3 e1 e2 e3
      cases q1
      · go_wp2_with fail
        go_ret
        exact ⟨ret_bool (by rw [HR1.out, ← HJ1.out, HMM.out]; rfl), HB4.out⟩
      · cases q2
        · go_wp2_with fail
          go_ret
          exact ⟨ret_bool (by rw [HR1.out, ← HJ1.out, HMM.out]; rfl), HB4.out⟩
        · go_wp2_with fail
          go_roundw
          case rel => exact ⟨i + 1, by omega, by go_num, Lib.hid (by have := HJ1.out; rw [HMM.out] at this; simpa using this), HB4⟩
          case measure => simp [Go.RowKit.intOf]; omega
    · have e := HJ.out
      rw [drop_all HM.out.len (by omega)] at e
      have HR5 := Lib.hid (show r3 = R by rw [HR1.out, ← e]; rfl)
      have HLC1 := Lib.hid (HLC.out _ HB1.out)
      clear e HJ HR1
      go_wp2_with fail
      refine HLC1.out.mono ?_
      rintro e w3 ⟨rfl, hb3⟩
      have HB3 := Lib.hid (HB1.out.trans (hb3.mono HB1.out.size))
      clear hb3 HLC1
      go_wp2_with fail
      go_ret
      exact ⟨ret_bool HR5.out, HB3.out⟩
end Go.Proofs.YtloeainlpcnhnaaGreat
/-
  Contracts of the laws' own Nat and awake. No statement is proved here.
-/
namespace Go.Proofs.YtloeainlpcnhnaaGreat
open Go.ChangeShapes Go.WideShapes Go.ChangeAt Go.RowKit
set_option linter.unusedVariables false
def natT : T := .node 2 0 []
def natS : List T := [.node 0 0 [], natT, .node 1 0 [natT, natT]]
def natW : WV := ⟨natS, []⟩
theorem wf_ofV {x : Int} (h0 : 0 ≤ x) (h1 : x ≤ 1099511627776) : (Lit.int .i64 x).wf = true := by
  have := wf_wrap64 x
  rwa [wrap_small (by omega) (by omega)] at this
theorem wfV {x : Int} (h : 0 ≤ x) (h' : x ≤ 1000) : (Lit.int .i64 x).wf = true := wf_ofV h (by omega)
theorem nat_low : LoV natW [] := ⟨fun t ht _ => by
    simp only [natW, natS, natT, List.mem_cons, List.not_mem_nil, or_false] at ht
    rcases ht with rfl | rfl | rfl <;> simp [okT, okL], fun m hm => by simp [natW] at hm, fun t ht => by simp at ht⟩
set_option maxRecDepth 100000 in
set_option maxHeartbeats 4000000 in
theorem vNatC (w : World) : Calls Tryz.prog 28 #[] w fun e w' => ∃ q, e = .returned (.slice (some ⟨q, 0, none⟩) 3 3) ∧ DL w' natS (some ⟨q, 0, none⟩) 3 3 ∧ Below w.heap.size w w' := by
  obtain ⟨W1, hW1⟩ : ∃ W1, w.alloc (.cells #[.int .i64 2, .int .i64 0, .slice none 0 0] 44) = W1 := ⟨_, rfl⟩
  have hb1 : Below w.heap.size w W1 := by rw [← hW1]; exact (Below.refl _ _).alloc (Nat.le_refl _) _
  have x1 : Box W1 w.heap.size 44 #[.int .i64 2, .int .i64 0, .slice none 0 0] := by rw [← hW1]; exact Box.new _ _ _
  have l1 : W1.heap.size = w.heap.size + 1 := by rw [← hW1]; simp
  obtain ⟨W2, hW2⟩ : ∃ W2, W1.alloc (.cells #[.int .i64 2, .int .i64 0, .slice none 0 0, .int .i64 2, .int .i64 0, .slice none 0 0] 44) = W2 := ⟨_, rfl⟩
  have hb2 : Below W1.heap.size W1 W2 := by rw [← hW2]; exact (Below.refl _ _).alloc (Nat.le_refl _) _
  have x2 : Box W2 (w.heap.size + 1) 44 #[.int .i64 2, .int .i64 0, .slice none 0 0, .int .i64 2, .int .i64 0, .slice none 0 0] := by rw [← hW2]; exact (Box.new _ _ _).at l1
  have l2 : W2.heap.size = w.heap.size + 1 + 1 := by rw [← hW2]; simp [l1]
  obtain ⟨W3, hW3⟩ : ∃ W3, W2.alloc (.cells #[.string { data := #[110, 97, 116] }, .int .i64 0, .int .i64 0, .slice none 0 0, .string { data := #[122] }, .int .i64 2, .int .i64 0, .slice none 0 0, .string { data := #[115] }, .int .i64 1, .int .i64 0, .slice (some ⟨w.heap.size + 1, 0, none⟩) 2 2] 51) = W3 := ⟨_, rfl⟩
  have hb3 : Below W2.heap.size W2 W3 := by rw [← hW3]; exact (Below.refl _ _).alloc (Nat.le_refl _) _
  have x3 : Box W3 (w.heap.size + 1 + 1) 51 #[.string { data := #[110, 97, 116] }, .int .i64 0, .int .i64 0, .slice none 0 0, .string { data := #[122] }, .int .i64 2, .int .i64 0, .slice none 0 0, .string { data := #[115] }, .int .i64 1, .int .i64 0, .slice (some ⟨w.heap.size + 1, 0, none⟩) 2 2] := by rw [← hW3]; exact (Box.new _ _ _).at l2
  have y2 := x2.keep hb3 x2.lt
  have hbw := hb1.trans ((hb2.trans (hb3.mono hb2.size)).mono hb1.size)
  have leaf : ∀ W' : World, Rd W' natT (.agg #[.int .i64 2, .int .i64 0, .slice none 0 0]) := fun W' => rd_leaf (wfV (by omega) (by omega)) (wfV (by omega) (by omega))
  have hdl : DL W3 natS (some ⟨w.heap.size + 1 + 1, 0, none⟩) 3 3 := ⟨rfl, Nat.le_refl _, by unfold maxLen; omega, fun i x hx => by
    match i, hx with
    | 0, hx =>
      cases hx
      exact ⟨w.heap.size + 1 + 1, 0, _, _, _, _, _, _, rfl, x3.cell 0, x3.cell 1, x3.cell 2, x3.cell 3, rd_leaf (wfV (by omega) (by omega)) (wfV (by omega) (by omega))⟩
    | 1, hx =>
      cases hx
      exact ⟨w.heap.size + 1 + 1, 0, _, _, _, _, _, _, rfl, x3.cell 4, x3.cell 5, x3.cell 6, x3.cell 7, leaf _⟩
    | 2, hx =>
      cases hx
      exact ⟨w.heap.size + 1 + 1, 0, _, _, _, _, _, _, rfl, x3.cell 8, x3.cell 9, x3.cell 10, x3.cell 11, Rd_node.2 ⟨_, _, _, rfl, wfV (by omega) (by omega), wfV (by omega) (by omega), rfl, Nat.le_refl _, by unfold maxLen; omega, rd_two y2 (leaf _) (leaf _)⟩⟩
    | i + 3, hx => simp [natS] at hx⟩
  have HD := Lib.hid hdl
  have HB := Lib.hid hbw
  obtain ⟨c0, c1, c2⟩ := x1.three
  have g1 := x1.frozen 1
  have g2 := x1.frozen 2
  clear hdl hbw leaf x1 x2 x3 y2 hb1 hb2 hb3 l1
  subst hW1
  go_enter Tryz.func28, Tryz.ntmps28
  go_wp2_with fail
  clear hW2 hW3
  go_ret
  exact ⟨_, rfl, HD.out, HB.out⟩
end Go.Proofs.YtloeainlpcnhnaaGreat
/-
  Declarations that are appended to others. No statement is proved here.
-/
namespace Go.Proofs.YtloeainlpcnhnaaGreat
open Go.ChangeShapes Go.WideShapes Go.ChangeAt Go.RowKit
set_option linter.unusedVariables false
/-- cells that are declarations, four by four; their types in blocks ahead of some one -/
def KD (B : Nat) (w : World) (cs : List Value) (ds : List T) : Prop :=
  ∀ i x, ds[i]? = some x → ∃ s k h A n c, cs[i * 4]? = some (.string s) ∧ cs[i * 4 + 1]? = some (.int .i64 k) ∧ cs[i * 4 + 2]? = some (.int .i64 h) ∧ cs[i * 4 + 3]? = some (.slice A n c) ∧ RdF (fun b => b < B) w x (.agg #[.int .i64 k, .int .i64 h, .slice A n c])
/-- the cells of a list of declarations -/
theorem DL.raw {w : World} {ds : List T} {A : Option Addr} {n c : Nat} (h : DL w ds A n c) : ∃ cs : List Value, cs.length = n * 4 ∧ (∀ j u, cs[j]? = some u → ∃ b o, A = some ⟨b, o, none⟩ ∧ w.cell? ⟨b, o + j, none⟩ = some u) ∧ (∀ u ∈ cs, u.oneCell' = true) ∧ KD w.heap.size w cs ds := by
  have key : ∀ m, m ≤ n → ∃ cs : List Value, cs.length = m * 4 ∧ (∀ j u, cs[j]? = some u → ∃ b o, A = some ⟨b, o, none⟩ ∧ w.cell? ⟨b, o + j, none⟩ = some u) ∧ (∀ u ∈ cs, u.oneCell' = true) ∧ KD w.heap.size w cs (ds.take m) := by
    intro m
    induction m with
    | zero => intro _; exact ⟨[], rfl, fun j u hu => by simp at hu, fun u hu => absurd hu (by simp), fun i x hx => by simp at hx⟩
    | succ m ih =>
      intro hm
      obtain ⟨cs, h1, h2, h3, h4⟩ := ih (by omega)
      obtain ⟨x, hx⟩ := at_of h.len (show m < n by omega)
      obtain ⟨b, o, s, k, g, A', n', c', rfl, c0, c1, c2, c3, hr⟩ := h.at_ m x hx
      have happ : ∀ q u, [Value.string s, .int .i64 k, .int .i64 g, .slice A' n' c'][q]? = some u → w.cell? ⟨b, o + (m * 4 + q), none⟩ = some u := fun q u hu => by
        match q, hu with
        | 0, hu => cases hu; exact c0
        | 1, hu => cases hu; exact c1
        | 2, hu => cases hu; exact c2
        | 3, hu => cases hu; exact c3
        | q + 4, hu => simp at hu
      refine ⟨cs ++ [.string s, .int .i64 k, .int .i64 g, .slice A' n' c'], by rw [List.length_append, h1]; simp; omega, fun j u hu => ?_, fun u hu => ?_, fun i y hy => ?_⟩
      · by_cases hj : j < cs.length
        · rw [List.getElem?_append_left hj] at hu
          exact h2 j u hu
        · rw [List.getElem?_append_right (by omega)] at hu
          have := happ _ _ hu
          rw [show m * 4 + (j - cs.length) = j by omega] at this
          exact ⟨b, o, rfl, this⟩
      · rcases List.mem_append.1 hu with hu | hu
        · exact h3 u hu
        · simp at hu
          rcases hu with rfl | rfl | rfl | rfl <;> rfl
      · have hil := (List.getElem?_eq_some_iff.1 hy).1
        rw [List.length_take] at hil
        by_cases him : i < m
        · obtain ⟨s', k', g', A2, n2, c2', e0, e1, e2, e3, hr'⟩ := h4 i y (by rw [List.getElem?_take_of_lt (by omega)] at hy ⊢; exact hy)
          refine ⟨s', k', g', A2, n2, c2', ?_, ?_, ?_, ?_, hr'⟩
          all_goals rw [List.getElem?_append_left (by omega)]; assumption
        · obtain rfl : i = m := by omega
          rw [List.getElem?_take_of_lt (by omega), hx] at hy
          cases hy
          refine ⟨s, k, g, A', n', c', ?_, ?_, ?_, ?_, rdF_anyQ _ _ hr⟩
          · rw [List.getElem?_append_right (by omega), h1, Nat.sub_self]; rfl
          · rw [List.getElem?_append_right (by omega), h1, show i * 4 + 1 - i * 4 = 1 by omega]; rfl
          · rw [List.getElem?_append_right (by omega), h1, show i * 4 + 2 - i * 4 = 2 by omega]; rfl
          · rw [List.getElem?_append_right (by omega), h1, show i * 4 + 3 - i * 4 = 3 by omega]; rfl
  obtain ⟨cs, h1, h2, h3, h4⟩ := key n (Nat.le_refl _)
  rw [List.take_of_length_le (by rw [h.len]; omega)] at h4
  exact ⟨cs, h1, h2, h3, h4⟩
theorem KD.keep {B : Nat} {w w' : World} {cs : List Value} {ds : List T} (h : KD B w cs ds) (hm : ∀ b, b < B → w'.heap[b]? = w.heap[b]?) : KD B w' cs ds := fun i x hx => by
  obtain ⟨s, k, g, A, n, c, e0, e1, e2, e3, hr⟩ := h i x hx
  exact ⟨s, k, g, A, n, c, e0, e1, e2, e3, RdF.moveQ (fun b hb _ => ⟨hb, hm b hb⟩) _ _ hr⟩
/-- a row of declarations of a call's own -/
structure DRow (w : World) (B base : Nat) (v : Value) (n : Nat) (ds : List T) (cs : List Value) : Prop where
  own : w.ownsRow base 51 4 v n cs
  len : ds.length = n
  kids : KD B w cs ds
end Go.Proofs.YtloeainlpcnhnaaGreat
/-
  Lists of declarations and of metas appended to rows of a call's own. No statement is proved here.
-/
namespace Go.Proofs.YtloeainlpcnhnaaGreat
open Go.ChangeShapes Go.WideShapes Go.ChangeAt Go.RowKit
set_option linter.unusedVariables false
/-- cells of D, as some world reads what they hold -/
def KDv (W0 : World) (cs : List Value) (ds : List T) : Prop :=
  ∀ i x, ds[i]? = some x → ∃ s k g A0 n0 c0, cs[i * 4]? = some (.string s) ∧ cs[i * 4 + 1]? = some (.int .i64 k) ∧ cs[i * 4 + 2]? = some (.int .i64 g) ∧ cs[i * 4 + 3]? = some (.slice A0 n0 c0) ∧ Rd W0 x (.agg #[.int .i64 k, .int .i64 g, .slice A0 n0 c0])
theorem KDv.app {W0 : World} {cs1 cs2 : List Value} {ds1 ds2 : List T} (h1 : KDv W0 cs1 ds1) (h2 : KDv W0 cs2 ds2) (hlen : cs1.length = ds1.length * 4) : KDv W0 (cs1 ++ cs2) (ds1 ++ ds2) := fun i x hx => by
  by_cases hi : i < ds1.length
  · rw [List.getElem?_append_left hi] at hx
    obtain ⟨s, k, g, A0, n0, c0, e0, e1, e2, e3, hr⟩ := h1 i x hx
    have up : ∀ j u, cs1[j]? = some u → (cs1 ++ cs2)[j]? = some u := fun j u hj => by
      rw [List.getElem?_append_left (List.getElem?_eq_some_iff.1 hj).1]; exact hj
    exact ⟨s, k, g, A0, n0, c0, up _ _ e0, up _ _ e1, up _ _ e2, up _ _ e3, hr⟩
  · rw [List.getElem?_append_right (by omega)] at hx
    obtain ⟨s, k, g, A0, n0, c0, e0, e1, e2, e3, hr⟩ := h2 _ x hx
    have up : ∀ q u, cs2[(i - ds1.length) * 4 + q]? = some u → (cs1 ++ cs2)[i * 4 + q]? = some u := fun q u hj => by
      rw [List.getElem?_append_right (by omega), hlen, show i * 4 + q - ds1.length * 4 = (i - ds1.length) * 4 + q by omega]; exact hj
    exact ⟨s, k, g, A0, n0, c0, up 0 _ e0, up 1 _ e1, up 2 _ e2, up 3 _ e3, hr⟩
theorem DL.rawV {w : World} {ds : List T} {A : Option Addr} {n c : Nat} (h : DL w ds A n c) : ∃ cs : List Value, cs.length = n * 4 ∧ (∀ j u, cs[j]? = some u → ∃ b o, A = some ⟨b, o, none⟩ ∧ w.cell? ⟨b, o + j, none⟩ = some u) ∧ (∀ u ∈ cs, u.oneCell' = true) ∧ KDv w cs ds := by
  obtain ⟨cs, h1, h2, h3, h4⟩ := h.raw
  refine ⟨cs, h1, h2, h3, fun i x hx => ?_⟩
  obtain ⟨s, k, g, A, n, c, e0, e1, e2, e3, hr⟩ := h4 i x hx
  exact ⟨s, k, g, A, n, c, e0, e1, e2, e3, RdF.rd _ _ (RdF.moveQ (ok' := fun _ => True) (fun b hb _ => ⟨trivial, rfl⟩) _ _ hr)⟩
/-- a row of a call's own that holds cells of D -/
structure RowDv (W0 w : World) (A : Option Addr) (n c : Nat) (ds : List T) (cs : List Value) : Prop where
  own : w.ownsRow W0.heap.size 51 4 (.slice A n c) n cs
  len : ds.length = n
  kids : KDv W0 cs ds
theorem RowDv.none (W0 w : World) : RowDv W0 w none 0 0 [] [] := ⟨World.ownsRow_nil _ _ _ _, rfl, fun i x hx => by simp at hx⟩
theorem RowDv.cap {W0 w : World} {A : Option Addr} {n c : Nat} {ds : List T} {cs : List Value} (h : RowDv W0 w A n c ds cs) : n ≤ c ∧ c ≤ maxLen := by
  rcases h.own.2 with ⟨e, h0⟩ | ⟨g', cap', cur, hv, _, _, h1, h2, _⟩
  · cases e; exact ⟨Nat.le_refl _, Nat.zero_le _⟩
  · cases hv; exact ⟨h1, h2⟩
theorem RowDv.lst {W0 w : World} {A : Option Addr} {n c : Nat} {ds : List T} {cs : List Value} (h : RowDv W0 w A n c ds cs) (hb : Below W0.heap.size W0 w) : DL w ds A n c := by
  refine ⟨h.len, h.cap.1, h.cap.2, fun i x hx => ?_⟩
  have hi : i < n := by have := (List.getElem?_eq_some_iff.1 hx).1; rw [h.len] at this; exact this
  obtain ⟨s, k, g, A0, n0, c0, e0, e1, e2, e3, hr⟩ := h.kids i x hx
  obtain ⟨q, hq⟩ : ∃ q, A = some ⟨q, 0, Option.none⟩ := by
    rcases h.own.2 with ⟨e, h0⟩ | ⟨g', cap', cur, hv, _⟩
    · omega
    · cases hv; exact ⟨_, rfl⟩
  subst hq
  have get : ∀ j u, cs[j]? = some u → w.cell? ⟨q, 0 + j, Option.none⟩ = some u := fun j u hj => by
    have := h.own.cells (g := q) rfl j u hj
    rwa [addr_add] at this
  exact ⟨q, 0, s, k, g, A0, n0, c0, rfl, get _ _ e0, (by rw [Nat.add_assoc]; exact get _ _ e1), (by rw [Nat.add_assoc]; exact get _ _ e2), (by rw [Nat.add_assoc]; exact get _ _ e3), Rd.keep hb _ _ hr⟩
/-- cells of M, as some world reads what they hold -/
def KMv (W0 : World) (cs : List Value) (ds : List (List T × T)) : Prop :=
  ∀ i x, ds[i]? = some x → ∃ A1 n1 c1 k g A2 n2 c2 p, cs[i * 5]? = some (.slice A1 n1 c1) ∧ cs[i * 5 + 1]? = some (.int .i64 k) ∧ cs[i * 5 + 2]? = some (.int .i64 g) ∧ cs[i * 5 + 3]? = some (.slice A2 n2 c2) ∧ cs[i * 5 + 4]? = some (.bool p) ∧ CLV W0 x.1 A1 n1 c1 ∧ Rd W0 x.2 (.agg #[.int .i64 k, .int .i64 g, .slice A2 n2 c2])
theorem KMv.app {W0 : World} {cs1 cs2 : List Value} {ds1 ds2 : List (List T × T)} (h1 : KMv W0 cs1 ds1) (h2 : KMv W0 cs2 ds2) (hlen : cs1.length = ds1.length * 5) : KMv W0 (cs1 ++ cs2) (ds1 ++ ds2) := fun i x hx => by
  by_cases hi : i < ds1.length
  · rw [List.getElem?_append_left hi] at hx
    obtain ⟨A1, n1, c1, k, g, A2, n2, c2, p, e0, e1, e2, e3, e4, hl, hr⟩ := h1 i x hx
    have up : ∀ j u, cs1[j]? = some u → (cs1 ++ cs2)[j]? = some u := fun j u hj => by
      rw [List.getElem?_append_left (List.getElem?_eq_some_iff.1 hj).1]; exact hj
    exact ⟨A1, n1, c1, k, g, A2, n2, c2, p, up _ _ e0, up _ _ e1, up _ _ e2, up _ _ e3, up _ _ e4, hl, hr⟩
  · rw [List.getElem?_append_right (by omega)] at hx
    obtain ⟨A1, n1, c1, k, g, A2, n2, c2, p, e0, e1, e2, e3, e4, hl, hr⟩ := h2 _ x hx
    have up : ∀ q u, cs2[(i - ds1.length) * 5 + q]? = some u → (cs1 ++ cs2)[i * 5 + q]? = some u := fun q u hj => by
      rw [List.getElem?_append_right (by omega), hlen, show i * 5 + q - ds1.length * 5 = (i - ds1.length) * 5 + q by omega]; exact hj
    exact ⟨A1, n1, c1, k, g, A2, n2, c2, p, up 0 _ e0, up 1 _ e1, up 2 _ e2, up 3 _ e3, up 4 _ e4, hl, hr⟩
theorem ML.rawV {w : World} {ms : List (List T × T)} {A : Option Addr} {n c : Nat} (h : ML w ms A n c) : ∃ cs : List Value, cs.length = n * 5 ∧ (∀ j u, cs[j]? = some u → ∃ b o, A = some ⟨b, o, none⟩ ∧ w.cell? ⟨b, o + j, none⟩ = some u) ∧ (∀ u ∈ cs, u.oneCell' = true) ∧ KMv w cs ms := by
  have key : ∀ m, m ≤ n → ∃ cs : List Value, cs.length = m * 5 ∧ (∀ j u, cs[j]? = some u → ∃ b o, A = some ⟨b, o, none⟩ ∧ w.cell? ⟨b, o + j, none⟩ = some u) ∧ (∀ u ∈ cs, u.oneCell' = true) ∧ KMv w cs (ms.take m) := by
    intro m
    induction m with
    | zero => intro _; exact ⟨[], rfl, fun j u hu => by simp at hu, fun u hu => absurd hu (by simp), fun i x hx => by simp at hx⟩
    | succ m ih =>
      intro hm
      obtain ⟨cs, h1, h2, h3, h4⟩ := ih (by omega)
      obtain ⟨x, hx⟩ := at_of h.len (show m < n by omega)
      obtain ⟨b, o, A1, n1, c1, k, g, A2, n2, c2, p, rfl, d0, d1, d2, d3, d4, hl, hr⟩ := h.at_ m x hx
      have happ : ∀ q u, [Value.slice A1 n1 c1, .int .i64 k, .int .i64 g, .slice A2 n2 c2, .bool p][q]? = some u → w.cell? ⟨b, o + (m * 5 + q), none⟩ = some u := fun q u hu => by
        match q, hu with
        | 0, hu => cases hu; exact d0
        | 1, hu => cases hu; exact d1
        | 2, hu => cases hu; exact d2
        | 3, hu => cases hu; exact d3
        | 4, hu => cases hu; exact d4
        | q + 5, hu => simp at hu
      have hs : KMv w [Value.slice A1 n1 c1, .int .i64 k, .int .i64 g, .slice A2 n2 c2, .bool p] [x] := fun i y hy => by
        match i, hy with
        | 0, hy => cases hy; exact ⟨A1, n1, c1, k, g, A2, n2, c2, p, rfl, rfl, rfl, rfl, rfl, hl, hr⟩
        | i + 1, hy => simp at hy
      refine ⟨cs ++ [.slice A1 n1 c1, .int .i64 k, .int .i64 g, .slice A2 n2 c2, .bool p], by rw [List.length_append, h1]; simp; omega, fun j u hu => ?_, fun u hu => ?_, ?_⟩
      · by_cases hj : j < cs.length
        · rw [List.getElem?_append_left hj] at hu
          exact h2 j u hu
        · rw [List.getElem?_append_right (by omega)] at hu
          have := happ _ _ hu
          rw [show m * 5 + (j - cs.length) = j by omega] at this
          exact ⟨b, o, rfl, this⟩
      · rcases List.mem_append.1 hu with hu | hu
        · exact h3 u hu
        · simp at hu
          rcases hu with rfl | rfl | rfl | rfl | rfl <;> rfl
      · rw [List.take_add_one, hx]
        exact h4.app hs (by rw [h1, List.length_take, h.len]; omega)
  obtain ⟨cs, h1, h2, h3, h4⟩ := key n (Nat.le_refl _)
  rw [List.take_of_length_le (by rw [h.len]; omega)] at h4
  exact ⟨cs, h1, h2, h3, h4⟩
/-- a row of a call's own that holds cells of M -/
structure RowMv (W0 w : World) (A : Option Addr) (n c : Nat) (ds : List (List T × T)) (cs : List Value) : Prop where
  own : w.ownsRow W0.heap.size 47 5 (.slice A n c) n cs
  len : ds.length = n
  kids : KMv W0 cs ds
theorem RowMv.none (W0 w : World) : RowMv W0 w none 0 0 [] [] := ⟨World.ownsRow_nil _ _ _ _, rfl, fun i x hx => by simp at hx⟩
theorem RowMv.cap {W0 w : World} {A : Option Addr} {n c : Nat} {ds : List (List T × T)} {cs : List Value} (h : RowMv W0 w A n c ds cs) : n ≤ c ∧ c ≤ maxLen := by
  rcases h.own.2 with ⟨e, h0⟩ | ⟨g', cap', cur, hv, _, _, h1, h2, _⟩
  · cases e; exact ⟨Nat.le_refl _, Nat.zero_le _⟩
  · cases hv; exact ⟨h1, h2⟩
theorem RowMv.lst {W0 w : World} {A : Option Addr} {n c : Nat} {ds : List (List T × T)} {cs : List Value} (h : RowMv W0 w A n c ds cs) (hb : Below W0.heap.size W0 w) : ML w ds A n c := by
  refine ⟨h.len, h.cap.1, h.cap.2, fun i x hx => ?_⟩
  have hi : i < n := by have := (List.getElem?_eq_some_iff.1 hx).1; rw [h.len] at this; exact this
  obtain ⟨A1, n1, c1, k, g, A2, n2, c2, p, e0, e1, e2, e3, e4, hl, hr⟩ := h.kids i x hx
  obtain ⟨q, hq⟩ : ∃ q, A = some ⟨q, 0, Option.none⟩ := by
    rcases h.own.2 with ⟨e, h0⟩ | ⟨g', cap', cur, hv, _⟩
    · omega
    · cases hv; exact ⟨_, rfl⟩
  subst hq
  have get : ∀ j u, cs[j]? = some u → w.cell? ⟨q, 0 + j, Option.none⟩ = some u := fun j u hj => by
    have := h.own.cells (g := q) rfl j u hj
    rwa [addr_add] at this
  exact ⟨q, 0, A1, n1, c1, k, g, A2, n2, c2, p, rfl, get _ _ e0, (by rw [Nat.add_assoc]; exact get _ _ e1), (by rw [Nat.add_assoc]; exact get _ _ e2), (by rw [Nat.add_assoc]; exact get _ _ e3), (by rw [Nat.add_assoc]; exact get _ _ e4), hl.keep hb, Rd.keep hb _ _ hr⟩
end Go.Proofs.YtloeainlpcnhnaaGreat
/-
  Contract of the laws' own awake. No statement is proved here.
-/
namespace Go.Proofs.YtloeainlpcnhnaaGreat
open Go.ChangeShapes Go.WideShapes Go.ChangeAt Go.RowKit
set_option linter.unusedVariables false
def SiE (i e : Int) (w : World) (en : Ending) (w' : World) : Prop := en = .returned (.tuple #[.int .i64 i, .int .i64 e]) ∧ Below w.heap.size w w'
theorem ySigD (sg : List T) (A : Option Addr) (n c : Nat) (w : World) (hx : DL w sg A n c) (hl : LwV sg) {i e : Int} (hi : ((siV sg).1 : Int) = i) (he : (siV sg).2 = e) :
    Calls Tryz.prog 9 #[.slice A n c] w (SiE i e w) := by
  subst hi; subst he
  exact ySigC sg A n c w hx hl
theorem low_leafY {k : Int} (hk : k ≠ 4) : okT loV (.node k 0 []) := by rw [okT, okL]; exact ⟨fun e => absurd e hk, trivial⟩
theorem nat_lw : LwV natS := nat_low.sg
theorem zn_lw : LwV [natT, .node 0 0 []] := fun t ht _ => by
  simp only [natT, List.mem_cons, List.not_mem_nil, or_false] at ht
  rcases ht with rfl | rfl <;> exact low_leafY (by decide)
theorem aw_s : siV natS = (0, 0) := by kernel_rfl
theorem aw_z : siV [natT, .node 0 0 []] = (0, 2) := by kernel_rfl
theorem aw_c1 : cfV [natT] [natT, natT] = true := by kernel_rfl
theorem aw_c2 : cfV [] [natT] = false := by kernel_rfl
set_option maxRecDepth 100000 in
set_option maxHeartbeats 16000000 in
theorem yAwakeC (w : World) : Calls Tryz.prog 6 #[] w fun e w' => e = .returned (.bool true) ∧ Below w.heap.size w w' := by
  go_enter Tryz.func6, Tryz.ntmps6
  go_wp2_with fail
  refine (vNatC _).mono ?_
  rintro e w1 ⟨q, rfl, hdl, hb1⟩
  have HD := Lib.hid hdl
  have HB1 := Lib.hid hb1; clear hb1 hdl
  go_wp2_with fail
  refine (ySigD natS _ 3 3 w1 HD.out nat_lw (congrArg (fun p => ((p.1 : Nat) : Int)) aw_s) (congrArg Prod.snd aw_s)).mono ?_
  rintro e w2 ⟨rfl, hb2⟩
  have HD2 := Lib.hid (HD.out.keep hb2)
  have HB2 := Lib.hid (HB1.out.trans (hb2.mono HB1.out.size))
  clear hb2 HD HB1
  go_wp2_with fail
  obtain ⟨b, o, s0, k0, h0, A0, n0, c0, e0, d0, d1, d2, d3, hr0⟩ := HD2.out.at_ 0 _ rfl
  cases e0
  obtain ⟨b, o, s1, k1, h1, A1, n1, c1, e1, f0, f1, f2, f3, hr1⟩ := HD2.out.at_ 1 _ rfl
  cases e1
  simp only [Nat.zero_mul, Nat.zero_add, Nat.one_mul, Nat.reduceAdd] at d0 d1 d2 d3 f0 f1 f2 f3
  have HR0 := Lib.hid hr0
  have HR1 := Lib.hid hr1
  clear hr0 hr1
  have HKS : Hid (∀ w' : World, Below w2.heap.size w2 w' → (fun w' => w'.cell? ⟨q, 0, none⟩ = some (.string s0) ∧ w'.cell? ⟨q, 1, none⟩ = some (.int .i64 k0) ∧ w'.cell? ⟨q, 2, none⟩ = some (.int .i64 h0) ∧ w'.cell? ⟨q, 3, none⟩ = some (.slice A0 n0 c0) ∧ w'.cell? ⟨q, 4, none⟩ = some (.string s1) ∧ w'.cell? ⟨q, 5, none⟩ = some (.int .i64 k1) ∧ w'.cell? ⟨q, 6, none⟩ = some (.int .i64 h1) ∧ w'.cell? ⟨q, 7, none⟩ = some (.slice A1 n1 c1)) w') := Lib.hid fun w' h => ⟨(h.cell (cell_lt d0)).trans d0, (h.cell (cell_lt d1)).trans d1, (h.cell (cell_lt d2)).trans d2, (h.cell (cell_lt d3)).trans d3, (h.cell (cell_lt f0)).trans f0, (h.cell (cell_lt f1)).trans f1, (h.cell (cell_lt f2)).trans f2, (h.cell (cell_lt f3)).trans f3⟩
  have hbd : Below w2.heap.size w2 w2.drew := (Below.refl _ w2).drew
  refine wp_region_held_drew (S := fun w' => w'.cell? ⟨q, 0, none⟩ = some (.string s0) ∧ w'.cell? ⟨q, 1, none⟩ = some (.int .i64 k0) ∧ w'.cell? ⟨q, 2, none⟩ = some (.int .i64 h0) ∧ w'.cell? ⟨q, 3, none⟩ = some (.slice A0 n0 c0) ∧ w'.cell? ⟨q, 4, none⟩ = some (.string s1) ∧ w'.cell? ⟨q, 5, none⟩ = some (.int .i64 k1) ∧ w'.cell? ⟨q, 6, none⟩ = some (.int .i64 h1) ∧ w'.cell? ⟨q, 7, none⟩ = some (.slice A1 n1 c1)) (by kernel_rfl) (HKS.out _ hbd) (fun hS => ?_)
  simp only [List.size_toArray, List.length_cons, List.length_nil, Nat.reduceAdd]
  refine wpAnyH_take (i := 0) (v := .slice (some ⟨q, 0, none⟩) 3 3) rfl (by kernel_rfl) (by kernel_rfl) (by kernel_rfl) (fun _ _ _ h => h) (Or.inl ⟨by kernel_rfl, ?_⟩) hS ?_
  · intro w' hSw
    obtain ⟨s0, s1, s2, s3, s4, s5, s6, s7⟩ := hSw
    go_simp
  try simp only [Act.put, List.setIfInBounds_toArray]
  refine wpAnyH_take (i := 1) (v := .pointer (some ⟨q, 4, none⟩)) rfl (by kernel_rfl) (by kernel_rfl) (by kernel_rfl) (fun _ _ _ h => h) (Or.inl ⟨by kernel_rfl, ?_⟩) hS ?_
  · intro w' hSw
    obtain ⟨s0, s1, s2, s3, s4, s5, s6, s7⟩ := hSw
    go_simp
  try simp only [Act.put]
  refine wpAnyH_take (i := 2) (v := .agg #[.string s1, .int .i64 k1, .int .i64 h1, .slice A1 n1 c1]) rfl (by kernel_rfl) (by kernel_rfl) (by kernel_rfl) (fun _ _ _ h => h) (Or.inl ⟨by kernel_rfl, ?_⟩) hS ?_
  · intro w' hSw
    obtain ⟨s0, s1, s2, s3, s4, s5, s6, s7⟩ := hSw
    go_simp
  try simp only [Act.put]
  refine wpAnyH_take (i := 3) (v := .slice (some ⟨q, 0, none⟩) 3 3) rfl (by kernel_rfl) (by kernel_rfl) (by kernel_rfl) (fun _ _ _ h => h) (Or.inl ⟨by kernel_rfl, ?_⟩) hS ?_
  · intro w' hSw
    obtain ⟨s0, s1, s2, s3, s4, s5, s6, s7⟩ := hSw
    go_simp
  try simp only [Act.put]
  refine wpAnyH_take (i := 4) (v := .pointer (some ⟨q, 0, none⟩)) rfl (by kernel_rfl) (by kernel_rfl) (by kernel_rfl) (fun _ _ _ h => h) (Or.inl ⟨by kernel_rfl, ?_⟩) hS ?_
  · intro w' hSw
    obtain ⟨s0, s1, s2, s3, s4, s5, s6, s7⟩ := hSw
    go_simp
  try simp only [Act.put]
  refine wpAnyH_take (i := 5) (v := .agg #[.string s0, .int .i64 k0, .int .i64 h0, .slice A0 n0 c0]) rfl (by kernel_rfl) (by kernel_rfl) (by kernel_rfl) (fun _ _ _ h => h) (Or.inl ⟨by kernel_rfl, ?_⟩) hS ?_
  · intro w' hSw
    obtain ⟨s0, s1, s2, s3, s4, s5, s6, s7⟩ := hSw
    go_simp
  try simp only [Act.put]
  refine wpAnyH_ready (rs := [6]) (by kernel_rfl) (by simp) ?_
  refine AllReadyH.cons rfl (fun KN hK => ?_) AllReadyH.nil
  go_simp
  have hb7 : Below w2.heap.size w2 (w2.alloc (.cells #[.string s1, .int .i64 k1, .int .i64 h1, .slice A1 n1 c1, .string s0, .int .i64 k0, .int .i64 h0, .slice A0 n0 c0] 51)).drew := ((Below.refl _ w2).alloc (Nat.le_refl _) _).drew
  refine hK.out _ _ (HKS.out _ hb7) (fun hS => ?_)
  clear hK KN
  try simp only [Act.put, List.setIfInBounds_toArray, List.set_cons_zero, List.set_cons_succ]
  have xz : Box (w2.alloc (.cells #[.string s1, .int .i64 k1, .int .i64 h1, .slice A1 n1 c1, .string s0, .int .i64 k0, .int .i64 h0, .slice A0 n0 c0] 51)).drew w2.heap.size 51 #[.string s1, .int .i64 k1, .int .i64 h1, .slice A1 n1 c1, .string s0, .int .i64 k0, .int .i64 h0, .slice A0 n0 c0] := Box.drewI (Box.new _ _ _)
  have hdl : DL (w2.alloc (.cells #[.string s1, .int .i64 k1, .int .i64 h1, .slice A1 n1 c1, .string s0, .int .i64 k0, .int .i64 h0, .slice A0 n0 c0] 51)).drew [natT, .node 0 0 []] (some ⟨w2.heap.size, 0, none⟩) 2 2 := ⟨rfl, Nat.le_refl _, by unfold maxLen; omega, fun i x hx => by
    match i, hx with
    | 0, hx => cases hx; exact ⟨_, 0, _, _, _, _, _, _, rfl, xz.cell 0, xz.cell 1, xz.cell 2, xz.cell 3, Rd.keep hb7 _ _ HR1.out⟩
    | 1, hx => cases hx; exact ⟨_, 0, _, _, _, _, _, _, rfl, xz.cell 4, xz.cell 5, xz.cell 6, xz.cell 7, Rd.keep hb7 _ _ HR0.out⟩
    | i + 2, hx => simp at hx⟩
  clear xz
  generalize (w2.alloc (.cells #[.string s1, .int .i64 k1, .int .i64 h1, .slice A1 n1 c1, .string s0, .int .i64 k0, .int .i64 h0, .slice A0 n0 c0] 51)).drew = w7 at *
  refine wpAnyH_ready (rs := [7]) (by kernel_rfl) (by simp) ?_
  refine AllReadyH.cons rfl (fun KN hK => ?_) AllReadyH.nil
  go_simp
  refine (ySigD _ _ 2 2 w7 hdl zn_lw (congrArg (fun p => ((p.1 : Nat) : Int)) aw_z) (congrArg Prod.snd aw_z)).mono ?_
  rintro e w8 ⟨rfl, hb8⟩
  have hb8' : Below w2.heap.size w2 w8 := hb7.trans (hb8.mono hb7.size)
  refine hK.out _ _ (HKS.out _ hb8') (fun hS => ?_)
  clear hK KN
  skip
  refine wpAnyH_take (i := 8) (v := .tuple #[.int .i64 0, .int .i64 2]) rfl (by kernel_rfl) (by kernel_rfl) (by kernel_rfl) (fun _ _ _ h => h) (Or.inl ⟨by kernel_rfl, ?_⟩) hS ?_
  · intro w' hSw
    obtain ⟨s0, s1, s2, s3, s4, s5, s6, s7⟩ := hSw
    go_simp
  try simp only [Act.put, List.setIfInBounds_toArray]
  refine wpAnyH_take (i := 9) (v := .int .i64 0) rfl (by kernel_rfl) (by kernel_rfl) (by kernel_rfl) (fun _ _ _ h => h) (Or.inl ⟨by kernel_rfl, ?_⟩) hS ?_
  · intro w' hSw
    obtain ⟨s0, s1, s2, s3, s4, s5, s6, s7⟩ := hSw
    go_simp
  try simp only [Act.put]
  refine wpAnyH_take (i := 10) (v := .int .i64 2) rfl (by kernel_rfl) (by kernel_rfl) (by kernel_rfl) (fun _ _ _ h => h) (Or.inl ⟨by kernel_rfl, ?_⟩) hS ?_
  · intro w' hSw
    obtain ⟨s0, s1, s2, s3, s4, s5, s6, s7⟩ := hSw
    go_simp
  try simp only [Act.put]
  refine wpAnyH_take (i := 11) (v := .int .i64 0) rfl (by kernel_rfl) (by kernel_rfl) (by kernel_rfl) (fun _ _ _ h => h) (Or.inl ⟨by kernel_rfl, ?_⟩) hS ?_
  · intro w' hSw
    obtain ⟨s0, s1, s2, s3, s4, s5, s6, s7⟩ := hSw
    go_simp
  try simp only [Act.put]
  refine wpAnyH_take (i := 12) (v := .int .i64 2) rfl (by kernel_rfl) (by kernel_rfl) (by kernel_rfl) (fun _ _ _ h => h) (Or.inl ⟨by kernel_rfl, ?_⟩) hS ?_
  · intro w' hSw
    obtain ⟨s0, s1, s2, s3, s4, s5, s6, s7⟩ := hSw
    go_simp
  try simp only [Act.put]
  refine wpAnyH_done (by kernel_rfl) ?_ _
  try simp only [List.setIfInBounds_toArray]
  try simp only [List.getElem_toArray, List.getElem_cons_succ, List.getElem_cons_zero, List.setIfInBounds_toArray, List.set_cons_zero, List.set_cons_succ]
  have HB8 := Lib.hid (HB2.out.trans (hb8'.mono HB2.out.size))
  clear hb8 hb8' hb7 hdl HR0 HR1 hS HKS hbd d0 d1 d2 d3 f0 f1 f2 f3 HD2 HB2
  obtain ⟨W1, hW1⟩ : ∃ W, w8.alloc (.cells #[.int .i64 2, .int .i64 0, .slice none 0 0] 44) = W := ⟨_, rfl⟩
  obtain ⟨W2, hW2⟩ : ∃ W, W1.alloc (.cells #[.int .i64 2, .int .i64 0, .slice none 0 0] 44) = W := ⟨_, rfl⟩
  obtain ⟨W3, hW3⟩ : ∃ W, W2.alloc (.cells #[.int .i64 2, .int .i64 0, .slice none 0 0, .int .i64 2, .int .i64 0, .slice none 0 0] 44) = W := ⟨_, rfl⟩
  have g1 : Below w8.heap.size w8 W1 := by rw [← hW1]; exact (Below.refl _ _).alloc (Nat.le_refl _) _
  have g2 : Below W1.heap.size W1 W2 := by rw [← hW2]; exact (Below.refl _ _).alloc (Nat.le_refl _) _
  have g3 : Below W2.heap.size W2 W3 := by rw [← hW3]; exact (Below.refl _ _).alloc (Nat.le_refl _) _
  have x1 : Box W1 w8.heap.size 44 #[.int .i64 2, .int .i64 0, .slice none 0 0] := by rw [← hW1]; exact Box.new _ _ _
  have l1 : W1.heap.size = w8.heap.size + 1 := by rw [← hW1]; simp
  have l2 : W2.heap.size = w8.heap.size + 1 + 1 := by rw [← hW2, World.size_alloc, l1]
  have x2 : Box W2 (w8.heap.size + 1) 44 #[.int .i64 2, .int .i64 0, .slice none 0 0] := by rw [← hW2]; exact (Box.new _ _ _).at l1
  have x3 : Box W3 (w8.heap.size + 1 + 1) 44 #[.int .i64 2, .int .i64 0, .slice none 0 0, .int .i64 2, .int .i64 0, .slice none 0 0] := by rw [← hW3]; exact (Box.new _ _ _).at l2
  have leaf : ∀ W' : World, Rd W' natT (.agg #[.int .i64 2, .int .i64 0, .slice none 0 0]) := fun W' => rd_leaf (wfV (by omega) (by omega)) (wfV (by omega) (by omega))
  have g23 := g2.trans (g3.mono g2.size)
  have HC1 := Lib.hid (yConformsC [natT] [natT, natT] _ _ 1 1 2 2 W3 (clv_one (x2.keep g3 x2.lt) (leaf _)) (clv_two x3 (leaf _) (leaf _)))
  rw [aw_c1] at HC1
  have HX1 := Lib.hid (x1.keep g23 x1.lt)
  have HBW := Lib.hid (HB8.out.trans ((g1.trans (g23.mono g1.size)).mono HB8.out.size))
  have hlt := x1.lt
  obtain ⟨c0, c1, c2⟩ := x1.three
  have q0 := x1.frozen 0
  have q1 := x1.frozen 1
  have q2 := x1.frozen 2
  have HSZ := Lib.hid (show W3.heap.size = w8.heap.size + 1 + 1 + 1 by rw [← hW3, World.size_alloc, l2])
  clear x1 x2 x3 g1 g2 g3 g23 leaf HB8 l1 l2
  subst hW1
  subst hW2
  subst hW3
  go_wp2_with fail
  clear c0 c1 c2 q0 q1 q2
  refine HC1.out.mono ?_
  rintro e w9 ⟨rfl, hb9⟩
  have HBX := Lib.hid (HBW.out.trans (hb9.mono HBW.out.size))
  obtain ⟨c0, c1, c2⟩ := (HX1.out.keep hb9 HX1.out.lt).three
  have HZ := Lib.hid (Nat.lt_of_lt_of_le HX1.out.lt hb9.size)
  clear HC1 HX1 HBW hlt hb9 HSZ
  obtain ⟨W4, hW4⟩ : ∃ W, w9.alloc (.cells #[.int .i64 2, .int .i64 0, .slice none 0 0] 44) = W := ⟨_, rfl⟩
  have g4 : Below w9.heap.size w9 W4 := by rw [← hW4]; exact (Below.refl _ _).alloc (Nat.le_refl _) _
  have x4 : Box W4 w9.heap.size 44 #[.int .i64 2, .int .i64 0, .slice none 0 0] := by rw [← hW4]; exact Box.new _ _ _
  have HC2 := Lib.hid (yConformsC [] [natT] none _ 0 0 1 1 W4 (clv_nil _ _ _ (Nat.zero_le _)) (clv_one x4 (rd_leaf (wfV (by omega) (by omega)) (wfV (by omega) (by omega)))))
  rw [aw_c2] at HC2
  have HBY := Lib.hid (HBX.out.trans (g4.mono HBX.out.size))
  clear x4 g4 HBX
  subst hW4
  go_wp2_with fail
  refine HC2.out.mono ?_
  rintro e w10 ⟨rfl, hb10⟩
  have HBZ := Lib.hid (HBY.out.trans (hb10.mono HBY.out.size))
  clear hb10 c0 c1 c2 HC2
  go_wp2_with fail
  go_ret
  exact ⟨rfl, HBZ.out⟩
end Go.Proofs.YtloeainlpcnhnaaGreat
/-
  Terms, and declarations, that are appended to rows of a call's own. No statement is proved here.
-/
namespace Go.Proofs.YtloeainlpcnhnaaGreat
open Go.ChangeShapes Go.WideShapes Go.ChangeAt Go.RowKit
set_option linter.unusedVariables false
/-- cells that are terms, three by three, as some world reads what they hold -/
def KTv (W0 : World) (cs : List Value) (xs : List T) : Prop :=
  ∀ i x, xs[i]? = some x → ∃ k g A0 n0 c0, cs[i * 3]? = some (.int .i64 k) ∧ cs[i * 3 + 1]? = some (.int .i64 g) ∧ cs[i * 3 + 2]? = some (.slice A0 n0 c0) ∧ Rd W0 x (.agg #[.int .i64 k, .int .i64 g, .slice A0 n0 c0])
theorem KTv.app {W0 : World} {cs1 cs2 : List Value} {xs1 xs2 : List T} (h1 : KTv W0 cs1 xs1) (h2 : KTv W0 cs2 xs2) (hlen : cs1.length = xs1.length * 3) : KTv W0 (cs1 ++ cs2) (xs1 ++ xs2) := fun i x hx => by
  by_cases hi : i < xs1.length
  · rw [List.getElem?_append_left hi] at hx
    obtain ⟨k, g, A0, n0, c0, e1, e2, e3, hr⟩ := h1 i x hx
    have up : ∀ j u, cs1[j]? = some u → (cs1 ++ cs2)[j]? = some u := fun j u hj => by
      rw [List.getElem?_append_left (List.getElem?_eq_some_iff.1 hj).1]; exact hj
    exact ⟨k, g, A0, n0, c0, up _ _ e1, up _ _ e2, up _ _ e3, hr⟩
  · rw [List.getElem?_append_right (by omega)] at hx
    obtain ⟨k, g, A0, n0, c0, e1, e2, e3, hr⟩ := h2 _ x hx
    have up : ∀ q u, cs2[(i - xs1.length) * 3 + q]? = some u → (cs1 ++ cs2)[i * 3 + q]? = some u := fun q u hj => by
      rw [List.getElem?_append_right (by omega), hlen, show i * 3 + q - xs1.length * 3 = (i - xs1.length) * 3 + q by omega]; exact hj
    exact ⟨k, g, A0, n0, c0, up 0 _ e1, up 1 _ e2, up 2 _ e3, hr⟩
theorem CLV.rawV {w : World} {xs : List T} {A : Option Addr} {n c : Nat} (h : CLV w xs A n c) : ∃ cs : List Value, cs.length = n * 3 ∧ (∀ j u, cs[j]? = some u → ∃ b o, A = some ⟨b, o, none⟩ ∧ w.cell? ⟨b, o + j, none⟩ = some u) ∧ (∀ u ∈ cs, u.oneCell' = true) ∧ KTv w cs xs := by
  have key : ∀ m, m ≤ n → ∃ cs : List Value, cs.length = m * 3 ∧ (∀ j u, cs[j]? = some u → ∃ b o, A = some ⟨b, o, none⟩ ∧ w.cell? ⟨b, o + j, none⟩ = some u) ∧ (∀ u ∈ cs, u.oneCell' = true) ∧ KTv w cs (xs.take m) := by
    intro m
    induction m with
    | zero => intro _; exact ⟨[], rfl, fun j u hu => by simp at hu, fun u hu => absurd hu (by simp), fun i x hx => by simp at hx⟩
    | succ m ih =>
      intro hm
      obtain ⟨cs, h1, h2, h3, h4⟩ := ih (by omega)
      obtain ⟨x, hx⟩ := at_of h.len (show m < n by omega)
      obtain ⟨b, o, k, g, A', n', c', rfl, d0, d1, d2, hr⟩ := (h.at_ m x hx).full
      have happ : ∀ q u, [Value.int .i64 k, .int .i64 g, .slice A' n' c'][q]? = some u → w.cell? ⟨b, o + (m * 3 + q), none⟩ = some u := fun q u hu => by
        match q, hu with
        | 0, hu => cases hu; exact d0
        | 1, hu => cases hu; exact d1
        | 2, hu => cases hu; exact d2
        | q + 3, hu => simp at hu
      have hs : KTv w [Value.int .i64 k, .int .i64 g, .slice A' n' c'] [x] := fun i y hy => by
        match i, hy with
        | 0, hy => cases hy; exact ⟨k, g, A', n', c', rfl, rfl, rfl, hr⟩
        | i + 1, hy => simp at hy
      refine ⟨cs ++ [.int .i64 k, .int .i64 g, .slice A' n' c'], by rw [List.length_append, h1]; simp; omega, fun j u hu => ?_, fun u hu => ?_, ?_⟩
      · by_cases hj : j < cs.length
        · rw [List.getElem?_append_left hj] at hu
          exact h2 j u hu
        · rw [List.getElem?_append_right (by omega)] at hu
          have := happ _ _ hu
          rw [show m * 3 + (j - cs.length) = j by omega] at this
          exact ⟨b, o, rfl, this⟩
      · rcases List.mem_append.1 hu with hu | hu
        · exact h3 u hu
        · simp at hu
          rcases hu with rfl | rfl | rfl <;> rfl
      · rw [List.take_add_one, hx]
        exact h4.app hs (by rw [h1, List.length_take, h.len]; omega)
  obtain ⟨cs, h1, h2, h3, h4⟩ := key n (Nat.le_refl _)
  rw [List.take_of_length_le (by rw [h.len]; omega)] at h4
  exact ⟨cs, h1, h2, h3, h4⟩
/-- a row of a call's own that holds terms -/
structure RowTv (W0 w : World) (A : Option Addr) (n c : Nat) (xs : List T) (cs : List Value) : Prop where
  own : w.ownsRow W0.heap.size 44 3 (.slice A n c) n cs
  len : xs.length = n
  kids : KTv W0 cs xs
theorem RowTv.none (W0 w : World) : RowTv W0 w none 0 0 [] [] := ⟨World.ownsRow_nil _ _ _ _, rfl, fun i x hx => by simp at hx⟩
theorem RowTv.cap {W0 w : World} {A : Option Addr} {n c : Nat} {xs : List T} {cs : List Value} (h : RowTv W0 w A n c xs cs) : n ≤ c ∧ c ≤ maxLen := by
  rcases h.own.2 with ⟨e, h0⟩ | ⟨g', cap', cur, hv, _, _, h1, h2, _⟩
  · cases e; exact ⟨Nat.le_refl _, Nat.zero_le _⟩
  · cases hv; exact ⟨h1, h2⟩
theorem RowTv.lst {W0 w : World} {A : Option Addr} {n c : Nat} {xs : List T} {cs : List Value} (h : RowTv W0 w A n c xs cs) (hb : Below W0.heap.size W0 w) : CLV w xs A n c := by
  refine ⟨h.len, h.cap.1, h.cap.2, fun i x hx => ?_⟩
  have hi : i < n := by have := (List.getElem?_eq_some_iff.1 hx).1; rw [h.len] at this; exact this
  obtain ⟨k, g, A0, n0, c0, e1, e2, e3, hr⟩ := h.kids i x hx
  obtain ⟨q, hq⟩ : ∃ q, A = some ⟨q, 0, Option.none⟩ := by
    rcases h.own.2 with ⟨e, h0⟩ | ⟨g', cap', cur, hv, _⟩
    · omega
    · cases hv; exact ⟨_, rfl⟩
  subst hq
  have get : ∀ j u, cs[j]? = some u → w.cell? ⟨q, 0 + j, Option.none⟩ = some u := fun j u hj => by
    have := h.own.cells (g := q) rfl j u hj
    rwa [addr_add] at this
  exact ⟨q, 0, _, _, _, rfl, get _ _ e1, (by rw [Nat.add_assoc]; exact get _ _ e2), (by rw [Nat.add_assoc]; exact get _ _ e3), Rd.keep hb _ _ hr⟩
theorem RowTv.kept {W0 w w' : World} {A : Option Addr} {n c : Nat} {xs : List T} {cs : List Value} (h : RowTv W0 w A n c xs cs) (hb : Below w.heap.size w w') : RowTv W0 w' A n c xs cs :=
  ⟨h.own.kept (grown_of_below hb) (own_none _), h.len, h.kids⟩
theorem RowDv.kept {W0 w w' : World} {A : Option Addr} {n c : Nat} {xs : List T} {cs : List Value} (h : RowDv W0 w A n c xs cs) (hb : Below w.heap.size w w') : RowDv W0 w' A n c xs cs :=
  ⟨h.own.kept (grown_of_below hb) (own_none _), h.len, h.kids⟩
theorem rowT_raw {W0 W : World} {A1 : Option Addr} {n1 c1 : Nat} {xs1 : List T} {cs1 : List Value} (h1 : RowTv W0 W A1 n1 c1 xs1 cs1) {b o n2 c2 : Nat} {xs2 : List T} {cs2 : List Value} (hl : xs2.length = n2) (g1 : cs2.length = n2 * 3)
    (g2 : ∀ j u, cs2[j]? = some u → W.cell? ⟨b, o + j, none⟩ = some u) (g3 : ∀ u ∈ cs2, u.oneCell' = true) (g4 : KTv W0 cs2 xs2) (hp : 0 < n2) (hn : n1 + n2 ≤ 100000) (hb : Below W0.heap.size W0 W) :
    ∃ g c w' cs, (Builtin.append_ #[24, 24] 24 #[.slice A1 n1 c1, .slice (some ⟨b, o, none⟩) n2 c2]).run Tryz.prog W = .ok (.slice (some ⟨g, 0, none⟩) (n1 + n2) c) w' ∧ RowTv W0 w' (some ⟨g, 0, none⟩) (n1 + n2) c (xs1 ++ xs2) cs ∧ Below W0.heap.size W0 w' ∧ W.grownBy w' (Value.slice A1 n1 c1).ownBlock ∧ ((Value.slice A1 n1 c1).ownBlock = some g ∨ g = W.heap.size) := by
  obtain ⟨i0, hi, hz0, hz1, hz2⟩ := info_parts infoTerm
  obtain ⟨g, cap, w', hrun, how, hgr, hfr, _⟩ := run_append_lies (P := Tryz.prog) W 24 24 W0.heap.size 44 i0 _ 3 40 Tryz.underlying24 hi hz0 hz1 hz2 rfl (by omega) (.slice A1 n1 c1) n1 cs1
    h1.own ⟨b, o, none⟩ n2 c2 cs2 g1 (fun j u hu => by rw [addr_add]; exact g2 j u hu) g3 hp (by unfold maxLen; omega) (by omega) hb.size _ rfl
  have hbw : Below W0.heap.size W0 w' := below_grown hb hgr (fun r hr' => (h1.own.lt r hr').1) hb.size
  exact ⟨g, cap, w', _, hrun, ⟨how, by rw [List.length_append, h1.len, hl], h1.kids.app g4 (by rw [h1.own.1, h1.len])⟩, hbw, hgr, hfr⟩
/-- one that a block of its own holds -/
theorem rowT_one {W0 W : World} {A1 : Option Addr} {n1 c1 : Nat} {xs1 : List T} {cs1 : List Value} (h1 : RowTv W0 W A1 n1 c1 xs1 cs1) {P : Nat} {ty : TypeId} {k g : Int} {A2 : Option Addr} {n2 c2 : Nat} {x : T} (hP : Box W P ty #[.int .i64 k, .int .i64 g, .slice A2 n2 c2]) (hx : Rd W0 x (.agg #[.int .i64 k, .int .i64 g, .slice A2 n2 c2]))
    (hn : n1 + 1 ≤ 100000) (hb : Below W0.heap.size W0 W) :
    ∃ q c w' cs, (Builtin.append_ #[24, 24] 24 #[.slice A1 n1 c1, .slice (some ⟨P, 0, none⟩) 1 1]).run Tryz.prog W = .ok (.slice (some ⟨q, 0, none⟩) (n1 + 1) c) w' ∧ RowTv W0 w' (some ⟨q, 0, none⟩) (n1 + 1) c (xs1 ++ [x]) cs ∧ Below W0.heap.size W0 w' ∧ W.grownBy w' (Value.slice A1 n1 c1).ownBlock ∧ ((Value.slice A1 n1 c1).ownBlock = some q ∨ q = W.heap.size) :=
  rowT_raw (b := P) (o := 0) (n2 := 1) (c2 := 1) (xs2 := [x]) (cs2 := [.int .i64 k, .int .i64 g, .slice A2 n2 c2]) h1 rfl rfl (fun j u hu => by
    rw [Nat.zero_add]
    match j, hu with
    | 0, hu => cases hu; exact hP.cell 0
    | 1, hu => cases hu; exact hP.cell 1
    | 2, hu => cases hu; exact hP.cell 2
    | j + 3, hu => simp at hu) (fun u hu => by
    simp at hu
    rcases hu with rfl | rfl | rfl <;> rfl) (fun i y hy => by
    match i, hy with
    | 0, hy => cases hy; exact ⟨k, g, A2, n2, c2, rfl, rfl, rfl, hx⟩
    | i + 1, hy => simp at hy) (by omega) hn hb
/-- all are appended to nothing -/
theorem rowT_new {W0 W : World} {A2 : Option Addr} {n2 c2 : Nat} {xs2 : List T} (h2 : CLV W0 xs2 A2 n2 c2) (hn : n2 ≤ 100000) (hb : Below W0.heap.size W0 W) :
    ∃ A c w' cs, (Builtin.append_ #[24, 24] 24 #[.slice none 0 0, .slice A2 n2 c2]).run Tryz.prog W = .ok (.slice A n2 c) w' ∧ RowTv W0 w' A n2 c xs2 cs ∧ Below W.heap.size W w' := by
  rcases Nat.eq_zero_or_pos n2 with rfl | hp
  · obtain ⟨i0, hi, hz0, hz1, hz2⟩ := info_parts infoTerm
    have hds : xs2 = [] := List.length_eq_zero_iff.1 h2.len
    subst hds
    refine ⟨none, 0, W, [], ?_, RowTv.none _ _, Below.refl _ _⟩
    cases A2 <;> simp [Builtin.append_, run_underlying Tryz.underlying24, sizeOf, typeInfo, hi, Builtin.lenOf, Builtin.firstCells, loadCells, loadCellsFrom]
  · obtain ⟨cs2, g1, g2, g3, g4⟩ := h2.rawV
    obtain ⟨x, hx⟩ := at_of h2.len hp
    obtain ⟨b, o, _, _, _, e, _⟩ := h2.at_ 0 x hx
    subst e
    obtain ⟨g, c, w', cs, hrun, hr, _, hg, _⟩ := rowT_raw (c2 := c2) (RowTv.none W0 W) h2.len g1 (fun j u hu => by
      obtain ⟨b', o', e, hc⟩ := g2 j u hu
      cases e
      exact (hb.cell (cell_lt hc)).trans hc) g3 g4 hp (by omega) hb
    rw [Nat.zero_add] at hrun hr
    rw [List.nil_append] at hr
    exact ⟨_, c, w', cs, hrun, hr, below_grown (Below.refl _ _) hg (fun r h => by cases h) (Nat.le_refl _)⟩
end Go.Proofs.YtloeainlpcnhnaaGreat
