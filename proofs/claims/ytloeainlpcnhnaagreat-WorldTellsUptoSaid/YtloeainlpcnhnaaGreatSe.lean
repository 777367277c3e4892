/-
  Contract of package node's list rebuilt by a function value.
-/
import Derived.Test.YtloeainlpcnhnaaGreatSh
namespace Go.Proofs.YtloeainlpcnhnaaGreat
open Go.ChangeShapes Go.WideShapes Go.ChangeAt Go.RowKit
set_option linter.unusedVariables false

/-- a list of terms of its own, from block lo on -/
def OwL (w : World) (lo n : Nat) (ys : List T) (v : Value) : Prop :=
  ys.length = n ∧ ((n = 0 ∧ v = .slice none 0 0) ∨ ∃ b cs, v = .slice (some ⟨b, 0, none⟩) n n ∧ lo ≤ b ∧ Box w b 44 cs ∧ cs.size = n * 3 ∧ Kids w (fun g => b < g) cs ys)

theorem Kids.snoc {w w' : World} {ok : Nat → Prop} {cs : Array Value} {ys : List T} {j : Nat} {t : T} {k h : Int} {A : Option Addr} {n c : Nat} (hk : Kids w ok cs ys) (hl : ys.length = j) (hm : ∀ b, ok b → b < w.heap.size → w'.heap[b]? = w.heap[b]?)
    (hr : RdF ok w' t (.agg #[.int .i64 k, .int .i64 h, .slice A n c])) (hsz : j * 3 + 2 < cs.size) :
    Kids w' ok (((cs.setIfInBounds (j * 3) (.int .i64 k)).setIfInBounds (j * 3 + 1) (.int .i64 h)).setIfInBounds (j * 3 + 2) (.slice A n c)) (ys ++ [t]) := by
  have h1 : (ys ++ [t]).take j = ys := by rw [← hl, List.take_left]
  have h2 : (ys ++ [t]).take (j + 1) = ys ++ [t] := List.take_of_length_le (by simp [hl])
  have h3 : (ys ++ [t])[j]? = some t := by rw [← hl, List.getElem?_append_right (Nat.le_refl _)]; simp
  have := Kids.put (xs := ys ++ [t]) (j := j) (by rw [h1]; exact hk) hm h3 hr hsz
  rwa [h2] at this

theorem Kids.move {w w' : World} {ok : Nat → Prop} {cs : Array Value} {ys : List T} (hk : Kids w ok cs ys) (hm : ∀ b, ok b → b < w.heap.size → w'.heap[b]? = w.heap[b]?) : Kids w' ok cs ys := fun i t ht => by
  obtain ⟨k', h', A', n', c', e0, e1, e2, hr⟩ := hk i t ht
  exact ⟨k', h', A', n', c', e0, e1, e2, RdF.move (fun _ h => h) hm _ _ hr⟩

def EEnd (o : Option (List T)) (n : Nat) (w : World) (e : Ending) (w' : World) : Prop :=
  Below w.heap.size w w' ∧ ((∃ ys v, o = some ys ∧ e = .returned (.tuple #[v, .bool true]) ∧ OwL w' w.heap.size n ys v) ∨ (o = none ∧ e = .returned (.tuple #[.slice none 0 0, .bool false])))

set_option maxRecDepth 100000 in
set_option maxHeartbeats 4000000 in
theorem eachC (xs : List T) (A : Option Addr) (n c : Nat) (p1 p2 p3 : Value) (g : Nat → T → Option T) (w : World) (hn : xs.length = n) (hc : n ≤ c) (hm : c ≤ maxLen) (hn40 : n ≤ 3518437208780) (hx : ∀ i t, xs[i]? = some t → RdAt w A i t)
    (HF : ∀ (i : Nat) (t : T) (v : Value) (W : World), xs[i]? = some t → Below w.heap.size w W → Rd W t v → Calls Tryz.prog 150 #[.int .i64 i, v, p1, p2, p3] W (REnd (g i t) W)) :
    Calls Tryz.prog 149 #[.slice A n c, .func (.func 150) #[] #[p1, p2, p3]] w (EEnd (eachP g xs 0) n w) := by
  unfold maxLen at hm
  have HN := Lib.hid hn; clear hn
  have HX := Lib.hid hx; clear hx
  have HF' := Lib.hid HF; clear HF
  obtain ⟨i0, hi, hz0, hz1, hz2⟩ := info_parts infoTerm
  have hmk : ∀ W : World, (Instr.makeSlice 24 (.int .i64 (n : Int)) (.int .i64 (n : Int))).run Tryz.prog W = .ok (.slice (some ⟨W.heap.size, 0, none⟩) n n) (W.alloc (.cells (madeCells #[.int .i64 0, .int .i64 0, .slice none 0 0] (n * 3)) 44)) := by
    intro W
    have := run_make W 24 44 i0 _ Tryz.underlying24 hi hz0 .i64 .i64 (n : Int) (n : Int) (by omega) (Int.le_refl _) (by rw [hz2]; omega) (by omega)
    rw [hz1] at this
    simpa [Value.cells] using this
  clear hi hz0 hz1 hz2
  by_cases h0 : n = 0
  · subst h0
    have hxs : xs = [] := List.length_eq_zero_iff.1 HN.out
    go_enter Tryz.func149, Tryz.ntmps149
    go_wp2_with fail
    go_ret2
    exact ⟨Below.refl _ _, .inl ⟨[], _, by rw [hxs, eachP], rfl, rfl, .inl ⟨rfl, rfl⟩⟩⟩
  · have e0 : ((n : Int) == 0) = false := by rw [beq_eq_false_iff_ne]; omega
    go_enter Tryz.func149, Tryz.ntmps149
    go_wp2_with fail
    have hcs := size_madeCells #[.int .i64 0, .int .i64 0, .slice none 0 0] (n * 3)
    generalize madeCells #[.int .i64 0, .int .i64 0, .slice none 0 0] (n * 3) = cs0 at *
    have hb : Below w.heap.size w (w.alloc (.cells cs0 44)) := (Below.refl _ w).alloc (Nat.le_refl _) _
    have x3 := Box.new w 44 cs0
    have HCS := Lib.hid hcs; clear hcs hmk
    go_loopw [19] (fun i wr => ∃ (j : Nat) (cs : Array Value) (ys : List T), j ≤ n ∧ i = .int .i64 j ∧ Box wr w.heap.size 44 cs ∧ Hid (cs.size = n * 3) ∧
      Hid (ys.length = j ∧ eachP g xs 0 = (eachP g (xs.drop j) j).map (ys ++ ·)) ∧ Kids wr (fun g => w.heap.size < g) cs ys ∧ Below w.heap.size w wr) (fun i _ => n - (intOf i).toNat)
    case atStart => exact ⟨0, cs0, [], Nat.zero_le _, rfl, x3, HCS, Lib.hid ⟨rfl, by simp⟩, fun i t ht => by simp at ht, hb⟩
    case round =>
      obtain ⟨j, cs, ys, hj, rfl, y3, HC, HP, hkids, hbr⟩ := hrel
      have HK := Lib.hid hkids; clear hkids
      clear x3 hb
      by_cases hlt : j < n
      · obtain ⟨t, ht⟩ := at_of HN.out hlt
        obtain ⟨b, o, k2, h2, A2, n2, c2', rfl, c0, c1, c2, hr⟩ := (RdAt.keep hbr (HX.out j t ht)).full
        have HT := Lib.hid ht; clear ht
        have HP' := HP.out
        rw [drop_at HT.out, eachP] at HP'
        have HP2 := Lib.hid HP'; clear HP' HP
        have hi0 : (0 : Int) ≤ j := by omega
        have hi1 : (j : Int) < n := by omega
        go_wp2_with fail
        have z3 := y3.alloc (.cells #[.int .i64 k2, .int .i64 h2, .slice A2 n2 c2'] 44)
        have hbA : Below wr.heap.size wr (wr.alloc (.cells #[.int .i64 k2, .int .i64 h2, .slice A2 n2 c2'] 44)) := (Below.refl _ wr).alloc (Nat.le_refl _) _
        generalize wr.alloc (.cells #[.int .i64 k2, .int .i64 h2, .slice A2 n2 c2'] 44) = Wa at *
        clear c0 c1 c2
        refine (HF'.out j t _ _ HT.out (hbr.trans (hbA.mono hbr.size)) (Rd.keep hbA _ _ hr)).mono ?_
        rintro e w1 ⟨hb1, ⟨t', v', hg, rfl, how⟩ | ⟨hg, rfl⟩⟩
        · obtain ⟨k3, h3, A3, n3, c3, rfl⟩ := how.full
          have g3 := z3.keep hb1 z3.lt
          have l3 := g3.lt
          have la : wr.heap.size ≤ Wa.heap.size := hbA.size
          have lz := z3.lt
          have ly := y3.lt
          have hbw : Below wr.heap.size wr w1 := hbA.trans (hb1.mono hbA.size)
          have hr3 : RdF (fun g => w.heap.size < g) w1 t' (.agg #[.int .i64 k3, .int .i64 h3, .slice A3 n3 c3]) :=
            RdF.move (fun g hg => by omega) (fun _ _ _ => rfl) _ _ how.rdF
          have hk3 : Kids w1 (fun g => w.heap.size < g) cs ys := HK.out.move fun g _ hg => hbw.block g hg
          have HR3 := Lib.hid hr3; clear hr3
          have HK3 := Lib.hid hk3; clear hk3 HK how
          have HBW := Lib.hid hbw; clear hbw hb1 hbA
          obtain ⟨u0, hu0⟩ := g3.there (i := j * 3) (by rw [HC.out]; omega)
          obtain ⟨u1, hu1⟩ := g3.there (i := j * 3 + 1) (by rw [HC.out]; omega)
          obtain ⟨u2, hu2⟩ := g3.there (i := j * 3 + 2) (by rw [HC.out]; omega)
          have f0 := g3.frozen (j * 3)
          have f1 := g3.frozen (j * 3 + 1)
          have f2 := g3.frozen (j * 3 + 2)
          go_wp2_with fail
          go_roundw
          case rel =>
            have hset : ∀ g, w.heap.size < g → g < w1.heap.size → (((((w1.setCell ⟨w.heap.size, j * 3, none⟩ (.int .i64 k3)).setCell ⟨w.heap.size, j * 3 + 1, none⟩ (.int .i64 h3)).setCell ⟨w.heap.size, j * 3 + 2, none⟩ (.slice A3 n3 c3))).alloc (.cells #[.int .i64 k3, .int .i64 h3, .slice A3 n3 c3] 44)).heap[g]? = w1.heap[g]? := fun g hg hg' => by
              rw [Below.heap_alloc _ _ _ (by simpa using hg'), Below.heap_setCell _ _ _ _ (by dsimp only; omega), Below.heap_setCell _ _ _ _ (by dsimp only; omega), Below.heap_setCell _ _ _ _ (by dsimp only; omega)]
            refine ⟨j + 1, _, ys ++ [t'], by omega, by go_num, (((g3.setAt _ _).setAt _ _).setAt _ _).alloc _, Lib.hid (by simp [HC.out]), Lib.hid ⟨by simp [HP2.out.1], ?_⟩, HK3.out.snoc HP2.out.1 hset (RdF.move (fun _ h => h) hset _ _ HR3.out) (by rw [HC.out]; omega), ?_⟩
            · have e := HP2.out.2
              rw [hg] at e
              rw [e, Option.bind_some, Option.map_map]
              congr 1
              funext l
              simp
            · exact ((((hbr.trans (HBW.out.mono hbr.size)).setCell (by dsimp only; omega) _).setCell (by dsimp only; omega) _).setCell (by dsimp only; omega) _).alloc (by simp; omega) _
          case measure => simp [intOf]; omega
        · go_wp2_with fail
          go_ret2
          refine ⟨?_, .inr ⟨?_, rfl⟩⟩
          · exact (hbr.trans ((hbA.trans (hb1.mono hbA.size)).mono hbr.size)).alloc (by have := hbr.size; have := hbA.size; have := hb1.size; omega) _
          · have e := HP2.out.2
            rw [hg] at e
            rw [e]
            rfl
      · go_wp2_with fail
        go_ret2
        have HP' := HP.out
        rw [drop_all HN.out (by omega), eachP] at HP'
        refine ⟨hbr, .inl ⟨ys, _, by rw [HP'.2]; simp, rfl, by rw [HP'.1]; omega, .inr ⟨_, cs, rfl, Nat.le_refl _, y3, HC.out, HK.out⟩⟩⟩
end Go.Proofs.YtloeainlpcnhnaaGreat
