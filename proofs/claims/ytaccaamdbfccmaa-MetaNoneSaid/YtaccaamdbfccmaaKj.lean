/-
  Contracts of package meta's Fill, Ctx and All. No statement is proved here.
-/
import Derived.Test.YtaccaamdbfccmaaKi
namespace Go.Proofs.Ytaccaamdbfccmaa
open Go.ChangeShapes Go.WideShapes Go.ChangeAt Go.RowKit
set_option linter.unusedVariables false
set_option maxRecDepth 100000

/-- what a caller hands in for metas -/
structure ThI (th : List T) (w : World) (A : Option Addr) (m cL : Nat) : Prop where
  ok : ∀ x ∈ th, myB x = true → okT 2199023255552 x
  len : th.length = m
  le : m ≤ cL
  cap : cL ≤ maxLen
  at_ : ∀ i x, th[i]? = some x → RdAt w A i x
theorem ThI.keep {th : List T} {w w' : World} {A : Option Addr} {m cL : Nat} (h : ThI th w A m cL) (hb : Below w.heap.size w w') : ThI th w' A m cL :=
  ⟨h.ok, h.len, h.le, h.cap, fun i x hx => RdAt.keep hb (h.at_ i x hx)⟩

set_option maxHeartbeats 4000000 in
theorem FillC {th : List T} {t : T} {A : Option Addr} {m cL : Nat} {n : Int} {v : Value} (w : World) (hth : ThI th w A m cL) (hv : Rd w t v) (ho : myB t = true → okT 2199023255552 t) :
    Calls Try.prog 12 #[v, .slice A m cL, .int .i64 n] w (FnE (fiR th n t) w) := by
  obtain ⟨k, h, At, nt, ct, rfl⟩ := hv.full
  obtain ⟨W, hW⟩ : ∃ W, (w.alloc (.cells #[.int .i64 k, .int .i64 h, .slice At nt ct] 24)).alloc (.cells #[.int .i64 0, .int .i64 0, .slice none 0 0] 24) = W := ⟨_, rfl⟩
  have hb : Below w.heap.size w W := by rw [← hW]; exact ((Below.refl _ _).alloc (Nat.le_refl _) _).alloc (by simp) _
  have x0 : Box W w.heap.size 24 #[.int .i64 k, .int .i64 h, .slice At nt ct] := by rw [← hW]; exact (Box.new _ _ _).alloc _
  have x1 : Box W (w.heap.size + 1) 24 #[.int .i64 0, .int .i64 0, .slice none 0 0] := by rw [← hW]; exact (Box.new (w.alloc _) _ _).at (by simp)
  have HBY := Lib.hid fun W' (h' : Below w.heap.size w W') => byC W' hth.len hth.le hth.cap (hth.keep h').at_
  have HCL := Lib.hid fun W' (h' : Below w.heap.size w W') pm pt hm ht => byFC (n := n) (pm := pm) (pt := pt) W' hth.len hth.le hth.cap (hth.keep h').at_ hm ht (Rd.keep h' _ _ hv) hth.ok ho
  have HW := Lib.hid hW; clear hW hth hv ho
  generalize fiR th n t = R at *
  obtain ⟨a0, a1, a2⟩ := x0.three
  have HB := Lib.hid hb
  go_enter Try.func12, Try.ntmps12
  go_wp2_with fail
  rw [HW.out]
  clear HW
  have hcur : Below W.heap.size W W.drew := (Below.refl _ W).drew
  have szW := HB.out.size
  go_region_held3 (fun w' => w'.cell? ⟨w.heap.size, 0, none⟩ = some (.int .i64 k) ∧ w'.cell? ⟨w.heap.size, 1, none⟩ = some (.int .i64 h) ∧ w'.cell? ⟨w.heap.size, 2, none⟩ = some (.slice At nt ct))
    (first | exact ⟨a0, a1, a2⟩ | exact ⟨q1.three.1, q1.three.2.1, q1.three.2.2⟩ | exact ⟨r1.three.1, r1.three.2.1, r1.three.2.2⟩ | exact ⟨o1.three.1, o1.three.2.1, o1.three.2.2⟩)
    (first
      | (go_at_call 30
         refine (HBY.out _ (HB.out.trans (hcur.mono HB.out.size))).mono ?_
         rintro e w1 ⟨pm, pt, rfl, xm, xt, hb1⟩
         replace hcur := hcur.trans (hb1.mono hcur.size)
         have q1 := x0.keep hcur x0.lt
         have q2 := x1.keep hcur x1.lt
         have HXM := Lib.hid xm
         have HXT := Lib.hid xt
         clear hb1 xm xt)
      | (go_at_call 46
         refine (HCL.out _ (HB.out.trans (hcur.mono HB.out.size)) pm pt HXM.out HXT.out).mono ?_
         intro e w2 hE
         have hbE := hE.below
         obtain ⟨k3, h3, A3, n3, c3, ec, rfl, hout, hfr⟩ := (hE.cen (X := fun _ => False) (c := 0)).uni
         have r1 := q1.keep hbE q1.lt
         have r2 := q2.keep hbE q2.lt
         have s2 := r2.lt
         have s3 := hcur.size
         have s5 := x1.lt
         have HO := Lib.hid hout
         have HBE := Lib.hid hbE
         have HCU := Lib.hid hcur
         clear hout hE hfr hbE
         obtain ⟨y0, y1, y2⟩ := r2.three
         have f0 := r2.frozen 0
         have f1 := r2.frozen 1
         have f2 := r2.frozen 2
         have o1 := r1.other3 (a := w.heap.size + 1) (by omega) (.int .i64 k3) (.int .i64 h3) (.slice A3 n3 c3)))
  clear o1
  go_wp2_with fail
  refine bodyPost_ret (v := .tuple #[.agg #[.int .i64 k3, .int .i64 h3, .slice A3 n3 c3], .int .i64 ec]) (by simp [results, Try.results12, go_sem, y0, y1, y2]) rfl ?_
  exact fne_of (HO.out.move (B' := w.heap.size) (by omega) (fun g hg _ => heap_other3 _ _ _ _ _ _ (by omega)) fun _ _ _ _ => trivial) (below_set3 ((HB.out.trans (HCU.out.mono HB.out.size)).trans (HBE.out.mono (by omega))) (by omega) _ _ _)
end Go.Proofs.Ytaccaamdbfccmaa
