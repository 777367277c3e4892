/-
  Tokens and bytes in memory; rows of them that grow by append; what a text's next rune is, against its bytes. No statement is proved here.
-/
import Derived.Test.YtmkahbbcagfbhaaGreatDoorXc
import Derived.Deep.AppendLies
import Derived.Lib.AppendStr
import Derived.Lib.ConvBytes
import Derived.Laws.IdiomStrings
namespace Go.Proofs.YtmkahbbcagfbhaaGreatDoor
open Go.ChangeShapes Go.WideShapes Go.ChangeAt Go.RowKit
set_option linter.unusedVariables false

theorem cell_ltX {w : World} {a : Addr} {v : Value} (h : w.cell? a = some v) : a.block < w.heap.size := by
  unfold World.cell? at h
  split at h
  · rename_i hh; exact (Array.getElem?_eq_some_iff.1 hh).1
  · cases h
theorem drop_atX {α : Type} {l : List α} {k : Nat} {t : α} (h : l[k]? = some t) : l.drop k = t :: l.drop (k + 1) := by
  obtain ⟨hk, rfl⟩ := List.getElem?_eq_some_iff.1 h
  rw [List.drop_eq_getElem_cons hk]
theorem at_ofX {α : Type} {l : List α} {k n : Nat} (h : l.length = n) (hk : k < n) : ∃ t, l[k]? = some t := ⟨_, List.getElem?_eq_getElem (by omega)⟩
theorem addr_addX {b o : Nat} (i : Nat) : (Addr.mk b o none).add i = ⟨b, o + i, none⟩ := by
  unfold Addr.add
  split
  · rename_i h; subst h; rfl
  · rfl

/-- a variable: a block of its own that holds it -/
def BoxX (w : World) (b : Nat) (ty : TypeId) (cs : Array Value) : Prop := w.heap[b]? = some (.cells cs ty (0, 0))
section
variable {w w' : World} {B b : Nat} {ty : TypeId} {cs : Array Value}
theorem BoxX.cell (h : BoxX w b ty cs) (i : Nat) : w.cell? ⟨b, i, none⟩ = cs[i]? := by
  unfold BoxX at h
  simp [World.cell?, h]
theorem BoxX.frozen (h : BoxX w b ty cs) (i : Nat) : w.frozen? ⟨b, i, none⟩ = false := by
  unfold BoxX at h
  simp [World.frozen?, h]
theorem BoxX.lt (h : BoxX w b ty cs) : b < w.heap.size := (Array.getElem?_eq_some_iff.1 h).1
theorem BoxX.new (w : World) (ty : TypeId) (cs : Array Value) : BoxX (w.alloc (.cells cs ty)) w.heap.size ty cs := heap_alloc_new w _
theorem BoxX.keep (h : BoxX w b ty cs) (hk : Below B w w') (hb : b < B) : BoxX w' b ty cs := (hk.block b hb).trans h
theorem BoxX.alloc (h : BoxX w b ty cs) (o : Obj) : BoxX (w.alloc o) b ty cs := (Below.heap_alloc w o b h.lt).trans h
theorem BoxX.put (h : BoxX w b ty cs) (i : Nat) (v : Value) : BoxX (w.setCell ⟨b, i, none⟩ v) b ty (cs.setIfInBounds i v) := by
  unfold BoxX at *
  obtain ⟨hlt, hb⟩ := Array.getElem?_eq_some_iff.1 h
  simp only [World.setCell, Array.getElem?_modify]
  rw [if_pos trivial, h]
  rfl
end

/-- what is kept: all but a variable and a row -/
structure KpX (w w' : World) (R : Nat) (row : Option Nat) : Prop where
  os : w'.os = w.os
  tape : w'.tape = w.tape
  output : w'.output = w.output
  size : w.heap.size ≤ w'.heap.size
  block : ∀ k, k < w.heap.size → k ≠ R → some k ≠ row → w'.heap[k]? = w.heap[k]?
theorem KpX.refl (w : World) (R : Nat) (row : Option Nat) : KpX w w R row := ⟨rfl, rfl, rfl, Nat.le_refl _, fun _ _ _ _ => rfl⟩
theorem KpX.of_below {w w' : World} {R : Nat} {row : Option Nat} (h : Below w.heap.size w w') : KpX w w' R row := ⟨h.os, h.tape, h.output, h.size, fun k hk _ _ => h.block k hk⟩
theorem KpX.of_grown {w w' : World} {R : Nat} {row : Option Nat} (h : w.grownBy w' row) : KpX w w' R row := ⟨h.os, h.tape, h.output, h.size, fun k hk _ hr => h.block k hk hr⟩
theorem KpX.setCell {w w' : World} {R : Nat} {row : Option Nat} (h : KpX w w' R row) (i : Nat) (v : Value) : KpX w (w'.setCell ⟨R, i, none⟩ v) R row :=
  ⟨h.os, h.tape, h.output, by simpa [World.setCell] using h.size, fun k hk hR hr => (Below.heap_setCell _ _ _ _ (by dsimp only; omega)).trans (h.block k hk hR hr)⟩
/-- the row behind is the one ahead, or a new one -/
def NwX (w : World) (v v' : Value) : Prop := ∀ g, v'.ownBlock = some g → v.ownBlock = some g ∨ w.heap.size ≤ g
theorem NwX.refl (w : World) (v : Value) : NwX w v v := fun g h => .inl h
theorem KpX.trans {w w1 w2 : World} {R : Nat} {v v1 : Value} (h : KpX w w1 R v.ownBlock) (hn : NwX w v v1) (h2 : KpX w1 w2 R v1.ownBlock) : KpX w w2 R v.ownBlock := by
  refine ⟨h2.os.trans h.os, h2.tape.trans h.tape, h2.output.trans h.output, Nat.le_trans h.size h2.size, fun k hk hR hr => ?_⟩
  refine (h2.block k (Nat.lt_of_lt_of_le hk h.size) hR fun e => ?_).trans (h.block k hk hR hr)
  rcases hn k e.symm with e | e
  · exact hr e.symm
  · omega
theorem NwX.trans {w w1 : World} {v v1 v2 : Value} (hs : w.heap.size ≤ w1.heap.size) (h : NwX w v v1) (h2 : NwX w1 v1 v2) : NwX w v v2 := fun g hg => by
  rcases h2 g hg with e | e
  · exact h g e
  · exact .inr (Nat.le_trans hs e)
theorem KpX.below {B : Nat} {a w w' : World} {R : Nat} {row : Option Nat} (h : Below B a w) (hk : KpX w w' R row) (hB : B ≤ w.heap.size) (hR : B ≤ R) (hr : ∀ g, row = some g → B ≤ g) : Below B a w' :=
  h.trans ⟨hk.os, hk.tape, hk.output, hk.size, fun k hlt => hk.block k (by omega) (by omega) fun e => by have := hr k e.symm; omega⟩

/-! ### Rows of tokens -/
theorem infoX : (Tryz.prog.info? 79).map (fun i => (i.zero, i.size, i.bytes)) = some (some (.agg #[.int .i64 0, .string ⟨#[]⟩]), 2, 24) := by kernel_rfl
def cellsT (x : List Tk) : List Value := x.flatMap fun t => [.int .i64 t.1, .string t.2]
theorem cellsT_len (x : List Tk) : (cellsT x).length = x.length * 2 := by
  induction x with
  | nil => rfl
  | cons t x ih => rw [show cellsT (t :: x) = .int .i64 t.1 :: .string t.2 :: cellsT x from rfl, List.length_cons, List.length_cons, ih, List.length_cons]; omega
theorem cellsT_at : ∀ (x : List Tk) (i : Nat) (t : Tk), x[i]? = some t → (cellsT x)[i * 2]? = some (.int .i64 t.1) ∧ (cellsT x)[i * 2 + 1]? = some (.string t.2)
  | [], i, t, h => by simp at h
  | u :: x, 0, t, h => by simp at h; subst h; exact ⟨rfl, rfl⟩
  | u :: x, i + 1, t, h => by
    have := cellsT_at x i t (by simpa using h)
    rw [show cellsT (u :: x) = .int .i64 u.1 :: .string u.2 :: cellsT x from rfl, show (i + 1) * 2 = i * 2 + 1 + 1 by omega]
    exact this
structure TRow (w : World) (base : Nat) (v : Value) (n : Nat) (x : List Tk) : Prop where
  own : w.ownsRow base 79 2 v n (cellsT x)
  len : x.length = n
theorem TRow.nil (w : World) (base : Nat) : TRow w base (.slice none 0 0) 0 [] := ⟨World.ownsRow_nil _ _ _ _, rfl⟩
theorem TRow.full {w : World} {base : Nat} {v : Value} {n : Nat} {x : List Tk} (h : TRow w base v n x) : ∃ A c, v = .slice A n c ∧ n ≤ c ∧ c ≤ maxLen := by
  rcases h.own.2 with ⟨rfl, rfl⟩ | ⟨g, cap, cur, rfl, _, _, h1, h2, _⟩
  · exact ⟨none, 0, rfl, Nat.le_refl _, Nat.zero_le _⟩
  · exact ⟨_, _, rfl, h1, h2⟩
theorem TRow.lt {w : World} {base : Nat} {v : Value} {n : Nat} {x : List Tk} (h : TRow w base v n x) {g : Nat} (hg : v.ownBlock = some g) : base ≤ g ∧ g < w.heap.size := h.own.lt g hg
theorem TRow.cells_ {w : World} {base : Nat} {v : Value} {n : Nat} {x : List Tk} (h : TRow w base v n x) {g : Nat} (hg : v.ownBlock = some g) : ∃ cs ty fr, w.heap[g]? = some (.cells cs ty fr) := by
  rcases h.own.2 with ⟨rfl, rfl⟩ | ⟨g', cap, cur, rfl, _, hh, _⟩
  · cases hg
  · cases hg; exact ⟨_, _, _, hh⟩
theorem TRow.move {w w' : World} {base : Nat} {v : Value} {n : Nat} {x : List Tk} (h : TRow w base v n x) (hm : ∀ g, v.ownBlock = some g → w'.heap[g]? = w.heap[g]?) : TRow w' base v n x := by
  refine ⟨⟨h.own.1, ?_⟩, h.len⟩
  rcases h.own.2 with h1 | ⟨g, cap, cur, rfl, hb, hg, h1⟩
  · exact .inl h1
  · exact .inr ⟨g, cap, cur, rfl, hb, (hm g rfl).trans hg, h1⟩
theorem TRow.keep {w w' : World} {base : Nat} {v : Value} {n : Nat} {x : List Tk} (h : TRow w base v n x) (hb : Below w.heap.size w w') : TRow w' base v n x := h.move fun g hg => hb.block g (h.lt hg).2
theorem TRow.app {w2 : World} {base P : Nat} {v : Value} {n : Nat} {x : List Tk} {k : Int} {s : ByteArray} (h : TRow w2 base v n x) (hP : w2.heap[P]? = some (.cells #[.int .i64 k, .string s] 79 (0, 0)))
    (hbase : base ≤ w2.heap.size) (hn : n ≤ 1000000) :
    ∃ g cap w3, (Builtin.append_ #[57, 57] 57 #[v, .slice (some ⟨P, 0, none⟩) 1 1]).run Tryz.prog w2 = .ok (.slice (some ⟨g, 0, none⟩) (n + 1) cap) w3 ∧
      TRow w3 base (.slice (some ⟨g, 0, none⟩) (n + 1) cap) (n + 1) (x ++ [(k, s)]) ∧ w2.grownBy w3 v.ownBlock ∧ NwX w2 v (.slice (some ⟨g, 0, none⟩) (n + 1) cap) := by
  obtain ⟨i0, hi, hz0, hz1, hz2⟩ : ∃ i, Tryz.prog.info? 79 = some i ∧ i.zero = some (.agg #[.int .i64 0, .string ⟨#[]⟩]) ∧ i.size = 2 ∧ i.bytes = 24 := by
    have hh := infoX
    cases hi : Tryz.prog.info? 79 with
    | none => rw [hi] at hh; cases hh
    | some i =>
      rw [hi] at hh
      simp at hh
      exact ⟨i, rfl, hh.1, hh.2.1, hh.2.2⟩
  obtain ⟨g, cap, w4, hrun, how4, hgr, hg4, _⟩ := run_append_lies (P := Tryz.prog) w2 57 57 base 79 i0 _ 2 24 Tryz.underlying57 hi hz0 hz1 hz2 rfl (by omega) v n _
    h.own ⟨P, 0, none⟩ 1 1 [.int .i64 k, .string s] rfl (World.news_of_block hP) (by intro u hu; simp at hu; rcases hu with rfl | rfl <;> rfl) (by omega) (by unfold maxLen; omega) (by omega) hbase _ rfl
  refine ⟨g, cap, w4, hrun, ⟨?_, by rw [List.length_append, h.len]; rfl⟩, hgr, fun r hr => ?_⟩
  · have e : cellsT (x ++ [(k, s)]) = cellsT x ++ [.int .i64 k, .string s] := by simp [cellsT]
    rw [e]; exact how4
  · simp [Value.ownBlock] at hr
    subst hr
    rcases hg4 with h1 | h1
    · exact .inl h1
    · exact .inr (by omega)

/-- tokens in memory -/
structure TL (w : World) (x : List Tk) (A : Option Addr) (n c : Nat) : Prop where
  len : x.length = n
  le : n ≤ c
  cap : c ≤ maxLen
  at_ : ∀ i t, x[i]? = some t → ∃ b o, A = some ⟨b, o, none⟩ ∧ w.cell? ⟨b, o + i * 2, none⟩ = some (.int .i64 t.1) ∧ w.cell? ⟨b, o + i * 2 + 1, none⟩ = some (.string t.2)
theorem TL.keep {w w' : World} {x : List Tk} {A : Option Addr} {n c : Nat} (h : TL w x A n c) (hb : Below w.heap.size w w') : TL w' x A n c :=
  ⟨h.len, h.le, h.cap, fun i t ht => by
    obtain ⟨b, o, e, c0, c1⟩ := h.at_ i t ht
    exact ⟨b, o, e, (hb.cell (cell_ltX c0)).trans c0, (hb.cell (cell_ltX c1)).trans c1⟩⟩
theorem TRow.tl {w : World} {base n c : Nat} {A : Option Addr} {x : List Tk} (h : TRow w base (.slice A n c) n x) : TL w x A n c := by
  obtain ⟨A', c', e, h1, h2⟩ := h.full
  cases e
  refine ⟨h.len, h1, h2, fun i t ht => ?_⟩
  have hi := (List.getElem?_eq_some_iff.1 ht).1
  rcases h.own.2 with ⟨e, h0⟩ | ⟨g, cap, cur, e, _, _, _⟩
  · have := h.len; omega
  · cases e
    obtain ⟨e0, e1⟩ := cellsT_at x i t ht
    have c0 := h.own.cells (g := g) rfl _ _ e0
    have c1 := h.own.cells (g := g) rfl _ _ e1
    rw [addr_addX] at c0 c1
    exact ⟨g, 0, rfl, c0, by rw [Nat.add_assoc]; exact c1⟩

/-! ### Bytes -/
def bV (c : UInt8) : Value := .int .u8 (c.toNat : Int)
structure YL (w : World) (l : List UInt8) (A : Option Addr) (n c : Nat) : Prop where
  len : l.length = n
  le : n ≤ c
  cap : c ≤ maxLen
  at_ : ∀ i u, l[i]? = some u → ∃ b o, A = some ⟨b, o, none⟩ ∧ w.cell? ⟨b, o + i, none⟩ = some (bV u)
theorem YL.keep {w w' : World} {l : List UInt8} {A : Option Addr} {n c : Nat} (h : YL w l A n c) (hb : Below w.heap.size w w') : YL w' l A n c :=
  ⟨h.len, h.le, h.cap, fun i t ht => by
    obtain ⟨b, o, e, c0⟩ := h.at_ i t ht
    exact ⟨b, o, e, (hb.cell (cell_ltX c0)).trans c0⟩⟩
structure YRow (w : World) (base : Nat) (v : Value) (n : Nat) (l : List UInt8) : Prop where
  own : w.ownsRow base 5 1 v n (l.map bV)
  len : l.length = n
theorem YRow.nil (w : World) (base : Nat) : YRow w base (.slice none 0 0) 0 [] := ⟨World.ownsRow_nil _ _ _ _, rfl⟩
theorem YRow.full {w : World} {base : Nat} {v : Value} {n : Nat} {x : List UInt8} (h : YRow w base v n x) : ∃ A c, v = .slice A n c ∧ n ≤ c ∧ c ≤ maxLen := by
  rcases h.own.2 with ⟨rfl, rfl⟩ | ⟨g, cap, cur, rfl, _, _, h1, h2, _⟩
  · exact ⟨none, 0, rfl, Nat.le_refl _, Nat.zero_le _⟩
  · exact ⟨_, _, rfl, h1, h2⟩
theorem YRow.lt {w : World} {base : Nat} {v : Value} {n : Nat} {x : List UInt8} (h : YRow w base v n x) {g : Nat} (hg : v.ownBlock = some g) : base ≤ g ∧ g < w.heap.size := h.own.lt g hg
theorem YRow.move {w w' : World} {base : Nat} {v : Value} {n : Nat} {x : List UInt8} (h : YRow w base v n x) (hm : ∀ g, v.ownBlock = some g → w'.heap[g]? = w.heap[g]?) : YRow w' base v n x := by
  refine ⟨⟨h.own.1, ?_⟩, h.len⟩
  rcases h.own.2 with h1 | ⟨g, cap, cur, rfl, hb, hg, h1⟩
  · exact .inl h1
  · exact .inr ⟨g, cap, cur, rfl, hb, (hm g rfl).trans hg, h1⟩
theorem YRow.keep {w w' : World} {base : Nat} {v : Value} {n : Nat} {x : List UInt8} (h : YRow w base v n x) (hb : Below w.heap.size w w') : YRow w' base v n x := h.move fun g hg => hb.block g (h.lt hg).2
theorem YRow.yl {w : World} {base n c : Nat} {A : Option Addr} {l : List UInt8} (h : YRow w base (.slice A n c) n l) : YL w l A n c := by
  obtain ⟨A', c', e, h1, h2⟩ := h.full
  cases e
  refine ⟨h.len, h1, h2, fun i t ht => ?_⟩
  have hi := (List.getElem?_eq_some_iff.1 ht).1
  rcases h.own.2 with ⟨e, h0⟩ | ⟨g, cap, cur, e, _, _, _⟩
  · have := h.len; omega
  · cases e
    have c0 := h.own.cells (g := g) rfl i (bV t) (by rw [List.getElem?_map, ht]; rfl)
    rw [addr_addX] at c0
    exact ⟨g, 0, rfl, c0⟩
/-- a text of bytes -/
theorem run_string {w : World} {l : List UInt8} {A : Option Addr} {n c : Nat} (h : YL w l A n c) : (convert 28 9 (.slice A n c)).run Tryz.prog w = .ok (.string ⟨l.toArray⟩) w := by
  have hl := h.len
  subst hl
  cases A with
  | none =>
    have : l = [] := by
      cases l with
      | nil => rfl
      | cons u l => obtain ⟨b, o, e, _⟩ := h.at_ 0 u rfl; cases e
    subst this
    rw [run_convert_bytes_string w _ _ 5 none _ c Tryz.underlying28 Tryz.underlying5 Tryz.underlying9]
    rfl
  | some a =>
    refine run_convert_bytes_back w _ _ 5 a c l Tryz.underlying28 Tryz.underlying5 Tryz.underlying9 fun j hj => ?_
    obtain ⟨b, o, e, c0⟩ := h.at_ j l[j] (List.getElem?_eq_getElem hj)
    cases e
    rw [addr_addX]
    exact c0

/-! ### A text's next rune -/
theorem get_atX (l : List UInt8) (i : Nat) (h : i < l.length) : (ByteArray.mk l.toArray).get! i = l[i] := by
  simp [ByteArray.get!, h]
theorem dec_low (l : List UInt8) (pos : Nat) (c : UInt8) (hc : l[pos]? = some c) (hb : bI c < 128) : Utf8.decode ⟨l.toArray⟩ pos = (c.toNat, 1) := by
  obtain ⟨h, rfl⟩ := List.getElem?_eq_some_iff.1 hc
  unfold bI at hb
  have h0 : (ByteArray.mk l.toArray).get! (pos + 0) = l[pos] := get_atX l pos h
  simp only [Utf8.decode, h0]
  rw [if_pos (by omega)]
theorem dec_high (l : List UInt8) (pos : Nat) (c : UInt8) (hc : l[pos]? = some c) (hb : 128 ≤ bI c) :
    128 ≤ (Utf8.decode ⟨l.toArray⟩ pos).1 ∧ 1 ≤ (Utf8.decode ⟨l.toArray⟩ pos).2 ∧ ∀ j, j < (Utf8.decode ⟨l.toArray⟩ pos).2 → ∃ u, l[pos + j]? = some u ∧ 128 ≤ bI u := by
  obtain ⟨h, rfl⟩ := List.getElem?_eq_some_iff.1 hc
  have hsz : (ByteArray.mk l.toArray).size = l.length := rfl
  have hh := decode_high ⟨l.toArray⟩ pos h (by unfold bI at hb; show 128 ≤ l[pos].toNat; omega)
  refine ⟨hh.1, hh.2, fun j hj => ?_⟩
  have h0 : (ByteArray.mk l.toArray).get! (pos + 0) = l[pos] := get_atX l pos h
  have key : ∀ k, (decide (pos + k < (ByteArray.mk l.toArray).size) && ((ByteArray.mk l.toArray).get! (pos + k)).toNat / 64 == 2) = true → ∃ u, l[pos + k]? = some u ∧ 128 ≤ bI u := by
    intro k hk
    rw [Bool.and_eq_true, decide_eq_true_eq] at hk
    have h2 := eq_of_beq hk.2
    obtain ⟨u, hu⟩ : ∃ u, l[pos + k]? = some u := ⟨_, List.getElem?_eq_getElem hk.1⟩
    have hg : (ByteArray.mk l.toArray).get! (pos + k) = u := by
      rw [get_atX l _ hk.1]
      exact (List.getElem?_eq_some_iff.1 hu).2
    rw [hg] at h2
    refine ⟨u, hu, ?_⟩
    unfold bI
    omega
  rcases Nat.eq_zero_or_pos j with rfl | hj0
  · exact ⟨_, List.getElem?_eq_getElem h, hb⟩
  · revert hj
    simp only [Utf8.decode]
    intro hj
    split at hj
    · simp at hj; omega
    · split at hj
      · rename_i h1
        simp only [Bool.and_eq_true] at h1
        split at hj
        · have : j = 1 := by simp at hj; omega
          subst this
          exact key 1 (by simpa using h1.2)
        · simp at hj; omega
      · split at hj
        · rename_i h1
          simp only [Bool.and_eq_true] at h1
          split at hj
          · have : j = 1 ∨ j = 2 := by simp at hj; omega
            rcases this with rfl | rfl
            · exact key 1 (by simpa using h1.1.2)
            · exact key 2 (by simpa using h1.2)
          · simp at hj; omega
        · split at hj
          · rename_i h1
            simp only [Bool.and_eq_true] at h1
            split at hj
            · have : j = 1 ∨ j = 2 ∨ j = 3 := by simp at hj; omega
              rcases this with rfl | rfl | rfl
              · exact key 1 (by simpa using h1.1.1.2)
              · exact key 2 (by simpa using h1.1.2)
              · exact key 3 (by simpa using h1.2)
            · simp at hj; omega
          · simp at hj; omega
theorem enc_low {c : UInt8} (h : bI c < 128) : Utf8.encode (bI c) = ⟨#[c]⟩ := by
  have h1 : (bI c).toNat = c.toNat := by unfold bI; omega
  have hv : Utf8.valid (bI c) = true := by
    rw [validRune_eq, validRune, decide_eq_true_eq]
    have := bI_lt c
    omega
  unfold Utf8.encode
  rw [h1]
  have h2 : c.toNat < 128 := by unfold bI at h; omega
  simp [hv, h2]
/-- the name that ends, by where it began -/
def fluP (l : List UInt8) (pos : Nat) (o : List Tk) (fr : Int) : List Tk := if fr = -1 then o else o ++ [(0, ⟨((l.drop fr.toNat).take (pos - fr.toNat)).toArray⟩)]
/-- one rune: goes it on; the tokens, where the name begins, whether a note does -/
def nxt (l : List UInt8) (pos : Nat) (o : List Tk) (fr : Int) (nt : Bool) (c : Int) : Bool × List Tk × Int × Bool :=
  if nt = true then (true, o, fr, decide (c ≠ 10))
  else if nmI c = true then (true, o, if fr = -1 then (pos : Int) else fr, false)
  else if c = 37 then (true, fluP l pos o fr, -1, true)
  else if mkI c = true then (true, fluP l pos o fr ++ [(1, Utf8.encode c)], -1, false)
  else (blI c, fluP l pos o fr, -1, false)
/-- the name so far, by where it began -/
def FrX (l : List UInt8) (pos : Nat) (cur : List UInt8) (fr : Int) : Prop := (cur = [] ∧ fr = -1) ∨ ∃ f : Nat, fr = (f : Int) ∧ f < pos ∧ cur = (l.drop f).take (pos - f)
theorem FrX.flu {l : List UInt8} {pos : Nat} {cur : List UInt8} {fr : Int} (h : FrX l pos cur fr) (hp : pos ≤ l.length) (o : List Tk) : fluP l pos o fr = flu o cur := by
  rcases h with ⟨rfl, rfl⟩ | ⟨f, rfl, hf, rfl⟩
  · rfl
  · rw [fluP, if_neg (by omega), flu_cons]
    · rfl
    · intro e
      have := congrArg List.length e
      simp at this
      omega
theorem runL_high {o : List Tk} : ∀ (d pos : Nat) (l : List UInt8), (∀ j, j < d → ∃ u, l[pos + j]? = some u ∧ 128 ≤ bI u) → runL ⟨o, [], true⟩ (l.drop pos) = runL ⟨o, [], true⟩ (l.drop (pos + d))
  | 0, pos, l, _ => rfl
  | d + 1, pos, l, h => by
    obtain ⟨u, hu, hb⟩ := h 0 (by omega)
    rw [Nat.add_zero] at hu
    rw [drop_atX hu, runL, show stp ⟨o, [], true⟩ u = some ⟨o, [], true⟩ by unfold stp; simp; omega]
    have := runL_high (o := o) d (pos + 1) l fun j hj => by
      obtain ⟨v, hv⟩ := h (j + 1) (by omega)
      exact ⟨v, by rw [show pos + 1 + j = pos + (j + 1) by omega]; exact hv⟩
    rw [show pos + (d + 1) = pos + 1 + d by omega]
    exact this
theorem take_snoc {l : List UInt8} {f pos : Nat} {c : UInt8} (hc : l[pos]? = some c) (hf : f ≤ pos) : (l.drop f).take (pos + 1 - f) = (l.drop f).take (pos - f) ++ [c] := by
  rw [show pos + 1 - f = pos - f + 1 by omega, List.take_add_one, List.getElem?_drop, show f + (pos - f) = pos by omega, hc]
  rfl
/-- what one rune comes to -/
theorem nxt_step {l : List UInt8} {pos : Nat} {s : LSt} {fr : Int} (hp : pos < l.length) (hs : LOk s) (hf : FrX l pos s.cur fr) (r : Bool × List Tk × Int × Bool)
    (hr : nxt l pos s.out fr s.note ((Utf8.decode ⟨l.toArray⟩ pos).1 : Int) = r) :
    pos + (Utf8.decode ⟨l.toArray⟩ pos).2 ≤ l.length ∧
    ((r.1 = false → runL s (l.drop pos) = none) ∧
     (r.1 = true → ∃ cur, LOk ⟨r.2.1, cur, r.2.2.2⟩ ∧ FrX l (pos + (Utf8.decode ⟨l.toArray⟩ pos).2) cur r.2.2.1 ∧ runL s (l.drop pos) = runL ⟨r.2.1, cur, r.2.2.2⟩ (l.drop (pos + (Utf8.decode ⟨l.toArray⟩ pos).2)))) := by
  obtain ⟨o, cur, nt⟩ := s
  simp only at hf hr ⊢
  obtain ⟨c, hc⟩ := at_ofX (l := l) rfl hp
  have hd := drop_atX hc
  by_cases hlow : bI c < 128
  · have hdec := dec_low l pos c hc hlow
    rw [hdec] at hr ⊢
    simp only at hr ⊢
    rw [show ((c.toNat : Nat) : Int) = bI c from rfl] at hr
    have hfl := hf.flu (Nat.le_of_lt hp) o
    refine ⟨hp, ?_, ?_⟩
    · intro h1
      rw [hd, runL]
      subst hr
      unfold nxt at h1
      unfold stp
      cases nt with
      | true => simp at h1
      | false =>
        by_cases g1 : nmI (bI c) = true
        · simp [g1] at h1
        · by_cases g2 : bI c = 37
          · simp [g2, show nmI 37 = false from rfl] at h1
          · by_cases g3 : mkI (bI c) = true
            · simp [g1, g2, g3] at h1
            · simp [g1, g2, g3] at h1
              simp [g1, g2, g3, h1]
    · intro h1
      rw [hd, runL]
      subst hr
      unfold nxt at h1 ⊢
      unfold stp
      cases nt with
      | true =>
        have hcur : cur = [] := hs rfl
        subst hcur
        refine ⟨[], fun _ => rfl, .inl ⟨rfl, ?_⟩, rfl⟩
        rcases hf with ⟨_, h⟩ | ⟨f, rfl, hf, e⟩
        · exact h
        · have := congrArg List.length e
          simp at this
          omega
      | false =>
        by_cases g1 : nmI (bI c) = true
        · simp only [g1, Bool.false_eq_true, if_false, if_true]
          refine ⟨cur ++ [c], lok0' _ _, ?_, rfl⟩
          rcases hf with ⟨rfl, rfl⟩ | ⟨f, rfl, hf, rfl⟩
          · refine .inr ⟨pos, if_pos rfl, by omega, ?_⟩
            rw [take_snoc hc (Nat.le_refl _), Nat.sub_self]; rfl
          · refine .inr ⟨f, if_neg (by omega), by omega, ?_⟩
            rw [take_snoc hc (Nat.le_of_lt hf)]
        · by_cases g2 : bI c = 37
          · simp only [g2, Bool.false_eq_true, if_false, if_true]
            rw [hfl]
            exact ⟨[], fun _ => rfl, .inl ⟨rfl, rfl⟩, rfl⟩
          · by_cases g3 : mkI (bI c) = true
            · simp only [g1, g2, g3, Bool.false_eq_true, if_false, if_true]
              rw [hfl, show Utf8.encode (bI c) = ⟨#[c]⟩ from enc_low hlow]
              exact ⟨[], fun _ => rfl, .inl ⟨rfl, rfl⟩, rfl⟩
            · simp [g1, g2, g3] at h1
              simp only [g1, g2, g3, h1, Bool.false_eq_true, if_false, if_true]
              rw [hfl]
              exact ⟨[], fun _ => rfl, .inl ⟨rfl, rfl⟩, rfl⟩
  · obtain ⟨hh, h1w, hall⟩ := dec_high l pos c hc (by omega)
    generalize (Utf8.decode ⟨l.toArray⟩ pos).1 = R at *
    generalize (Utf8.decode ⟨l.toArray⟩ pos).2 = d at *
    have hlen : pos + d ≤ l.length := by
      obtain ⟨u, hu, _⟩ := hall (d - 1) (by omega)
      have := (List.getElem?_eq_some_iff.1 hu).1
      omega
    have hR : (128 : Int) ≤ (R : Int) := by omega
    refine ⟨hlen, ?_, ?_⟩
    · intro h1
      subst hr
      unfold nxt at h1
      cases nt with
      | true => simp at h1
      | false =>
        rw [hd, runL]
        rw [stp_bad (nmI_high (by omega)) (by omega) (mkI_high (by omega)) (blI_high (by omega))]
        rfl
    · intro h1
      subst hr
      unfold nxt at h1 ⊢
      cases nt with
      | true =>
        have hcur : cur = [] := hs rfl
        subst hcur
        simp only [if_true]
        rw [show decide ((R : Int) ≠ 10) = true by simp; omega]
        refine ⟨[], fun _ => rfl, .inl ⟨rfl, ?_⟩, runL_high d pos l hall⟩
        rcases hf with ⟨_, h⟩ | ⟨f, rfl, hf, e⟩
        · exact h
        · have := congrArg List.length e
          simp at this
          omega
      | false =>
        have e1 := nmI_high hR
        have e2 : ¬ ((R : Int) = 37) := by omega
        have e3 := mkI_high hR
        have e4 := blI_high hR
        simp [e1, e2, e3, e4] at h1
end Go.Proofs.YtmkahbbcagfbhaaGreatDoor
