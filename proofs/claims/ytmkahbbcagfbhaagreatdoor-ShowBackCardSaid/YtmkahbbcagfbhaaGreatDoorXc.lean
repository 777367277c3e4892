/-
  The library's IndexRune and ContainsRune in texts of ASCII bytes, at every rune. No statement is proved here.
-/
import Derived.Test.YtmkahbbcagfbhaaGreatDoorXb
import Derived.Lib.OthersKept
import Derived.Deep.LoopGhost
namespace Go.Proofs.YtmkahbbcagfbhaaGreatDoor
open Go.ChangeShapes Go.WideShapes Go.ChangeAt Go.RowKit
set_option linter.unusedVariables false

theorem byte_at {s : ByteArray} {i : Nat} (h : i < s.size) : s[i] ∈ s.data.toList := by
  have : s[i] = s.data[i]'h := rfl
  rw [this]
  exact Array.getElem_mem_toList h
theorem _root_.Go.RowKit.Below.drewX {B : Nat} {a w : World} (h : Below B a w) : ∀ n, Below B a (w.drewN n)
  | 0 => h
  | n + 1 => (h.drewX n).drew
theorem index_none (l : List UInt8) (c : UInt8) (h : ∀ b ∈ l, b ≠ c) : Lib.indexByte l c = -1 := by
  induction l with
  | nil => rfl
  | cons b l ih =>
    have h1 := h b (List.mem_cons_self ..)
    have h2 := ih fun d hd => h d (List.mem_cons_of_mem _ hd)
    rw [Lib.indexByte, if_neg (by simpa using h1), h2]
    rfl
/-- where a rune stands first -/
def ixR (s : ByteArray) (c : Int) : Int := if c < 128 then Lib.indexByte s.data.toList c.toNat.toUInt8 else -1
set_option maxHeartbeats 2000000 in
set_option maxRecDepth 100000 in
theorem xIndexRuneC (s : ByteArray) (c : Int) (w : World) (hs : ∀ b ∈ s.data.toList, b.toNat < 128) (h8 : s.size ≤ 1000) (h0 : 0 ≤ c) (h1 : c ≤ 1114111) :
    Calls Tryz.prog 98 #[.string s, .int .i32 c] w fun e w' => e = .returned (.int .i64 (ixR s c)) ∧ Below w.heap.size w w' := by
  by_cases hlt : c < 128
  · have HE := Lib.hid (show ixR s c = Lib.indexByte s.data.toList c.toNat.toUInt8 from if_pos hlt)
    clear hs h8
    go_enter Tryz.func98, Tryz.ntmps98
    go_wp2_with (refine (xIndexByteC _ _ _).mono ?_; rintro e w' ⟨rfl, rfl⟩)
    go_ret
    exact ⟨ret_intX HE.out.symm, Below.refl _ _⟩
  · have HE := Lib.hid (show ixR s c = -1 from if_neg hlt)
    by_cases hr : c = 65533
    · subst hr
      go_enter Tryz.func98, Tryz.ntmps98
      go_wp2_with fail
      go_loopg [] s.size (fun gf wx => ∃ pos : Nat, wx.heap[w.heap.size]? = some (.stringIter s pos) ∧ Below w.heap.size w wx ∧ s.size ≤ pos + gf)
      case atStart => exact ⟨0, World.iter_heap w s 0, (Below.refl _ w).alloc (Nat.le_refl _) _, by omega⟩
      case round =>
        obtain ⟨pos, hit, hbw, hfu⟩ := hrel
        by_cases hps : pos < s.size
        · obtain ⟨g', rfl⟩ : ∃ g', gk = g' + 1 := ⟨gk - 1, by omega⟩
          have hb := hs _ (byte_at hps)
          have hnx : ∀ ty, (Instr.next (.pointer (some ⟨w.heap.size, 0, none⟩)) true ty).run Tryz.prog wr = _ := fun ty => Lib.run_next_any_at wr w.heap.size s pos ty hit hps
          rw [decode_ascii s pos hps hb] at hnx
          simp only at hnx
          have hit2 := Lib.iterAt_heap wr w.heap.size s pos (pos + 1) hit
          have hbw2 := Lib.below_iterAt hbw (k := w.heap.size) (Nat.le_refl _) s (pos + 1)
          obtain ⟨W, hWd⟩ : ∃ W, wr.iterAt w.heap.size s (pos + 1) = W := ⟨_, rfl⟩
          rw [hWd] at hnx hit2 hbw2
          obtain ⟨r, hr⟩ : ∃ r : Nat, (s[pos]).toNat = r := ⟨_, rfl⟩
          rw [hr] at hnx hb
          have hne : ¬ ((r : Int) = 65533) := by omega
          have hne' : ((r : Int) == 65533) = false := by simp; omega
          clear hs
          go_wp2_with fail
          go_roundg g'
          case measure => omega
          case rel => exact ⟨pos + 1, hit2, hbw2, by omega⟩
        · have hnx : ∀ ty, (Instr.next (.pointer (some ⟨w.heap.size, 0, none⟩)) true ty).run Tryz.prog wr = _ := fun ty => Lib.run_next_end_at wr w.heap.size s pos ty hit hps
          go_wp2_with fail
          go_ret
          exact ⟨ret_intX HE.out.symm, hbw⟩
    · by_cases hv : validRune c = true
      · have hf := encode_facts c (by rw [validRune_eq]; exact hv) (by omega)
        obtain ⟨rs, hrs⟩ : ∃ rs, Utf8.encode c = rs := ⟨_, rfl⟩
        rw [hrs] at hf
        obtain ⟨f1, f2, f3⟩ := hf
        go_enter Tryz.func98, Tryz.ntmps98
        go_wp2_with (refine (xValidC _ _).mono ?_; rintro e w' ⟨rfl, hw⟩; rw [hv, hw])
        obtain ⟨last, hl⟩ : ∃ last : Nat, rs.size = last + 1 := ⟨rs.size - 1, by omega⟩
        have f3' := f3 (by omega)
        have hla : rs.size - 1 = last := by omega
        simp only [hla] at f3'
        clear f3
        have hconv : ∀ W, (convert 21 9 (.int .i32 c)).run Tryz.prog W = .ok (.string rs) W := fun W => by
          rw [run_convert_int_string W _ _ .i32 c (by rw [Tryz.underlying21]; rfl) Tryz.underlying9, hrs]
        go_step3
        go_wp2_with fail
        go_loopw [9] (fun i wr => i = .int .i64 last ∧ wr = w) (fun _ _ => 0)
        case atStart => exact ⟨by go_num, rfl⟩
        case round =>
          obtain ⟨rfl, rfl⟩ := hrel
          by_cases hls : last < s.size
          · have hi0 : (0 : Int) ≤ last := by omega
            have hi1 : (last : Int) < s.size := by omega
            have hi2 : (last : Int) < rs.size := by omega
            have hb := hs _ (byte_at hls)
            have hne : ((s[last].toNat : Int) == (rs[last].toNat : Int)) = false := by simp; omega
            go_wp2_with fail
            go_step3
            go_wp2_with fail
            have hi3 : (last : Int) < (last : Int) + 1 := by omega
            go_quiet (fail)
            go_wp2_with fail
            have hnone : ∀ (W : World), Calls Tryz.prog 110 #[.string (s.extract (last + 1) s.size), .int .u8 (rs[last].toNat : Int)] W fun e w' => e = .returned (.int .i64 (-1)) ∧ w' = W := fun W => by
              refine (xIndexByteC _ _ _).mono ?_
              rintro e w' ⟨rfl, rfl⟩
              refine ⟨ret_intX (index_none _ _ fun b hb e => ?_), rfl⟩
              have h2 := hs b (mem_extract hb)
              have h3 := rs[last].toNat_lt
              rw [e] at h2
              simp at h2
              omega
            have hwr : IntKind.i64.wrap ((last : Int) + 1) = (last : Int) + 1 := wrap_small _ (by omega) (by omega)
            have hi4 : 0 ≤ (last : Int) + 1 := by omega
            have hi5 : (last : Int) + 1 ≤ s.size := by omega
            have hi6 : ((last : Int) + 1).toNat = last + 1 := by omega
            refine wp_region_quiet_lit (by kernel_rfl) (by kernel_rfl) ?_
            repeat (quiet_step (exact (hnone _).mono fun _ _ h => ⟨h.1, _, h.2⟩))
            refine wpQuiet_nil ?_
            intro _ hw'
            obtain ⟨nr, hw''⟩ := hw'
            subst hw''
            go_wp2_with fail
            show bodyPost Tryz.prog Tryz.f98 (fun e w' => e = .returned (.int .i64 (ixR s c)) ∧ Below wr.heap.size wr w') Exit.ret _ _
            go_ret
            exact ⟨ret_intX HE.out.symm, (Below.refl _ _).drewX _⟩
          · go_wp2_with fail
            rw [Exit.noGoto_ret]
            go_ret
            exact ⟨ret_intX HE.out.symm, Below.refl _ _⟩
      · have hvf : validRune c = false := by simpa using hv
        go_enter Tryz.func98, Tryz.ntmps98
        go_wp2_with (refine (xValidC _ _).mono ?_; rintro e w' ⟨rfl, hw⟩; rw [hvf, hw])
        go_ret
        exact ⟨ret_intX HE.out.symm, Below.refl _ _⟩
/-- is the rune in a text -/
theorem xContainsC (s : ByteArray) (c : Int) (w : World) (hs : ∀ b ∈ s.data.toList, b.toNat < 128) (h8 : s.size ≤ 1000) (h0 : 0 ≤ c) (h1 : c ≤ 1114111) (r : Bool) (hr : decide (0 ≤ ixR s c) = r) :
    Calls Tryz.prog 90 #[.string s, .int .i32 c] w fun e w' => e = .returned (.bool r) ∧ Below w.heap.size w w' := by
  have HC := Lib.hid (xIndexRuneC s c w hs h8 h0 h1)
  clear hs h8
  go_enter Tryz.func90, Tryz.ntmps90
  go_wp2_with fail
  refine HC.out.mono ?_
  rintro e w1 ⟨rfl, hb⟩
  go_wp2_with fail
  go_ret
  exact ⟨rfl, hb⟩
theorem ix_small (l : List UInt8) (c : Int) (h0 : 0 ≤ c) (hl : ∀ b ∈ l, b.toNat < 128) : decide (0 ≤ ixR ⟨l.toArray⟩ c) = l.any fun b => decide (bI b = c) := by
  unfold ixR
  split
  · rename_i hc
    have key : ∀ l : List UInt8, decide (0 ≤ Lib.indexByte l c.toNat.toUInt8) = l.any fun b => decide (bI b = c) := by
      intro l
      induction l with
      | nil => rfl
      | cons b l ih =>
        have hbc : (b == c.toNat.toUInt8) = decide (bI b = c) := by
          rw [Bool.eq_iff_iff, beq_iff_eq, decide_eq_true_eq, ← UInt8.toNat_inj]
          have := b.toNat_lt
          unfold bI
          have e : (c.toNat.toUInt8).toNat = c.toNat := by
            show (UInt8.ofNat c.toNat).toNat = _
            simp; omega
          rw [e]
          omega
        rw [Lib.indexByte, hbc, List.any_cons, ← ih]
        have := Lib.indexByte_ge l c.toNat.toUInt8
        cases decide (bI b = c) with
        | true => rfl
        | false =>
          rw [if_neg Bool.false_ne_true, Bool.false_or]
          split
          · rename_i h; have := eq_of_beq h; rw [this]
          · rename_i h
            have : Lib.indexByte l c.toNat.toUInt8 ≠ -1 := fun e => h (by rw [e]; rfl)
            rw [Bool.eq_iff_iff, decide_eq_true_eq, decide_eq_true_eq]
            omega
    exact key l
  · rename_i hc
    symm
    rw [show decide ((0 : Int) ≤ -1) = false from rfl, List.any_eq_false]
    intro b hb
    have := hl b hb
    unfold bI
    simp
    omega
theorem ix_marks (c : Int) (h0 : 0 ≤ c) : decide (0 ≤ ixR ⟨#[40, 41, 91, 93, 123, 125, 58, 46]⟩ c) = mkI c := by
  rw [show (⟨#[40, 41, 91, 93, 123, 125, 58, 46]⟩ : ByteArray) = ⟨[40, 41, 91, 93, 123, 125, 58, 46].toArray⟩ from rfl, ix_small _ c h0 (by decide)]
  rw [Bool.eq_iff_iff]
  unfold mkI bI
  simp
  omega
theorem ix_between (c : Int) (h0 : 0 ≤ c) : decide (0 ≤ ixR ⟨#[32, 9, 10]⟩ c) = blI c := by
  rw [show (⟨#[32, 9, 10]⟩ : ByteArray) = ⟨[32, 9, 10].toArray⟩ from rfl, ix_small _ c h0 (by decide)]
  rw [Bool.eq_iff_iff]
  unfold blI bI
  simp
  omega
end Go.Proofs.YtmkahbbcagfbhaaGreatDoor
