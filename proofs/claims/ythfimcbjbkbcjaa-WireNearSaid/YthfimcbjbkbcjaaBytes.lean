/- fullBytes and Bytes of package value. -/
import Derived.Test.YthfimcbjbkbcjaaRow
import Derived.Deep.Light
namespace Go.Proofs.Ythfimcbjbkbcjaa
open Go.RowKit

/-- Byte j of a, the lowest one first. -/
def byteOf (a j : Nat) : Int := ((a / 2 ^ (8 * j) % 256 : Nat) : Int)
theorem zero_16 (w : World) : (zeroValue 88).run Try.prog w = .ok (.agg (rowA 16 fun _ => .int .u8 0)) w := by kernel_rfl
theorem info_16 : (Try.prog.info? 88).map (·.size) = some 16 := by kernel_rfl

structure FullAt (w : World) (a k : Nat) (w' : World) : Prop where
  below : Below w.heap.size w w'
  size : w.heap.size + 3 ≤ w'.heap.size
  h0 : w'.cell? ⟨w.heap.size, 0, none⟩ = some (.int .u64 (hi a))
  h1 : w'.cell? ⟨w.heap.size, 1, none⟩ = some (.int .u64 (lo a))
  res : RowAt w' (w.heap.size + 1) 16 fun _ => .int .u8 0
  out : RowAt w' (w.heap.size + 2) 16 fun i => .int .u8 (if i < k then byteOf a (15 - i) else 0)

theorem byte_conv (a j : Nat) : lo (a / 2 ^ (8 * j)) % 256 = byteOf a j := by
  unfold lo byteOf
  omega

set_option maxHeartbeats 1000000 in
theorem full_any (a : Nat) (ha : a < 2 ^ 128) (w : World) :
    Calls Try.prog 67 #[.agg #[.int .u64 (hi a), .int .u64 (lo a)]] w (RetX (.agg (rowA 16 fun i => .int .u8 (byteOf a (15 - i)))) w) := by
  go_enter Try.func67, Try.ntmps67
  go_wp2_with (simp only [zero_16])
  go_loopw [5] (fun i w' => ∃ k : Nat, k ≤ 16 ∧ i = .int .i64 k ∧ FullAt w a k w') (fun i _ => 16 - (intOf i).toNat)
  case atStart =>
    refine ⟨0, by omega, rfl, ((((Below.refl _ _).alloc (by simp) _).alloc (by simp) _).alloc (by simp; omega) _), by simp, by simp [go_sem], by simp [go_sem], ?_, ?_⟩
    · have h1 := RowAt.new (w.alloc (.cells #[.int .u64 (hi a), .int .u64 (lo a)] 26)) 16 (fun _ => .int .u8 0) 88
      simp only [World.size_alloc] at h1
      exact h1.past (by simp) _
    · have h1 := RowAt.new ((w.alloc (.cells #[.int .u64 (hi a), .int .u64 (lo a)] 26)).alloc (.cells (rowA 16 fun _ => .int .u8 0) 88)) 16 (fun _ => .int .u8 0) 88
      simp only [World.size_alloc] at h1
      exact RowAt.congr (f := fun _ => .int .u8 0) h1 (fun i _ => by simp)
  case round =>
    obtain ⟨k, hk, rfl, hR⟩ := hrel
    by_cases hlt : (k : Int) < 16
    · have c0 := hR.h0
      have c1 := hR.h1
      have hs := hR.size
      have i0 : wr.cell? ⟨w.heap.size + 2, k, none⟩ = some _ := hR.out.cell k (by omega)
      have f0 : wr.frozen? ⟨w.heap.size + 2, k, none⟩ = false := hR.out.froz k (by omega)
      go_wp2_with (first | (go_at_call 74; refine (right_any a (8 * (15 - (k : Int))) ha (by omega) _).mono ?_; rintro e w' ⟨rfl, hb⟩; obtain ⟨hc, hf, hz⟩ := after (w.heap.size + 3) hb hs hs) | simp only [run_field_lo])
      go_roundw
      case rel =>
        go_light
        have e1 : w.heap.size < w'.heap.size := hz _ (by omega)
        refine ⟨k + 1, by omega, by simp, ?_⟩
        rw [byte_conv]
        have hb' := hR.below.trans (hb.mono (by omega))
        refine ⟨hb'.setCell (by simp; omega) _, by simp [World.setCell]; have := hz (w.heap.size + 2) (by omega); omega, ?_, ?_, ?_, ?_⟩
        · rw [World.cell?_setCell_far _ _ _ _ (by simp; omega), hc _ _ (by omega)]; exact c0
        · rw [World.cell?_setCell_far _ _ _ _ (by simp; omega), hc _ _ (by omega)]; exact c1
        · exact (hR.res.below hb (by omega)).far _ (by simp) _
        · refine (hR.out.below hb (by omega)).put k (by omega) _ (fun i hi => ?_)
          by_cases h : i = k
          · subst h; simp
          · rw [if_neg h]
            by_cases h' : i < k
            · rw [if_pos h', if_pos (by omega)]
            · rw [if_neg h', if_neg (by omega)]
      case measure => simp [intOf]; omega
    · have e : k = 16 := by omega
      subst e
      go_wp2_with (first | refine wpList_load_row Try.underlying88 info_16 rfl rfl rfl hR.out ?_ | refine wpList_store_row info_16 (fun _ _ => rfl) rfl rfl rfl rfl hR.res.there ?_)
      go_light
      have e : (rowA 16 fun i => Value.int IntKind.u8 (if i < 16 then byteOf a (15 - i) else 0)) = rowA 16 fun i => Value.int IntKind.u8 (byteOf a (15 - i)) := rowA_congr fun i hi => by rw [if_pos hi]
      have hB := RowAt.stored hR.res.there fun i => Value.int IntKind.u8 (if i < 16 then byteOf a (15 - i) else 0)
      refine bodyPost_ret (v := .agg (rowA 16 fun i => .int .u8 (byteOf a (15 - i)))) (by rw [← e]; exact results_row Try.underlying88 info_16 rfl rfl hB) rfl ⟨rfl, ?_⟩
      exact belowCells hR.below (by omega) _ _

/-- How many bytes the canonical string of a has. -/
def nb (a : Nat) : Nat := max 1 ((bitLen a + 7) / 8)
theorem nb_le (a : Nat) (ha : a < 2 ^ 128) : nb a ≤ 16 := by have := len_le a ha; unfold nb; omega
theorem nb_pos (a : Nat) : 1 ≤ nb a := by unfold nb; omega
/-- The canonical bytes of a, as cells. -/
def byteCells (a : Nat) : List Value := rowL (nb a) fun i => .int .u8 (byteOf a (nb a - 1 - i))
theorem max_nb (a : Nat) : max (1 : Int) (((bitLen a : Int) + 8 - 1) / 8) = nb a := by
  unfold nb
  omega
theorem byteCells_len (a : Nat) : (byteCells a).length = nb a := rowL_len _ _
theorem slice_16 (b k : Nat) (h1 : 1 ≤ k) (h2 : k ≤ 16) (w : World) :
    (Instr.sliceAt 88 (.pointer (some ⟨b, 0, none⟩)) (some (.int .i64 (16 - (k : Int)))) none none).run Try.prog w = .ok (.slice (some ⟨b, 16 - k, none⟩) k k) w := by
  have hl : Try.prog.arrayLen 88 = 16 := by kernel_rfl
  have hs : (sizeOf (Try.prog.elem 88)).run Try.prog w = .ok 1 w := by kernel_rfl
  rw [run_sliceAt_array_l w 88 ⟨b, 0, none⟩ (by kernel_rfl) .i64 _ (by omega) (by rw [hl]; omega), hs, hl]
  simp only [Result.andThen, slicedAt]
  have e : (16 - (k : Int)).toNat = 16 - k := by omega
  rw [e, if_neg (by omega), Addr.add_mid]
  have e1 : 16 - (16 - k) = k := by omega
  have e2 : 0 + (16 - k) * 1 = 16 - k := by omega
  rw [e1, e2]
/-- The call returns a row of its own that holds these cells; nothing that there was is changed. -/
def RetRow (e : TypeId) (xs : List Value) (w : World) (en : Ending) (w' : World) : Prop := ∃ v, en = .returned v ∧ w'.ownsRow w.heap.size e 1 v xs.length xs ∧ Below w.heap.size w w'

theorem info_u8 : (Try.prog.info? 5).map (fun i => (i.zero, i.size, i.bytes)) = some (some (.int .u8 0), 1, 1) := by kernel_rfl
set_option maxHeartbeats 1000000 in
theorem bytes_any (a : Nat) (ha : a < 2 ^ 128) (w : World) :
    Calls Try.prog 55 #[.agg #[.int .u64 (hi a), .int .u64 (lo a)]] w (RetRow 5 (byteCells a) w) := by
  have hn1 := nb_pos a
  have hn2 := nb_le a ha
  have hl := len_le a ha
  obtain ⟨i0, hi0, hz0, hy1, hy2⟩ := info_parts info_u8
  have HI := Lib.hid hi0
  have HZ := Lib.hid hz0
  have HY1 := Lib.hid hy1
  have HY2 := Lib.hid hy2
  clear hi0 hz0 hy1 hy2
  go_enter Try.func55, Try.ntmps55
  go_wp2_with fail
  go_at_call 67; refine (full_any a ha _).mono ?_; rintro e w1 ⟨rfl, hb1⟩; obtain ⟨hc1, hf1, hz1⟩ := after (w.heap.size + 1) hb1 (by simp) (by simp)
  go_wp2_with (refine wpList_store_new info_16 (fun _ _ => rfl) rfl rfl rfl rfl rfl ?_)
  go_at_call 68; refine (len_any a ha _).mono ?_; rintro e w2 ⟨rfl, hb2⟩
  go_wp2_with fail
  rw [max_nb]
  have h0 : w.heap.size < w1.heap.size := hz1 _ (by omega)
  have hB : Below w.heap.size w w2 := (((Below.refl _ _).alloc (by simp) _).trans ((hb1.mono (by simp)))).trans (((Below.refl _ _).alloc (by omega) _).trans (hb2.mono (by simp; omega)))
  have hrow := (RowAt.new w1 16 (fun i => Value.int IntKind.u8 (byteOf a (15 - i))) 88).below hb2 (by simp)
  have hnews : ∀ j u, (byteCells a)[j]? = some u → w2.cell? ((⟨w1.heap.size, 16 - nb a, none⟩ : Addr).add j) = some u := fun j u hu => by
    have hj : j < nb a := by have := (List.getElem?_eq_some_iff.1 hu).1; rwa [byteCells_len] at this
    rw [byteCells, rowL_get _ _ _ hj] at hu
    rw [Addr.add_mid, hrow.cell _ (by omega), ← hu]
    congr 3
    omega
  have Hn := Lib.hid hnews
  have Hr := Lib.hid hrow
  clear hnews hrow
  go_wp2_with (first
    | simp only [slice_16 w1.heap.size (nb a) hn1 hn2]
    | (at_builtin
       refine wpList_append_own _ rfl (.const (.slice none 0 0)) (.tmp 15) 23 rfl w.heap.size 5 i0 _ 1 1 Try.underlying23 HI.out HZ.out HY1.out HY2.out rfl (by omega) (.slice none 0 0) 0 [] rfl
         (World.ownsRow_nil _ _ _ _) ⟨w1.heap.size, 16 - nb a, none⟩ (nb a) (nb a) (byteCells a) rfl (by rw [byteCells_len]; omega) Hn.out (rowL_one fun _ _ => rfl) (by simp only [maxLen]; omega) (by omega) hB.size ?_
       intro v1 w3 hown hg hat))
  go_ret
  refine ⟨_, rfl, by rw [byteCells_len]; simpa using hown, hB.grown hg hB.size (by simp [Value.ownBlock])⟩
end Go.Proofs.Ythfimcbjbkbcjaa
