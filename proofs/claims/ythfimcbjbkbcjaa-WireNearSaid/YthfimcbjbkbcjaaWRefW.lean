/- The reference's functions that append. -/
import Derived.Test.YthfimcbjbkbcjaaWStr
import Derived.Test.YthfimcbjbkbcjaaRefBytes
import Derived.Deep.RegionHeld3
namespace Go.Proofs.Ythfimcbjbkbcjaa
open Go.RowKit

/-- An append of one byte, out of a block that was made for it. -/
theorem reads_one (w : World) (x : Nat) (t : TypeId) : ReadsL (w.alloc (.cells #[.int .u8 x] t)) w.heap.size (some ⟨w.heap.size, 0, none⟩) [x] :=
  .inr ⟨0, rfl, by simp, fun i hi => by
    obtain rfl : i = 0 := by simpa using hi
    rw [World.cell?_alloc_new]; rfl⟩
section
variable (v : Value) (l : List Nat) (B : Nat) (w : World)
theorem Own.alloc {w : World} {B : Nat} {v : Value} {l : List Nat} (h : Own w B v l) (o : Obj) : Own (w.alloc o) B v l := World.ownsRow.alloc h o
theorem grow_alloc {w w1 : World} {o : Obj} {v : Value} (h : (w.alloc o).grownBy w1 v.ownBlock) : w.grownBy w1 v.ownBlock := (grown_alloc w o _).trans h
theorem At.alloc {w : World} {o : Obj} {v v1 : Value} (h : At (w.alloc o) v v1) : At w v v1 := h.imp id fun ⟨g, e, hg⟩ => ⟨g, e, by simp at hg; omega⟩
theorem grown_undrew {w w1 : World} {row : Option Nat} (h : w.drew.grownBy w1 row) : w.grownBy w1 row := ⟨h.os, h.tape, h.output, h.size, h.block⟩
theorem rabool_any (x : Bool) (hO : Own w B v l) (hB : B ≤ w.heap.size) (hl : l.length ≤ 4000000) :
    Calls Try.prog 32 #[v, .bool x] w (Grows B (l ++ [if x = true then 1 else 0]) v w) := by
  have HO := Lib.hid hO
  clear hO
  cases x
  · go_enter Try.func32, Try.ntmps32
    go_wp2_with (at_builtin; (refine wpList_app rfl (.tmp 9) (.tmp 10) rfl rfl (HO.out.alloc _) rfl (reads_one w 0 _) rfl (by simp; omega) (by simp; omega) ?_; intro v1 w1 hO1 hg1 ha1))
    go_ret
    exact ⟨_, rfl, hO1, grow_alloc hg1, ha1.alloc⟩
  · go_enter Try.func32, Try.ntmps32
    go_wp2_with (at_builtin; (refine wpList_app rfl (.tmp 6) (.tmp 7) rfl rfl (HO.out.alloc _) rfl (reads_one w 1 _) rfl (by simp; omega) (by simp; omega) ?_; intro v1 w1 hO1 hg1 ha1))
    go_ret
    exact ⟨_, rfl, hO1, grow_alloc hg1, ha1.alloc⟩
theorem encU_byte (x : Nat) (hx : x < 256) : encU x 1 = [x] := by
  simp only [encU, encT, byteAt, List.nil_append]
  congr 1
  simp
  omega
set_option maxRecDepth 100000 in
theorem ravalue_any (a : Nat) (ha : a < 2 ^ 128) (hO : Own w B v l) (hB : B ≤ w.heap.size) (hl : l.length ≤ 4000000) :
    Calls Try.prog 36 #[v, .agg #[.int .u64 (hi a), .int .u64 (lo a)]] w (Grows B (l ++ encU (nb a) 1 ++ bl a) v w) := by
  have HO := Lib.hid hO
  have HA := Lib.hid ha
  have hn := nb_le a ha
  have HE := Lib.hid (encU_byte (nb a) (by omega))
  have hl2 := bl_len a
  have HL2 := Lib.hid hl2
  have w8 : IntKind.u8.wrap (nb a : Int) = (nb a : Int) := by rw [IntKind.wrap_u8]; omega
  clear hO ha hl2
  go_enter Try.func36, Try.ntmps36
  have HV := Lib.hid (World.ownsRow.lt HO.out)
  go_wp2_with (first
    | (go_at_call 57; refine (rbytesn_any a HA.out _).mono ?_; rintro e w1 ⟨b1, cap1, rfl, hr1, hb1, hnew⟩; obtain ⟨hr2, hb2⟩ := reads_bl hr1; have hbw : Below w.heap.size w w1 := ((Below.refl _ _).alloc (Nat.le_refl _) _).trans (hb1.mono (by simp)))
    | (at_builtin; (refine wpList_app rfl (.tmp 8) (.tmp 12) rfl rfl ((HO.out.below hbw).alloc _) rfl (reads_one w1 (nb a) _) rfl (by simp; omega) (by have := hbw.size; simp; omega) ?_; intro v1 w2 hO1 hg1 ha1))
    | (at_builtin; (have q1 := hO1; clear q1; (refine wpList_app rfl (.tmp 13) (.tmp 14) rfl rfl hO1 rfl (hr2.kept (grow_alloc hg1) (fun e => by have := (HV.out b1 e).2; simp at hnew; omega)) HL2.out (by rw [List.length_append]; simp; omega) (by have := hbw.size; have := hg1.size; simp at this; omega) ?_; intro v2 w3 hO2 hg2 ha2))))
  go_ret
  have g0 := grown_of_below hbw v.ownBlock
  have g1 := g0.trans (grow_alloc hg1)
  have a1 : At w v v1 := ha1.alloc.imp id fun ⟨g, e, hg⟩ => ⟨g, e, Nat.le_trans hbw.size hg⟩
  refine ⟨_, rfl, ?_, grown_step g1 a1 hg2, At.step g1 a1 ha2⟩
  rw [HE.out]
  exact hO2
theorem rabytes_any (A2 : Option Addr) (D2 n2 cap2 : Nat) (x : List Nat) (hO : Own w B v l) (hB : B ≤ w.heap.size) (hl : l.length ≤ 4000000) (hr2 : ReadsL w D2 A2 x) (hl2 : x.length = n2) (hn2 : n2 ≤ 65535) (hc2 : n2 ≤ cap2) (hd : v.ownBlock ≠ some D2) :
    Calls Try.prog 33 #[v, .slice A2 n2 cap2] w (Grows B (l ++ encU n2 2 ++ x) v w) := by
  have HO := Lib.hid hO
  have HR2 := Lib.hid hr2
  have HL2 := Lib.hid hl2
  have h1 : min (n2 : Int) 65535 = n2 := by omega
  have h2 : (n2 : Int) ≤ (cap2 : Int) := by omega
  have h3 : 0 ≤ (n2 : Int) := by omega
  have HD := Lib.hid hd
  have hU : ∀ W, Own W B v l → B ≤ W.heap.size → Calls Try.prog 31 #[v, .int .i64 n2, .int .i64 2] W (Grows B (l ++ encU n2 2) v W) := fun W h1 h2 => rnum_any v n2 2 l B W (by decide) (by decide) (by omega) (by omega) hl h2 h1
  have HU := Lib.hid hU
  clear hO hr2 hl2 hd hU
  go_enter Try.func33, Try.ntmps33
  go_wp2
  go_region_held3 (fun _ => True) (go_keep) (first
    | (go_at_call 31; refine (HU.out w.drew HO.out hB).mono ?_; rintro e w1 ⟨v1, rfl, hO1, hg0, ha1⟩; have hg1 := grown_undrew hg0)
    | (have q1 := hO1; clear q1; (refine step_app rfl (.tmp 11) (.tmp 14) (by rfl) (by rfl) hO1 (by rfl) (HR2.out.kept hg1 HD.out) HL2.out (by rw [List.length_append, encU_len]; omega) (Nat.le_trans hB hg1.size) ?_; intro v2 w2 hO2 hg2 ha2)))
  go_wp2
  go_ret
  exact ⟨_, rfl, hO2, grown_step hg1 ha1 hg2, At.step hg1 ha1 ha2⟩
theorem ratext_any (x : List Nat) (hx : Small x) (hO : Own w B v l) (hB : B ≤ w.heap.size) (hl : l.length ≤ 4000000) (hn2 : x.length ≤ 65535) :
    Calls Try.prog 35 #[v, .string (strL x)] w (Grows B (l ++ encU x.length 2 ++ x) v w) := by
  obtain ⟨cap2, W, hcv, hr2, hb, hW, hc2⟩ := conv_str w x hx
  have hC := Lib.hid (rabytes_any v l B W _ w.heap.size x.length cap2 x (hO.below hb) (Nat.le_trans hB hb.size) hl hr2 rfl hn2 hc2 (fun e => by have := (World.ownsRow.lt hO _ e).2; omega))
  clear hO hr2
  go_enter Try.func35, Try.ntmps35
  go_wp2_with (go_at_call 33; refine hC.out.mono ?_; rintro e w2 ⟨v2, rfl, hO2, hg2, ha2⟩)
  go_ret
  exact ⟨_, rfl, hO2, (grown_of_below hb _).trans hg2, ha2.imp id fun ⟨g, e, hg⟩ => ⟨g, e, Nat.le_trans hb.size hg⟩⟩
end
end Go.Proofs.Ythfimcbjbkbcjaa
