/- Layer 12: the reference's Put. -/
import Derived.Test.YtmlocfojmncghaaURPutN
import Derived.Test.YtmlocfojmncghaaURPutR
import Derived.Test.YtmlocfojmncghaaURel
namespace Go.Proofs.Ytmlocfojmncghaa
open Go.RowKit
set_option maxRecDepth 100000 in
set_option maxHeartbeats 12000000 in
theorem re_PutNo {w : World} {Y bits n0 cap : Nat} {A : Option Addr} {L : List PE} (h : RE w Y bits A n0 cap L) (hn : n0 ≤ 100000) (v : Nat) (hv : v < 2 ^ 128) (n id : Int) (hno : hereE v n L = true ∨ ¬ preU bits v n) : Calls Try.prog 22 #[.pointer (some ⟨Y, 0, none⟩), .agg #[.int .u64 (hi v), .int .u64 (lo v)], .int .i64 n, .int .i64 id] w (RetX (.bool false) w) := by
  have HR := Lib.hid h
  have HB0 : Hid (Below w.heap.size w (w.alloc (.cells #[.int .u64 (hi v), .int .u64 (lo v)] 29))) := Lib.hid ((Below.refl _ w).alloc (Nat.le_refl _) _)
  have HX0 : Hid ((w.alloc (.cells #[.int .u64 (hi v), .int .u64 (lo v)] 29)).heap[w.heap.size]? = some (.cells #[.int .u64 (hi v), .int .u64 (lo v)] 29 (0, 0))) := Lib.hid (heap_alloc_new w _)
  have hpl := re_place (h.below HB0.out) hn v hv n
  unfold RetPlcE at hpl
  generalize plcE v n L = i at hpl
  clear h
  cases hh : hereE v n L with
  | true =>
    rw [hh] at hpl
    clear hno hh
    go_enter Try.func22, Try.ntmps22
    go_wp2_with ((with_reducible refine hpl.mono ?_); rintro e w0 ⟨rfl, hb1⟩)
    go_ret
    exact ⟨rfl, HB0.out.trans (hb1.mono HB0.out.size)⟩
  | false =>
    rw [hh] at hpl
    have hnp : ¬ preU bits v n := hno.resolve_left (by rw [hh]; simp)
    have HPR : Hid (∀ W, Below w.heap.size w W → Calls Try.prog 67 #[.pointer (some ⟨Y, 0, none⟩), .agg #[.int .u64 (hi v), .int .u64 (lo v)], .int .i64 n] W (RetX (.bool false) W)) := Lib.hid fun W hb => by
      have := re_prefix (HR.out.below hb) v hv n
      rw [decide_eq_false hnp] at this
      exact this
    clear hno hh hnp
    go_enter Try.func22, Try.ntmps22
    go_wp2_with (first
      | ((with_reducible refine hpl.mono ?_); rintro e w0 ⟨rfl, hb1⟩; have HB1a := Lib.hid (HB0.out.trans (hb1.mono HB0.out.size)); have hX0 := (hb1.block w.heap.size (by simp)).trans HX0.out; have a0 := blk_cell hX0 0 _ rfl; have a1 := blk_cell hX0 1 _ rfl)
      | ((with_reducible refine (HPR.out _ HB1a.out).mono ?_); rintro e w1 ⟨rfl, hb2⟩))
    go_ret
    exact ⟨rfl, HB1a.out.trans (hb2.mono HB1a.out.size)⟩
theorem re_Put {w : World} {Y bits n0 cap : Nat} {A : Option Addr} {L : List PE} (h : RE w Y bits A n0 cap L) (hb8 : bits ≤ 128) (hn : n0 ≤ 100000) (v : Nat) (hv : v < 2 ^ 128) (n id : Int) : Calls Try.prog 22 #[.pointer (some ⟨Y, 0, none⟩), .agg #[.int .u64 (hi v), .int .u64 (lo v)], .int .i64 n, .int .i64 id] w fun e w' => e = .returned (.bool (decide (hereE v n L = false ∧ preU bits v n))) ∧ LeftE Y bits (putLE bits v n id L).length A L (putLE bits v n id L) w w' := by
  by_cases hc : hereE v n L = false ∧ preU bits v n
  · obtain ⟨k, hk, hk8⟩ := preU_len hc.2 hb8
    subst hk
    have e : putLE bits v k id L = putE v k id L := if_pos hc
    rw [e, decide_eq_true hc, putE_len, h.len]
    rcases h.nil with hA | hA
    · exact re_PutN h hn v hv k hk8 id hc.1 hc.2 hA
    · exact re_PutR h hn v hv k hk8 id hc.1 hc.2 hA
  · have e : putLE bits v n id L = L := if_neg hc
    rw [e, decide_eq_false hc]
    refine (re_PutNo h hn v hv n id ?_).mono ?_
    · cases hh : hereE v n L with
      | true => exact .inl rfl
      | false => exact .inr fun hp => hc ⟨hh, hp⟩
    · rintro e w' ⟨rfl, hb⟩
      exact ⟨rfl, ⟨A, cap, by rw [h.len]; exact h.below hb, fun g e hL => .inl ⟨e, hL⟩⟩, FrU.of_below hb⟩
end Go.Proofs.Ytmlocfojmncghaa
