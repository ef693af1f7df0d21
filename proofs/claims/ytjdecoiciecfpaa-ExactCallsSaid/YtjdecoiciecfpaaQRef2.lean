/- Layer 11: the reference's Put. -/
import Derived.Test.YtjdecoiciecfpaaQRef2N
import Derived.Test.YtjdecoiciecfpaaQRef2R
namespace Go.Proofs.Ytjdecoiciecfpaa
open Go.RowKit Go.Maps Go.Sort
set_option maxRecDepth 100000 in
set_option maxHeartbeats 12000000 in
theorem qr_Put {w : World} {Y n cap : Nat} {A : Option Addr} {pts : List Pt} {f : Pt → Int} (h : RI w Y A n cap pts f) (hn : n ≤ 100000) (p : Pt) (id : Int) : Calls Try.prog 32 #[.pointer (some ⟨Y, 0, none⟩), ptV p, .int .i64 id] w (RetRPut Y n pts f p id w) := by
  have HR := Lib.hid h
  have HB0 : Hid (Below w.heap.size w (w.alloc (.cells #[.int .u64 (hi p.a), .int .u64 (lo p.a), .int .u64 (hi p.b), .int .u64 (lo p.b), .int .u64 (hi p.c), .int .u64 (lo p.c), .int .u64 (hi p.d), .int .u64 (lo p.d)] 29))) := Lib.hid ((Below.refl _ w).alloc (Nat.le_refl _) _)
  have HX0 : Hid ((w.alloc (.cells #[.int .u64 (hi p.a), .int .u64 (lo p.a), .int .u64 (hi p.b), .int .u64 (lo p.b), .int .u64 (hi p.c), .int .u64 (lo p.c), .int .u64 (hi p.d), .int .u64 (lo p.d)] 29)).heap[w.heap.size]? = some (.cells #[.int .u64 (hi p.a), .int .u64 (lo p.a), .int .u64 (hi p.b), .int .u64 (lo p.b), .int .u64 (hi p.c), .int .u64 (lo p.c), .int .u64 (hi p.d), .int .u64 (lo p.d)] 29 (0, 0))) := Lib.hid (heap_alloc_new w _)
  have hpl := qr_place (h.below HB0.out) hn p
  obtain ⟨i0, hi0, hz0, hy1, hy2⟩ := info_partsQ info_rpair
  have HI0 := Lib.hid hi0
  have HZ0 := Lib.hid hz0
  have HY1 := Lib.hid hy1
  have HY2 := Lib.hid hy2
  have hple := plc_le p pts
  rw [h.len] at hple
  clear h hi0 hz0 hy1 hy2
  unfold RetPlace at hpl
  by_cases hp : p ∈ pts
  · rw [decide_eq_true hp] at hpl
    have HP := Lib.hid hp
    clear hp
    unfold ptV at hpl ⊢
    go_enter Try.func32, Try.ntmps32
    go_wp2_with ((with_reducible refine hpl.mono ?_); rintro e w1 ⟨rfl, hb1⟩)
    go_ret
    exact .inl ⟨HP.out, rfl, HB0.out.trans (hb1.mono HB0.out.size)⟩
  · rcases HR.out.nil with hA | hA
    · exact qr_PutN HR.out hn p id hp hA
    · exact qr_PutR HR.out hn p id hp hA
end Go.Proofs.Ytjdecoiciecfpaa
