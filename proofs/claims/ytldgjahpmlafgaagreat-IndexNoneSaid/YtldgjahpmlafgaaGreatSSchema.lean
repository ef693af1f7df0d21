/- Making a schema out of choices: the schema. -/
import Derived.Test.YtldgjahpmlafgaaGreatSSchP
namespace Go.Proofs.YtldgjahpmlafgaaGreat
open Go.RowKit

theorem hdr_el {a b K L n : Nat} {W : World} {id : Int} {name : List Nat} (xs : List Int) (hx : Bx K L (xs.map fun x => Value.int .i64 x) W) (ha : a ≤ L) (hb : L < b) (hn : n = xs.length) (hm : n ≤ maxLen) (h : ∀ x ∈ xs, I64 x) (hi : I64 id) (ht : Txt name) : ElH HeaderV a b W [.int .i64 id, .string (strL name), .slice (some ⟨L, 0, none⟩) n n] ⟨id, name, xs⟩ :=
  fun w2 B hs hB => ⟨_, rfl, hi, ht, ints_lit xs hx ha hb hn hm h w2 B hs hB⟩
set_option maxRecDepth 100000 in
set_option maxHeartbeats 8000000 in
theorem schema_any {K D p : Nat} {l : List Nat} {w : World} (h : CoAt K D l p w) : Calls Tryz.prog 16 #[.pointer (some ⟨K, 0, none⟩)] w (RetSchema K D l w) := by
  have HDl := Lib.hid h.dlt
  have hKw := h.lt
  obtain ⟨wQ, hwQ⟩ : ∃ x, x = w.alloc (.cells #[.slice none 0 0, .slice none 0 0, .slice none 0 0, .slice none 0 0, .slice none 0 0, .slice none 0 0, .slice none 0 0, .slice none 0 0, .int .i64 0, .int .i64 0] 36) := ⟨_, rfl⟩
  have gQ : w.grownBy wQ none := by rw [hwQ]; exact grown_alloc _ _ _
  have zQ : wQ.heap.size = w.heap.size + 1 := by rw [hwQ]; simp
  have xQ : Bx K w.heap.size zeroSchema wQ := by rw [hwQ]; exact Bx.new hKw zeroSchema 36
  have cQ := h.kept gQ (by simp) (by simp)
  have HXq := Lib.hid xQ
  have HWQ := Lib.hid hwQ
  have HGQ := Lib.hid (grown_below (row := some K) gQ)
  have HN1 := Lib.hid (next8 cQ)
  clear h xQ hwQ gQ cQ
  go_enter Tryz.func16, Tryz.ntmps16
  go_wp2_with fail
  rw [← HWQ.out]
  refine HN1.out.mono ?_
  rintro e w1 ⟨m, hm, rfl, hgw1, pw1, cw1⟩
  have am : (m : Int) < 8 := by omega
  have bm : 0 ≤ (m : Int) := by omega
  have HXq := Lib.hid (HXq.out.chose hgw1)
  have HGw1 := Lib.hid (World.grownBy.trans HGQ.out hgw1)
  have zw1 : wQ.heap.size ≤ w1.heap.size := hgw1.size
  have Hvm := Lib.hid hm
  have HN2 := Lib.hid (next30 cw1)
  clear cw1 hgw1
  go_wp2_with fail
  refine HN2.out.mono ?_
  rintro e w2 ⟨n, hn, rfl, hgw2, pw2, cw2⟩
  have an : (n : Int) < 30 := by omega
  have bn : 0 ≤ (n : Int) := by omega
  have HXq := Lib.hid (HXq.out.chose hgw2)
  have HGw2 := Lib.hid (World.grownBy.trans HGw1.out hgw2)
  have zw2 : w1.heap.size ≤ w2.heap.size := hgw2.size
  have Hvn := Lib.hid hn
  obtain ⟨w5, hw5⟩ : ∃ x, x = ((((((w2.alloc (.cells #[.slice (some ⟨w2.heap.size + 1, 0, none⟩) 9 9, .slice (some ⟨w2.heap.size + 1 + 1 + 1 + 1 + 1, 0, none⟩) 3 3, .slice none 0 0, .slice none 0 0, .slice none 0 0, .slice none 0 0, .slice none 0 0, .slice none 0 0, .int .i64 (2 + (m : Int)), .int .i64 (12 + (n : Int))] 36)).alloc (.cells #[.int .i64 1, .string ⟨#[105, 110, 103, 114, 101, 115, 115]⟩, .int .i64 16, .int .i64 2, .string ⟨#[101, 103, 114, 101, 115, 115]⟩, .int .i64 16, .int .i64 3, .string ⟨#[109, 101, 116, 97]⟩, .int .i64 8, .int .i64 4, .string ⟨#[97]⟩, .int .i64 4, .int .i64 5, .string ⟨#[98]⟩, .int .i64 4, .int .i64 6, .string ⟨#[101]⟩, .int .i64 8, .int .i64 7, .string ⟨#[100]⟩, .int .i64 32, .int .i64 8, .string ⟨#[102]⟩, .int .i64 12, .int .i64 9, .string ⟨#[103]⟩, .int .i64 4] 112)).alloc (.cells #[.int .i64 4, .int .i64 5, .int .i64 6] 3)).alloc (.cells #[.int .i64 7] 3)).alloc (.cells #[.int .i64 8, .int .i64 9] 3)).alloc (.cells #[.int .i64 1, .string ⟨#[111, 110, 101]⟩, .slice (some ⟨w2.heap.size + 1 + 1, 0, none⟩) 3 3, .int .i64 2, .string ⟨#[116, 119, 111]⟩, .slice (some ⟨w2.heap.size + 1 + 1 + 1, 0, none⟩) 1 1, .int .i64 3, .string ⟨#[116, 104, 114, 101, 101]⟩, .slice (some ⟨w2.heap.size + 1 + 1 + 1 + 1, 0, none⟩) 2 2] 114)) := ⟨_, rfl⟩
  have g5 : w2.grownBy w5 none := by rw [hw5]; exact ((((((grown_alloc _ _ _).trans (grown_alloc _ _ _)).trans (grown_alloc _ _ _)).trans (grown_alloc _ _ _)).trans (grown_alloc _ _ _)).trans (grown_alloc _ _ _))
  have z5 : w5.heap.size = w2.heap.size + 6 := by rw [hw5]; simp
  have hK2 := cw2.lt
  have y0 : Bx K (w2.heap.size) [.slice (some ⟨w2.heap.size + 1, 0, none⟩) 9 9, .slice (some ⟨w2.heap.size + 1 + 1 + 1 + 1 + 1, 0, none⟩) 3 3, .slice none 0 0, .slice none 0 0, .slice none 0 0, .slice none 0 0, .slice none 0 0, .slice none 0 0, .int .i64 (2 + (m : Int)), .int .i64 (12 + (n : Int))] w5 := by
    rw [hw5]
    exact ((((((Bx.new hK2 [.slice (some ⟨w2.heap.size + 1, 0, none⟩) 9 9, .slice (some ⟨w2.heap.size + 1 + 1 + 1 + 1 + 1, 0, none⟩) 3 3, .slice none 0 0, .slice none 0 0, .slice none 0 0, .slice none 0 0, .slice none 0 0, .slice none 0 0, .int .i64 (2 + (m : Int)), .int .i64 (12 + (n : Int))] 36).alloc (.cells #[.int .i64 1, .string ⟨#[105, 110, 103, 114, 101, 115, 115]⟩, .int .i64 16, .int .i64 2, .string ⟨#[101, 103, 114, 101, 115, 115]⟩, .int .i64 16, .int .i64 3, .string ⟨#[109, 101, 116, 97]⟩, .int .i64 8, .int .i64 4, .string ⟨#[97]⟩, .int .i64 4, .int .i64 5, .string ⟨#[98]⟩, .int .i64 4, .int .i64 6, .string ⟨#[101]⟩, .int .i64 8, .int .i64 7, .string ⟨#[100]⟩, .int .i64 32, .int .i64 8, .string ⟨#[102]⟩, .int .i64 12, .int .i64 9, .string ⟨#[103]⟩, .int .i64 4] 112)).alloc (.cells #[.int .i64 4, .int .i64 5, .int .i64 6] 3)).alloc (.cells #[.int .i64 7] 3)).alloc (.cells #[.int .i64 8, .int .i64 9] 3)).alloc (.cells #[.int .i64 1, .string ⟨#[111, 110, 101]⟩, .slice (some ⟨w2.heap.size + 1 + 1, 0, none⟩) 3 3, .int .i64 2, .string ⟨#[116, 119, 111]⟩, .slice (some ⟨w2.heap.size + 1 + 1 + 1, 0, none⟩) 1 1, .int .i64 3, .string ⟨#[116, 104, 114, 101, 101]⟩, .slice (some ⟨w2.heap.size + 1 + 1 + 1 + 1, 0, none⟩) 2 2] 114))
  have y1 : Bx K (w2.heap.size + 1) [.int .i64 1, .string ⟨#[105, 110, 103, 114, 101, 115, 115]⟩, .int .i64 16, .int .i64 2, .string ⟨#[101, 103, 114, 101, 115, 115]⟩, .int .i64 16, .int .i64 3, .string ⟨#[109, 101, 116, 97]⟩, .int .i64 8, .int .i64 4, .string ⟨#[97]⟩, .int .i64 4, .int .i64 5, .string ⟨#[98]⟩, .int .i64 4, .int .i64 6, .string ⟨#[101]⟩, .int .i64 8, .int .i64 7, .string ⟨#[100]⟩, .int .i64 32, .int .i64 8, .string ⟨#[102]⟩, .int .i64 12, .int .i64 9, .string ⟨#[103]⟩, .int .i64 4] w5 := by
    rw [hw5]
    have := (((((Bx.new (K := K) (W := (w2.alloc (.cells #[.slice (some ⟨w2.heap.size + 1, 0, none⟩) 9 9, .slice (some ⟨w2.heap.size + 1 + 1 + 1 + 1 + 1, 0, none⟩) 3 3, .slice none 0 0, .slice none 0 0, .slice none 0 0, .slice none 0 0, .slice none 0 0, .slice none 0 0, .int .i64 (2 + (m : Int)), .int .i64 (12 + (n : Int))] 36))) (by simp; omega) [.int .i64 1, .string ⟨#[105, 110, 103, 114, 101, 115, 115]⟩, .int .i64 16, .int .i64 2, .string ⟨#[101, 103, 114, 101, 115, 115]⟩, .int .i64 16, .int .i64 3, .string ⟨#[109, 101, 116, 97]⟩, .int .i64 8, .int .i64 4, .string ⟨#[97]⟩, .int .i64 4, .int .i64 5, .string ⟨#[98]⟩, .int .i64 4, .int .i64 6, .string ⟨#[101]⟩, .int .i64 8, .int .i64 7, .string ⟨#[100]⟩, .int .i64 32, .int .i64 8, .string ⟨#[102]⟩, .int .i64 12, .int .i64 9, .string ⟨#[103]⟩, .int .i64 4] 112).alloc (.cells #[.int .i64 4, .int .i64 5, .int .i64 6] 3)).alloc (.cells #[.int .i64 7] 3)).alloc (.cells #[.int .i64 8, .int .i64 9] 3)).alloc (.cells #[.int .i64 1, .string ⟨#[111, 110, 101]⟩, .slice (some ⟨w2.heap.size + 1 + 1, 0, none⟩) 3 3, .int .i64 2, .string ⟨#[116, 119, 111]⟩, .slice (some ⟨w2.heap.size + 1 + 1 + 1, 0, none⟩) 1 1, .int .i64 3, .string ⟨#[116, 104, 114, 101, 101]⟩, .slice (some ⟨w2.heap.size + 1 + 1 + 1 + 1, 0, none⟩) 2 2] 114))
    simpa only [World.size_alloc] using this
  have y2 : Bx K (w2.heap.size + 1 + 1) [.int .i64 4, .int .i64 5, .int .i64 6] w5 := by
    rw [hw5]
    have := ((((Bx.new (K := K) (W := ((w2.alloc (.cells #[.slice (some ⟨w2.heap.size + 1, 0, none⟩) 9 9, .slice (some ⟨w2.heap.size + 1 + 1 + 1 + 1 + 1, 0, none⟩) 3 3, .slice none 0 0, .slice none 0 0, .slice none 0 0, .slice none 0 0, .slice none 0 0, .slice none 0 0, .int .i64 (2 + (m : Int)), .int .i64 (12 + (n : Int))] 36)).alloc (.cells #[.int .i64 1, .string ⟨#[105, 110, 103, 114, 101, 115, 115]⟩, .int .i64 16, .int .i64 2, .string ⟨#[101, 103, 114, 101, 115, 115]⟩, .int .i64 16, .int .i64 3, .string ⟨#[109, 101, 116, 97]⟩, .int .i64 8, .int .i64 4, .string ⟨#[97]⟩, .int .i64 4, .int .i64 5, .string ⟨#[98]⟩, .int .i64 4, .int .i64 6, .string ⟨#[101]⟩, .int .i64 8, .int .i64 7, .string ⟨#[100]⟩, .int .i64 32, .int .i64 8, .string ⟨#[102]⟩, .int .i64 12, .int .i64 9, .string ⟨#[103]⟩, .int .i64 4] 112))) (by simp; omega) [.int .i64 4, .int .i64 5, .int .i64 6] 3).alloc (.cells #[.int .i64 7] 3)).alloc (.cells #[.int .i64 8, .int .i64 9] 3)).alloc (.cells #[.int .i64 1, .string ⟨#[111, 110, 101]⟩, .slice (some ⟨w2.heap.size + 1 + 1, 0, none⟩) 3 3, .int .i64 2, .string ⟨#[116, 119, 111]⟩, .slice (some ⟨w2.heap.size + 1 + 1 + 1, 0, none⟩) 1 1, .int .i64 3, .string ⟨#[116, 104, 114, 101, 101]⟩, .slice (some ⟨w2.heap.size + 1 + 1 + 1 + 1, 0, none⟩) 2 2] 114))
    simpa only [World.size_alloc] using this
  have y3 : Bx K (w2.heap.size + 1 + 1 + 1) [.int .i64 7] w5 := by
    rw [hw5]
    have := (((Bx.new (K := K) (W := (((w2.alloc (.cells #[.slice (some ⟨w2.heap.size + 1, 0, none⟩) 9 9, .slice (some ⟨w2.heap.size + 1 + 1 + 1 + 1 + 1, 0, none⟩) 3 3, .slice none 0 0, .slice none 0 0, .slice none 0 0, .slice none 0 0, .slice none 0 0, .slice none 0 0, .int .i64 (2 + (m : Int)), .int .i64 (12 + (n : Int))] 36)).alloc (.cells #[.int .i64 1, .string ⟨#[105, 110, 103, 114, 101, 115, 115]⟩, .int .i64 16, .int .i64 2, .string ⟨#[101, 103, 114, 101, 115, 115]⟩, .int .i64 16, .int .i64 3, .string ⟨#[109, 101, 116, 97]⟩, .int .i64 8, .int .i64 4, .string ⟨#[97]⟩, .int .i64 4, .int .i64 5, .string ⟨#[98]⟩, .int .i64 4, .int .i64 6, .string ⟨#[101]⟩, .int .i64 8, .int .i64 7, .string ⟨#[100]⟩, .int .i64 32, .int .i64 8, .string ⟨#[102]⟩, .int .i64 12, .int .i64 9, .string ⟨#[103]⟩, .int .i64 4] 112)).alloc (.cells #[.int .i64 4, .int .i64 5, .int .i64 6] 3))) (by simp; omega) [.int .i64 7] 3).alloc (.cells #[.int .i64 8, .int .i64 9] 3)).alloc (.cells #[.int .i64 1, .string ⟨#[111, 110, 101]⟩, .slice (some ⟨w2.heap.size + 1 + 1, 0, none⟩) 3 3, .int .i64 2, .string ⟨#[116, 119, 111]⟩, .slice (some ⟨w2.heap.size + 1 + 1 + 1, 0, none⟩) 1 1, .int .i64 3, .string ⟨#[116, 104, 114, 101, 101]⟩, .slice (some ⟨w2.heap.size + 1 + 1 + 1 + 1, 0, none⟩) 2 2] 114))
    simpa only [World.size_alloc] using this
  have y4 : Bx K (w2.heap.size + 1 + 1 + 1 + 1) [.int .i64 8, .int .i64 9] w5 := by
    rw [hw5]
    have := ((Bx.new (K := K) (W := ((((w2.alloc (.cells #[.slice (some ⟨w2.heap.size + 1, 0, none⟩) 9 9, .slice (some ⟨w2.heap.size + 1 + 1 + 1 + 1 + 1, 0, none⟩) 3 3, .slice none 0 0, .slice none 0 0, .slice none 0 0, .slice none 0 0, .slice none 0 0, .slice none 0 0, .int .i64 (2 + (m : Int)), .int .i64 (12 + (n : Int))] 36)).alloc (.cells #[.int .i64 1, .string ⟨#[105, 110, 103, 114, 101, 115, 115]⟩, .int .i64 16, .int .i64 2, .string ⟨#[101, 103, 114, 101, 115, 115]⟩, .int .i64 16, .int .i64 3, .string ⟨#[109, 101, 116, 97]⟩, .int .i64 8, .int .i64 4, .string ⟨#[97]⟩, .int .i64 4, .int .i64 5, .string ⟨#[98]⟩, .int .i64 4, .int .i64 6, .string ⟨#[101]⟩, .int .i64 8, .int .i64 7, .string ⟨#[100]⟩, .int .i64 32, .int .i64 8, .string ⟨#[102]⟩, .int .i64 12, .int .i64 9, .string ⟨#[103]⟩, .int .i64 4] 112)).alloc (.cells #[.int .i64 4, .int .i64 5, .int .i64 6] 3)).alloc (.cells #[.int .i64 7] 3))) (by simp; omega) [.int .i64 8, .int .i64 9] 3).alloc (.cells #[.int .i64 1, .string ⟨#[111, 110, 101]⟩, .slice (some ⟨w2.heap.size + 1 + 1, 0, none⟩) 3 3, .int .i64 2, .string ⟨#[116, 119, 111]⟩, .slice (some ⟨w2.heap.size + 1 + 1 + 1, 0, none⟩) 1 1, .int .i64 3, .string ⟨#[116, 104, 114, 101, 101]⟩, .slice (some ⟨w2.heap.size + 1 + 1 + 1 + 1, 0, none⟩) 2 2] 114))
    simpa only [World.size_alloc] using this
  have y5 : Bx K (w2.heap.size + 1 + 1 + 1 + 1 + 1) [.int .i64 1, .string ⟨#[111, 110, 101]⟩, .slice (some ⟨w2.heap.size + 1 + 1, 0, none⟩) 3 3, .int .i64 2, .string ⟨#[116, 119, 111]⟩, .slice (some ⟨w2.heap.size + 1 + 1 + 1, 0, none⟩) 1 1, .int .i64 3, .string ⟨#[116, 104, 114, 101, 101]⟩, .slice (some ⟨w2.heap.size + 1 + 1 + 1 + 1, 0, none⟩) 2 2] w5 := by
    rw [hw5]
    have := (Bx.new (K := K) (W := (((((w2.alloc (.cells #[.slice (some ⟨w2.heap.size + 1, 0, none⟩) 9 9, .slice (some ⟨w2.heap.size + 1 + 1 + 1 + 1 + 1, 0, none⟩) 3 3, .slice none 0 0, .slice none 0 0, .slice none 0 0, .slice none 0 0, .slice none 0 0, .slice none 0 0, .int .i64 (2 + (m : Int)), .int .i64 (12 + (n : Int))] 36)).alloc (.cells #[.int .i64 1, .string ⟨#[105, 110, 103, 114, 101, 115, 115]⟩, .int .i64 16, .int .i64 2, .string ⟨#[101, 103, 114, 101, 115, 115]⟩, .int .i64 16, .int .i64 3, .string ⟨#[109, 101, 116, 97]⟩, .int .i64 8, .int .i64 4, .string ⟨#[97]⟩, .int .i64 4, .int .i64 5, .string ⟨#[98]⟩, .int .i64 4, .int .i64 6, .string ⟨#[101]⟩, .int .i64 8, .int .i64 7, .string ⟨#[100]⟩, .int .i64 32, .int .i64 8, .string ⟨#[102]⟩, .int .i64 12, .int .i64 9, .string ⟨#[103]⟩, .int .i64 4] 112)).alloc (.cells #[.int .i64 4, .int .i64 5, .int .i64 6] 3)).alloc (.cells #[.int .i64 7] 3)).alloc (.cells #[.int .i64 8, .int .i64 9] 3))) (by simp; omega) [.int .i64 1, .string ⟨#[111, 110, 101]⟩, .slice (some ⟨w2.heap.size + 1 + 1, 0, none⟩) 3 3, .int .i64 2, .string ⟨#[116, 119, 111]⟩, .slice (some ⟨w2.heap.size + 1 + 1 + 1, 0, none⟩) 1 1, .int .i64 3, .string ⟨#[116, 104, 114, 101, 101]⟩, .slice (some ⟨w2.heap.size + 1 + 1 + 1 + 1, 0, none⟩) 2 2] 114)
    simpa only [World.size_alloc] using this
  have r0 : RowH 3 FieldV (w2.heap.size + 1) w5.heap.size w5 (.slice (some ⟨w2.heap.size + 1, 0, none⟩) 9 9) fieldsD := y1.row (P := FieldV) (sz := 3) (by omega) (by omega) [([.int .i64 1, .string ⟨#[105, 110, 103, 114, 101, 115, 115]⟩, .int .i64 16], (⟨1, [105, 110, 103, 114, 101, 115, 115], 16⟩ : FieldD)), ([.int .i64 2, .string ⟨#[101, 103, 114, 101, 115, 115]⟩, .int .i64 16], (⟨2, [101, 103, 114, 101, 115, 115], 16⟩ : FieldD)), ([.int .i64 3, .string ⟨#[109, 101, 116, 97]⟩, .int .i64 8], (⟨3, [109, 101, 116, 97], 8⟩ : FieldD)), ([.int .i64 4, .string ⟨#[97]⟩, .int .i64 4], (⟨4, [97], 4⟩ : FieldD)), ([.int .i64 5, .string ⟨#[98]⟩, .int .i64 4], (⟨5, [98], 4⟩ : FieldD)), ([.int .i64 6, .string ⟨#[101]⟩, .int .i64 8], (⟨6, [101], 8⟩ : FieldD)), ([.int .i64 7, .string ⟨#[100]⟩, .int .i64 32], (⟨7, [100], 32⟩ : FieldD)), ([.int .i64 8, .string ⟨#[102]⟩, .int .i64 12], (⟨8, [102], 12⟩ : FieldD)), ([.int .i64 9, .string ⟨#[103]⟩, .int .i64 4], (⟨9, [103], 4⟩ : FieldD))] (fun q hq => by
    simp only [List.mem_cons, List.not_mem_nil, or_false] at hq
    rcases hq with rfl | rfl | rfl | rfl | rfl | rfl | rfl | rfl | rfl <;> rfl) rfl (by decide) rfl (fun q hq w2 B _ _ => by
    simp only [List.mem_cons, List.not_mem_nil, or_false] at hq
    rcases hq with rfl | rfl | rfl | rfl | rfl | rfl | rfl | rfl | rfl
    · exact ⟨rfl, i64_of (x := 1) (by decide), txtT (l := [105, 110, 103, 114, 101, 115, 115]) (by decide) (by decide), i64_of (x := 16) (by decide)⟩
    · exact ⟨rfl, i64_of (x := 2) (by decide), txtT (l := [101, 103, 114, 101, 115, 115]) (by decide) (by decide), i64_of (x := 16) (by decide)⟩
    · exact ⟨rfl, i64_of (x := 3) (by decide), txtT (l := [109, 101, 116, 97]) (by decide) (by decide), i64_of (x := 8) (by decide)⟩
    · exact ⟨rfl, i64_of (x := 4) (by decide), txtT (l := [97]) (by decide) (by decide), i64_of (x := 4) (by decide)⟩
    · exact ⟨rfl, i64_of (x := 5) (by decide), txtT (l := [98]) (by decide) (by decide), i64_of (x := 4) (by decide)⟩
    · exact ⟨rfl, i64_of (x := 6) (by decide), txtT (l := [101]) (by decide) (by decide), i64_of (x := 8) (by decide)⟩
    · exact ⟨rfl, i64_of (x := 7) (by decide), txtT (l := [100]) (by decide) (by decide), i64_of (x := 32) (by decide)⟩
    · exact ⟨rfl, i64_of (x := 8) (by decide), txtT (l := [102]) (by decide) (by decide), i64_of (x := 12) (by decide)⟩
    · exact ⟨rfl, i64_of (x := 9) (by decide), txtT (l := [103]) (by decide) (by decide), i64_of (x := 4) (by decide)⟩)
  have r1 : RowH 3 HeaderV (w2.heap.size + 1) w5.heap.size w5 (.slice (some ⟨w2.heap.size + 1 + 1 + 1 + 1 + 1, 0, none⟩) 3 3) headersD := y5.row (P := HeaderV) (sz := 3) (by omega) (by omega) [([.int .i64 1, .string ⟨#[111, 110, 101]⟩, .slice (some ⟨w2.heap.size + 1 + 1, 0, none⟩) 3 3], (⟨1, [111, 110, 101], [4, 5, 6]⟩ : HeaderD)), ([.int .i64 2, .string ⟨#[116, 119, 111]⟩, .slice (some ⟨w2.heap.size + 1 + 1 + 1, 0, none⟩) 1 1], (⟨2, [116, 119, 111], [7]⟩ : HeaderD)), ([.int .i64 3, .string ⟨#[116, 104, 114, 101, 101]⟩, .slice (some ⟨w2.heap.size + 1 + 1 + 1 + 1, 0, none⟩) 2 2], (⟨3, [116, 104, 114, 101, 101], [8, 9]⟩ : HeaderD))] (fun q hq => by
    simp only [List.mem_cons, List.not_mem_nil, or_false] at hq
    rcases hq with rfl | rfl | rfl <;> rfl) rfl (by decide) rfl (fun q hq => by
    simp only [List.mem_cons, List.not_mem_nil, or_false] at hq
    rcases hq with rfl | rfl | rfl
    · exact hdr_el (n := 3) [4, 5, 6] y2 (by omega) (by omega) rfl (by decide) (by intro z hz; simp only [List.mem_cons, List.not_mem_nil, or_false] at hz; rcases hz with rfl | rfl | rfl <;> exact i64_of (by decide)) (i64_of (x := 1) (by decide)) (txtT (l := [111, 110, 101]) (by decide) (by decide))
    · exact hdr_el (n := 1) [7] y3 (by omega) (by omega) rfl (by decide) (by intro z hz; simp only [List.mem_cons, List.not_mem_nil, or_false] at hz; rcases hz with rfl <;> exact i64_of (by decide)) (i64_of (x := 2) (by decide)) (txtT (l := [116, 119, 111]) (by decide) (by decide))
    · exact hdr_el (n := 2) [8, 9] y4 (by omega) (by omega) rfl (by decide) (by intro z hz; simp only [List.mem_cons, List.not_mem_nil, or_false] at hz; rcases hz with rfl | rfl <;> exact i64_of (by decide)) (i64_of (x := 3) (by decide)) (txtT (l := [116, 104, 114, 101, 101]) (by decide) (by decide)))
  have c5 := cw2.kept g5 (by simp) (by simp)
  have HXq := Lib.hid (HXq.out.kept g5 (by simp))
  have HXs := Lib.hid y0
  have HR0 := Lib.hid r0
  have HR1 := Lib.hid r1
  have HW5 := Lib.hid hw5
  have HG5 := Lib.hid (World.grownBy.trans HGw2.out (grown_below g5))
  have HN3 := Lib.hid (states_any c5)
  clear y0 y1 y2 y3 y4 y5 r0 r1 hw5 g5 c5 cw2 hgw2
  go_wp2_with fail
  rw [← HW5.out]
  refine HN3.out.mono ?_
  rintro e w6 ⟨v2, ss, rfl, hss, r2, hg6, p6, c6⟩
  obtain ⟨A2, n2, d2, rfl⟩ := r2.form (Nat.le_refl _)
  have HXq := Lib.hid (HXq.out.chose hg6)
  have HXs := Lib.hid (HXs.out.chose hg6)
  have HG6 := Lib.hid (World.grownBy.trans HG5.out hg6)
  have zz6 : w5.heap.size ≤ w6.heap.size := hg6.size
  have Hg6 := Lib.hid hg6
  have HR2 := Lib.hid r2
  have HSS := Lib.hid hss
  have HN4 := Lib.hid (actions_any c6)
  clear r2 hss hg6 c6
  go_wp2_with fail
  refine HN4.out.mono ?_
  rintro e w7 ⟨v3, rfl, hac, hg7, p7, c7⟩
  obtain ⟨aq, ar, t3, t5, haq, har, hat, r3⟩ := acts_row hac
  obtain ⟨A3, n3, d3, rfl⟩ := r3.form (Nat.le_refl _)
  have HXq := Lib.hid (HXq.out.chose hg7)
  have HXs := Lib.hid (HXs.out.chose hg7)
  have HG7 := Lib.hid (World.grownBy.trans HG6.out hg7)
  have zz7 : w6.heap.size ≤ w7.heap.size := hg7.size
  have Hg7 := Lib.hid hg7
  have HR3 := Lib.hid r3
  have HAc : Hid (∃ (q r : Nat) (t3' t5' : List Nat), q < 2 ∧ r < 256 ∧ ActTexts t3' t5' ∧ actDs aq ar t3 t5 = actDs q r t3' t5') := Lib.hid ⟨aq, ar, t3, t5, haq, har, hat, rfl⟩
  have HN5 := Lib.hid (tables_any c7)
  clear r3 hac hg7 c7 haq har hat
  go_wp2_with fail
  refine HN5.out.mono ?_
  rintro e w8 ⟨v4, ts, rfl, hts, r4, hg8, p8, c8⟩
  obtain ⟨A4, n4, d4, rfl⟩ := r4.form (Nat.le_refl _)
  have HXq := Lib.hid (HXq.out.chose hg8)
  have HXs := Lib.hid (HXs.out.chose hg8)
  have HG8 := Lib.hid (World.grownBy.trans HG7.out hg8)
  have zz8 : w7.heap.size ≤ w8.heap.size := hg8.size
  have Hg8 := Lib.hid hg8
  have s2 : w8.cell? ⟨w2.heap.size, 2, none⟩ = some (.slice none 0 0) := HXs.out.c 2 (by simp)
  have f2 := HXs.out.f 2
  have s3 : w8.cell? ⟨w2.heap.size, 3, none⟩ = some (.slice none 0 0) := HXs.out.c 3 (by simp)
  have f3 := HXs.out.f 3
  have s4 : w8.cell? ⟨w2.heap.size, 4, none⟩ = some (.slice none 0 0) := HXs.out.c 4 (by simp)
  have f4 := HXs.out.f 4
  obtain ⟨w9, hw9⟩ : ∃ x, x = ((w8.setCell ⟨w2.heap.size, 2, none⟩ (.slice A2 n2 d2)).setCell ⟨w2.heap.size, 3, none⟩ (.slice A3 n3 d3)).setCell ⟨w2.heap.size, 4, none⟩ (.slice A4 n4 d4) := ⟨_, rfl⟩
  have hSK : w2.heap.size ≠ K := HXs.out.ne
  have x9 := ((HXs.out.set 2 (.slice A2 n2 d2)).set 3 (.slice A3 n3 d3)).set 4 (.slice A4 n4 d4)
  rw [← hw9] at x9
  have q9 := ((HXq.out.other (M := w2.heap.size) (by have := HXq.out.lt; omega) 2 (.slice A2 n2 d2)).other (M := w2.heap.size) (by omega) 3 (.slice A3 n3 d3)).other (M := w2.heap.size) (by omega) 4 (.slice A4 n4 d4)
  rw [← hw9] at q9
  have z9 : w9.heap.size = w8.heap.size := by rw [hw9]; simp [World.setCell]
  have k9 : ∀ a b : Nat, w2.heap.size < a → b ≤ w8.heap.size → SameB a b w8 w9 := by
    intro a b ha hb
    rw [hw9]
    exact ((SameB.of_set hb (.inl ha) 2 (.slice A2 n2 d2)).trans (.of_set (by simpa [World.setCell] using hb) (.inl ha) 3 (.slice A3 n3 d3))).trans (.of_set (by simpa [World.setCell] using hb) (.inl ha) 4 (.slice A4 n4 d4))
  have hDB : l ≠ [] → D < w2.heap.size := fun e0 => by have := HDl.out e0; omega
  have c9 : CoAt K D l p8 w9 := by
    rw [hw9]
    exact ((c8.kept (grown_set w8 w2.heap.size 2 _) (fun e => hSK (by injection e)) (fun e0 e => by have := hDB e0; injection e with e; omega)).kept (grown_set _ w2.heap.size 3 _) (fun e => hSK (by injection e)) (fun e0 e => by have := hDB e0; injection e with e; omega)).kept (grown_set _ w2.heap.size 4 _) (fun e => hSK (by injection e)) (fun e0 e => by have := hDB e0; injection e with e; omega)
  have g9 : w.grownBy w9 (some K) := by
    rw [hw9]
    exact grown_own (grown_own (grown_own HG8.out (by omega) 2 _) (by omega) 3 _) (by omega) 4 _
  have r4b := r4.kept (k9 _ _ (by omega) (Nat.le_refl _))
  obtain ⟨hne, hl4, hk4⟩ := tables_keys hts.1
  have HR4 := Lib.hid r4b
  have HTS := Lib.hid hts
  have HXq := Lib.hid q9
  have HXs := Lib.hid x9
  have HW9 := Lib.hid hw9
  have HG9 := Lib.hid g9
  have HZ9 := Lib.hid z9
  have HK9 := Lib.hid k9
  have m9 : w9.cell? ⟨w2.heap.size, 4, none⟩ = some (.slice A4 n4 d4) := HXs.out.c 4 (by simp)
  have HN6 := Lib.hid (roles_any c9 r4b (by omega) (by omega) hne (by omega) hk4)
  clear r4 r4b hts hg8 c8 x9 q9 z9 k9 c9 g9 hne hl4 hk4
  go_wp2_with fail
  rw [← HW9.out]
  refine HN6.out.mono ?_
  rintro e w10 ⟨v6, rs, rfl, hrs, r6, hg10, p10, c10⟩
  obtain ⟨A6, n6, d6, rfl⟩ := r6.form (Nat.le_refl _)
  have HXq := Lib.hid (HXq.out.chose hg10)
  have HXs := Lib.hid (HXs.out.chose hg10)
  have HG10 := Lib.hid (World.grownBy.trans HG9.out hg10)
  have zz10 : w9.heap.size ≤ w10.heap.size := hg10.size
  have Hg10 := Lib.hid hg10
  have HR6 := Lib.hid r6
  have HRS := Lib.hid hrs
  have s5 : w10.cell? ⟨w2.heap.size, 5, none⟩ = some (.slice none 0 0) := HXs.out.c 5 (by simp)
  have f5 := HXs.out.f 5
  have s6 : w10.cell? ⟨w2.heap.size, 6, none⟩ = some (.slice none 0 0) := HXs.out.c 6 (by simp)
  have f6 := HXs.out.f 6
  have hS10 : w2.heap.size < w10.heap.size := HXs.out.lt
  obtain ⟨w11, hw11⟩ : ∃ x, x = ((w10.setCell ⟨w2.heap.size, 6, none⟩ (.slice A6 n6 d6)).setCell ⟨w2.heap.size, 5, none⟩ (.slice (some ⟨w10.heap.size, 0, none⟩) 4 4)).alloc (.cells #[.int .i64 1, .int .i64 1, .int .i64 2, .int .i64 2, .int .i64 3, .int .i64 0, .int .i64 4, .int .i64 3] 120) := ⟨_, rfl⟩
  have x11 := ((HXs.out.set 6 (.slice A6 n6 d6)).set 5 (.slice (some ⟨w10.heap.size, 0, none⟩) 4 4)).alloc (.cells #[.int .i64 1, .int .i64 1, .int .i64 2, .int .i64 2, .int .i64 3, .int .i64 0, .int .i64 4, .int .i64 3] 120)
  rw [← hw11] at x11
  have hzQ := HXq.out.lt
  have q11 := ((HXq.out.other (M := w2.heap.size) (by omega) 6 (.slice A6 n6 d6)).other (M := w2.heap.size) (by omega) 5 (.slice (some ⟨w10.heap.size, 0, none⟩) 4 4)).alloc (.cells #[.int .i64 1, .int .i64 1, .int .i64 2, .int .i64 2, .int .i64 3, .int .i64 0, .int .i64 4, .int .i64 3] 120)
  rw [← hw11] at q11
  have zs : ((w10.setCell ⟨w2.heap.size, 6, none⟩ (.slice A6 n6 d6)).setCell ⟨w2.heap.size, 5, none⟩ (.slice (some ⟨w10.heap.size, 0, none⟩) 4 4)).heap.size = w10.heap.size := by simp [World.setCell]
  have t11 : Bx K w10.heap.size [.int .i64 1, .int .i64 1, .int .i64 2, .int .i64 2, .int .i64 3, .int .i64 0, .int .i64 4, .int .i64 3] w11 := by
    rw [hw11]
    have := Bx.new (K := K) (W := (w10.setCell ⟨w2.heap.size, 6, none⟩ (.slice A6 n6 d6)).setCell ⟨w2.heap.size, 5, none⟩ (.slice (some ⟨w10.heap.size, 0, none⟩) 4 4)) (by rw [zs]; exact c10.lt) [.int .i64 1, .int .i64 1, .int .i64 2, .int .i64 2, .int .i64 3, .int .i64 0, .int .i64 4, .int .i64 3] 120
    rwa [zs] at this
  have k11 : ∀ a b : Nat, w2.heap.size < a → b ≤ w10.heap.size → SameB a b w10 w11 := by
    intro a b ha hb
    rw [hw11]
    exact ((SameB.of_set hb (.inl ha) 6 (.slice A6 n6 d6)).trans (.of_set (by simpa [World.setCell] using hb) (.inl ha) 5 (.slice (some ⟨w10.heap.size, 0, none⟩) 4 4))).trans (.of_alloc (by rw [zs]; exact hb) _)
  have z11 : w11.heap.size = w10.heap.size + 1 := by rw [hw11, World.size_alloc, zs]
  have c11 : CoAt K D l p10 w11 := by
    rw [hw11]
    exact ((c10.kept (grown_set w10 w2.heap.size 6 _) (fun e => hSK (by injection e)) (fun e0 e => by have := hDB e0; injection e with e; omega)).kept (grown_set _ w2.heap.size 5 _) (fun e => hSK (by injection e)) (fun e0 e => by have := hDB e0; injection e with e; omega)).kept (grown_alloc _ _ none) (by simp) (by simp)
  have g11 : w.grownBy w11 (some K) := by
    rw [hw11]
    exact (grown_own (grown_own HG10.out (by omega) 6 _) (by omega) 5 _).trans (grown_alloc _ _ _)
  have HXq := Lib.hid q11
  have HXs := Lib.hid x11
  have HXt := Lib.hid t11
  have HW11 := Lib.hid hw11
  have HG11 := Lib.hid g11
  have HK11 := Lib.hid k11
  have HZ11 := Lib.hid z11
  have HN7 := Lib.hid (cobool_any c11)
  have hz9 := HZ9.out
  clear hrs r6 hg10 c10 x11 q11 t11 k11 z11 c11 g11 zs
  go_wp2_with fail
  rw [← HW11.out]
  refine HN7.out.mono ?_
  rintro e w12 ⟨bb, rfl, hg12, p12, c12⟩
  have HXq := Lib.hid (HXq.out.chose hg12)
  have HXs := Lib.hid (HXs.out.chose hg12)
  have HXt := Lib.hid (HXt.out.chose hg12)
  have hz11 := HZ11.out
  have zz12 : w11.heap.size ≤ w12.heap.size := hg12.size
  have hK12 := c12.lt
  have HG12 := Lib.hid (World.grownBy.trans HG11.out hg12)
  have k12 : ∀ a b : Nat, w2.heap.size < a → b ≤ w10.heap.size → SameB a b w10 w12 := fun a b ha hb => (HK11.out a b ha hb).trans (.of_grown hg12 (by omega) (fun k e => by injection e with e; omega))
  have k89 : ∀ a b : Nat, w2.heap.size < a → b ≤ w8.heap.size → SameB a b w8 w12 := fun a b ha hb => ((HK9.out a b ha hb).trans (.of_grown Hg10.out (by omega) (fun k e => by injection e with e; omega))).trans (k12 a b ha (by omega))
  have k7 : ∀ a b : Nat, w2.heap.size < a → b ≤ w7.heap.size → SameB a b w7 w12 := fun a b ha hb => (SameB.of_grown Hg8.out hb (fun k e => by injection e with e; omega)).trans (k89 a b ha (by omega))
  have k6 : ∀ a b : Nat, w2.heap.size < a → b ≤ w6.heap.size → SameB a b w6 w12 := fun a b ha hb => (SameB.of_grown Hg7.out hb (fun k e => by injection e with e; omega)).trans (k7 a b ha (by omega))
  have k5 : ∀ a b : Nat, w2.heap.size < a → b ≤ w5.heap.size → SameB a b w5 w12 := fun a b ha hb => (SameB.of_grown Hg6.out hb (fun k e => by injection e with e; omega)).trans (k6 a b ha (by omega))
  have a0 := (HR0.out.kept (k5 _ _ (by omega) (by omega))).widen (a2 := w2.heap.size + 1) (b2 := w12.heap.size) (by omega) (by omega)
  have a1 := (HR1.out.kept (k5 _ _ (by omega) (by omega))).widen (a2 := w2.heap.size + 1) (b2 := w12.heap.size) (by omega) (by omega)
  have a2 := (HR2.out.kept (k6 _ _ (by omega) (by omega))).widen (a2 := w2.heap.size + 1) (b2 := w12.heap.size) (by omega) (by omega)
  have a3 := (HR3.out.kept (k7 _ _ (by omega) (by omega))).widen (a2 := w2.heap.size + 1) (b2 := w12.heap.size) (by omega) (by omega)
  have a4 := (HR4.out.kept ((SameB.of_grown Hg10.out (by omega) (fun k e => by injection e with e; omega)).trans (k12 _ _ (by omega) (by omega)))).widen (a2 := w2.heap.size + 1) (b2 := w12.heap.size) (by omega) (by omega)
  have a6 := (HR6.out.kept (k12 _ _ (by omega) (by omega))).widen (a2 := w2.heap.size + 1) (b2 := w12.heap.size) (by omega) (by omega)
  have a5 : RowH 2 StageV (w2.heap.size + 1) w12.heap.size w12 (.slice (some ⟨w10.heap.size, 0, none⟩) 4 4) (stagesD false) := HXt.out.row (P := StageV) (sz := 2) (by omega) (by omega) [([.int .i64 1, .int .i64 1], (⟨1, 1⟩ : StageD)), ([.int .i64 2, .int .i64 2], (⟨2, 2⟩ : StageD)), ([.int .i64 3, .int .i64 0], (⟨3, 0⟩ : StageD)), ([.int .i64 4, .int .i64 3], (⟨4, 3⟩ : StageD))] (fun q hq => by
    simp only [List.mem_cons, List.not_mem_nil, or_false] at hq
    rcases hq with rfl | rfl | rfl | rfl <;> rfl) rfl (by decide) rfl (fun q hq w2 B _ _ => by
    simp only [List.mem_cons, List.not_mem_nil, or_false] at hq
    rcases hq with rfl | rfl | rfl | rfl
    · exact ⟨rfl, i64_of (x := 1) (by decide), i64_of (x := 1) (by decide)⟩
    · exact ⟨rfl, i64_of (x := 2) (by decide), i64_of (x := 2) (by decide)⟩
    · exact ⟨rfl, i64_of (x := 3) (by decide), i64_of (x := 0) (by decide)⟩
    · exact ⟨rfl, i64_of (x := 4) (by decide), i64_of (x := 3) (by decide)⟩)
  have hL : SchL K D w2.heap.size w.heap.size l (⟨.slice (some ⟨w2.heap.size + 1, 0, none⟩) 9 9, .slice (some ⟨w2.heap.size + 1 + 1 + 1 + 1 + 1, 0, none⟩) 3 3, .slice A2 n2 d2, .slice A3 n3 d3, .slice A4 n4 d4, .slice (some ⟨w10.heap.size, 0, none⟩) 4 4, .slice A6 n6 d6, ⟨fieldsD, headersD, ss, actDs aq ar t3 t5, ts, stagesD false, rs, [], 2 + (m : Int), 12 + (n : Int)⟩⟩ : SV) (.slice none 0 0) [] w12.heap.size w w12 := ⟨hKw, HDl.out, Nat.le_refl _, by omega, by omega, Nat.le_refl _, HXs.out, HXq.out, a0, a1, a2, a3, a4, a5, a6, World.ownsRow_nil _ _ _ _, fun x hx => (by cases hx), i64_of (x := 2 + (m : Int)) (by omega), i64_of (x := 12 + (n : Int)) (by omega), ⟨_, c12⟩, HG12.out⟩
  have HL := Lib.hid hL
  have HXt2 := Lib.hid HXt.out
  clear hL a0 a1 a2 a3 a4 a5 a6 k5 k6 k7 k89 k12 hg12 c12
  go_upto_if 51 with (fail)
  go_cut [] from 52 to 57 (fun wx => SchP K D w2.heap.size w.heap.size l w wx)
  case first =>
    have hpre : PreOk l ((⟨.slice (some ⟨w2.heap.size + 1, 0, none⟩) 9 9, .slice (some ⟨w2.heap.size + 1 + 1 + 1 + 1 + 1, 0, none⟩) 3 3, .slice A2 n2 d2, .slice A3 n3 d3, .slice A4 n4 d4, .slice (some ⟨w10.heap.size, 0, none⟩) 4 4, .slice A6 n6 d6, ⟨fieldsD, headersD, ss, actDs aq ar t3 t5, ts, stagesD false, rs, [], 2 + (m : Int), 12 + (n : Int)⟩⟩ : SV)).x := ⟨⟨m, Hvm.out, rfl⟩, ⟨n, Hvn.out, rfl⟩, rfl, rfl, HSS.out, HAc.out, HTS.out, HRS.out, ⟨false, rfl⟩⟩
    have HPre := Lib.hid hpre
    clear hpre
    cases bb
    · go_wp2_with fail
      go_meet
      exact ⟨_, _, HL.out, HPre.out⟩
    · have m5 : w12.cell? ⟨w2.heap.size, 5, none⟩ = some (.slice (some ⟨w10.heap.size, 0, none⟩) 4 4) := HL.out.box.c 5 (by simp)
      have f5b := HL.out.box.f 5
      obtain ⟨i0, hi0, hz0, hy1, hy2⟩ := info_parts info_stg2
      go_wp2_with (at_builtin; (refine wpList_append_grows _ rfl (.tmp 53) (.tmp 55) 32 rfl 120 i0 _ 2 16 Tryz.underlying32 hi0 hz0 hy1 hy2 rfl (by decide) (some ⟨w10.heap.size, 0, none⟩) 4 4 [.int .i64 1, .int .i64 1, .int .i64 2, .int .i64 2, .int .i64 3, .int .i64 0, .int .i64 4, .int .i64 3] rfl (by simp) rfl (Bx.holds (HXt2.out.alloc _)) ⟨w12.heap.size, 0, none⟩ 1 1 [.int .i64 1, .int .i64 0] rfl rfl (World.news_of_block (cs := #[.int .i64 1, .int .i64 0]) (t := 120) (fr := (0, 0)) (heap_alloc_new w12 _)) (by intro u hu; simp at hu; rcases hu with rfl | rfl <;> rfl) (by decide) (by decide) (by decide) ?_; intro v13 w13 hO13 hg13; obtain ⟨A13, cap13, rfl⟩ := own_shapeH hO13; have hx13 := (HL.out.box.alloc (.cells #[.int .i64 1, .int .i64 0] 120)).kept hg13 (by simp); have o13 := hx13.c 5 (by simp); have f13 := hx13.f 5; have HZ13 := Lib.hid (HL.out.stage HPre.out hO13 rfl rfl hg13); clear hx13 hO13 hg13))
      go_meet
      exact HZ13.out
  case rest =>
    obtain ⟨s, b0, hL2, hpre⟩ := hcut
    obtain ⟨w14, hw14⟩ : ∃ z, z = wc := ⟨_, rfl⟩
    subst hw14
    have HPre := Lib.hid hpre
    have HL2 := Lib.hid hL2
    obtain ⟨q14, c14⟩ := hL2.co
    have HN8 := Lib.hid (cobool_any c14)
    obtain ⟨i1, hi1, hz1, hy3, hy4⟩ := info_parts info_ref
    clear hpre hL2 c14
    go_wp2_with fail
    refine HN8.out.mono ?_
    rintro e w15 ⟨bb, rfl, hg15, p15, c15⟩
    have HL3 := Lib.hid (HL2.out.chose hg15 c15)
    clear hg15 c15
    go_upto_if 59 with (fail)
    go_cut [] from 60 to 65 (fun wx => RefC K D w2.heap.size w.heap.size l s b0 P1 w wx)
    case first =>
      cases bb
      · go_wp2_with fail
        go_meet
        exact ⟨_, _, HL3.out, ⟨false, rfl⟩, by simp⟩
      · have hln : ([] : List RefD).length ≤ 0 := Nat.le_refl _
        have m7 : w15.cell? ⟨w2.heap.size, 7, none⟩ = some (.slice none 0 0) := HL3.out.box.c 7 (by simp)
        have hbw := HL3.out.bW
        go_wp2_with (at_builtin; (refine wpList_append_lies _ rfl (.tmp 61) (.tmp 63) 34 rfl b0 122 i1 _ 6 48 Tryz.underlying34 hi1 hz1 hy3 hy4 rfl (by decide) (.slice none 0 0) ([] : List RefD).length _ rfl (World.ownsRow.alloc HL3.out.own _) ⟨w15.heap.size, 0, none⟩ 1 1 [.int .i64 2, .int .i64 0, .int .i64 4, .int .i64 0, .int .i64 1, .int .i64 0] rfl rfl (World.news_of_block (cs := #[.int .i64 2, .int .i64 0, .int .i64 4, .int .i64 0, .int .i64 1, .int .i64 0]) (t := 122) (fr := (0, 0)) (heap_alloc_new w15 _)) (by intro u hu; simp at hu; rcases hu with rfl | rfl | rfl | rfl | rfl | rfl <;> rfl) (by decide) (by unfold maxLen; omega) (by omega) (by simp; omega) (w15.heap.size + 1) (by simp) ?_; intro g8 cap8 w8b hO8 hg8 hor8 hlt8; have k8 := HL3.out.store hg8; have o8 := k8.1; have f8 := k8.2; have a8 := HL3.out.app [⟨2, 0, 4, 0, 1, 0⟩] (m := 1) rfl (by intro z hz; simp only [List.mem_cons, List.not_mem_nil, or_false] at hz; rcases hz with rfl <;> exact ⟨i64_of (by decide), i64_of (by decide), i64_of (by decide), i64_of (by decide), i64_of (by decide), i64_of (by decide)⟩) rfl hO8 hg8; have HA8 : Hid (RefC K D w2.heap.size w.heap.size l s b0 P1 w (w8b.setCell ⟨w2.heap.size, 7, none⟩ (.slice (some ⟨g8, 0, none⟩) (([] : List RefD).length + 1) cap8))) := Lib.hid ⟨_, _, a8, ⟨true, rfl⟩, by simp⟩; clear a8 k8 hO8 hg8 hor8 hlt8))
        go_meet
        exact HA8.out
    case rest =>
      obtain ⟨uA, refsA, hLA, hPA, hrA⟩ := hcut
      obtain ⟨wrA, hwrA⟩ : ∃ z, z = wc := ⟨_, rfl⟩
      subst hwrA
      have HLA := Lib.hid hLA
      have HPA := Lib.hid hPA
      obtain ⟨qA, cA⟩ := hLA.co
      have HNA := Lib.hid (cobool_any cA)
      clear hLA hPA cA
      go_upto_region 11 with (fail)
      go_cut [76] from 66 to 75 (fun v wx => RefB K D w2.heap.size w.heap.size l s b0 P1 2 w v wx)
      case first =>
        go_wp2_with fail
        refine HNA.out.mono ?_
        rintro e wx ⟨bb, rfl, hgx, px, cx⟩
        have HLx := Lib.hid (HLA.out.chose hgx cx)
        clear hgx cx
        cases bb
        · go_wp2_with fail
          go_meet
          exact ⟨false, rfl, (fun h => (by cases h)), _, _, HLx.out, HPA.out, hrA⟩
        · obtain ⟨tb, tof, cap4, e4, hcap4, hkeys⟩ := keys_at HLx.out HPre.out
          obtain ⟨Ak, nk, ck, hk1, hk2, hk3⟩ := hkeys wx (.refl HLx.out.bW) 2 (by decide)
          have m4 : wx.cell? ⟨w2.heap.size, 4, none⟩ = some (.slice (some ⟨tb, tof, none⟩) 4 cap4) := by rw [← e4]; exact HLx.out.box.c 4 (by simp)
          have mk2 : wx.cell? ⟨tb, tof + 16 + 2, none⟩ = some (.slice Ak nk ck) := hk1
          have mk3 : wx.cell? ⟨tb, tof + 18, none⟩ = some (.slice Ak nk ck) := hk1
          have HK2 := Lib.hid hk2
          clear e4 hkeys hk1 hk2
          by_cases hn3 : nk = 3
          · subst hn3
            go_wp2_with fail
            go_meet
            exact ⟨true, rfl, (fun _ => HK2.out (by simp)), _, _, HLx.out, HPA.out, hrA⟩
          · have hn4 : ((nk : Int) == 3) = false := by simp; omega
            have hn5 : ¬ (nk : Int) = 3 := by omega
            go_wp2_with fail
            go_meet
            exact ⟨false, rfl, (fun h => (by cases h)), _, _, HLx.out, HPA.out, hrA⟩
      case rest =>
        obtain ⟨bA, rfl, hbA, vA, rfA, hLA, hPA, hrA⟩ := hcut
        obtain ⟨wsA, hwsA⟩ : ∃ z, z = wc := ⟨_, rfl⟩
        subst hwsA
        have HLA := Lib.hid hLA
        have HPA := Lib.hid hPA
        have HbA := Lib.hid hbA
        clear hLA hPA hbA
        go_upto_if 76 with (fail)
        go_cut [] from 77 to 82 (fun wx => RefC K D w2.heap.size w.heap.size l s b0 (P2 s.x) w wx)
        case first =>
          cases bA
          · go_wp2_with fail
            go_meet
            exact ⟨_, _, HLA.out, ⟨HPA.out.choose, false, (by have := HPA.out.choose_spec; exact this), (fun h => (by cases h))⟩, hrA⟩
          · have hln : rfA.length ≤ 1 := by obtain ⟨a, ha⟩ := HPA.out; subst ha; cases a <;> simp [refsD]
            have m7 : wsA.cell? ⟨w2.heap.size, 7, none⟩ = some (vA) := HLA.out.box.c 7 (by simp)
            have hbw := HLA.out.bW
            go_wp2_with (at_builtin; (refine wpList_append_lies _ rfl (.tmp 78) (.tmp 80) 34 rfl b0 122 i1 _ 6 48 Tryz.underlying34 hi1 hz1 hy3 hy4 rfl (by decide) (vA) rfA.length _ rfl (World.ownsRow.alloc HLA.out.own _) ⟨wsA.heap.size, 0, none⟩ 1 1 [.int .i64 3, .int .i64 2, .int .i64 0, .int .i64 0, .int .i64 1, .int .i64 0] rfl rfl (World.news_of_block (cs := #[.int .i64 3, .int .i64 2, .int .i64 0, .int .i64 0, .int .i64 1, .int .i64 0]) (t := 122) (fr := (0, 0)) (heap_alloc_new wsA _)) (by intro u hu; simp at hu; rcases hu with rfl | rfl | rfl | rfl | rfl | rfl <;> rfl) (by decide) (by unfold maxLen; omega) (by omega) (by simp; omega) (wsA.heap.size + 1) (by simp) ?_; intro g8 cap8 w8b hO8 hg8 hor8 hlt8; have k8 := HLA.out.store hg8; have o8 := k8.1; have f8 := k8.2; have a8 := HLA.out.app [⟨3, 2, 0, 0, 1, 0⟩] (m := 1) rfl (by intro z hz; simp only [List.mem_cons, List.not_mem_nil, or_false] at hz; rcases hz with rfl <;> exact ⟨i64_of (by decide), i64_of (by decide), i64_of (by decide), i64_of (by decide), i64_of (by decide), i64_of (by decide)⟩) rfl hO8 hg8; have HA8 : Hid (RefC K D w2.heap.size w.heap.size l s b0 (P2 s.x) w (w8b.setCell ⟨w2.heap.size, 7, none⟩ (.slice (some ⟨g8, 0, none⟩) (rfA.length + 1) cap8))) := Lib.hid ⟨_, _, a8, (by obtain ⟨a, ha⟩ := HPA.out; subst ha; exact ⟨a, true, (by simp [refsD]), fun _ => HbA.out rfl⟩), by simp; omega⟩; clear a8 k8 hO8 hg8 hor8 hlt8))
            go_meet
            exact HA8.out
        case rest =>
          obtain ⟨uB, refsB, hLB, hPB, hrB⟩ := hcut
          obtain ⟨wrB, hwrB⟩ : ∃ z, z = wc := ⟨_, rfl⟩
          subst hwrB
          have HLB := Lib.hid hLB
          have HPB := Lib.hid hPB
          obtain ⟨qB, cB⟩ := hLB.co
          have HNB := Lib.hid (cobool_any cB)
          clear hLB hPB cB
          go_upto_region 13 with (fail)
          go_cut [93] from 83 to 92 (fun v wx => RefB K D w2.heap.size w.heap.size l s b0 (P2 s.x) 3 w v wx)
          case first =>
            go_wp2_with fail
            refine HNB.out.mono ?_
            rintro e wx ⟨bb, rfl, hgx, px, cx⟩
            have HLx := Lib.hid (HLB.out.chose hgx cx)
            clear hgx cx
            cases bb
            · go_wp2_with fail
              go_meet
              exact ⟨false, rfl, (fun h => (by cases h)), _, _, HLx.out, HPB.out, hrB⟩
            · obtain ⟨tb, tof, cap4, e4, hcap4, hkeys⟩ := keys_at HLx.out HPre.out
              obtain ⟨Ak, nk, ck, hk1, hk2, hk3⟩ := hkeys wx (.refl HLx.out.bW) 3 (by decide)
              have m4 : wx.cell? ⟨w2.heap.size, 4, none⟩ = some (.slice (some ⟨tb, tof, none⟩) 4 cap4) := by rw [← e4]; exact HLx.out.box.c 4 (by simp)
              have mk2 : wx.cell? ⟨tb, tof + 24 + 2, none⟩ = some (.slice Ak nk ck) := hk1
              have mk3 : wx.cell? ⟨tb, tof + 26, none⟩ = some (.slice Ak nk ck) := hk1
              have HK2 := Lib.hid hk2
              clear e4 hkeys hk1 hk2
              by_cases hn3 : nk = 3
              · subst hn3
                go_wp2_with fail
                go_meet
                exact ⟨true, rfl, (fun _ => HK2.out (by simp)), _, _, HLx.out, HPB.out, hrB⟩
              · have hn4 : ((nk : Int) == 3) = false := by simp; omega
                have hn5 : ¬ (nk : Int) = 3 := by omega
                go_wp2_with fail
                go_meet
                exact ⟨false, rfl, (fun h => (by cases h)), _, _, HLx.out, HPB.out, hrB⟩
          case rest =>
            obtain ⟨bB, rfl, hbB, vB, rfB, hLB, hPB, hrB⟩ := hcut
            obtain ⟨wsB, hwsB⟩ : ∃ z, z = wc := ⟨_, rfl⟩
            subst hwsB
            have HLB := Lib.hid hLB
            have HPB := Lib.hid hPB
            have HbB := Lib.hid hbB
            clear hLB hPB hbB
            go_upto_if 93 with (fail)
            go_cut [] from 94 to 100 (fun wx => RefC K D w2.heap.size w.heap.size l s b0 (P3 s.x) w wx)
            case first =>
              cases bB
              · go_wp2_with fail
                go_meet
                exact ⟨_, _, HLB.out, (by obtain ⟨a, b, ha, hb⟩ := HPB.out; exact ⟨a, b, false, ha, hb, (fun h => (by cases h))⟩), hrB⟩
              · have hln : rfB.length ≤ 2 := by obtain ⟨a, b, ha, _⟩ := HPB.out; subst ha; cases a <;> cases b <;> simp [refsD]
                have m7 : wsB.cell? ⟨w2.heap.size, 7, none⟩ = some (vB) := HLB.out.box.c 7 (by simp)
                have hbw := HLB.out.bW
                go_wp2_with (at_builtin; (refine wpList_append_lies _ rfl (.tmp 95) (.tmp 98) 34 rfl b0 122 i1 _ 6 48 Tryz.underlying34 hi1 hz1 hy3 hy4 rfl (by decide) (vB) rfB.length _ rfl (World.ownsRow.alloc HLB.out.own _) ⟨wsB.heap.size, 0, none⟩ 2 2 [.int .i64 4, .int .i64 1, .int .i64 0, .int .i64 0, .int .i64 1, .int .i64 0, .int .i64 4, .int .i64 0, .int .i64 5, .int .i64 0, .int .i64 1, .int .i64 0] rfl rfl (World.news_of_block (cs := #[.int .i64 4, .int .i64 1, .int .i64 0, .int .i64 0, .int .i64 1, .int .i64 0, .int .i64 4, .int .i64 0, .int .i64 5, .int .i64 0, .int .i64 1, .int .i64 0]) (t := 122) (fr := (0, 0)) (heap_alloc_new wsB _)) (by intro u hu; simp at hu; rcases hu with rfl | rfl | rfl | rfl | rfl | rfl | rfl | rfl | rfl | rfl | rfl | rfl <;> rfl) (by decide) (by unfold maxLen; omega) (by omega) (by simp; omega) (wsB.heap.size + 1) (by simp) ?_; intro g8 cap8 w8b hO8 hg8 hor8 hlt8; have k8 := HLB.out.store hg8; have o8 := k8.1; have f8 := k8.2; have a8 := HLB.out.app [⟨4, 1, 0, 0, 1, 0⟩, ⟨4, 0, 5, 0, 1, 0⟩] (m := 2) rfl (by intro z hz; simp only [List.mem_cons, List.not_mem_nil, or_false] at hz; rcases hz with rfl | rfl <;> exact ⟨i64_of (by decide), i64_of (by decide), i64_of (by decide), i64_of (by decide), i64_of (by decide), i64_of (by decide)⟩) rfl hO8 hg8; have HA8 : Hid (RefC K D w2.heap.size w.heap.size l s b0 (P3 s.x) w (w8b.setCell ⟨w2.heap.size, 7, none⟩ (.slice (some ⟨g8, 0, none⟩) (rfB.length + 2) cap8))) := Lib.hid ⟨_, _, a8, (by obtain ⟨a, b, ha, hb⟩ := HPB.out; subst ha; exact ⟨a, b, true, (by simp [refsD]), hb, fun _ => HbB.out rfl⟩), by simp; omega⟩; clear a8 k8 hO8 hg8 hor8 hlt8))
                go_meet
                exact HA8.out
            case rest =>
              obtain ⟨uZ, refsZ, hLZ, hPZ, _⟩ := hcut
              obtain ⟨wZ, hwZ⟩ : ∃ z, z = wc := ⟨_, rfl⟩
              subst hwZ
              obtain ⟨Z0, y0, d0, eq0⟩ := hLZ.r0.form hLZ.bW
              obtain ⟨Z1, y1, d1, eq1⟩ := hLZ.r1.form hLZ.bW
              obtain ⟨Z2, y2, d2, eq2⟩ := hLZ.r2.form hLZ.bW
              obtain ⟨Z3, y3, d3, eq3⟩ := hLZ.r3.form hLZ.bW
              obtain ⟨Z4, y4, d4, eq4⟩ := hLZ.r4.form hLZ.bW
              obtain ⟨Z5, y5, d5, eq5⟩ := hLZ.r5.form hLZ.bW
              obtain ⟨Z6, y6, d6, eq6⟩ := hLZ.r6.form hLZ.bW
              obtain ⟨Z7, d7, eq7⟩ := own_shapeH hLZ.own
              have j0 : wZ.cell? ⟨w2.heap.size, 0, none⟩ = some (.slice Z0 y0 d0) := by rw [← eq0]; exact hLZ.box.c 0 (by simp)
              have j1 : wZ.cell? ⟨w2.heap.size, 1, none⟩ = some (.slice Z1 y1 d1) := by rw [← eq1]; exact hLZ.box.c 1 (by simp)
              have j2 : wZ.cell? ⟨w2.heap.size, 2, none⟩ = some (.slice Z2 y2 d2) := by rw [← eq2]; exact hLZ.box.c 2 (by simp)
              have j3 : wZ.cell? ⟨w2.heap.size, 3, none⟩ = some (.slice Z3 y3 d3) := by rw [← eq3]; exact hLZ.box.c 3 (by simp)
              have j4 : wZ.cell? ⟨w2.heap.size, 4, none⟩ = some (.slice Z4 y4 d4) := by rw [← eq4]; exact hLZ.box.c 4 (by simp)
              have j5 : wZ.cell? ⟨w2.heap.size, 5, none⟩ = some (.slice Z5 y5 d5) := by rw [← eq5]; exact hLZ.box.c 5 (by simp)
              have j6 : wZ.cell? ⟨w2.heap.size, 6, none⟩ = some (.slice Z6 y6 d6) := by rw [← eq6]; exact hLZ.box.c 6 (by simp)
              have j7 : wZ.cell? ⟨w2.heap.size, 7, none⟩ = some (.slice Z7 refsZ.length d7) := by rw [← eq7]; exact hLZ.box.c 7 (by simp)
              have j8 : wZ.cell? ⟨w2.heap.size, 8, none⟩ = some (.int .i64 s.x.maxBatch) := hLZ.box.c 8 (by simp)
              have j9 : wZ.cell? ⟨w2.heap.size, 9, none⟩ = some (.int .i64 s.x.budget) := hLZ.box.c 9 (by simp)
              have z0 : wZ.cell? ⟨w.heap.size, 0, none⟩ = some (.slice none 0 0) := hLZ.res.c 0 (by simp [zeroSchema])
              have fz0 := hLZ.res.f 0
              have z1 : wZ.cell? ⟨w.heap.size, 1, none⟩ = some (.slice none 0 0) := hLZ.res.c 1 (by simp [zeroSchema])
              have fz1 := hLZ.res.f 1
              have z2 : wZ.cell? ⟨w.heap.size, 2, none⟩ = some (.slice none 0 0) := hLZ.res.c 2 (by simp [zeroSchema])
              have fz2 := hLZ.res.f 2
              have z3 : wZ.cell? ⟨w.heap.size, 3, none⟩ = some (.slice none 0 0) := hLZ.res.c 3 (by simp [zeroSchema])
              have fz3 := hLZ.res.f 3
              have z4 : wZ.cell? ⟨w.heap.size, 4, none⟩ = some (.slice none 0 0) := hLZ.res.c 4 (by simp [zeroSchema])
              have fz4 := hLZ.res.f 4
              have z5 : wZ.cell? ⟨w.heap.size, 5, none⟩ = some (.slice none 0 0) := hLZ.res.c 5 (by simp [zeroSchema])
              have fz5 := hLZ.res.f 5
              have z6 : wZ.cell? ⟨w.heap.size, 6, none⟩ = some (.slice none 0 0) := hLZ.res.c 6 (by simp [zeroSchema])
              have fz6 := hLZ.res.f 6
              have z7 : wZ.cell? ⟨w.heap.size, 7, none⟩ = some (.slice none 0 0) := hLZ.res.c 7 (by simp [zeroSchema])
              have fz7 := hLZ.res.f 7
              have z8 : wZ.cell? ⟨w.heap.size, 8, none⟩ = some (.int .i64 0) := hLZ.res.c 8 (by simp [zeroSchema])
              have fz8 := hLZ.res.f 8
              have z9 : wZ.cell? ⟨w.heap.size, 9, none⟩ = some (.int .i64 0) := hLZ.res.c 9 (by simp [zeroSchema])
              have fz9 := hLZ.res.f 9
              have HLZ := Lib.hid hLZ
              have HPZ := Lib.hid hPZ
              have HEQ0 := Lib.hid eq0
              have HEQ1 := Lib.hid eq1
              have HEQ2 := Lib.hid eq2
              have HEQ3 := Lib.hid eq3
              have HEQ4 := Lib.hid eq4
              have HEQ5 := Lib.hid eq5
              have HEQ6 := Lib.hid eq6
              have HEQ7 := Lib.hid eq7
              clear hLZ hPZ eq0 eq1 eq2 eq3 eq4 eq5 eq6 eq7
              go_wp2_with fail
              obtain ⟨Wf, hWf⟩ : ∃ z, z = ((((((((((wZ.setCell ⟨w.heap.size, 0, none⟩ (.slice Z0 y0 d0)).setCell ⟨w.heap.size, 1, none⟩ (.slice Z1 y1 d1)).setCell ⟨w.heap.size, 2, none⟩ (.slice Z2 y2 d2)).setCell ⟨w.heap.size, 3, none⟩ (.slice Z3 y3 d3)).setCell ⟨w.heap.size, 4, none⟩ (.slice Z4 y4 d4)).setCell ⟨w.heap.size, 5, none⟩ (.slice Z5 y5 d5)).setCell ⟨w.heap.size, 6, none⟩ (.slice Z6 y6 d6)).setCell ⟨w.heap.size, 7, none⟩ (.slice Z7 refsZ.length d7)).setCell ⟨w.heap.size, 8, none⟩ (.int .i64 s.x.maxBatch)).setCell ⟨w.heap.size, 9, none⟩ (.int .i64 s.x.budget)) := ⟨_, rfl⟩
              have hgf : wZ.grownBy Wf (some w.heap.size) := by rw [hWf]; exact ((((((((((grown_set _ w.heap.size 0 _).trans (grown_set _ w.heap.size 1 _)).trans (grown_set _ w.heap.size 2 _)).trans (grown_set _ w.heap.size 3 _)).trans (grown_set _ w.heap.size 4 _)).trans (grown_set _ w.heap.size 5 _)).trans (grown_set _ w.heap.size 6 _)).trans (grown_set _ w.heap.size 7 _)).trans (grown_set _ w.heap.size 8 _)).trans (grown_set _ w.heap.size 9 _))
              have hzf : Wf.heap.size = wZ.heap.size := by rw [hWf]; simp [World.setCell]
              have hbf : Bx K w.heap.size [(.slice Z0 y0 d0), (.slice Z1 y1 d1), (.slice Z2 y2 d2), (.slice Z3 y3 d3), (.slice Z4 y4 d4), (.slice Z5 y5 d5), (.slice Z6 y6 d6), (.slice Z7 refsZ.length d7), (.int .i64 s.x.maxBatch), (.int .i64 s.x.budget)] Wf := by rw [hWf]; exact ((((((((((HLZ.out.res.set 0 (.slice Z0 y0 d0)).set 1 (.slice Z1 y1 d1)).set 2 (.slice Z2 y2 d2)).set 3 (.slice Z3 y3 d3)).set 4 (.slice Z4 y4 d4)).set 5 (.slice Z5 y5 d5)).set 6 (.slice Z6 y6 d6)).set 7 (.slice Z7 refsZ.length d7)).set 8 (.int .i64 s.x.maxBatch)).set 9 (.int .i64 s.x.budget))
              have g0 : Wf.cell? ⟨w.heap.size, 0, none⟩ = some (.slice Z0 y0 d0) := hbf.c 0 (by simp)
              have g1 : Wf.cell? ⟨w.heap.size, 1, none⟩ = some (.slice Z1 y1 d1) := hbf.c 1 (by simp)
              have g2 : Wf.cell? ⟨w.heap.size, 2, none⟩ = some (.slice Z2 y2 d2) := hbf.c 2 (by simp)
              have g3 : Wf.cell? ⟨w.heap.size, 3, none⟩ = some (.slice Z3 y3 d3) := hbf.c 3 (by simp)
              have g4 : Wf.cell? ⟨w.heap.size, 4, none⟩ = some (.slice Z4 y4 d4) := hbf.c 4 (by simp)
              have g5 : Wf.cell? ⟨w.heap.size, 5, none⟩ = some (.slice Z5 y5 d5) := hbf.c 5 (by simp)
              have g6 : Wf.cell? ⟨w.heap.size, 6, none⟩ = some (.slice Z6 y6 d6) := hbf.c 6 (by simp)
              have g7 : Wf.cell? ⟨w.heap.size, 7, none⟩ = some (.slice Z7 refsZ.length d7) := hbf.c 7 (by simp)
              have g8 : Wf.cell? ⟨w.heap.size, 8, none⟩ = some (.int .i64 s.x.maxBatch) := hbf.c 8 (by simp)
              have g9 : Wf.cell? ⟨w.heap.size, 9, none⟩ = some (.int .i64 s.x.budget) := hbf.c 9 (by simp)
              have hok : SchemaOk { s.x with refs := refsZ } ∧ (l = [] → TabsNil s.x.tables) := by
                obtain ⟨a, b, c, h1, h2, h3⟩ := HPZ.out
                have hp := HPre.out
                exact ⟨⟨hp.mb, hp.bg, hp.fields, hp.headers, hp.states, hp.actions, hp.tables.1, hp.roles, hp.stages, ⟨a, b, c, h1, h2, h3⟩⟩, hp.tables.2⟩
              have fin := HLZ.out.fin hok (fun k hk hne => hgf.block k hk (fun e => hne (by injection e))) hzf hgf.os hgf.tape hgf.output
              rw [HEQ0.out, HEQ1.out, HEQ2.out, HEQ3.out, HEQ4.out, HEQ5.out, HEQ6.out, HEQ7.out] at fin
              rw [← hWf]
              exact bodyPost_ret (v := .agg #[(.slice Z0 y0 d0), (.slice Z1 y1 d1), (.slice Z2 y2 d2), (.slice Z3 y3 d3), (.slice Z4 y4 d4), (.slice Z5 y5 d5), (.slice Z6 y6 d6), (.slice Z7 refsZ.length d7), (.int .i64 s.x.maxBatch), (.int .i64 s.x.budget)]) (by simp [results, Tryz.results16, go_sem, g0, g1, g2, g3, g4, g5, g6, g7, g8, g9]) rfl fin
end Go.Proofs.YtldgjahpmlafgaaGreat
