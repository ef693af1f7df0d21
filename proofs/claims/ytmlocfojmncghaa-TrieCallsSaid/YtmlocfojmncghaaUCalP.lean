/- Layer 12: what TrieCalls uses: the reference's calls beside the trie. -/
import Derived.Test.YtmlocfojmncghaaULonP
import Derived.Test.YtmlocfojmncghaaURNod
import Derived.Test.YtmlocfojmncghaaUSam
namespace Go.Proofs.Ytmlocfojmncghaa
open Go.RowKit
/-- what the reference's Get does -/
def GetE : Prop := ∀ (w : World) (Y bits n0 cap : Nat) (A : Option Addr) (L : List PE), RE w Y bits A n0 cap L → n0 ≤ 100000 → ∀ (v : Nat), v < 2 ^ 128 → ∀ (n : Int), Calls Try.prog 26 #[.pointer (some ⟨Y, 0, none⟩), .agg #[.int .u64 (hi v), .int .u64 (lo v)], .int .i64 n] w (RetX (.tuple #[.int .i64 (getLE v n L).1, .bool (getLE v n L).2]) w)
/-- what the reference's Remove does -/
def RemE : Prop := ∀ (w : World) (Y bits n0 cap : Nat) (A : Option Addr) (L : List PE), RE w Y bits A n0 cap L → n0 ≤ 100000 → ∀ (v : Nat), v < 2 ^ 128 → ∀ (n : Int), Calls Try.prog 24 #[.pointer (some ⟨Y, 0, none⟩), .agg #[.int .u64 (hi v), .int .u64 (lo v)], .int .i64 n] w fun e w' => e = .returned (.bool (hereE v n L)) ∧ LeftE Y bits (remLE v n L).length A L (remLE v n L) w w'
theorem ju_remE (hR : RemE) {w W : World} {X Y b G : Nat} {m : Pth → Option Int} {L : List PE} {F : Nat → Prop} (h : JU w W X Y b G m L F) (hn : L.length ≤ 100000) (v : Nat) (hv : v < 2 ^ 128) (n : Int) : Calls Try.prog 24 #[.pointer (some ⟨Y, 0, none⟩), .agg #[.int .u64 (hi v), .int .u64 (lo v)], .int .i64 n] W fun e w' => e = .returned (.bool (hereE v n L)) ∧ JU w w' X Y b G m (remLE v n L) F ∧ FrU (fun j => j = Y) W w' := by
  obtain ⟨A, cap, h1, h2⟩ := h.r
  exact (hR _ _ _ _ _ _ _ h1 hn v hv n).mono fun e w' ⟨h3, h4⟩ => ⟨h3, h.leftE h2 h4, h4.2⟩
theorem ju_getE (hG : GetE) {w W : World} {X Y b G : Nat} {m : Pth → Option Int} {L : List PE} {F : Nat → Prop} (h : JU w W X Y b G m L F) (hn : L.length ≤ 100000) (v : Nat) (hv : v < 2 ^ 128) (n : Int) : Calls Try.prog 26 #[.pointer (some ⟨Y, 0, none⟩), .agg #[.int .u64 (hi v), .int .u64 (lo v)], .int .i64 n] W (RetX (.tuple #[.int .i64 (getLE v n L).1, .bool (getLE v n L).2]) W) := by
  obtain ⟨A, cap, h1, h2⟩ := h.r
  exact hG _ _ _ _ _ _ _ h1 hn v hv n
theorem remLE_len (v : Nat) (n : Int) {L : List PE} (ha : AscE L) : (remLE v n L).length ≤ L.length := by
  unfold remLE
  split
  · rename_i h
    obtain ⟨e, h1, h2, h3, h4⟩ := here_lt ha h
    have hk : n = (e.n : Int) := h3.symm
    subst hk
    rw [Int.toNat_natCast, remE_len ha h]; omega
  · exact Nat.le_refl _
theorem ju_nodes {w W : World} {X Y b G : Nat} {m : Pth → Option Int} {L : List PE} {F : Nat → Prop} (h : JU w W X Y b G m L F) (hE : RelE b m L) (hb8 : b ≤ 128) (hn : L.length ≤ 1000) : ∃ k : Int,
    (∀ W', Below W.heap.size W W' → Calls Try.prog 30 #[.pointer (some ⟨X, 0, none⟩)] W' fun e w' => e = .returned (.int .i64 k) ∧ w' = W') ∧ ∀ W', Below W.heap.size W W' → Calls Try.prog 31 #[.pointer (some ⟨Y, 0, none⟩)] W' (RetX (.int .i64 k) W') := by
  refine ⟨((nodN b L).length : Int), fun W' hb => ?_, fun W' hb => ?_⟩
  · obtain ⟨kn, h1, h2⟩ := s_nodes (h.below hb).s
    obtain rfl := h1.uniq (hE.nodes hb8)
    exact h2
  · obtain ⟨A, cap, h3, h4⟩ := (h.below hb).r
    exact re_Nodes h3 hn hb8 fun e he => (hE.ok e he).2
theorem ju_len {w W : World} {X Y b G : Nat} {m : Pth → Option Int} {L : List PE} {F : Nat → Prop} (h : JU w W X Y b G m L F) (hE : RelE b m L) (hb8 : b ≤ 128) : Calls Try.prog 27 #[.pointer (some ⟨X, 0, none⟩)] W fun e w' => e = .returned (.int .i64 (L.length : Int)) ∧ w' = W := by
  obtain ⟨kl, h1, _, h2⟩ := s_len h.s
  obtain rfl := h1.uniq (hE.len hb8)
  exact h2
/-- All of the trie, and the law's 'same' behind it -/
theorem ju_all (hA : AllE) {w W : World} {X Y b G : Nat} {m : Pth → Option Int} {L : List PE} {F : Nat → Prop} (h : JU w W X Y b G m L F) (hE : RelE b m L) (hb8 : b ≤ 128) (hG : G ≤ 1000) : Calls Try.prog 29 #[.pointer (some ⟨X, 0, none⟩)] W fun e w' => ∃ A cap, e = .returned (.slice A L.length cap) ∧ RowsE w' A L ∧ L.length ≤ cap ∧ Below W.heap.size W w' := by
  refine (hA W X b G F m L h.s hE hb8 hG).mono ?_
  rintro e w' ⟨A, cap, h1, h2, h3⟩
  obtain ⟨h4, h5⟩ := rowsE_own h2 rfl
  exact ⟨A, cap, h1, h4, h5, h3⟩
theorem JU.up {w W : World} {X Y b G : Nat} {m : Pth → Option Int} {L : List PE} {F : Nat → Prop} (h : JU w W X Y b G m L F) : JU w W X Y b (G + 1) m L F := by
  obtain ⟨⟨A, id, N, K, h1, h2, h3, h4, h5, h6⟩, hl, hc⟩ := h.s
  exact ⟨⟨⟨A, id, N, K, h1, h2, h3, h4, by omega, by omega⟩, hl, hc⟩, h.r, h.ny, h.fw, h.yw, h.bl⟩
/-- blocks of boxes are kept by what changes F alone -/
theorem fr_keep {F : Nat → Prop} {W W' : World} (h : FrU F W W') {j : Nat} {o : Obj} (hj : W.heap[j]? = some o) (hn : ¬ F j) : W'.heap[j]? = some o := (h.block j (heap_ltU hj) hn).trans hj
theorem kx_put {w W : World} {X Y b G : Nat} {m : Pth → Option Int} {L : List PE} {F : Nat → Prop} (h : JU w W X Y b G m L F) (hE : RelE b m L) (hG : G ≤ 1000) (hb8 : b ≤ 128) (v : Nat) (hv : v < 2 ^ 128) (n i : Int) : Calls Try.prog 21 #[.pointer (some ⟨X, 0, none⟩), .agg #[.int .u64 (hi v), .int .u64 (lo v)], .int .i64 n, .int .i64 i] W fun e w' => e = .returned (.bool (decide (hereE v n L = false ∧ preU b v n))) ∧ (∃ F', JU w w' X Y b (G + 1) (putU m (keyU b v n) i) L F') ∧ FrU F W w' := by
  refine (s_put h.s hG hb8 v hv n i).mono ?_
  rintro e w' ⟨rfl, hl⟩
  obtain ⟨F', h1, h2, h3⟩ := h.left hl
  exact ⟨by rw [hE.putB hb8], ⟨F', h1⟩, h3⟩
theorem kx_rem {w W : World} {X Y b G : Nat} {m : Pth → Option Int} {L : List PE} {F : Nat → Prop} (h : JU w W X Y b G m L F) (hE : RelE b m L) (hG : G ≤ 1000) (hb8 : b ≤ 128) (v : Nat) (hv : v < 2 ^ 128) (n : Int) : Calls Try.prog 23 #[.pointer (some ⟨X, 0, none⟩), .agg #[.int .u64 (hi v), .int .u64 (lo v)], .int .i64 n] W fun e w' => e = .returned (.bool (hereE v n L)) ∧ (∃ F', JU w w' X Y b G (remU m (keyU b v n)) L F') ∧ FrU F W w' := by
  refine (s_rem h.s hG hb8 v hv n).mono ?_
  rintro e w' ⟨rfl, hl⟩
  obtain ⟨F', h1, h2, h3⟩ := h.left hl
  exact ⟨by rw [hE.remB hb8], ⟨F', h1⟩, h3⟩
theorem kx_get {w W : World} {X Y b G : Nat} {m : Pth → Option Int} {L : List PE} {F : Nat → Prop} (h : JU w W X Y b G m L F) (hE : RelE b m L) (hb8 : b ≤ 128) (v : Nat) (hv : v < 2 ^ 128) (n : Int) : Calls Try.prog 25 #[.pointer (some ⟨X, 0, none⟩), .agg #[.int .u64 (hi v), .int .u64 (lo v)], .int .i64 n] W (RetX (.tuple #[.int .i64 (getLE v n L).1, .bool (getLE v n L).2]) W) := by
  have := s_get h.s hb8 v hv n
  rw [hE.getU hb8] at this
  exact this
/-- what the end of a round asks -/
theorem tail_factsU (hA : AllE) {w W : World} {X Y b G : Nat} {m : Pth → Option Int} {L : List PE} {F : Nat → Prop} (h : JU w W X Y b G m L F) (hE : RelE b m L) (hb8 : b ≤ 128) (hG : G ≤ 1000) (hn : L.length ≤ 1000) : ∃ (Ay : Option Addr) (cy : Nat),
    (∀ W', Below W.heap.size W W' → Calls Try.prog 27 #[.pointer (some ⟨X, 0, none⟩)] W' fun e w' => e = .returned (.int .i64 (L.length : Int)) ∧ w' = W') ∧
    (∀ W', Below W.heap.size W W' → Calls Try.prog 29 #[.pointer (some ⟨X, 0, none⟩)] W' fun e w' => ∃ A cap, e = .returned (.slice A L.length cap) ∧ RowsE w' A L ∧ L.length ≤ cap ∧ Below W'.heap.size W' w') ∧
    (∀ W', Below W.heap.size W W' → W'.cell? ⟨Y, 1, none⟩ = some (.slice Ay L.length cy)) ∧
    (∀ W' A c, Below W.heap.size W W' → RowsE W' A L → L.length ≤ c → Calls Try.prog 28 #[.slice A L.length c, .slice Ay L.length cy] W' (RetX (.bool true) W')) := by
  obtain ⟨Ay, cy, h1, _⟩ := h.r
  exact ⟨Ay, cy, fun W' hb => ju_len (h.below hb) hE hb8, fun W' hb => ju_all hA (h.below hb) hE hb8 hG, fun W' hb => (h1.below hb).c, fun W' A c hb hr hc => us_same hr (h1.below hb).row rfl hc h1.room (by omega)⟩
end Go.Proofs.Ytmlocfojmncghaa
