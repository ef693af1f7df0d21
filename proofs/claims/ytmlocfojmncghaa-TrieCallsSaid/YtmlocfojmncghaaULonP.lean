/- Layer 12: a trie and the reference's side by side; values that come in. -/
import Derived.Test.YtmlocfojmncghaaURPutH
import Derived.Test.YtmlocfojmncghaaURLng
import Derived.Test.YtmlocfojmncghaaUOpen
namespace Go.Proofs.Ytmlocfojmncghaa
open Go.ChangeShapes Go.WideShapes Go.ChangeAt Go.RowKit Go.Joins Go.Deep
/-- a row of values -/
def ValsU (w : World) (A : Option Addr) (vs : List Nat) : Prop := vs = [] ∨ ∃ g o, A = some ⟨g, o, none⟩ ∧ g < w.heap.size ∧ ∀ i x, vs[i]? = some x → w.cell? ⟨g, o + i * 2, none⟩ = some (.int .u64 (hi x)) ∧ w.cell? ⟨g, o + i * 2 + 1, none⟩ = some (.int .u64 (lo x))
theorem ValsU.below {w w' : World} {A : Option Addr} {vs : List Nat} (h : ValsU w A vs) (hb : Below w.heap.size w w') : ValsU w' A vs := by
  rcases h with h | ⟨g, o, h1, h2, h3⟩
  · exact .inl h
  · exact .inr ⟨g, o, h1, Nat.lt_of_lt_of_le h2 hb.size, fun i x hx => by rw [hb.cell (p := ⟨g, _, none⟩) h2, hb.cell (p := ⟨g, _, none⟩) h2]; exact h3 i x hx⟩
section
variable {H : Type} {enc : TypeId × Value → H} {w : World} {b0 : Nat} {v : Value} {d : DataW H} {p : List MemPlace}
set_option maxRecDepth 100000 in
theorem open_uvals {A : Option Addr} {len cap : Nat} (h : DataW.Trod enc Try.prog w 0 (fun _ => true) true 24 (.slice A len cap) d p) : ∃ vs : List Nat, vs.length = len ∧ len ≤ cap ∧ cap ≤ maxLen ∧ (∀ x ∈ vs, x < 2 ^ 128) ∧ ValsU w A vs := by
  obtain ⟨fuel, hf⟩ := h
  rcases open_slice Try.underlying24 hf with ⟨hcs, _⟩ | ⟨a, l, c, m, n, D, Pl, hcs, _, hl, hm, hmm, _, hi'⟩
  · simp [Value.cells] at hcs
    obtain ⟨rfl, rfl, rfl⟩ := hcs
    exact ⟨[], rfl, Nat.le_refl _, Nat.zero_le _, fun q hq => (by cases hq), .inl rfl⟩
  · simp [Value.cells] at hcs
    obtain ⟨rfl, rfl, rfl⟩ := hcs
    have hmc : m = cap := by simpa using hmm
    subst hmc
    rcases Nat.eq_zero_or_pos len with h0 | h0
    · exact ⟨[], h0.symm, hl, hm, fun q hq => (by cases hq), .inl rfl⟩
    · have hsp : a.spot = none := by
        obtain ⟨cs', hc, _⟩ := hi' 0 (by omega)
        rw [cellsU_val] at hc
        obtain ⟨_, hcl, hat⟩ := World.cells?_some hc
        have h1 := hat 0 (by omega)
        have h2 : w.cell? (a.add (0 * 2)) = some (cs'[0]'(by omega)) := by
          have := h1
          rw [List.getElem?_eq_getElem (by omega)] at this
          have e : (a.add (0 * 2)).add 0 = a.add (0 * 2) := by simp [Addr.add]
          rwa [e] at this
        have e : a.add (0 * 2) = a := by simp [Addr.add]
        rw [e] at h2
        exact World.cell?_spot h2
      obtain ⟨b, o, s⟩ := a
      simp only at hsp
      subst hsp
      have key : ∀ i, i < len → ∃ x : Nat, x < 2 ^ 128 ∧ b < w.heap.size ∧ w.cell? ⟨b, o + i * 2, none⟩ = some (.int .u64 (hi x)) ∧ w.cell? ⟨b, o + i * 2 + 1, none⟩ = some (.int .u64 (lo x)) := by
        intro i hilt
        obtain ⟨cs', hc, ht⟩ := hi' i (by omega)
        rw [cellsU_val] at hc
        obtain ⟨_, hcl, hat⟩ := World.cells?_some hc
        have hcell : ∀ j, j < 2 → w.cell? ⟨b, o + i * 2 + j, none⟩ = cs'[j]? := fun j hj => by
          have := hat j hj
          rw [Addr.add_mid, Addr.add_mid] at this
          exact this
        match cs', hcl with
        | [c0, c1], _ =>
          obtain ⟨x, hx, e0, e1⟩ := openU_val ht
          subst e0 e1
          exact ⟨x, hx, World.block_lt_of_cell? _ _ (hcell 0 (by omega)), hcell 0 (by omega), hcell 1 (by omega)⟩
      let g : Nat → Nat := fun i => if h : i < len then (key i h).choose else 0
      have hg : ∀ i, i < len → g i < 2 ^ 128 ∧ b < w.heap.size ∧ w.cell? ⟨b, o + i * 2, none⟩ = some (.int .u64 (hi (g i))) ∧ w.cell? ⟨b, o + i * 2 + 1, none⟩ = some (.int .u64 (lo (g i))) := fun i h => by
        have := (key i h).choose_spec
        simp only [g, h, dif_pos]
        exact this
      refine ⟨(List.range len).map g, by simp, hl, hm, fun q hq => ?_, .inr ⟨b, o, rfl, (hg 0 h0).2.1, fun i q hq => ?_⟩⟩
      · obtain ⟨i, hi, rfl⟩ := List.mem_map.1 hq
        exact (hg i (List.mem_range.1 hi)).1
      · rw [List.getElem?_map] at hq
        obtain ⟨i', hi', rfl⟩ := Option.map_eq_some_iff.1 hq
        have hlt : i < len := by
          have := (List.getElem?_eq_some_iff.1 hi').1
          simpa using this
        rw [List.getElem?_range hlt] at hi'
        obtain rfl := Option.some.inj hi'
        exact (hg i hlt).2.2
end
/-- the trie at X and the reference's at Y -/
structure JU (w W : World) (X Y b G : Nat) (m : Pth → Option Int) (L : List PE) (F : Nat → Prop) : Prop where
  s : TrieS W X b F m G
  r : ∃ A cap, RE W Y b A L.length cap L ∧ ∀ g, A = some ⟨g, 0, none⟩ → L ≠ [] → ¬ F g
  ny : ¬ F Y
  fw : ∀ j, F j → w.heap.size ≤ j
  yw : w.heap.size ≤ Y
  bl : Below w.heap.size w W
theorem JU.below {w W W' : World} {X Y b G : Nat} {m : Pth → Option Int} {L : List PE} {F : Nat → Prop} (h : JU w W X Y b G m L F) (hb : Below W.heap.size W W') : JU w W' X Y b G m L F := by
  obtain ⟨A, cap, h1, h2⟩ := h.r
  exact ⟨h.s.below hb, ⟨A, cap, h1.below hb, h2⟩, h.ny, h.fw, h.yw, h.bl.trans (hb.mono h.bl.size)⟩
theorem JU.left {w W W' : World} {X Y b G G' : Nat} {m m' : Pth → Option Int} {L : List PE} {F : Nat → Prop} (h : JU w W X Y b G m L F) (hl : LeftU W W' X b F m' G') : ∃ F', JU w W' X Y b G' m' L F' ∧ (∀ j, F' j → F j ∨ W.heap.size ≤ j) ∧ FrU F W W' := by
  obtain ⟨⟨F', h1, h2⟩, h3⟩ := hl
  obtain ⟨A, cap, h4, h5⟩ := h.r
  have h6 : ∀ j, F' j → F j ∨ W.heap.size ≤ j := fun j hj => (h2 j hj).imp (fun h => h) (fun h => h.1)
  refine ⟨F', ⟨h1, ⟨A, cap, h4.aside h3.size (h3.block Y h4.lt h.ny) (fun g e hL => h3.block g (h4.rowlt e hL) (h5 g e hL)), fun g e hL hg => ?_⟩, fun hy => ?_, fun j hj => ?_, h.yw, h.bl.trans (h3.below h.bl.size h.fw)⟩, h6, h3⟩
  · rcases h6 g hg with h7 | h7
    · exact h5 g e hL h7
    · have := h4.rowlt e hL; omega
  · rcases h6 Y hy with h7 | h7
    · exact h.ny h7
    · have := h4.lt; omega
  · rcases h6 j hj with h7 | h7
    · exact h.fw j h7
    · exact Nat.le_trans h.bl.size h7
theorem JU.leftE {w W W' : World} {X Y b G n : Nat} {A : Option Addr} {m : Pth → Option Int} {L L' : List PE} {F : Nat → Prop} (h : JU w W X Y b G m L F) (hA : ∀ g, A = some ⟨g, 0, none⟩ → L ≠ [] → ¬ F g) (hl : LeftE Y b n A L L' W W') : JU w W' X Y b G m L' F := by
  obtain ⟨⟨A', cap', h1, h2⟩, h3⟩ := hl
  refine ⟨h.s.aside h3.size fun j hj => h3.block j (h.s.lt j hj) fun e => h.ny (by rw [← e]; exact hj), ⟨A', cap', by rw [h1.len]; exact h1, fun g e hL hg => ?_⟩, h.ny, h.fw, h.yw, h.bl.trans (h3.below h.bl.size fun j e => by rw [e]; exact h.yw)⟩
  rcases h2 g e hL with ⟨h4, h5⟩ | h4
  · exact hA g h4 h5 hg
  · have := h.s.lt g hg; omega
/-- what the reference's Put does -/
def PutE : Prop := ∀ (w : World) (Y bits n0 cap : Nat) (A : Option Addr) (L : List PE), RE w Y bits A n0 cap L → bits ≤ 128 → n0 ≤ 100000 → ∀ (v : Nat), v < 2 ^ 128 → ∀ (n id : Int), Calls Try.prog 22 #[.pointer (some ⟨Y, 0, none⟩), .agg #[.int .u64 (hi v), .int .u64 (lo v)], .int .i64 n, .int .i64 id] w fun e w' => e = .returned (.bool (decide (hereE v n L = false ∧ preU bits v n))) ∧ LeftE Y bits (putLE bits v n id L).length A L (putLE bits v n id L) w w'
/-- Put of the reference beside the trie -/
theorem ju_putE (hP : PutE) {w W : World} {X Y b G : Nat} {m : Pth → Option Int} {L : List PE} {F : Nat → Prop} (h : JU w W X Y b G m L F) (hb8 : b ≤ 128) (hn : L.length ≤ 100000) (v : Nat) (hv : v < 2 ^ 128) (n id : Int) : Calls Try.prog 22 #[.pointer (some ⟨Y, 0, none⟩), .agg #[.int .u64 (hi v), .int .u64 (lo v)], .int .i64 n, .int .i64 id] W fun e w' => e = .returned (.bool (decide (hereE v n L = false ∧ preU b v n))) ∧ JU w w' X Y b G m (putLE b v n id L) F ∧ FrU (fun j => j = Y) W w' := by
  obtain ⟨A, cap, h1, h2⟩ := h.r
  exact (hP _ _ _ _ _ _ _ h1 hb8 hn v hv n id).mono fun e w' ⟨h3, h4⟩ => ⟨h3, h.leftE h2 h4, h4.2⟩
theorem ju_lngE {w W : World} {X Y b G : Nat} {m : Pth → Option Int} {L : List PE} {F : Nat → Prop} (h : JU w W X Y b G m L F) (hn : L.length ≤ 100000) (u : Nat) (hu : u < 2 ^ 128) : Calls Try.prog 35 #[.pointer (some ⟨Y, 0, none⟩), .agg #[.int .u64 (hi u), .int .u64 (lo u)]] W (RetX (.tuple #[.int .i64 ((lngE b u L).1 : Int), .int .i64 (lngE b u L).2.1, .bool (lngE b u L).2.2]) W) := by
  obtain ⟨A, cap, h1, h2⟩ := h.r
  exact re_Longest h1 hn u hu
theorem putLE_len (b v : Nat) (n id : Int) (L : List PE) : (putLE b v n id L).length ≤ L.length + 1 := by
  unfold putLE
  split
  · rw [putE_len]; exact Nat.le_refl _
  · omega
/-- both new -/
theorem JU.start {w w1 : World} {X b : Nat} (hS : TrieS w1 X b (fun j => j = X) (fun _ => none) 0) (hb : Below w.heap.size w w1) (hX : w.heap.size ≤ X) : JU w (w1.alloc (.cells #[.int .i64 (b : Int), .slice none 0 0] 64)) X w1.heap.size b 0 (fun _ => none) [] (fun j => j = X) := by
  have hb2 := (Below.refl w1.heap.size w1).alloc (Nat.le_refl _) (.cells #[.int .i64 (b : Int), .slice none 0 0] 64)
  refine ⟨hS.below hb2, ⟨none, 0, re_new, fun g e => by cases e⟩, fun e => ?_, fun j e => by rw [e]; exact hX, hb.size, hb.trans (hb2.mono hb.size)⟩
  have := hS.lt X rfl
  omega
end Go.Proofs.Ytmlocfojmncghaa
