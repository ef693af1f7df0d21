/- Layer 12: the different beginnings of the prefixes of a list: pure; '==' of the reference's prefixes. -/
import Derived.Test.YtmlocfojmncghaaURel
namespace Go.Proofs.Ytmlocfojmncghaa
open Go.RowKit
/-- one more beginning, if it is not there -/
def addN (Ns : List Pth) (p : Pth) : List Pth := if p ∈ Ns then Ns else Ns ++ [p]
/-- the beginnings of one prefix, from length 0 to below k -/
def begN (b v : Nat) (Ns : List Pth) (k : Nat) : List Pth := ((List.range k).map (pthU b v)).foldl addN Ns
def nodN (b : Nat) (L : List PE) : List Pth := L.foldl (fun Ns e => begN b e.v Ns (e.n + 1)) []
theorem begN_succ (b v : Nat) (Ns : List Pth) (k : Nat) : begN b v Ns (k + 1) = addN (begN b v Ns k) (pthU b v k) := by
  unfold begN
  rw [List.range_succ, List.map_append, List.foldl_append]; rfl
theorem addN_mem (Ns : List Pth) (p q : Pth) : q ∈ addN Ns p ↔ q ∈ Ns ∨ q = p := by
  unfold addN
  split
  · rename_i h
    exact ⟨.inl, fun h2 => h2.elim id fun e => by rw [e]; exact h⟩
  · rw [List.mem_append, List.mem_singleton]
theorem addN_nodup {Ns : List Pth} (h : Ns.Nodup) (p : Pth) : (addN Ns p).Nodup := by
  unfold addN
  split
  · exact h
  · rename_i hn
    exact List.nodup_append.2 ⟨h, by simp, fun a ha c hc e => hn (by rw [List.mem_singleton] at hc; rw [← hc, ← e]; exact ha)⟩
theorem addN_len (Ns : List Pth) (p : Pth) : (addN Ns p).length ≤ Ns.length + 1 := by
  unfold addN
  split
  · omega
  · simp
theorem begN_zero (b v : Nat) (Ns : List Pth) : begN b v Ns 0 = Ns := rfl
theorem begN_mem (b v : Nat) (Ns : List Pth) (q : Pth) : ∀ k, q ∈ begN b v Ns k ↔ q ∈ Ns ∨ ∃ n, n < k ∧ q = pthU b v n
  | 0 => by rw [begN_zero]; exact ⟨.inl, fun h => h.elim id fun ⟨n, h, _⟩ => absurd h (Nat.not_lt_zero _)⟩
  | k + 1 => by
    rw [begN_succ, addN_mem, begN_mem b v Ns q k]
    constructor
    · rintro ((h | ⟨n, h1, h2⟩) | h)
      · exact .inl h
      · exact .inr ⟨n, by omega, h2⟩
      · exact .inr ⟨k, by omega, h⟩
    · rintro (h | ⟨n, h1, h2⟩)
      · exact .inl (.inl h)
      · rcases Nat.lt_or_ge n k with h3 | h3
        · exact .inl (.inr ⟨n, h3, h2⟩)
        · obtain rfl : n = k := by omega
          exact .inr h2
theorem begN_nodup (b v : Nat) {Ns : List Pth} (h : Ns.Nodup) : ∀ k, (begN b v Ns k).Nodup
  | 0 => h
  | k + 1 => by rw [begN_succ]; exact addN_nodup (begN_nodup b v h k) _
theorem begN_len (b v : Nat) (Ns : List Pth) : ∀ k, (begN b v Ns k).length ≤ Ns.length + k
  | 0 => Nat.le_refl _
  | k + 1 => by
    rw [begN_succ]
    have h1 := addN_len (begN b v Ns k) (pthU b v k)
    have h2 := begN_len b v Ns k
    omega
theorem nodN_snoc (b : Nat) (L : List PE) (e : PE) : nodN b (L ++ [e]) = begN b e.v (nodN b L) (e.n + 1) := by
  unfold nodN
  rw [List.foldl_append]; rfl
theorem nod_fold (b : Nat) : ∀ (L : List PE) (Ns : List Pth), (Ns.Nodup → (L.foldl (fun Ns e => begN b e.v Ns (e.n + 1)) Ns).Nodup) ∧ ∀ q, q ∈ L.foldl (fun Ns e => begN b e.v Ns (e.n + 1)) Ns ↔ q ∈ Ns ∨ ∃ e ∈ L, q <+: pthU b e.v e.n
  | [], Ns => ⟨id, fun q => by simp⟩
  | x :: L, Ns => by
    obtain ⟨h1, h2⟩ := nod_fold b L (begN b x.v Ns (x.n + 1))
    refine ⟨fun h => h1 (begN_nodup b x.v h _), fun q => ?_⟩
    rw [List.foldl_cons, h2, begN_mem]
    have hx : (∃ n, n < x.n + 1 ∧ q = pthU b x.v n) ↔ q <+: pthU b x.v x.n := by
      constructor
      · rintro ⟨n, h3, rfl⟩
        exact pthU_pre b x.v (by omega)
      · intro h
        have hl := h.length_le
        rw [pthU_len] at hl
        refine ⟨q.length, by omega, ?_⟩
        have h4 := pthU_pre b x.v hl
        have h5 := List.prefix_of_prefix_length_le h h4 (by rw [pthU_len]; exact Nat.le_refl _)
        exact h5.eq_of_length (by rw [pthU_len])
    rw [hx]
    constructor
    · rintro ((h | h) | ⟨e, h3, h4⟩)
      · exact .inl h
      · exact .inr ⟨x, List.mem_cons_self .., h⟩
      · exact .inr ⟨e, List.mem_cons_of_mem _ h3, h4⟩
    · rintro (h | ⟨e, h3, h4⟩)
      · exact .inl (.inl h)
      · rcases List.mem_cons.1 h3 with h5 | h5
        · subst h5; exact .inl (.inr h4)
        · exact .inr ⟨e, h5, h4⟩
theorem RelE.nodes {b : Nat} {m : Pth → Option Int} {L : List PE} (h : RelE b m L) (hb : b ≤ 128) : NodesIs m (nodN b L).length := by
  obtain ⟨h1, h2⟩ := nod_fold b L []
  refine ⟨L.map fun e => pthU b e.v e.n, nodN b L, h.key hb, h1 List.nodup_nil, fun p => ?_, rfl⟩
  unfold nodN
  rw [h2]
  unfold cntU
  constructor
  · rintro (h3 | ⟨e, h3, h4⟩)
    · cases h3
    · exact List.length_pos_of_mem (List.mem_filter.2 ⟨List.mem_map.2 ⟨e, h3, rfl⟩, List.isPrefixOf_iff_prefix.2 h4⟩)
  · intro h3
    obtain ⟨q, hq⟩ := List.exists_mem_of_length_pos h3
    obtain ⟨h4, h5⟩ := List.mem_filter.1 hq
    obtain ⟨e, h6, rfl⟩ := List.mem_map.1 h4
    exact .inr ⟨e, h6, List.isPrefixOf_iff_prefix.1 h5⟩
set_option maxRecDepth 100000 in
set_option maxHeartbeats 2000000 in
theorem eq_preE (a b n i c d n2 i2 : Int) (w : World) : (Op.equalIn 10000 76 (.agg #[.int .u64 a, .int .u64 b, .int .i64 n, .int .i64 i]) (.agg #[.int .u64 c, .int .u64 d, .int .i64 n2, .int .i64 i2])).run Try.prog w = .ok ((decide (a = c) && decide (b = d)) && (decide (n = n2) && decide (i = i2))) w := by
  have hS : Try.prog.underlying 76 = some (.struct (Try.prog.fieldsOf 76)) := by kernel_rfl
  rw [show (10000 : Nat) = 9999 + 1 from rfl, run_equalIn_agg w 9999 76 _ _ hS (by kernel_rfl)]
  simp only [Program.fieldsOf, Try.underlying76]
  clear hS
  by_cases h1 : a = c
  · subst h1
    by_cases h2 : b = d
    · subst h2
      by_cases h3 : n = n2
      · subst h3
        by_cases h4 : i = i2
        · subst h4
          go_simp
        · go_simp
      · go_simp
    · go_simp
  · go_simp
/-- '==' of two beginnings -/
theorem eq_begE (b : Nat) (hb : b ≤ 128) (p q : Pth) (hp : p.length ≤ b) (hq : q.length ≤ b) (w : World) : (Op.equalIn 10000 76 (.agg #[.int .u64 (hi (pvU b p)), .int .u64 (lo (pvU b p)), .int .i64 (p.length : Int), .int .i64 0]) (.agg #[.int .u64 (hi (pvU b q)), .int .u64 (lo (pvU b q)), .int .i64 (q.length : Int), .int .i64 0])).run Try.prog w = .ok (decide (p = q)) w := by
  rw [eq_preE, hilo_eqU _ _ (pv_128 b hb p hp) (pv_128 b hb q hq)]
  congr 1
  by_cases e : p = q
  · subst e; simp
  · rw [decide_eq_false e]
    by_cases h1 : pvU b p = pvU b q
    · have h2 : ¬ (p.length : Int) = (q.length : Int) := fun h => e (by
        have h3 : p.length = q.length := by omega
        rw [← pth_pv b hb p hp, ← pth_pv b hb q hq, h1, h3])
      rw [decide_eq_false h2]; simp
    · rw [decide_eq_false h1]; rfl
end Go.Proofs.Ytmlocfojmncghaa
