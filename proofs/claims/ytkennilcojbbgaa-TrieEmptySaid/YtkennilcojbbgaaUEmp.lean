/- Contracts, joined: UTree, UEmpW, UAllT. -/
import Derived.Test.YtkennilcojbbgaaUOrdP
import Derived.Laws.MakeOwn
namespace Go.Proofs.Ytkennilcojbbgaa
/- Layer 12: the prefixes of a trie in the order of All; a path back as a prefix: pure. -/
section
/-- a path as a value -/
def pvS (bits : Nat) (p : Pth) (s : Nat × Nat) : Nat × Nat := p.foldl (fun s x => (s.1 ||| vleft (ixU x) (bits - 1 - s.2), s.2 + 1)) s
def pvU (bits : Nat) (p : Pth) : Nat := (pvS bits p (0, 0)).1
theorem pvS_len (bits : Nat) : ∀ (p : Pth) (s : Nat × Nat), (pvS bits p s).2 = s.2 + p.length
  | [], _ => rfl
  | x :: r, s => by
    show (pvS bits r (s.1 ||| vleft (ixU x) (bits - 1 - s.2), s.2 + 1)).2 = _
    rw [pvS_len bits r]
    simp only [List.length_cons]
    omega
theorem pvU_snoc (bits : Nat) (p : Pth) (x : Bool) : pvU bits (p ++ [x]) = pvU bits p ||| vleft (ixU x) (bits - 1 - p.length) := by
  have h := pvS_len bits p (0, 0)
  rw [show ((0, 0) : Nat × Nat).2 = 0 from rfl, Nat.zero_add] at h
  show (pvS bits (p ++ [x]) (0, 0)).1 = _
  have e : pvS bits (p ++ [x]) (0, 0) = ((pvS bits p (0, 0)).1 ||| vleft (ixU x) (bits - 1 - (pvS bits p (0, 0)).2), (pvS bits p (0, 0)).2 + 1) := by
    unfold pvS
    rw [List.foldl_append]; rfl
  rw [e, h]; rfl
theorem vleft_bitU (x : Bool) (n i : Nat) (hn : n < 128) : (vleft (ixU x) n).testBit i = (x && decide (i = n)) := by
  unfold vleft
  cases x
  · simp [ixU]
  · have h : 2 ^ n < 2 ^ 128 := Nat.pow_lt_pow_right (by decide) hn
    rw [show ixU true = 1 from rfl, Nat.one_mul, Nat.mod_eq_of_lt h, Nat.testBit_two_pow, Bool.true_and]
    by_cases e : i = n
    · rw [decide_eq_true e, decide_eq_true e.symm]
    · rw [decide_eq_false e, decide_eq_false (fun h => e h.symm)]
theorem pvS_bit (bits : Nat) (hb : bits ≤ 128) (i : Nat) : ∀ (p : Pth) (a k : Nat), k + p.length ≤ bits → (pvS bits p (a, k)).1.testBit i = (a.testBit i || (decide (i < bits ∧ k ≤ bits - 1 - i) && p.getD (bits - 1 - i - k) false))
  | [], a, k, _ => by simp [pvS]
  | x :: r, a, k, h => by
    simp only [List.length_cons] at h
    show (pvS bits r (a ||| vleft (ixU x) (bits - 1 - k), k + 1)).1.testBit i = _
    rw [pvS_bit bits hb i r _ _ (by omega), Nat.testBit_or, vleft_bitU x _ i (by omega), Bool.or_assoc]
    congr 1
    by_cases hi : i < bits
    · rcases Nat.lt_trichotomy k (bits - 1 - i) with h1 | h1 | h1
      · obtain ⟨d, hd⟩ : ∃ d, bits - 1 - i - k = d + 1 := ⟨bits - 1 - i - k - 1, by omega⟩
        rw [decide_eq_false (show ¬ i = bits - 1 - k by omega), decide_eq_true (show i < bits ∧ k + 1 ≤ bits - 1 - i from ⟨hi, by omega⟩), decide_eq_true (show i < bits ∧ k ≤ bits - 1 - i from ⟨hi, by omega⟩), hd, show bits - 1 - i - (k + 1) = d by omega]
        simp
      · rw [decide_eq_true (show i = bits - 1 - k by omega), decide_eq_false (show ¬ (i < bits ∧ k + 1 ≤ bits - 1 - i) by omega), decide_eq_true (show i < bits ∧ k ≤ bits - 1 - i from ⟨hi, by omega⟩), show bits - 1 - i - k = 0 by omega]
        simp
      · rw [decide_eq_false (show ¬ i = bits - 1 - k by omega), decide_eq_false (show ¬ (i < bits ∧ k + 1 ≤ bits - 1 - i) by omega), decide_eq_false (show ¬ (i < bits ∧ k ≤ bits - 1 - i) by omega)]
        simp
    · rw [decide_eq_false (show ¬ i = bits - 1 - k by omega), decide_eq_false (show ¬ (i < bits ∧ k + 1 ≤ bits - 1 - i) by omega), decide_eq_false (show ¬ (i < bits ∧ k ≤ bits - 1 - i) by omega)]
      simp
theorem pv_bit (bits : Nat) (hb : bits ≤ 128) (p : Pth) (hp : p.length ≤ bits) (i : Nat) : (pvU bits p).testBit i = (decide (i < bits) && p.getD (bits - 1 - i) false) := by
  have h := pvS_bit bits hb i p 0 0 (by omega)
  rw [Nat.zero_testBit, Bool.false_or, Nat.sub_zero] at h
  show (pvS bits p (0, 0)).1.testBit i = _
  rw [h]
  congr 1
  by_cases e : i < bits
  · rw [decide_eq_true e, decide_eq_true ⟨e, Nat.zero_le _⟩]
  · rw [decide_eq_false e, decide_eq_false (fun h => e h.1)]
theorem pv_128 (bits : Nat) (hb : bits ≤ 128) (p : Pth) (hp : p.length ≤ bits) : pvU bits p < 2 ^ 128 := by
  refine Nat.lt_pow_two_of_testBit _ fun i hi => ?_
  rw [pv_bit bits hb p hp, decide_eq_false (show ¬ i < bits by omega)]; rfl
theorem lead_bitU (b n : Int) (h0 : 0 ≤ b) (h1 : b ≤ 128) (i : Nat) : (lead b n).testBit i = decide (b - n ≤ (i : Int) ∧ (i : Int) < b) := by
  unfold lead ones
  rw [Nat.testBit_xor, Nat.testBit_two_pow_sub_one, Nat.testBit_two_pow_sub_one]
  have e1 : cl (min (max b 0) 128) = b.toNat := by unfold cl; omega
  have e2 : cl (min (max b 0) 128 - min (max n 0) (min (max b 0) 128)) = (b - min (max n 0) b).toNat := by unfold cl; omega
  rw [e1, e2]
  by_cases h2 : (i : Int) < b
  · rw [decide_eq_true (show i < b.toNat by omega)]
    by_cases h3 : b - n ≤ (i : Int)
    · rw [decide_eq_false (show ¬ i < (b - min (max n 0) b).toNat by omega), decide_eq_true ⟨h3, h2⟩]; rfl
    · rw [decide_eq_true (show i < (b - min (max n 0) b).toNat by omega), decide_eq_false (fun h => h3 h.1)]; rfl
  · rw [decide_eq_false (show ¬ i < b.toNat by omega), decide_eq_false (show ¬ i < (b - min (max n 0) b).toNat by omega), decide_eq_false (fun h => h2 h.2)]; rfl
theorem pth_pv (bits : Nat) (hb : bits ≤ 128) (p : Pth) (hp : p.length ≤ bits) : pthU bits (pvU bits p) p.length = p := by
  refine List.ext_getElem (by rw [pthU_len]) fun i h1 h2 => ?_
  simp only [pthU, List.getElem_map, List.getElem_range]
  rw [pv_bit bits hb p hp, decide_eq_true (show bits - 1 - i < bits by omega), show bits - 1 - (bits - 1 - i) = i by omega, Bool.true_and]
  simp [List.getD, h2]
theorem pre_pv (bits : Nat) (hb : bits ≤ 128) (p : Pth) (hp : p.length ≤ bits) : preU bits (pvU bits p) p.length := by
  refine ⟨by omega, by omega, Nat.eq_of_testBit_eq fun i => ?_⟩
  rw [Nat.testBit_and, lead_bitU _ _ (by omega) (by omega), pv_bit bits hb p hp]
  by_cases h1 : i < bits
  · by_cases h2 : bits - 1 - i < p.length
    · rw [decide_eq_true (show (bits : Int) - (p.length : Int) ≤ (i : Int) ∧ (i : Int) < (bits : Int) by omega), Bool.and_true]
    · have : p.getD (bits - 1 - i) false = false := by simp [List.getD, List.getElem?_eq_none (Nat.le_of_not_lt h2)]
      rw [this]; simp
  · rw [decide_eq_false h1]; simp
theorem key_pv (bits : Nat) (hb : bits ≤ 128) (p : Pth) (hp : p.length ≤ bits) : keyU bits (pvU bits p) (p.length : Int) = some p := by
  unfold keyU
  rw [if_pos (pre_pv bits hb p hp), Int.toNat_natCast, pth_pv bits hb p hp]
/-- the prefixes below a node, depth first -/
def allU (th : Pth → Bool) (c : Pth → Nat) : Nat → Pth → List Pth
  | 0, _ => []
  | d + 1, p => if c p = 0 then [] else (if th p = true then [p] else []) ++ (allU th c d (p ++ [false]) ++ allU th c d (p ++ [true]))
theorem pre_sucU (p q : Pth) : p <+: q ↔ q = p ∨ p ++ [false] <+: q ∨ p ++ [true] <+: q := by
  constructor
  · rintro ⟨r, rfl⟩
    cases r with
    | nil => exact .inl (by simp)
    | cons x r => cases x with
      | false => exact .inr (.inl ⟨r, by simp⟩)
      | true => exact .inr (.inr ⟨r, by simp⟩)
  · rintro (rfl | h | h)
    · exact List.prefix_refl _
    · exact (List.prefix_append p [false]).trans h
    · exact (List.prefix_append p [true]).trans h
theorem all_mem {th : Pth → Bool} {c : Pth → Nat} (hW : CWf c th) : ∀ (d : Nat) (p q : Pth), q ∈ allU th c d p ↔ th q = true ∧ p <+: q ∧ q.length < p.length + d
  | 0, p, q => by
    constructor
    · intro h; cases h
    · rintro ⟨_, h2, h3⟩
      have := h2.length_le
      omega
  | d + 1, p, q => by
    unfold allU
    by_cases hc : c p = 0
    · rw [if_pos hc]
      constructor
      · intro h; cases h
      · rintro ⟨h1, ⟨r, rfl⟩, _⟩
        have h4 := hW.thc _ h1
        have h5 := hW.take p r
        omega
    · rw [if_neg hc, List.mem_append, List.mem_append, all_mem hW d, all_mem hW d, pre_sucU p q]
      simp only [List.length_append, List.length_cons, List.length_nil]
      constructor
      · rintro (h | h | h)
        · split at h
          · rename_i ht
            rw [List.mem_singleton] at h
            subst h
            exact ⟨ht, .inl rfl, by omega⟩
          · cases h
        · exact ⟨h.1, .inr (.inl h.2.1), by omega⟩
        · exact ⟨h.1, .inr (.inr h.2.1), by omega⟩
      · rintro ⟨h1, rfl | h2 | h2, h3⟩
        · left
          rw [if_pos h1]
          exact List.mem_singleton.2 rfl
        · exact .inr (.inl ⟨h1, h2, by omega⟩)
        · exact .inr (.inr ⟨h1, h2, by omega⟩)
theorem all_nodup {th : Pth → Bool} {c : Pth → Nat} (hW : CWf c th) : ∀ (d : Nat) (p : Pth), (allU th c d p).Nodup
  | 0, _ => List.nodup_nil
  | d + 1, p => by
    unfold allU
    by_cases hc : c p = 0
    · rw [if_pos hc]; exact List.nodup_nil
    · rw [if_neg hc]
      refine List.nodup_append.2 ⟨by split <;> simp, List.nodup_append.2 ⟨all_nodup hW d _, all_nodup hW d _, fun a ha b hb e => ?_⟩, fun a ha b hb e => ?_⟩
      · subst e
        have h1 := ((all_mem hW d _ _).1 ha).2.1
        have h2 := ((all_mem hW d _ _).1 hb).2.1
        have h3 := List.prefix_of_prefix_length_le h1 h2 (by simp)
        have h4 := h3.eq_of_length (by simp)
        have h5 := (snoc_injU h4).2
        cases h5
      · subst e
        have ha' : a = p := by
          split at ha
          · exact List.mem_singleton.1 ha
          · cases ha
        subst ha'
        rcases List.mem_append.1 hb with h | h
        · have h1 := ((all_mem hW d _ _).1 h).2.1.length_le
          simp at h1
          omega
        · have h1 := ((all_mem hW d _ _).1 h).2.1.length_le
          simp at h1
          omega
/-- no prefix is longer than the bits -/
def ShortU (bits : Nat) (m : Pth → Option Int) : Prop := ∀ p, (m p).isSome = true → p.length ≤ bits
theorem ShortU.put {bits : Nat} {m : Pth → Option Int} (h : ShortU bits m) (v : Nat) (n : Int) (i : Int) : ShortU bits (putU m (keyU bits v n) i) := by
  intro p hp
  rw [putU_at] at hp
  by_cases h1 : (m p).isSome = true
  · exact h p h1
  · rw [if_neg h1] at hp
    by_cases h2 : keyU bits v n = some p
    · unfold keyU at h2
      split at h2
      · rename_i h3
        injection h2 with h2
        have := h3.2.1
        have := h3.1
        rw [← h2, pthU_len]
        omega
      · cases h2
    · rw [if_neg h2] at hp; cases hp
/-- the prefix of length 0 alone -/
theorem lg_off {th : Pth → Bool} (id : Pth → Int) (h : ∀ p, p ≠ [] → th p = false) : ∀ (q p : Pth) (a : Nat × Int × Bool), p ≠ [] → lgU th id p q a = a
  | [], p, a, hp => by simp [lgU, stpU, h p hp]
  | x :: q, p, a, hp => by
    rw [lgU, lg_off id h q (p ++ [x]) _ (by simp)]
    simp [stpU, h p hp]
theorem lng_root (bits v : Nat) (i : Int) (hv : v < 2 ^ bits) : lngM (putU (fun _ => none) (some []) i) bits v = (0, i, true) := by
  have hm : ∀ p, putU (fun _ => none) (some []) i p = if ([] : Pth) = p then some i else none := fun p => by
    rw [putU_at]
    simp
  have hlen : (bitLen v : Int) ≤ bits := by
    unfold bitLen
    split
    · omega
    · rename_i h
      have := (Nat.log2_lt h).2 hv
      omega
  unfold lngM lngU
  rw [if_pos hlen]
  have hoff : ∀ p, p ≠ [] → (putU (fun _ => none) (some []) i p).isSome = false := fun p hp => by rw [hm, if_neg (fun e => hp e.symm)]; rfl
  have hon : (putU (fun _ => none) (some ([] : Pth)) i []) = some i := by rw [hm, if_pos rfl]
  generalize pthU bits v bits = q
  cases q with
  | nil => simp [lgU, stpU, hon]
  | cons x q =>
    rw [lgU, lg_off _ hoff q ([] ++ [x]) _ (by simp)]
    simp [stpU, hon]
theorem lowB_ltU (a b : Nat) (hb : b ≤ 128) : lowB a b < 2 ^ b := by
  unfold lowB
  rw [show cl (b : Int) = b by unfold cl; omega]
  exact Nat.mod_lt _ (Nat.two_pow_pos b)
def rowAllU (bits : Nat) (id : Pth → Int) (l : List Pth) : List Value := l.flatMap fun p => [.int .u64 (hi (pvU bits p)), .int .u64 (lo (pvU bits p)), .int .i64 p.length, .int .i64 (id p)]
theorem rowAllU_app (bits : Nat) (id : Pth → Int) (l k : List Pth) : rowAllU bits id (l ++ k) = rowAllU bits id l ++ rowAllU bits id k := by simp [rowAllU]
theorem rowAllU_len (bits : Nat) (id : Pth → Int) : ∀ (l : List Pth), (rowAllU bits id l).length = l.length * 4
  | [] => rfl
  | x :: r => by
    have := rowAllU_len bits id r
    unfold rowAllU at this ⊢
    rw [List.flatMap_cons, List.length_append, this]
    simp only [List.length_cons, List.length_nil]
    omega
theorem rowAllU_get (bits : Nat) (id : Pth → Int) : ∀ (l : List Pth) (i j : Nat) (p : Pth), l[i]? = some p → j < 4 → (rowAllU bits id l)[i * 4 + j]? = ([.int .u64 (hi (pvU bits p)), .int .u64 (lo (pvU bits p)), .int .i64 p.length, .int .i64 (id p)] : List Value)[j]?
  | [], i, j, p, h, _ => by simp at h
  | x :: r, i, j, p, h, hj => by
    show ([.int .u64 (hi (pvU bits x)), .int .u64 (lo (pvU bits x)), .int .i64 x.length, .int .i64 (id x)] ++ rowAllU bits id r)[i * 4 + j]? = _
    cases i with
    | zero =>
      simp at h; subst h
      rw [List.getElem?_append_left (by simp; omega)]; simp
    | succ i =>
      rw [List.getElem?_append_right (by simp; omega), show (i + 1) * 4 + j - ([.int .u64 (hi (pvU bits x)), .int .u64 (lo (pvU bits x)), .int .i64 x.length, .int .i64 (id x)] : List Value).length = i * 4 + j by simp; omega]
      exact rowAllU_get bits id r i j p (by simpa using h) hj
end
/- Layer 12: the walk of TrieEmpty. -/
section
open Go.RowKit
/-- what All answers -/
def AllC : Prop := ∀ (w : World) (X bits G : Nat) (F : Nat → Prop) (m : Pth → Option Int), TrieS w X bits F m G → ShortU bits m → bits ≤ 128 → G ≤ 1000 → Calls Try.prog 31 #[.pointer (some ⟨X, 0, none⟩)] w fun e w' =>
  ∃ L idf A cap, e = .returned (.slice A L.length cap) ∧ L.Nodup ∧ (∀ q, q ∈ L ↔ (m q).isSome = true) ∧ w'.ownsRow w.heap.size 81 4 (.slice A L.length cap) L.length (rowAllU bits idf L) ∧ Below w.heap.size w w'
theorem rowA_own {w : World} {base : Nat} {A : Option Addr} {cap b : Nat} {idf : Pth → Int} {L : List Pth} (h : w.ownsRow base 81 4 (.slice A L.length cap) L.length (rowAllU b idf L)) :
    (L = [] ∨ ∃ g, A = some ⟨g, 0, none⟩ ∧ ∀ i p, L[i]? = some p → ∀ j, j < 4 → w.cell? ⟨g, i * 4 + j, none⟩ = ([.int .u64 (hi (pvU b p)), .int .u64 (lo (pvU b p)), .int .i64 p.length, .int .i64 (idf p)] : List Value)[j]?) ∧ L.length ≤ cap := by
  rcases h.2 with ⟨e0, e1⟩ | ⟨g, cap', cur, e0, hb, hg, hc, _⟩
  · exact ⟨.inl (List.length_eq_zero_iff.1 e1), by omega⟩
  · injection e0 with e1 _ e3
    subst e1; subst e3
    refine ⟨.inr ⟨g, rfl, fun i p hp j hj => ?_⟩, hc⟩
    have hi : i < L.length := (List.getElem?_eq_some_iff.1 hp).1
    rw [World.ownsRow.cellAt h (i * 4 + j) (by omega), rowAllU_get b idf L i j p hp hj]
set_option maxRecDepth 100000 in
set_option maxHeartbeats 8000000 in
theorem ut_putNil (v : Nat) (n i : Int) (w : World) : Calls Try.prog 23 #[.pointer none, .agg #[.int .u64 (hi v), .int .u64 (lo v)], .int .i64 n, .int .i64 i] w (RetX (.bool false) w) := by
  obtain ⟨W0, hW0⟩ : ∃ W0, W0 = ((w.alloc (.cells #[.pointer none] 54)).alloc (.cells #[.int .u64 (hi v), .int .u64 (lo v)] 29)) := ⟨_, rfl⟩
  have hB0 : Below w.heap.size w W0 := by rw [hW0]; exact ((Below.refl _ w).alloc (Nat.le_refl _) _).alloc (by simp) _
  have a0 : W0.heap[w.heap.size]? = some (.cells #[.pointer none] 54 (0, 0)) := by
    rw [hW0]; exact (Below.heap_alloc _ _ _ (by simp)).trans (heap_alloc_new _ _)
  have a1 : W0.heap[w.heap.size + 1]? = some (.cells #[.int .u64 (hi v), .int .u64 (lo v)] 29 (0, 0)) := by
    have h := heap_alloc_new (w.alloc (.cells #[.pointer none] 54)) (.cells #[.int .u64 (hi v), .int .u64 (lo v)] 29)
    rw [World.size_alloc] at h
    rw [hW0]; exact h
  have HW0 := Lib.hid hW0
  have HB0 := Lib.hid hB0
  have hc0 := blk_cell a0 0 _ rfl
  have hc1 := blk_cell a1 0 _ rfl
  have hc2 := blk_cell a1 1 _ rfl
  rw [hW0] at hc0 hc1 hc2
  clear hW0 a0 a1 hB0
  go_enter Try.func23, Try.ntmps23
  go_wp2_with (go_at_call 64; rw [← HW0.out]; (with_reducible refine (ut_preNil v n _).mono ?_); rintro e w1 ⟨rfl, hb1⟩; have HB1 := Lib.hid (HB0.out.trans (hb1.mono HB0.out.size)))
  go_ret
  exact ⟨rfl, HB1.out⟩
theorem key_zero (b : Nat) : keyU b 0 0 = some [] := by
  unfold keyU
  rw [if_pos ⟨Int.le_refl 0, by omega, by simp⟩]
  rfl
theorem len_zero {k : Nat} (h : LenIs (fun _ => none) k) : k = 0 := h.uniq ⟨[], ⟨List.nodup_nil, fun q => by simp⟩, rfl⟩
theorem nodes_zero {k : Nat} (h : NodesIs (fun _ => none) k) : k = 0 := h.uniq ⟨[], [], ⟨List.nodup_nil, fun q => by simp⟩, List.nodup_nil, fun p => by simp [cntU], rfl⟩
theorem nodes_one {k : Nat} {i : Int} (h : NodesIs (putU (fun _ => none) (some []) i) k) : k = 1 := by
  refine h.uniq ⟨[[]], [[]], ⟨by simp, fun q => ?_⟩, by simp, fun p => ?_, rfl⟩
  · rw [putU_at]
    by_cases e : q = []
    · subst e; simp
    · have e' : ¬ ([] : Pth) = q := fun h => e h.symm
      simp [e, e']
  · cases p with
    | nil => simp [cntU]
    | cons x p => simp [cntU]
theorem rem_step {mE m' : Pth → Option Int} {L : List Pth} {j : Nat} {p : Pth} (h : ∀ q, m' q = if q ∈ L.take j then none else mE q) (hp : L[j]? = some p) : ∀ q, remU m' (some p) q = if q ∈ L.take (j + 1) then none else mE q := by
  intro q
  rw [remU_at, List.take_add_one, hp, h q]
  simp only [Option.toList_some, List.mem_append, List.mem_singleton]
  by_cases e : q = p
  · subst e; simp
  · have e' : ¬ some p = some q := fun h => e (by injection h with h; exact h.symm)
    rw [if_neg e']
    by_cases h2 : q ∈ L.take j
    · rw [if_pos h2, if_pos (Or.inl h2)]
    · rw [if_neg h2, if_neg (fun h => h.elim h2 e)]
theorem rem_on {mE m' : Pth → Option Int} {L : List Pth} {j : Nat} {p : Pth} (h : ∀ q, m' q = if q ∈ L.take j then none else mE q) (hp : L[j]? = some p) (hn : L.Nodup) (hm : ∀ q, q ∈ L ↔ (mE q).isSome = true) : remB m' (some p) = true := by
  show (m' p).isSome = true
  rw [h p, if_neg (fun hq => ?_)]
  · exact (hm p).1 (List.mem_of_getElem? hp)
  · obtain ⟨i, hi, hip⟩ := List.mem_iff_getElem.1 hq
    rw [List.length_take] at hi
    rw [List.getElem_take] at hip
    obtain ⟨hj, hjp⟩ := List.getElem?_eq_some_iff.1 hp
    exact (List.pairwise_iff_getElem.1 hn) i j (by omega) hj (by omega) (hip.trans hjp.symm)
theorem rem_all {mE m' : Pth → Option Int} {L : List Pth} (h : ∀ q, m' q = if q ∈ L.take L.length then none else mE q) (hm : ∀ q, q ∈ L ↔ (mE q).isSome = true) : m' = (fun _ => none) := by
  funext q
  rw [h q, List.take_length]
  by_cases e : q ∈ L
  · rw [if_pos e]
  · rw [if_neg e]
    cases hq : mE q with
    | none => rfl
    | some z => exact absurd ((hm q).2 (by rw [hq]; rfl)) e
theorem all_len {w : World} {X bits G : Nat} {F : Nat → Prop} {m : Pth → Option Int} (h : TrieS w X bits F m G) {L : List Pth} (hn : L.Nodup) (hm : ∀ q, q ∈ L ↔ (m q).isSome = true) : L.length ≤ G := by
  obtain ⟨A, id, N, K, _, _, _, h4, h5, _⟩ := h.ex
  rw [(KeyU.perm ⟨hn, hm⟩ h4).length_eq]
  exact h5
set_option maxRecDepth 100000 in
set_option maxHeartbeats 8000000 in
theorem empty_anyU (hAll : AllC) (w : World) (x0 : Int) (A1 : Option Addr) (n1 c1 : Nat) (qs1 : List UOp) (hn1 : qs1.length = n1) (hc1 : n1 ≤ c1) (hm1 : c1 ≤ 9223372036854775807) (hok1 : ∀ q ∈ qs1, q.ok) (hr1 : OpsU w A1 qs1) (v : Nat) (hv : v < 2 ^ 128) :
    Calls Try.prog 7 #[.int .i64 x0, .slice A1 n1 c1, .agg #[.int .u64 (hi v), .int .u64 (lo v)]] w (RetX (.bool true) w) := by
  have HALL := Lib.hid hAll
  have HN1 := Lib.hid hn1
  have HOK1 := Lib.hid hok1
  have HR1 := Lib.hid hr1
  obtain ⟨m1, hmm1⟩ : ∃ m1 : Nat, m1 = min n1 16 := ⟨_, rfl⟩
  have hmin1 : min (n1 : Int) 16 = (m1 : Int) := by omega
  have hm1n : m1 ≤ n1 := by omega
  have hm116 : m1 ≤ 16 := by omega
  obtain ⟨b, hb⟩ : ∃ b : Nat, (b : Int) = 1 + x0 % 128 := ⟨(1 + x0 % 128).toNat, by omega⟩
  have hb1 : 1 ≤ b := by omega
  have hb8 : b ≤ 128 := by omega
  have hmask : wrap64 (1 + bits .and .i64 x0 127) = (b : Int) := by
    have h1 := i64_mask x0 7 (by decide)
    rw [show ((2 ^ 7 - 1 : Nat) : Int) = 127 from rfl, show ((2 ^ 7 : Nat) : Int) = 128 from rfl] at h1
    rw [h1, hb]
    unfold wrap64
    omega
  have hbU : bitsU (b : Int) = b := by unfold bitsU; omega
  obtain ⟨y, hy⟩ : ∃ y, y = bits .and .i64 x0 127 := ⟨_, rfl⟩
  rw [← hy] at hmask
  have HMASK := Lib.hid hmask
  have HY := Lib.hid hy
  obtain ⟨w0, hw0⟩ : ∃ w0, w0 = w.alloc (.cells #[.int .u64 (hi v), .int .u64 (lo v)] 29) := ⟨_, rfl⟩
  have HW0 := Lib.hid hw0
  have B0 : Hid (Below w.heap.size w w0) := Lib.hid (by rw [hw0]; exact (Below.refl _ w).alloc (Nat.le_refl _) _)
  have V0 : Hid (w0.heap[w.heap.size]? = some (.cells #[.int .u64 (hi v), .int .u64 (lo v)] 29 (0, 0))) := Lib.hid (by rw [hw0]; exact heap_alloc_new _ _)
  have hz00 : w0.heap.size = w.heap.size + 1 := by rw [hw0]; simp
  have HZ00 := Lib.hid hz00
  clear hn1 hok1 hr1 hmm1 hw0 hz00 hy hmask hb hAll
  go_enter Try.func7, Try.ntmps7
  go_wp2_with fail
  rw [← HY.out, HMASK.out, ← HW0.out]
  refine (s_new b w0).mono ?_
  rintro e w1 ⟨rfl, hb1w, hz1, hS1⟩
  rw [hbU] at hS1
  have S1 := Lib.hid hS1
  have B1 := Lib.hid hb1w
  clear hb1w hz1 hS1
  have BW1 : Hid (Below w.heap.size w w1) := Lib.hid (B0.out.trans (B1.out.mono B0.out.size))
  have TX0 : Hid (TI w1 (fun j => j = w0.heap.size) w1 w0.heap.size b (fun _ => none) 0 (fun j => j = w0.heap.size)) := Lib.hid (TI.start S1.out)
  have HX1 : Hid (w.heap.size < w0.heap.size) := Lib.hid (by have := HZ00.out; omega)
  have V1 : Hid (w1.heap[w.heap.size]? = some (.cells #[.int .u64 (hi v), .int .u64 (lo v)] 29 (0, 0))) := Lib.hid ((B1.out.block _ (heap_ltU V0.out)).trans V0.out)
  go_wp2_with fail
  go_loopw [33] (fun i W => ∃ (k : Nat) (m : Pth → Option Int) (F : Nat → Prop), k ≤ m1 ∧ i = .int .i64 k ∧ TI w1 (fun j => j = w0.heap.size) W w0.heap.size b m k F ∧ ShortU b m) (fun i _ => m1 - (intOf i).toNat)
  case atStart => exact ⟨0, _, _, Nat.zero_le _, rfl, TX0.out, fun p h => by simp at h⟩
  case round =>
    obtain ⟨k, m, F, hk, rfl, hT, hS⟩ := hrel
    have HT := Lib.hid hT
    have HS := Lib.hid hS
    clear hT hS
    by_cases hlt : k < m1
    · have HB : Hid (Below w.heap.size w wr) := Lib.hid (BW1.out.trans (HT.out.fr.below BW1.out.size (fun j hj => by have := HX1.out; omega)))
      have hk1 : (k : Int) < (m1 : Int) := by omega
      have hk2 : (k : Int) < (c1 : Int) := by omega
      have hk0 : 0 ≤ (k : Int) := by omega
      obtain ⟨q, hq⟩ : ∃ q, qs1[k]? = some q := ⟨_, List.getElem?_eq_getElem (by rw [HN1.out]; omega)⟩
      have HQK := Lib.hid (HOK1.out q (List.mem_of_getElem? hq))
      obtain ⟨g, o, hA, hg2, hcell⟩ := (HR1.out.below HB.out).resolve_left (fun e => by rw [e] at hq; simp at hq)
      subst hA
      have hc := hcell k q hq
      have p0 : wr.cell? ⟨g, o + k * 6, none⟩ = some (.int .i64 q.kind) := hc 0 (by omega)
      have p1 : wr.cell? ⟨g, o + k * 6 + 1, none⟩ = some (.int .u8 q.raw) := hc 1 (by omega)
      have p2 : wr.cell? ⟨g, o + k * 6 + 2, none⟩ = some (.int .u64 (hi q.v)) := hc 2 (by omega)
      have p3 : wr.cell? ⟨g, o + k * 6 + 3, none⟩ = some (.int .u64 (lo q.v)) := hc 3 (by omega)
      have p4 : wr.cell? ⟨g, o + k * 6 + 4, none⟩ = some (.int .i64 q.n) := hc 4 (by omega)
      have p5 : wr.cell? ⟨g, o + k * 6 + 5, none⟩ = some (.int .i64 q.id) := hc 5 (by omega)
      clear hc hcell hq
      have X7 : Hid ((wr.alloc (.cells #[.int .i64 q.kind, .int .u8 q.raw, .int .u64 (hi q.v), .int .u64 (lo q.v), .int .i64 q.n, .int .i64 q.id] 59)).heap[wr.heap.size]? = some (.cells #[.int .i64 q.kind, .int .u8 q.raw, .int .u64 (hi q.v), .int .u64 (lo q.v), .int .i64 q.n, .int .i64 q.id] 59 (0, 0))) := Lib.hid (heap_alloc_new wr _)
      have C7 : Hid (Below wr.heap.size wr (wr.alloc (.cells #[.int .i64 q.kind, .int .u8 q.raw, .int .u64 (hi q.v), .int .u64 (lo q.v), .int .i64 q.n, .int .i64 q.id] 59))) := Lib.hid ((Below.refl _ wr).alloc (Nat.le_refl _) _)
      go_wp2_with fail
      refine (uo_prefix q HQK.out b hb1 hb8 _).mono ?_
      rintro e w8 ⟨rfl, h8⟩
      have X8 : Hid (w8.heap[wr.heap.size]? = some (.cells #[.int .i64 q.kind, .int .u8 q.raw, .int .u64 (hi q.v), .int .u64 (lo q.v), .int .i64 q.n, .int .i64 q.id] 59 (0, 0))) := Lib.hid ((h8.block _ (by simp)).trans X7.out)
      have C8 : Hid (Below wr.heap.size wr w8) := Lib.hid (C7.out.trans (h8.mono C7.out.size))
      have S8 : Hid (wr.heap.size < w8.heap.size) := Lib.hid (heap_ltU X8.out)
      have C9 : Hid (Below wr.heap.size wr (w8.alloc (.cells #[.int .u64 (hi (pfV q b)), .int .u64 (lo (pfV q b))] 29))) := Lib.hid (C8.out.alloc C8.out.size _)
      have X9 : Hid ((w8.alloc (.cells #[.int .u64 (hi (pfV q b)), .int .u64 (lo (pfV q b))] 29)).heap[wr.heap.size]? = some (.cells #[.int .i64 q.kind, .int .u8 q.raw, .int .u64 (hi q.v), .int .u64 (lo q.v), .int .i64 q.n, .int .i64 q.id] 59 (0, 0))) := Lib.hid ((Below.heap_alloc _ _ _ S8.out).trans X8.out)
      have x95 : (w8.alloc (.cells #[.int .u64 (hi (pfV q b)), .int .u64 (lo (pfV q b))] 29)).cell? ⟨wr.heap.size, 5, none⟩ = some (.int .i64 q.id) := blk_cell X9.out 5 _ rfl
      clear h8
      go_wp2_with fail
      clear x95
      obtain ⟨w9, hw9⟩ : ∃ x, x = w8.alloc (.cells #[.int .u64 (hi (pfV q b)), .int .u64 (lo (pfV q b))] 29) := ⟨_, rfl⟩
      rw [← hw9] at C9 X9 ⊢
      clear hw9
      have T9 := Lib.hid (HT.out.below C9.out)
      refine (s_put T9.out.s (by omega) hb8 (pfV q b) (pfV_128 q b HQK.out) (pfN q b) q.id).mono ?_
      rintro e w10 ⟨rfl, hL⟩
      obtain ⟨F', hT10, -, -⟩ := T9.out.left hL
      have T10 := Lib.hid hT10
      clear hL hT10
      go_wp2_with fail
      go_roundw
      case rel => exact ⟨k + 1, _, F', by omega, by simp, T10.out, HS.out.put _ _ _⟩
      case measure => simp [intOf]; omega
    · obtain rfl : m1 = k := by omega
      obtain ⟨wE, hwE⟩ : ∃ y : World, y = wr := ⟨_, rfl⟩
      subst hwE
      have BE : Hid (Below w.heap.size w wE) := Lib.hid (BW1.out.trans (HT.out.fr.below BW1.out.size (fun j hj => by have := HX1.out; omega)))
      have VE : Hid (wE.heap[w.heap.size]? = some (.cells #[.int .u64 (hi v), .int .u64 (lo v)] 29 (0, 0))) := Lib.hid ((HT.out.fr.block _ (heap_ltU V1.out) (by have := HX1.out; omega)).trans V1.out)
      have HFX : Hid (∀ j, F j → w.heap.size < j) := Lib.hid fun j hj => by
        have h1 := HX1.out
        have h2 := B1.out.size
        rcases HT.out.sub j hj with h | h <;> omega
      go_wp2_with fail
      refine (HALL.out wE w0.heap.size b m1 F m HT.out.s HS.out hb8 (by omega)).mono ?_
      rintro e w3 ⟨L, idf, AL, cL, rfl, hnd, hmem, hown, hb3⟩
      have HND := Lib.hid hnd
      have HMEM := Lib.hid hmem
      have HOWN := Lib.hid hown
      have B3 := Lib.hid (BE.out.trans (hb3.mono BE.out.size))
      have V3 : Hid (w3.heap[w.heap.size]? = some (.cells #[.int .u64 (hi v), .int .u64 (lo v)] 29 (0, 0))) := Lib.hid ((hb3.block _ (heap_ltU VE.out)).trans VE.out)
      have T3 : Hid (TI w3 F w3 w0.heap.size b m m1 F) := Lib.hid (TI.start (HT.out.below hb3).s)
      have hlen : L.length ≤ 16 := Nat.le_trans (all_len HT.out.s hnd hmem) hm116
      have HSH : Hid (∀ p ∈ L, p.length ≤ b) := Lib.hid fun p hp => HS.out p ((hmem p).1 hp)
      have HGF : Hid (∀ g, (Value.slice AL L.length cL).ownBlock = some g → ¬ F g) := Lib.hid fun g e h => by
        have h1 := (World.ownsRow.lt HOWN.out g e).1
        have h2 := HT.out.s.lt g h
        omega
      have hLc := (rowA_own hown).2
      clear hnd hmem hown hb3
      go_wp2_with fail
      go_loopw [53] (fun i W => ∃ (j : Nat) (m' : Pth → Option Int) (F' : Nat → Prop), j ≤ L.length ∧ i = .int .i64 (j : Int) ∧ TI w3 F W w0.heap.size b m' m1 F' ∧ (∀ q, m' q = if q ∈ L.take j then none else m q)) (fun i _ => L.length - (intOf i).toNat)
      case atStart => exact ⟨0, m, F, Nat.zero_le _, rfl, T3.out, fun q => by simp⟩
      case round =>
        obtain ⟨j, m', F', hj, rfl, hT2, hm'⟩ := hrel
        have HT2 := Lib.hid hT2
        have HM' := Lib.hid hm'
        clear hT2 hm'
        by_cases hlt : j < L.length
        · have hk1 : (j : Int) < (L.length : Int) := by omega
          have hk2 : (j : Int) < (cL : Int) := by omega
          have hk0 : 0 ≤ (j : Int) := by omega
          obtain ⟨p, hp⟩ : ∃ p, L[j]? = some p := ⟨_, List.getElem?_eq_getElem hlt⟩
          have HP := Lib.hid hp
          have hpb := HSH.out p (List.mem_of_getElem? hp)
          obtain ⟨g, hA, hcell⟩ := (rowA_own (own_frU HOWN.out HT2.out.fr HGF.out)).1.resolve_left (fun e => by rw [e] at hp; simp at hp)
          subst hA
          have hc := hcell j p hp
          have p0 : wr.cell? ⟨g, j * 4, none⟩ = some (.int .u64 (hi (pvU b p))) := hc 0 (by omega)
          have p1 : wr.cell? ⟨g, j * 4 + 1, none⟩ = some (.int .u64 (lo (pvU b p))) := hc 1 (by omega)
          have p2 : wr.cell? ⟨g, j * 4 + 2, none⟩ = some (.int .i64 (p.length : Int)) := hc 2 (by omega)
          have p3 : wr.cell? ⟨g, j * 4 + 3, none⟩ = some (.int .i64 (idf p)) := hc 3 (by omega)
          clear hc hcell hp
          have T9 : Hid (TI w3 F (wr.alloc (.cells #[.int .u64 (hi (pvU b p)), .int .u64 (lo (pvU b p)), .int .i64 (p.length : Int), .int .i64 (idf p)] 81)) w0.heap.size b m' m1 F') := Lib.hid (HT2.out.below ((Below.refl _ wr).alloc (Nat.le_refl _) _))
          have hrm := s_rem T9.out.s (by omega) hb8 (pvU b p) (pv_128 b hb8 p hpb) p.length
          rw [key_pv b hb8 p hpb, rem_on HM'.out HP.out HND.out HMEM.out] at hrm
          have HRM := Lib.hid hrm
          clear hrm
          go_wp2_with fail
          refine HRM.out.mono ?_
          rintro e w10 ⟨rfl, hL⟩
          obtain ⟨F2, hT10, -, -⟩ := T9.out.left hL
          have T10 := Lib.hid hT10
          clear hL hT10
          go_wp2_with fail
          go_roundw
          case rel => exact ⟨j + 1, _, F2, by omega, by simp, T10.out, rem_step HM'.out HP.out⟩
          case measure => simp [intOf]; omega
        · obtain rfl : j = L.length := by omega
          obtain ⟨wD, hwD⟩ : ∃ y : World, y = wr := ⟨_, rfl⟩
          subst hwD
          obtain rfl := rem_all HM'.out HMEM.out
          have BD : Hid (Below w.heap.size w wD) := Lib.hid (B3.out.trans (HT2.out.fr.below B3.out.size (fun j hj => by have := HFX.out j hj; omega)))
          have VD : Hid (wD.heap[w.heap.size]? = some (.cells #[.int .u64 (hi v), .int .u64 (lo v)] 29 (0, 0))) := Lib.hid ((HT2.out.fr.block _ (heap_ltU V3.out) (fun h => by have := HFX.out _ h; omega)).trans V3.out)
          obtain ⟨kl, hkl, -, hcl⟩ := s_len HT2.out.s
          obtain rfl := len_zero hkl
          obtain ⟨kn, hkn, hcn⟩ := s_nodes HT2.out.s
          obtain rfl := nodes_zero hkn
          rw [show ((0 : Nat) : Int) = 0 from rfl] at hcl hcn
          have HCL := Lib.hid hcl
          have HCN := Lib.hid hcn
          clear hcl hcn hkl hkn
          go_wp2_with fail
          refine HCL.out.mono ?_
          rintro e w17 ⟨rfl, rfl⟩
          go_wp2_with fail
          refine HCN.out.mono ?_
          rintro e w18 ⟨rfl, rfl⟩
          go_wp2_with fail
          refine (HALL.out _ w0.heap.size b m1 F' (fun _ => none) HT2.out.s (fun p h => by simp at h) hb8 (by omega)).mono ?_
          rintro e w19 ⟨L2, idf2, A2, c2, rfl, -, hmem2, -, hb19⟩
          obtain rfl : L2 = [] := List.eq_nil_iff_forall_not_mem.2 fun q hq => by have := (hmem2 q).1 hq; simp at this
          have T19 := Lib.hid (HT2.out.below hb19)
          have B19 := Lib.hid (BD.out.trans (hb19.mono BD.out.size))
          have V19 : Hid (w19.heap[w.heap.size]? = some (.cells #[.int .u64 (hi v), .int .u64 (lo v)] 29 (0, 0))) := Lib.hid ((hb19.block _ (heap_ltU VD.out)).trans VD.out)
          have hpt := s_put T19.out.s (by omega) hb8 0 (by decide) 0 7
          rw [show hi 0 = 0 from rfl, show lo 0 = 0 from rfl, key_zero, show putB (fun _ => none) (some []) = true from rfl] at hpt
          have HPT := Lib.hid hpt
          clear hpt hmem2 hb19
          go_wp2_with fail
          refine HPT.out.mono ?_
          rintro e w20 ⟨rfl, hL⟩
          obtain ⟨F2, hT20, -, hfr⟩ := T19.out.left hL
          have T20 := Lib.hid hT20
          have B20 := Lib.hid (B3.out.trans (hT20.fr.below B3.out.size (fun j hj => by have := HFX.out j hj; omega)))
          have hv20 := (hT20.fr.block _ (heap_ltU V3.out) (fun h => by have := HFX.out _ h; omega)).trans V3.out
          have V20 := Lib.hid hv20
          have v0 := blk_cell hv20 0 _ rfl
          have v1 := blk_cell hv20 1 _ rfl
          clear hL hT20 hfr hv20
          go_wp2_with fail
          refine (cs_low v b hv (by omega) _).mono ?_
          rintro e w21 ⟨rfl, h21⟩
          have T21 := Lib.hid (T20.out.below h21)
          have B21 := Lib.hid (B20.out.trans (h21.mono B20.out.size))
          have V21 := Lib.hid ((h21.block _ (heap_ltU V20.out)).trans V20.out)
          have hlw := lowB_ltU v b hb8
          have hlg := s_lng T21.out.s hb8 (lowB v b) (Nat.lt_of_lt_of_le hlw (Nat.pow_le_pow_right (by decide) hb8))
          rw [lng_root b _ 7 hlw] at hlg
          have HLG := Lib.hid hlg
          clear hlg h21 v0 v1 hlw
          go_wp2_with fail
          refine HLG.out.mono ?_
          rintro e w22 ⟨rfl, h22⟩
          have T22 := Lib.hid (T21.out.below h22)
          have B22 := Lib.hid (B21.out.trans (h22.mono B21.out.size))
          have hv22 := (h22.block _ (heap_ltU V21.out)).trans V21.out
          have v0 := blk_cell hv22 0 _ rfl
          have v1 := blk_cell hv22 1 _ rfl
          clear h22 hv22
          go_wp2_with fail
          refine (ut_lngNil v _).mono ?_
          rintro e w23 ⟨rfl, h23⟩
          have T23 := Lib.hid (T22.out.below h23)
          have B23 := Lib.hid (B22.out.trans (h23.mono B22.out.size))
          obtain ⟨kn, hkn, hcn⟩ := s_nodes T23.out.s
          obtain rfl := nodes_one hkn
          rw [show ((1 : Nat) : Int) = 1 from rfl] at hcn
          have HCN1 := Lib.hid hcn
          clear h23 v0 v1 hcn hkn
          go_wp2_with fail
          refine HCN1.out.mono ?_
          rintro e w24 ⟨rfl, rfl⟩
          go_wp2_with fail
          refine (ut_LenNil _).mono ?_
          rintro e w25 ⟨rfl, rfl⟩
          go_wp2_with fail
          have hpn := ut_putNil 0 0 1 w25
          rw [show hi 0 = 0 from rfl, show lo 0 = 0 from rfl] at hpn
          refine hpn.mono ?_
          rintro e w26 ⟨rfl, h26⟩
          have B26 := Lib.hid (B23.out.trans (h26.mono B23.out.size))
          clear hpn h26
          go_wp2_with fail
          refine (ub_begun _).mono ?_
          rintro e w27 ⟨rfl, h27⟩
          have B27 := Lib.hid (B26.out.trans (h27.mono B26.out.size))
          clear h27
          go_wp2_with fail
          go_ret
          exact ⟨rfl, B27.out⟩
end
/- Layer 12: All, given appendAll. -/
section
open Go.RowKit
/-- what appendAll answers at the root -/
def AppC : Prop := ∀ (wb : World) (X bits N : Nat) (A : Pth → Option Nat) (c : Pth → Nat) (th : Pth → Bool) (id : Pth → Int), TrieM wb X bits A c th id N → (∀ p, 0 < c p → p.length ≤ bits) → bits ≤ 128 → ∀ (W : World) (Ar : Option Addr) (cap : Nat), Below wb.heap.size wb W →
  W.ownsRow wb.heap.size 81 4 (.slice Ar 0 cap) 0 [] → (allU th c (bits + 1) []).length ≤ 100000 →
  Calls Try.prog 71 #[.pointer (some ⟨X, 0, none⟩), .slice Ar 0 cap, ptU (lvU A c []), .agg #[.int .u64 0, .int .u64 0], .int .i64 0] W fun e w' =>
    ∃ A' cap', e = .returned (.slice A' (allU th c (bits + 1) []).length cap') ∧ w'.ownsRow wb.heap.size 81 4 (.slice A' (allU th c (bits + 1) []).length cap') (allU th c (bits + 1) []).length (rowAllU bits id (allU th c (bits + 1) [])) ∧ Below wb.heap.size wb w'
set_option maxRecDepth 100000 in
theorem info_preT : (Try.prog.info? 81).map (fun i => (i.zero, i.size, i.bytes)) = some (some (.agg #[.int .u64 0, .int .u64 0, .int .i64 0, .int .i64 0]), 4, 32) := by kernel_rfl
set_option maxRecDepth 100000 in
set_option maxHeartbeats 4000000 in
theorem all_of_app (hApp : AppC) : AllC := by
  intro w X bits G F m hS hsh hb8 hG
  obtain ⟨A, id, N, K, h1, h2, h3, h4, h5, h6⟩ := hS.ex
  have hW := cntU_wf h4
  obtain ⟨L, hL⟩ : ∃ L, L = allU (fun p => (m p).isSome) (cntU K) (bits + 1) [] := ⟨_, rfl⟩
  have hnd : L.Nodup := hL ▸ all_nodup hW _ _
  have hmem : ∀ q, q ∈ L ↔ (m q).isSome = true := fun q => by
    rw [hL, all_mem hW]
    exact ⟨fun h => h.1, fun h => ⟨h, List.nil_prefix, by have := hsh q h; simp; omega⟩⟩
  have hlen : L.length ≤ G := all_len hS hnd hmem
  have hcs : ∀ p, 0 < cntU K p → p.length ≤ bits := fun p hp => by
    unfold cntU at hp
    obtain ⟨q, hq⟩ := List.exists_mem_of_length_pos hp
    have h7 := List.mem_filter.1 hq
    have h8 := (List.isPrefixOf_iff_prefix.1 h7.2).length_le
    have h9 := hsh q ((h4.2 q).1 h7.1)
    omega
  obtain ⟨i0, hi0, hz0, hy1, hy2⟩ := info_partsU info_preT
  obtain ⟨w1, hmk, how1, hg1⟩ := run_make_own (P := Try.prog) w.drew w.heap.size 71 81 i0 _ 4 Try.underlying71 hi0 hz0 hy1 .i64 .i64 K.length (by rw [hy2]; omega) (by unfold maxLen; omega) (Nat.le_refl _)
  have hb1 : Below w.heap.size w w1 := (Below.refl _ w).drew.trans ⟨hg1.os, hg1.tape, hg1.output, hg1.size, fun j hj => hg1.block j hj (by simp)⟩
  have x1 : w.drew.cell? ⟨X, 1, none⟩ = some (ptU (lvU A (cntU K) [])) := blk_cell (h1.below (Below.refl _ w).drew).box 1 _ rfl
  have x2 : w1.cell? ⟨X, 1, none⟩ = some (ptU (lvU A (cntU K) [])) := blk_cell (h1.below hb1).box 1 _ rfl
  have KL : Hid (Calls Try.prog 29 #[.pointer (some ⟨X, 0, none⟩)] w.drew fun e w' => e = .returned (.int .i64 K.length) ∧ w' = w.drew) := Lib.hid (by
    have h := ut_Len (h1.below (Below.refl _ w).drew)
    rw [cntU_nil] at h
    exact h)
  have KA := Lib.hid (hApp w X bits N A (cntU K) (fun p => (m p).isSome) id h1 hcs hb8 w1 (some ⟨w.heap.size, 0, none⟩) K.length hb1 how1 (by rw [← hL]; omega))
  have HND := Lib.hid hnd
  have HMEM := Lib.hid hmem
  rw [← hL] at KA
  clear hi0 hz0 hy1 hy2 hg1 hnd hmem hcs hL how1 hS hsh h1 h2 h3 h4 h6 hW hb1 hApp
  have hmk2 : (Instr.makeSlice 71 (.int .i64 0) (.int .i64 (K.length : Int))).run Try.prog w.drew = .ok (.slice (some ⟨w.heap.size, 0, none⟩) 0 K.length) w1 := hmk
  clear hmk
  go_enter Try.func31, Try.ntmps31
  go_upto_region 3 with fail
  go_region_with (first
    | (go_at_call 29; (with_reducible refine KL.out.mono ?_); rintro e w4 ⟨rfl, rfl⟩)
    | (go_at_call 71; (with_reducible refine KA.out.mono ?_); rintro e w4 ⟨A', cap', rfl, ho4, hb4⟩))
  all_goals go_wp2
  all_goals go_ret
  all_goals exact ⟨L, id, A', cap', rfl, HND.out, HMEM.out, ho4, hb4⟩
end
end Go.Proofs.Ytkennilcojbbgaa
