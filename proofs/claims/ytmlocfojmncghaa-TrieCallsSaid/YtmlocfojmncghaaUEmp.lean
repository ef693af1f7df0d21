/- Contracts, joined: UTree, UEmpW, UAllT. -/
import Derived.Test.YtmlocfojmncghaaUOrdP
import Derived.Laws.MakeOwn
namespace Go.Proofs.Ytmlocfojmncghaa
/- Layer 12: the prefixes of a trie in the order of All; a path back as a prefix: pure. -/
section
/-- a path as a value -/
def pvS (bits : Nat) (p : Pth) (s : Nat × Nat) : Nat × Nat := p.foldl (fun s x => (s.1 ||| vleft (ixU x) (bits - 1 - s.2), s.2 + 1)) s
def pvU (bits : Nat) (p : Pth) : Nat := (pvS bits p (0, 0)).1
theorem pvS_len (bits : Nat) : ∀ (p : Pth) (s : Nat × Nat), (pvS bits p s).2 = s.2 + p.length
  | [], _ => rfl
  | x :: r, s => by
    show (pvS bits r (s.1 ||| vleft (ixU x) (bits - 1 - s.2), s.2 + 1)).2 = _
    rw [pvS_len bits r]
    simp only [List.length_cons]
    omega
theorem pvU_snoc (bits : Nat) (p : Pth) (x : Bool) : pvU bits (p ++ [x]) = pvU bits p ||| vleft (ixU x) (bits - 1 - p.length) := by
  have h := pvS_len bits p (0, 0)
  rw [show ((0, 0) : Nat × Nat).2 = 0 from rfl, Nat.zero_add] at h
  show (pvS bits (p ++ [x]) (0, 0)).1 = _
  have e : pvS bits (p ++ [x]) (0, 0) = ((pvS bits p (0, 0)).1 ||| vleft (ixU x) (bits - 1 - (pvS bits p (0, 0)).2), (pvS bits p (0, 0)).2 + 1) := by
    unfold pvS
    rw [List.foldl_append]; rfl
  rw [e, h]; rfl
theorem vleft_bitU (x : Bool) (n i : Nat) (hn : n < 128) : (vleft (ixU x) n).testBit i = (x && decide (i = n)) := by
  unfold vleft
  cases x
  · simp [ixU]
  · have h : 2 ^ n < 2 ^ 128 := Nat.pow_lt_pow_right (by decide) hn
    rw [show ixU true = 1 from rfl, Nat.one_mul, Nat.mod_eq_of_lt h, Nat.testBit_two_pow, Bool.true_and]
    by_cases e : i = n
    · rw [decide_eq_true e, decide_eq_true e.symm]
    · rw [decide_eq_false e, decide_eq_false (fun h => e h.symm)]
theorem pvS_bit (bits : Nat) (hb : bits ≤ 128) (i : Nat) : ∀ (p : Pth) (a k : Nat), k + p.length ≤ bits → (pvS bits p (a, k)).1.testBit i = (a.testBit i || (decide (i < bits ∧ k ≤ bits - 1 - i) && p.getD (bits - 1 - i - k) false))
  | [], a, k, _ => by simp [pvS]
  | x :: r, a, k, h => by
    simp only [List.length_cons] at h
    show (pvS bits r (a ||| vleft (ixU x) (bits - 1 - k), k + 1)).1.testBit i = _
    rw [pvS_bit bits hb i r _ _ (by omega), Nat.testBit_or, vleft_bitU x _ i (by omega), Bool.or_assoc]
    congr 1
    by_cases hi : i < bits
    · rcases Nat.lt_trichotomy k (bits - 1 - i) with h1 | h1 | h1
      · obtain ⟨d, hd⟩ : ∃ d, bits - 1 - i - k = d + 1 := ⟨bits - 1 - i - k - 1, by omega⟩
        rw [decide_eq_false (show ¬ i = bits - 1 - k by omega), decide_eq_true (show i < bits ∧ k + 1 ≤ bits - 1 - i from ⟨hi, by omega⟩), decide_eq_true (show i < bits ∧ k ≤ bits - 1 - i from ⟨hi, by omega⟩), hd, show bits - 1 - i - (k + 1) = d by omega]
        simp
      · rw [decide_eq_true (show i = bits - 1 - k by omega), decide_eq_false (show ¬ (i < bits ∧ k + 1 ≤ bits - 1 - i) by omega), decide_eq_true (show i < bits ∧ k ≤ bits - 1 - i from ⟨hi, by omega⟩), show bits - 1 - i - k = 0 by omega]
        simp
      · rw [decide_eq_false (show ¬ i = bits - 1 - k by omega), decide_eq_false (show ¬ (i < bits ∧ k + 1 ≤ bits - 1 - i) by omega), decide_eq_false (show ¬ (i < bits ∧ k ≤ bits - 1 - i) by omega)]
        simp
    · rw [decide_eq_false (show ¬ i = bits - 1 - k by omega), decide_eq_false (show ¬ (i < bits ∧ k + 1 ≤ bits - 1 - i) by omega), decide_eq_false (show ¬ (i < bits ∧ k ≤ bits - 1 - i) by omega)]
      simp
theorem pv_bit (bits : Nat) (hb : bits ≤ 128) (p : Pth) (hp : p.length ≤ bits) (i : Nat) : (pvU bits p).testBit i = (decide (i < bits) && p.getD (bits - 1 - i) false) := by
  have h := pvS_bit bits hb i p 0 0 (by omega)
  rw [Nat.zero_testBit, Bool.false_or, Nat.sub_zero] at h
  show (pvS bits p (0, 0)).1.testBit i = _
  rw [h]
  congr 1
  by_cases e : i < bits
  · rw [decide_eq_true e, decide_eq_true ⟨e, Nat.zero_le _⟩]
  · rw [decide_eq_false e, decide_eq_false (fun h => e h.1)]
theorem pv_128 (bits : Nat) (hb : bits ≤ 128) (p : Pth) (hp : p.length ≤ bits) : pvU bits p < 2 ^ 128 := by
  refine Nat.lt_pow_two_of_testBit _ fun i hi => ?_
  rw [pv_bit bits hb p hp, decide_eq_false (show ¬ i < bits by omega)]; rfl
theorem lead_bitU (b n : Int) (h0 : 0 ≤ b) (h1 : b ≤ 128) (i : Nat) : (lead b n).testBit i = decide (b - n ≤ (i : Int) ∧ (i : Int) < b) := by
  unfold lead ones
  rw [Nat.testBit_xor, Nat.testBit_two_pow_sub_one, Nat.testBit_two_pow_sub_one]
  have e1 : cl (min (max b 0) 128) = b.toNat := by unfold cl; omega
  have e2 : cl (min (max b 0) 128 - min (max n 0) (min (max b 0) 128)) = (b - min (max n 0) b).toNat := by unfold cl; omega
  rw [e1, e2]
  by_cases h2 : (i : Int) < b
  · rw [decide_eq_true (show i < b.toNat by omega)]
    by_cases h3 : b - n ≤ (i : Int)
    · rw [decide_eq_false (show ¬ i < (b - min (max n 0) b).toNat by omega), decide_eq_true ⟨h3, h2⟩]; rfl
    · rw [decide_eq_true (show i < (b - min (max n 0) b).toNat by omega), decide_eq_false (fun h => h3 h.1)]; rfl
  · rw [decide_eq_false (show ¬ i < b.toNat by omega), decide_eq_false (show ¬ i < (b - min (max n 0) b).toNat by omega), decide_eq_false (fun h => h2 h.2)]; rfl
theorem pth_pv (bits : Nat) (hb : bits ≤ 128) (p : Pth) (hp : p.length ≤ bits) : pthU bits (pvU bits p) p.length = p := by
  refine List.ext_getElem (by rw [pthU_len]) fun i h1 h2 => ?_
  simp only [pthU, List.getElem_map, List.getElem_range]
  rw [pv_bit bits hb p hp, decide_eq_true (show bits - 1 - i < bits by omega), show bits - 1 - (bits - 1 - i) = i by omega, Bool.true_and]
  simp [List.getD, h2]
theorem pre_pv (bits : Nat) (hb : bits ≤ 128) (p : Pth) (hp : p.length ≤ bits) : preU bits (pvU bits p) p.length := by
  refine ⟨by omega, by omega, Nat.eq_of_testBit_eq fun i => ?_⟩
  rw [Nat.testBit_and, lead_bitU _ _ (by omega) (by omega), pv_bit bits hb p hp]
  by_cases h1 : i < bits
  · by_cases h2 : bits - 1 - i < p.length
    · rw [decide_eq_true (show (bits : Int) - (p.length : Int) ≤ (i : Int) ∧ (i : Int) < (bits : Int) by omega), Bool.and_true]
    · have : p.getD (bits - 1 - i) false = false := by simp [List.getD, List.getElem?_eq_none (Nat.le_of_not_lt h2)]
      rw [this]; simp
  · rw [decide_eq_false h1]; simp
theorem key_pv (bits : Nat) (hb : bits ≤ 128) (p : Pth) (hp : p.length ≤ bits) : keyU bits (pvU bits p) (p.length : Int) = some p := by
  unfold keyU
  rw [if_pos (pre_pv bits hb p hp), Int.toNat_natCast, pth_pv bits hb p hp]
/-- the prefixes below a node, depth first -/
def allU (th : Pth → Bool) (c : Pth → Nat) : Nat → Pth → List Pth
  | 0, _ => []
  | d + 1, p => if c p = 0 then [] else (if th p = true then [p] else []) ++ (allU th c d (p ++ [false]) ++ allU th c d (p ++ [true]))
theorem pre_sucU (p q : Pth) : p <+: q ↔ q = p ∨ p ++ [false] <+: q ∨ p ++ [true] <+: q := by
  constructor
  · rintro ⟨r, rfl⟩
    cases r with
    | nil => exact .inl (by simp)
    | cons x r => cases x with
      | false => exact .inr (.inl ⟨r, by simp⟩)
      | true => exact .inr (.inr ⟨r, by simp⟩)
  · rintro (rfl | h | h)
    · exact List.prefix_refl _
    · exact (List.prefix_append p [false]).trans h
    · exact (List.prefix_append p [true]).trans h
theorem all_mem {th : Pth → Bool} {c : Pth → Nat} (hW : CWf c th) : ∀ (d : Nat) (p q : Pth), q ∈ allU th c d p ↔ th q = true ∧ p <+: q ∧ q.length < p.length + d
  | 0, p, q => by
    constructor
    · intro h; cases h
    · rintro ⟨_, h2, h3⟩
      have := h2.length_le
      omega
  | d + 1, p, q => by
    unfold allU
    by_cases hc : c p = 0
    · rw [if_pos hc]
      constructor
      · intro h; cases h
      · rintro ⟨h1, ⟨r, rfl⟩, _⟩
        have h4 := hW.thc _ h1
        have h5 := hW.take p r
        omega
    · rw [if_neg hc, List.mem_append, List.mem_append, all_mem hW d, all_mem hW d, pre_sucU p q]
      simp only [List.length_append, List.length_cons, List.length_nil]
      constructor
      · rintro (h | h | h)
        · split at h
          · rename_i ht
            rw [List.mem_singleton] at h
            subst h
            exact ⟨ht, .inl rfl, by omega⟩
          · cases h
        · exact ⟨h.1, .inr (.inl h.2.1), by omega⟩
        · exact ⟨h.1, .inr (.inr h.2.1), by omega⟩
      · rintro ⟨h1, rfl | h2 | h2, h3⟩
        · left
          rw [if_pos h1]
          exact List.mem_singleton.2 rfl
        · exact .inr (.inl ⟨h1, h2, by omega⟩)
        · exact .inr (.inr ⟨h1, h2, by omega⟩)
theorem all_nodup {th : Pth → Bool} {c : Pth → Nat} (hW : CWf c th) : ∀ (d : Nat) (p : Pth), (allU th c d p).Nodup
  | 0, _ => List.nodup_nil
  | d + 1, p => by
    unfold allU
    by_cases hc : c p = 0
    · rw [if_pos hc]; exact List.nodup_nil
    · rw [if_neg hc]
      refine List.nodup_append.2 ⟨by split <;> simp, List.nodup_append.2 ⟨all_nodup hW d _, all_nodup hW d _, fun a ha b hb e => ?_⟩, fun a ha b hb e => ?_⟩
      · subst e
        have h1 := ((all_mem hW d _ _).1 ha).2.1
        have h2 := ((all_mem hW d _ _).1 hb).2.1
        have h3 := List.prefix_of_prefix_length_le h1 h2 (by simp)
        have h4 := h3.eq_of_length (by simp)
        have h5 := (snoc_injU h4).2
        cases h5
      · subst e
        have ha' : a = p := by
          split at ha
          · exact List.mem_singleton.1 ha
          · cases ha
        subst ha'
        rcases List.mem_append.1 hb with h | h
        · have h1 := ((all_mem hW d _ _).1 h).2.1.length_le
          simp at h1
          omega
        · have h1 := ((all_mem hW d _ _).1 h).2.1.length_le
          simp at h1
          omega
/-- no prefix is longer than the bits -/
def ShortU (bits : Nat) (m : Pth → Option Int) : Prop := ∀ p, (m p).isSome = true → p.length ≤ bits
theorem ShortU.put {bits : Nat} {m : Pth → Option Int} (h : ShortU bits m) (v : Nat) (n : Int) (i : Int) : ShortU bits (putU m (keyU bits v n) i) := by
  intro p hp
  rw [putU_at] at hp
  by_cases h1 : (m p).isSome = true
  · exact h p h1
  · rw [if_neg h1] at hp
    by_cases h2 : keyU bits v n = some p
    · unfold keyU at h2
      split at h2
      · rename_i h3
        injection h2 with h2
        have := h3.2.1
        have := h3.1
        rw [← h2, pthU_len]
        omega
      · cases h2
    · rw [if_neg h2] at hp; cases hp
/-- the prefix of length 0 alone -/
theorem lg_off {th : Pth → Bool} (id : Pth → Int) (h : ∀ p, p ≠ [] → th p = false) : ∀ (q p : Pth) (a : Nat × Int × Bool), p ≠ [] → lgU th id p q a = a
  | [], p, a, hp => by simp [lgU, stpU, h p hp]
  | x :: q, p, a, hp => by
    rw [lgU, lg_off id h q (p ++ [x]) _ (by simp)]
    simp [stpU, h p hp]
theorem lng_root (bits v : Nat) (i : Int) (hv : v < 2 ^ bits) : lngM (putU (fun _ => none) (some []) i) bits v = (0, i, true) := by
  have hm : ∀ p, putU (fun _ => none) (some []) i p = if ([] : Pth) = p then some i else none := fun p => by
    rw [putU_at]
    simp
  have hlen : (bitLen v : Int) ≤ bits := by
    unfold bitLen
    split
    · omega
    · rename_i h
      have := (Nat.log2_lt h).2 hv
      omega
  unfold lngM lngU
  rw [if_pos hlen]
  have hoff : ∀ p, p ≠ [] → (putU (fun _ => none) (some []) i p).isSome = false := fun p hp => by rw [hm, if_neg (fun e => hp e.symm)]; rfl
  have hon : (putU (fun _ => none) (some ([] : Pth)) i []) = some i := by rw [hm, if_pos rfl]
  generalize pthU bits v bits = q
  cases q with
  | nil => simp [lgU, stpU, hon]
  | cons x q =>
    rw [lgU, lg_off _ hoff q ([] ++ [x]) _ (by simp)]
    simp [stpU, hon]
theorem lowB_ltU (a b : Nat) (hb : b ≤ 128) : lowB a b < 2 ^ b := by
  unfold lowB
  rw [show cl (b : Int) = b by unfold cl; omega]
  exact Nat.mod_lt _ (Nat.two_pow_pos b)
def rowAllU (bits : Nat) (id : Pth → Int) (l : List Pth) : List Value := l.flatMap fun p => [.int .u64 (hi (pvU bits p)), .int .u64 (lo (pvU bits p)), .int .i64 p.length, .int .i64 (id p)]
theorem rowAllU_app (bits : Nat) (id : Pth → Int) (l k : List Pth) : rowAllU bits id (l ++ k) = rowAllU bits id l ++ rowAllU bits id k := by simp [rowAllU]
theorem rowAllU_len (bits : Nat) (id : Pth → Int) : ∀ (l : List Pth), (rowAllU bits id l).length = l.length * 4
  | [] => rfl
  | x :: r => by
    have := rowAllU_len bits id r
    unfold rowAllU at this ⊢
    rw [List.flatMap_cons, List.length_append, this]
    simp only [List.length_cons, List.length_nil]
    omega
theorem rowAllU_get (bits : Nat) (id : Pth → Int) : ∀ (l : List Pth) (i j : Nat) (p : Pth), l[i]? = some p → j < 4 → (rowAllU bits id l)[i * 4 + j]? = ([.int .u64 (hi (pvU bits p)), .int .u64 (lo (pvU bits p)), .int .i64 p.length, .int .i64 (id p)] : List Value)[j]?
  | [], i, j, p, h, _ => by simp at h
  | x :: r, i, j, p, h, hj => by
    show ([.int .u64 (hi (pvU bits x)), .int .u64 (lo (pvU bits x)), .int .i64 x.length, .int .i64 (id x)] ++ rowAllU bits id r)[i * 4 + j]? = _
    cases i with
    | zero =>
      simp at h; subst h
      rw [List.getElem?_append_left (by simp; omega)]; simp
    | succ i =>
      rw [List.getElem?_append_right (by simp; omega), show (i + 1) * 4 + j - ([.int .u64 (hi (pvU bits x)), .int .u64 (lo (pvU bits x)), .int .i64 x.length, .int .i64 (id x)] : List Value).length = i * 4 + j by simp; omega]
      exact rowAllU_get bits id r i j p (by simpa using h) hj
end
/- Layer 12: the walk of TrieEmpty. -/
section
open Go.RowKit
/-- what All answers -/
def AllC : Prop := ∀ (w : World) (X bits G : Nat) (F : Nat → Prop) (m : Pth → Option Int), TrieS w X bits F m G → ShortU bits m → bits ≤ 128 → G ≤ 1000 → Calls Try.prog 29 #[.pointer (some ⟨X, 0, none⟩)] w fun e w' =>
  ∃ L idf A cap, e = .returned (.slice A L.length cap) ∧ L.Nodup ∧ (∀ q, q ∈ L ↔ (m q).isSome = true) ∧ w'.ownsRow w.heap.size 138 4 (.slice A L.length cap) L.length (rowAllU bits idf L) ∧ Below w.heap.size w w'
theorem rowA_own {w : World} {base : Nat} {A : Option Addr} {cap b : Nat} {idf : Pth → Int} {L : List Pth} (h : w.ownsRow base 138 4 (.slice A L.length cap) L.length (rowAllU b idf L)) :
    (L = [] ∨ ∃ g, A = some ⟨g, 0, none⟩ ∧ ∀ i p, L[i]? = some p → ∀ j, j < 4 → w.cell? ⟨g, i * 4 + j, none⟩ = ([.int .u64 (hi (pvU b p)), .int .u64 (lo (pvU b p)), .int .i64 p.length, .int .i64 (idf p)] : List Value)[j]?) ∧ L.length ≤ cap := by
  rcases h.2 with ⟨e0, e1⟩ | ⟨g, cap', cur, e0, hb, hg, hc, _⟩
  · exact ⟨.inl (List.length_eq_zero_iff.1 e1), by omega⟩
  · injection e0 with e1 _ e3
    subst e1; subst e3
    refine ⟨.inr ⟨g, rfl, fun i p hp j hj => ?_⟩, hc⟩
    have hi : i < L.length := (List.getElem?_eq_some_iff.1 hp).1
    rw [World.ownsRow.cellAt h (i * 4 + j) (by omega), rowAllU_get b idf L i j p hp hj]
set_option maxRecDepth 100000 in
set_option maxHeartbeats 8000000 in
theorem ut_putNil (v : Nat) (n i : Int) (w : World) : Calls Try.prog 21 #[.pointer none, .agg #[.int .u64 (hi v), .int .u64 (lo v)], .int .i64 n, .int .i64 i] w (RetX (.bool false) w) := by
  obtain ⟨W0, hW0⟩ : ∃ W0, W0 = ((w.alloc (.cells #[.pointer none] 54)).alloc (.cells #[.int .u64 (hi v), .int .u64 (lo v)] 29)) := ⟨_, rfl⟩
  have hB0 : Below w.heap.size w W0 := by rw [hW0]; exact ((Below.refl _ w).alloc (Nat.le_refl _) _).alloc (by simp) _
  have a0 : W0.heap[w.heap.size]? = some (.cells #[.pointer none] 54 (0, 0)) := by
    rw [hW0]; exact (Below.heap_alloc _ _ _ (by simp)).trans (heap_alloc_new _ _)
  have a1 : W0.heap[w.heap.size + 1]? = some (.cells #[.int .u64 (hi v), .int .u64 (lo v)] 29 (0, 0)) := by
    have h := heap_alloc_new (w.alloc (.cells #[.pointer none] 54)) (.cells #[.int .u64 (hi v), .int .u64 (lo v)] 29)
    rw [World.size_alloc] at h
    rw [hW0]; exact h
  have HW0 := Lib.hid hW0
  have HB0 := Lib.hid hB0
  have hc0 := blk_cell a0 0 _ rfl
  have hc1 := blk_cell a1 0 _ rfl
  have hc2 := blk_cell a1 1 _ rfl
  rw [hW0] at hc0 hc1 hc2
  clear hW0 a0 a1 hB0
  go_enter Try.func21, Try.ntmps21
  go_wp2_with (go_at_call 62; rw [← HW0.out]; (with_reducible refine (ut_preNil v n _).mono ?_); rintro e w1 ⟨rfl, hb1⟩; have HB1 := Lib.hid (HB0.out.trans (hb1.mono HB0.out.size)))
  go_ret
  exact ⟨rfl, HB1.out⟩
theorem key_zero (b : Nat) : keyU b 0 0 = some [] := by
  unfold keyU
  rw [if_pos ⟨Int.le_refl 0, by omega, by simp⟩]
  rfl
theorem len_zero {k : Nat} (h : LenIs (fun _ => none) k) : k = 0 := h.uniq ⟨[], ⟨List.nodup_nil, fun q => by simp⟩, rfl⟩
theorem nodes_zero {k : Nat} (h : NodesIs (fun _ => none) k) : k = 0 := h.uniq ⟨[], [], ⟨List.nodup_nil, fun q => by simp⟩, List.nodup_nil, fun p => by simp [cntU], rfl⟩
theorem nodes_one {k : Nat} {i : Int} (h : NodesIs (putU (fun _ => none) (some []) i) k) : k = 1 := by
  refine h.uniq ⟨[[]], [[]], ⟨by simp, fun q => ?_⟩, by simp, fun p => ?_, rfl⟩
  · rw [putU_at]
    by_cases e : q = []
    · subst e; simp
    · have e' : ¬ ([] : Pth) = q := fun h => e h.symm
      simp [e, e']
  · cases p with
    | nil => simp [cntU]
    | cons x p => simp [cntU]
theorem rem_step {mE m' : Pth → Option Int} {L : List Pth} {j : Nat} {p : Pth} (h : ∀ q, m' q = if q ∈ L.take j then none else mE q) (hp : L[j]? = some p) : ∀ q, remU m' (some p) q = if q ∈ L.take (j + 1) then none else mE q := by
  intro q
  rw [remU_at, List.take_add_one, hp, h q]
  simp only [Option.toList_some, List.mem_append, List.mem_singleton]
  by_cases e : q = p
  · subst e; simp
  · have e' : ¬ some p = some q := fun h => e (by injection h with h; exact h.symm)
    rw [if_neg e']
    by_cases h2 : q ∈ L.take j
    · rw [if_pos h2, if_pos (Or.inl h2)]
    · rw [if_neg h2, if_neg (fun h => h.elim h2 e)]
theorem rem_on {mE m' : Pth → Option Int} {L : List Pth} {j : Nat} {p : Pth} (h : ∀ q, m' q = if q ∈ L.take j then none else mE q) (hp : L[j]? = some p) (hn : L.Nodup) (hm : ∀ q, q ∈ L ↔ (mE q).isSome = true) : remB m' (some p) = true := by
  show (m' p).isSome = true
  rw [h p, if_neg (fun hq => ?_)]
  · exact (hm p).1 (List.mem_of_getElem? hp)
  · obtain ⟨i, hi, hip⟩ := List.mem_iff_getElem.1 hq
    rw [List.length_take] at hi
    rw [List.getElem_take] at hip
    obtain ⟨hj, hjp⟩ := List.getElem?_eq_some_iff.1 hp
    exact (List.pairwise_iff_getElem.1 hn) i j (by omega) hj (by omega) (hip.trans hjp.symm)
theorem rem_all {mE m' : Pth → Option Int} {L : List Pth} (h : ∀ q, m' q = if q ∈ L.take L.length then none else mE q) (hm : ∀ q, q ∈ L ↔ (mE q).isSome = true) : m' = (fun _ => none) := by
  funext q
  rw [h q, List.take_length]
  by_cases e : q ∈ L
  · rw [if_pos e]
  · rw [if_neg e]
    cases hq : mE q with
    | none => rfl
    | some z => exact absurd ((hm q).2 (by rw [hq]; rfl)) e
theorem all_len {w : World} {X bits G : Nat} {F : Nat → Prop} {m : Pth → Option Int} (h : TrieS w X bits F m G) {L : List Pth} (hn : L.Nodup) (hm : ∀ q, q ∈ L ↔ (m q).isSome = true) : L.length ≤ G := by
  obtain ⟨A, id, N, K, _, _, _, h4, h5, _⟩ := h.ex
  rw [(KeyU.perm ⟨hn, hm⟩ h4).length_eq]
  exact h5
end
/- Layer 12: All, given appendAll. -/
section
open Go.RowKit
/-- what appendAll answers at the root -/
def AppC : Prop := ∀ (wb : World) (X bits N : Nat) (A : Pth → Option Nat) (c : Pth → Nat) (th : Pth → Bool) (id : Pth → Int), TrieM wb X bits A c th id N → (∀ p, 0 < c p → p.length ≤ bits) → bits ≤ 128 → ∀ (W : World) (Ar : Option Addr) (cap : Nat), Below wb.heap.size wb W →
  W.ownsRow wb.heap.size 138 4 (.slice Ar 0 cap) 0 [] → (allU th c (bits + 1) []).length ≤ 100000 →
  Calls Try.prog 69 #[.pointer (some ⟨X, 0, none⟩), .slice Ar 0 cap, ptU (lvU A c []), .agg #[.int .u64 0, .int .u64 0], .int .i64 0] W fun e w' =>
    ∃ A' cap', e = .returned (.slice A' (allU th c (bits + 1) []).length cap') ∧ w'.ownsRow wb.heap.size 138 4 (.slice A' (allU th c (bits + 1) []).length cap') (allU th c (bits + 1) []).length (rowAllU bits id (allU th c (bits + 1) [])) ∧ Below wb.heap.size wb w'
set_option maxRecDepth 100000 in
theorem info_preT : (Try.prog.info? 138).map (fun i => (i.zero, i.size, i.bytes)) = some (some (.agg #[.int .u64 0, .int .u64 0, .int .i64 0, .int .i64 0]), 4, 32) := by kernel_rfl
set_option maxRecDepth 100000 in
set_option maxHeartbeats 4000000 in
theorem all_of_app (hApp : AppC) : AllC := by
  intro w X bits G F m hS hsh hb8 hG
  obtain ⟨A, id, N, K, h1, h2, h3, h4, h5, h6⟩ := hS.ex
  have hW := cntU_wf h4
  obtain ⟨L, hL⟩ : ∃ L, L = allU (fun p => (m p).isSome) (cntU K) (bits + 1) [] := ⟨_, rfl⟩
  have hnd : L.Nodup := hL ▸ all_nodup hW _ _
  have hmem : ∀ q, q ∈ L ↔ (m q).isSome = true := fun q => by
    rw [hL, all_mem hW]
    exact ⟨fun h => h.1, fun h => ⟨h, List.nil_prefix, by have := hsh q h; simp; omega⟩⟩
  have hlen : L.length ≤ G := all_len hS hnd hmem
  have hcs : ∀ p, 0 < cntU K p → p.length ≤ bits := fun p hp => by
    unfold cntU at hp
    obtain ⟨q, hq⟩ := List.exists_mem_of_length_pos hp
    have h7 := List.mem_filter.1 hq
    have h8 := (List.isPrefixOf_iff_prefix.1 h7.2).length_le
    have h9 := hsh q ((h4.2 q).1 h7.1)
    omega
  obtain ⟨i0, hi0, hz0, hy1, hy2⟩ := info_partsU info_preT
  obtain ⟨w1, hmk, how1, hg1⟩ := run_make_own (P := Try.prog) w.drew w.heap.size 71 138 i0 _ 4 Try.underlying71 hi0 hz0 hy1 .i64 .i64 K.length (by rw [hy2]; omega) (by unfold maxLen; omega) (Nat.le_refl _)
  have hb1 : Below w.heap.size w w1 := (Below.refl _ w).drew.trans ⟨hg1.os, hg1.tape, hg1.output, hg1.size, fun j hj => hg1.block j hj (by simp)⟩
  have x1 : w.drew.cell? ⟨X, 1, none⟩ = some (ptU (lvU A (cntU K) [])) := blk_cell (h1.below (Below.refl _ w).drew).box 1 _ rfl
  have x2 : w1.cell? ⟨X, 1, none⟩ = some (ptU (lvU A (cntU K) [])) := blk_cell (h1.below hb1).box 1 _ rfl
  have KL : Hid (Calls Try.prog 27 #[.pointer (some ⟨X, 0, none⟩)] w.drew fun e w' => e = .returned (.int .i64 K.length) ∧ w' = w.drew) := Lib.hid (by
    have h := ut_Len (h1.below (Below.refl _ w).drew)
    rw [cntU_nil] at h
    exact h)
  have KA := Lib.hid (hApp w X bits N A (cntU K) (fun p => (m p).isSome) id h1 hcs hb8 w1 (some ⟨w.heap.size, 0, none⟩) K.length hb1 how1 (by rw [← hL]; omega))
  have HND := Lib.hid hnd
  have HMEM := Lib.hid hmem
  rw [← hL] at KA
  clear hi0 hz0 hy1 hy2 hg1 hnd hmem hcs hL how1 hS hsh h1 h2 h3 h4 h6 hW hb1 hApp
  have hmk2 : (Instr.makeSlice 71 (.int .i64 0) (.int .i64 (K.length : Int))).run Try.prog w.drew = .ok (.slice (some ⟨w.heap.size, 0, none⟩) 0 K.length) w1 := hmk
  clear hmk
  go_enter Try.func29, Try.ntmps29
  go_upto_region 3 with fail
  go_region_with (first
    | (go_at_call 27; (with_reducible refine KL.out.mono ?_); rintro e w4 ⟨rfl, rfl⟩)
    | (go_at_call 69; (with_reducible refine KA.out.mono ?_); rintro e w4 ⟨A', cap', rfl, ho4, hb4⟩))
  all_goals go_wp2
  all_goals go_ret
  all_goals exact ⟨L, id, A', cap', rfl, HND.out, HMEM.out, ho4, hb4⟩
end
end Go.Proofs.Ytmlocfojmncghaa
