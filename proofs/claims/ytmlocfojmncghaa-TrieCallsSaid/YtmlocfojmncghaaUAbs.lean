/- Layer 12: a trie as what it holds: a number for some paths. -/
import Derived.Test.YtmlocfojmncghaaULng
namespace Go.Proofs.Ytmlocfojmncghaa
open Go.RowKit
set_option maxRecDepth 100000 in
set_option maxHeartbeats 1000000 in
theorem ut_get {w : World} {X bits N : Nat} {A : Pth → Option Nat} {c : Pth → Nat} {th : Pth → Bool} {id : Pth → Int} (hT : TrieM w X bits A c th id N) (hW : CWf c th) (hb8 : bits ≤ 128) (v : Nat) (hv : v < 2 ^ 128) (n : Int) :
    Calls Try.prog 25 #[.pointer (some ⟨X, 0, none⟩), .agg #[.int .u64 (hi v), .int .u64 (lo v)], .int .i64 n] w (RetX (if preU bits v n ∧ th (pthU bits v n.toNat) = true then .tuple #[.int .i64 (id (pthU bits v n.toNat)), .bool true] else .tuple #[.int .i64 0, .bool false]) w) := by
  obtain ⟨W0, hW0⟩ : ∃ W0, W0 = w.alloc (.cells #[.int .u64 (hi v), .int .u64 (lo v)] 29) := ⟨_, rfl⟩
  have hB0 : Below w.heap.size w W0 := by rw [hW0]; exact (Below.refl _ w).alloc (Nat.le_refl _) _
  have hcall := ut_find (hT.below hB0) hW hb8 v hv n
  unfold fndU ptU at hcall
  have HW0 := Lib.hid hW0
  by_cases h : preU bits v n ∧ th (pthU bits v n.toNat) = true
  · obtain ⟨b, _, hA⟩ := hT.lv (hW.thc _ h.2)
    rw [if_pos h, hA] at hcall
    simp only [Option.map_some] at hcall
    rw [if_pos h]
    have hn : ∀ w1, Below W0.heap.size W0 w1 → w1.cell? ⟨b, 4, none⟩ = some (.int .i64 (id (pthU bits v n.toNat))) := fun w1 h1 => blk_cell ((hT.below (hB0.trans (h1.mono hB0.size))).node _ _ hA) 4 _ rfl
    generalize id (pthU bits v n.toNat) = z at *
    have HN := Lib.hid hn
    clear hW0 hT hn h hA
    go_enter Try.func25, Try.ntmps25
    go_wp2_with (first
      | (go_at_call 63; rw [← HW0.out]; (with_reducible refine hcall.mono ?_); rintro e w1 ⟨rfl, hb1⟩; have c4 := HN.out _ hb1))
    refine bodyPost_ret (v := .tuple #[.int .i64 z, .bool true]) (by simp [results, Try.results25, go_sem]) rfl ?_
    exact ⟨rfl, hB0.trans (hb1.mono hB0.size)⟩
  · rw [if_neg h] at hcall
    simp only [Option.map_none] at hcall
    rw [if_neg h]
    clear hW0 hT h
    go_enter Try.func25, Try.ntmps25
    go_wp2_with (first
      | (go_at_call 63; rw [← HW0.out]; (with_reducible refine hcall.mono ?_); rintro e w1 ⟨rfl, hb1⟩))
    refine bodyPost_ret (v := .tuple #[.int .i64 0, .bool false]) (by simp [results, Try.results25, go_sem]) rfl ?_
    exact ⟨rfl, hB0.trans (hb1.mono hB0.size)⟩
/-- the paths that are held -/
def KeyU (m : Pth → Option Int) (K : List Pth) : Prop := K.Nodup ∧ ∀ q, q ∈ K ↔ (m q).isSome = true
def cntU (K : List Pth) (p : Pth) : Nat := (K.filter fun q => p.isPrefixOf q).length
theorem cntU_cons (K : List Pth) (q : Pth) : cntU (q :: K) = bmU (cntU K) q := by
  funext p
  unfold cntU bmU
  rw [List.filter_cons]
  by_cases h : p <+: q
  · rw [if_pos (List.isPrefixOf_iff_prefix.2 h), if_pos h]; rfl
  · rw [if_neg (fun e => h (List.isPrefixOf_iff_prefix.1 e)), if_neg h]; rfl
theorem cntU_perm {K L : List Pth} (h : K.Perm L) (p : Pth) : cntU K p = cntU L p := (h.filter _).length_eq
theorem cntU_erase {K : List Pth} {q : Pth} (h : q ∈ K) : cntU (K.erase q) = dmU (cntU K) q := by
  funext p
  have h1 : cntU K p = cntU (q :: K.erase q) p := cntU_perm (List.perm_cons_erase h) p
  rw [cntU_cons] at h1
  unfold bmU at h1
  unfold dmU
  omega
theorem cntU_le (K : List Pth) (p : Pth) : cntU K p ≤ K.length := List.length_filter_le _ _
theorem cntU_nil (K : List Pth) : cntU K [] = K.length := by
  unfold cntU
  rw [List.filter_eq_self.2 (fun q _ => List.isPrefixOf_iff_prefix.2 List.nil_prefix)]
theorem cntU_wf {m : Pth → Option Int} {K : List Pth} (h : KeyU m K) : CWf (cntU K) (fun p => (m p).isSome) := by
  refine ⟨fun p x => ?_, fun p hp => ?_⟩
  · unfold cntU
    rw [← List.countP_eq_length_filter, ← List.countP_eq_length_filter]
    exact List.countP_mono_left fun q _ hq => List.isPrefixOf_iff_prefix.2 ((List.prefix_append p [x]).trans (List.isPrefixOf_iff_prefix.1 hq))
  · unfold cntU
    exact List.length_pos_of_mem (List.mem_filter.2 ⟨(h.2 p).2 hp, List.isPrefixOf_iff_prefix.2 (List.prefix_refl p)⟩)
theorem KeyU.perm {m : Pth → Option Int} {K L : List Pth} (h : KeyU m K) (k : KeyU m L) : K.Perm L := (List.perm_ext_iff_of_nodup h.1 k.1).2 fun q => (h.2 q).trans (k.2 q).symm
/-- the trie: m says what it holds, F which blocks are its own, G how often Put was called -/
structure TrieS (w : World) (X bits : Nat) (F : Nat → Prop) (m : Pth → Option Int) (G : Nat) : Prop where
  ex : ∃ A id N K, TrieM w X bits A (cntU K) (fun p => (m p).isSome) id N ∧ (∀ p i, m p = some i → id p = i) ∧ (∀ j, FtU X A j → F j) ∧ KeyU m K ∧ K.length ≤ G ∧ N ≤ 200 * G
  lt : ∀ j, F j → j < w.heap.size
  cells : ∀ j o, F j → w.heap[j]? = some o → o.isCells = true
def keyU (bits v : Nat) (n : Int) : Option Pth := if preU bits v n then some (pthU bits v n.toNat) else none
def putU (m : Pth → Option Int) (k : Option Pth) (i : Int) : Pth → Option Int := match k with
  | none => m
  | some q => if (m q).isSome = true then m else updU m q (some i)
def putB (m : Pth → Option Int) (k : Option Pth) : Bool := match k with
  | none => false
  | some q => !(m q).isSome
def remU (m : Pth → Option Int) (k : Option Pth) : Pth → Option Int := match k with
  | none => m
  | some q => updU m q none
def remB (m : Pth → Option Int) (k : Option Pth) : Bool := match k with
  | none => false
  | some q => (m q).isSome
def getU (m : Pth → Option Int) (k : Option Pth) : Int × Bool := match k with
  | none => (0, false)
  | some q => ((m q).getD 0, (m q).isSome)
def lngM (m : Pth → Option Int) (bits v : Nat) : Nat × Int × Bool := lngU (fun p => (m p).isSome) (fun p => (m p).getD 0) bits v
/-- what a call of a trie leaves: the trie, and nothing else turned -/
structure LeftU (w w' : World) (X bits : Nat) (F : Nat → Prop) (m' : Pth → Option Int) (G' : Nat) : Prop where
  ex : ∃ F', TrieS w' X bits F' m' G' ∧ ∀ j, F' j → F j ∨ (w.heap.size ≤ j ∧ j < w'.heap.size)
  fr : FrU F w w'
theorem TrieS.below {w w' : World} {X bits G : Nat} {F : Nat → Prop} {m : Pth → Option Int} (h : TrieS w X bits F m G) (hb : Below w.heap.size w w') : TrieS w' X bits F m G := by
  obtain ⟨⟨A, id, N, K, h1, h2⟩, h3, h4⟩ := h
  exact ⟨⟨A, id, N, K, h1.below hb, h2⟩, fun j hj => Nat.lt_of_lt_of_le (h3 j hj) hb.size, fun j o hj ho => h4 j o hj ((hb.block j (h3 j hj)).symm.trans ho)⟩
/-- what changes elsewhere is no matter -/
theorem TrieS.aside {w w' : World} {X bits G : Nat} {F : Nat → Prop} {m : Pth → Option Int} (h : TrieS w X bits F m G) (hs : w.heap.size ≤ w'.heap.size) (hb : ∀ j, F j → w'.heap[j]? = w.heap[j]?) : TrieS w' X bits F m G := by
  obtain ⟨⟨A, id, N, K, h1, h2, h5, h6⟩, h3, h4⟩ := h
  exact ⟨⟨A, id, N, K, h1.aside fun j hj => hb j (h5 j hj), h2, h5, h6⟩, fun j hj => Nat.lt_of_lt_of_le (h3 j hj) hs, fun j o hj ho => h4 j o hj ((hb j hj).symm.trans ho)⟩
theorem LeftU.of_below {w w' : World} {X bits G : Nat} {F : Nat → Prop} {m : Pth → Option Int} (h : TrieS w X bits F m G) (hb : Below w.heap.size w w') : LeftU w w' X bits F m G := ⟨⟨F, h.below hb, fun _ hj => .inl hj⟩, FrU.of_below hb⟩
theorem isSome_updU (m : Pth → Option Int) (q : Pth) (o : Option Int) : (fun p => (updU m q o p).isSome) = updU (fun p => (m p).isSome) q o.isSome := by
  funext p
  by_cases e : p = q
  · subst e; simp only [updU_same]
  · simp only [updU_other _ _ e]
theorem preU_len {bits v : Nat} {n : Int} (h : preU bits v n) (hb : bits ≤ 128) : ∃ k : Nat, n = k ∧ k ≤ 128 := ⟨n.toNat, by have := h.1; omega, by have := h.2.1; omega⟩
theorem s_put {w : World} {X bits G : Nat} {F : Nat → Prop} {m : Pth → Option Int} (h : TrieS w X bits F m G) (hG : G ≤ 1000) (hb8 : bits ≤ 128) (v : Nat) (hv : v < 2 ^ 128) (n i : Int) :
    Calls Try.prog 21 #[.pointer (some ⟨X, 0, none⟩), .agg #[.int .u64 (hi v), .int .u64 (lo v)], .int .i64 n, .int .i64 i] w fun e w' => e = .returned (.bool (putB m (keyU bits v n))) ∧ LeftU w w' X bits F (putU m (keyU bits v n) i) (G + 1) := by
  obtain ⟨A, id, N, K, h1, h2, h3, h4, h5, h6⟩ := h.ex
  have hup : TrieS w X bits F m (G + 1) := ⟨⟨A, id, N, K, h1, h2, h3, h4, by omega, by omega⟩, h.lt, h.cells⟩
  have hW := cntU_wf h4
  unfold keyU
  by_cases hp : preU bits v n
  · rw [if_pos hp]
    obtain ⟨k, rfl, hk⟩ := preU_len hp hb8
    rw [Int.toNat_natCast]
    by_cases ht : (m (pthU bits v k)).isSome = true
    · refine (ut_putNo h1 hW hb8 v hv k i (fun _ => by rw [Int.toNat_natCast]; exact ht)).mono ?_
      rintro e w' ⟨rfl, hb⟩
      refine ⟨by show Ending.returned (Value.bool false) = .returned (.bool (!(m (pthU bits v k)).isSome)); rw [ht]; rfl, ?_⟩
      rw [show putU m (some (pthU bits v k)) i = m from if_pos ht]
      exact LeftU.of_below hup hb
    · have ht' : (m (pthU bits v k)).isSome = false := by simpa using ht
      refine (ut_putIn h1 hW hb8 (fun r => by have := cntU_le K r; omega) (by omega) v hv k i hp ht').mono ?_
      rintro e w' ⟨rfl, hfr, A', id', N', k1, k2, k3, k4, k5⟩
      refine ⟨by show Ending.returned (Value.bool true) = .returned (.bool (!(m (pthU bits v k)).isSome)); rw [ht']; rfl, ?_⟩
      rw [show putU m (some (pthU bits v k)) i = updU m (pthU bits v k) (some i) from if_neg ht]
      have hnk : pthU bits v k ∉ K := fun hm => ht ((h4.2 _).1 hm)
      have hth : updU (fun p => (m p).isSome) (pthU bits v k) true = fun p => (updU m (pthU bits v k) (some i) p).isSome := (isSome_updU m _ (some i)).symm
      have k1' : TrieM w' X bits A' (cntU (pthU bits v k :: K)) (fun p => (updU m (pthU bits v k) (some i) p).isSome) id' N' := by rw [cntU_cons, ← hth]; exact k1
      refine ⟨⟨FtU X A', ⟨⟨A', id', N', pthU bits v k :: K, k1', fun p z hz => ?_, fun j hj => hj, ⟨List.nodup_cons.2 ⟨hnk, h4.1⟩, fun q => ?_⟩, by simp; omega, ?_⟩, fun j hj => ?_, fun j o hj ho => k1.cells j o hj ho⟩, fun j hj => ?_⟩, hfr.mono fun j hj => h3 j hj⟩
      · by_cases e : p = pthU bits v k
        · subst e
          rw [updU_same] at hz
          injection hz with hz
          rw [← hz]; exact k4
        · rw [updU_other _ _ e] at hz
          rw [k5 p e (by show (m p).isSome = true; rw [hz]; rfl)]
          exact h2 p z hz
      · rw [List.mem_cons, h4.2]
        by_cases e : q = pthU bits v k
        · subst e; rw [updU_same]; simp
        · rw [updU_other _ _ e]; exact ⟨fun h => h.resolve_left e, .inr⟩
      · have := pthU_len bits v k; omega
      · rcases hj with rfl | ⟨p, e⟩
        · exact heap_ltU k1.box
        · exact k1.ltA e
      · rcases hj with rfl | ⟨p, e⟩
        · exact .inl (h3 _ (.inl rfl))
        · rcases k3 p j e with h | h
          · exact .inl (h3 _ (.inr ⟨p, h⟩))
          · exact .inr ⟨h, k1.ltA e⟩
  · rw [if_neg hp]
    refine (ut_putNo h1 hW hb8 v hv n i (fun h => absurd h hp)).mono ?_
    rintro e w' ⟨rfl, hb⟩
    exact ⟨rfl, LeftU.of_below hup hb⟩
theorem s_rem {w : World} {X bits G : Nat} {F : Nat → Prop} {m : Pth → Option Int} (h : TrieS w X bits F m G) (hG : G ≤ 1000) (hb8 : bits ≤ 128) (v : Nat) (hv : v < 2 ^ 128) (n : Int) :
    Calls Try.prog 23 #[.pointer (some ⟨X, 0, none⟩), .agg #[.int .u64 (hi v), .int .u64 (lo v)], .int .i64 n] w fun e w' => e = .returned (.bool (remB m (keyU bits v n))) ∧ LeftU w w' X bits F (remU m (keyU bits v n)) G := by
  obtain ⟨A, id, N, K, h1, h2, h3, h4, h5, h6⟩ := h.ex
  have hW := cntU_wf h4
  unfold keyU
  by_cases hp : preU bits v n
  · rw [if_pos hp]
    obtain ⟨k, rfl, hk⟩ := preU_len hp hb8
    rw [Int.toNat_natCast]
    by_cases ht : (m (pthU bits v k)).isSome = true
    · refine (ut_remIn h1 hW hb8 (fun r => by have := cntU_le K r; omega) (by omega) v hv k hp ht).mono ?_
      rintro e w' ⟨rfl, hfr, N', k1, k2⟩
      refine ⟨by show Ending.returned (Value.bool true) = .returned (.bool (m (pthU bits v k)).isSome); rw [ht], ?_⟩
      show LeftU w w' X bits F (updU m (pthU bits v k) none) G
      have hmk : pthU bits v k ∈ K := (h4.2 _).2 ht
      have hth : updU (fun p => (m p).isSome) (pthU bits v k) false = fun p => (updU m (pthU bits v k) none p).isSome := (isSome_updU m _ none).symm
      have k1' : TrieM w' X bits A (cntU (K.erase (pthU bits v k))) (fun p => (updU m (pthU bits v k) none p).isSome) id N' := by rw [cntU_erase hmk, ← hth]; exact k1
      refine ⟨⟨FtU X A, ⟨⟨A, id, N', K.erase (pthU bits v k), k1', fun p z hz => ?_, fun j hj => hj, ⟨h4.1.erase _, fun q => ?_⟩, Nat.le_trans (List.length_erase_le ..) h5, by omega⟩, fun j hj => ?_, fun j o hj ho => k1.cells j o hj ho⟩, fun j hj => .inl (h3 j hj)⟩, hfr.mono fun j hj => h3 j hj⟩
      · by_cases e : p = pthU bits v k
        · subst e
          rw [updU_same] at hz
          cases hz
        · rw [updU_other _ _ e] at hz
          exact h2 p z hz
      · rw [h4.1.mem_erase_iff, h4.2]
        by_cases e : q = pthU bits v k
        · subst e; rw [updU_same]; simp
        · rw [updU_other _ _ e]; exact ⟨fun h => h.2, fun h => ⟨e, h⟩⟩
      · rcases hj with rfl | ⟨p, e⟩
        · exact heap_ltU k1.box
        · exact k1.ltA e
    · have ht' : m (pthU bits v k) = none := by simpa using ht
      refine (ut_remNo h1 hW hb8 v hv k (by unfold fndU; rw [Int.toNat_natCast]; exact if_neg (fun h => ht h.2))).mono ?_
      rintro e w' ⟨rfl, hb⟩
      refine ⟨by show Ending.returned (Value.bool false) = .returned (.bool (m (pthU bits v k)).isSome); rw [ht']; rfl, ?_⟩
      have he : remU m (some (pthU bits v k)) = m := by
        funext p
        show updU m (pthU bits v k) none p = m p
        by_cases e : p = pthU bits v k
        · subst e; rw [updU_same, ht']
        · rw [updU_other _ _ e]
      rw [he]
      exact LeftU.of_below h hb
  · rw [if_neg hp]
    refine (ut_remNo h1 hW hb8 v hv n (if_neg fun h => hp h.1)).mono ?_
    rintro e w' ⟨rfl, hb⟩
    exact ⟨rfl, LeftU.of_below h hb⟩
theorem s_get {w : World} {X bits G : Nat} {F : Nat → Prop} {m : Pth → Option Int} (h : TrieS w X bits F m G) (hb8 : bits ≤ 128) (v : Nat) (hv : v < 2 ^ 128) (n : Int) :
    Calls Try.prog 25 #[.pointer (some ⟨X, 0, none⟩), .agg #[.int .u64 (hi v), .int .u64 (lo v)], .int .i64 n] w (RetX (.tuple #[.int .i64 (getU m (keyU bits v n)).1, .bool (getU m (keyU bits v n)).2]) w) := by
  obtain ⟨A, id, N, K, h1, h2, h3, h4, h5, h6⟩ := h.ex
  have hg := ut_get h1 (cntU_wf h4) hb8 v hv n
  have e : (if preU bits v n ∧ (m (pthU bits v n.toNat)).isSome = true then Value.tuple #[.int .i64 (id (pthU bits v n.toNat)), .bool true] else .tuple #[.int .i64 0, .bool false]) = .tuple #[.int .i64 (getU m (keyU bits v n)).1, .bool (getU m (keyU bits v n)).2] := by
    unfold keyU
    by_cases hp : preU bits v n
    · rw [if_pos hp]
      cases hm : m (pthU bits v n.toNat) with
      | none => rw [if_neg (fun h => by simp at h)]; simp [getU, hm]
      | some z => rw [if_pos ⟨hp, rfl⟩, h2 _ z hm]; simp [getU, hm]
    · rw [if_neg hp, if_neg (fun h => hp h.1)]; rfl
  rw [← e]
  exact hg
theorem s_lng {w : World} {X bits G : Nat} {F : Nat → Prop} {m : Pth → Option Int} (h : TrieS w X bits F m G) (hb8 : bits ≤ 128) (v : Nat) (hv : v < 2 ^ 128) :
    Calls Try.prog 34 #[.pointer (some ⟨X, 0, none⟩), .agg #[.int .u64 (hi v), .int .u64 (lo v)]] w (RetX (.tuple #[.int .i64 ((lngM m bits v).1 : Int), .int .i64 (lngM m bits v).2.1, .bool (lngM m bits v).2.2]) w) := by
  obtain ⟨A, id, N, K, h1, h2, h3, h4, h5, h6⟩ := h.ex
  have hg := ut_lng h1 (cntU_wf h4) hb8 v hv
  have e : lngU (fun p => (m p).isSome) id bits v = lngM m bits v := by
    unfold lngM lngU
    by_cases hf : (bitLen v : Int) ≤ bits
    · rw [if_pos hf, if_pos hf]
      exact lgU_congr (fun p => ⟨rfl, fun hp => by
        obtain ⟨z, hz⟩ := Option.isSome_iff_exists.1 hp
        rw [h2 p z hz, hz]; rfl⟩) _ _ _
    · rw [if_neg hf, if_neg hf]
  rw [← e]
  exact hg
def LenIs (m : Pth → Option Int) (k : Nat) : Prop := ∃ K, KeyU m K ∧ k = K.length
def NodesIs (m : Pth → Option Int) (k : Nat) : Prop := ∃ K Ns, KeyU m K ∧ List.Nodup Ns ∧ (∀ p, p ∈ Ns ↔ 0 < cntU K p) ∧ k = Ns.length
theorem LenIs.uniq {m : Pth → Option Int} {k l : Nat} (h : LenIs m k) (h' : LenIs m l) : k = l := by
  obtain ⟨K, h1, rfl⟩ := h
  obtain ⟨L, h2, rfl⟩ := h'
  exact (h1.perm h2).length_eq
theorem NodesIs.uniq {m : Pth → Option Int} {k l : Nat} (h : NodesIs m k) (h' : NodesIs m l) : k = l := by
  obtain ⟨K, Ns, h1, h2, h3, rfl⟩ := h
  obtain ⟨L, Ms, k1, k2, k3, rfl⟩ := h'
  exact ((List.perm_ext_iff_of_nodup h2 k2).2 fun p => by rw [h3, k3, cntU_perm (h1.perm k1)]).length_eq
theorem s_len {w : World} {X bits G : Nat} {F : Nat → Prop} {m : Pth → Option Int} (h : TrieS w X bits F m G) : ∃ k : Nat, LenIs m k ∧ k ≤ G ∧ Calls Try.prog 27 #[.pointer (some ⟨X, 0, none⟩)] w fun e w' => e = .returned (.int .i64 k) ∧ w' = w := by
  obtain ⟨A, id, N, K, h1, h2, h3, h4, h5, h6⟩ := h.ex
  have hl := ut_Len h1
  rw [cntU_nil] at hl
  exact ⟨_, ⟨K, h4, rfl⟩, h5, hl⟩
theorem s_nodes {w : World} {X bits G : Nat} {F : Nat → Prop} {m : Pth → Option Int} (h : TrieS w X bits F m G) : ∃ k : Nat, NodesIs m k ∧ Calls Try.prog 30 #[.pointer (some ⟨X, 0, none⟩)] w fun e w' => e = .returned (.int .i64 k) ∧ w' = w := by
  obtain ⟨A, id, N, K, h1, h2, h3, h4, h5, h6⟩ := h.ex
  obtain ⟨Ns, n1, n2, n3⟩ := h1.num
  exact ⟨N, ⟨K, Ns, h4, n1, n2, n3⟩, ut_Nodes h1.box⟩
/-- New's trie -/
theorem s_new (b : Int) (w : World) : Calls Try.prog 18 #[.int .i64 b] w fun e w' => e = .returned (.pointer (some ⟨w.heap.size, 0, none⟩)) ∧ Below w.heap.size w w' ∧ w'.heap.size = w.heap.size + 1 ∧ TrieS w' w.heap.size (bitsU b) (fun j => j = w.heap.size) (fun _ => none) 0 := by
  refine (ut_New b w).mono ?_
  rintro e w' ⟨rfl, rfl⟩
  have hx := heap_alloc_new w (.cells #[.int .i64 (bitsU b), .pointer none, .int .i64 0] 128)
  refine ⟨rfl, (Below.refl _ _).alloc (Nat.le_refl _) _, by simp, ⟨⟨fun _ => none, fun _ => 0, 0, [], ⟨hx, fun _ _ h => (by cases h), fun _ _ _ h => (by cases h), fun _ _ h => (by cases h), fun _ h => (by cases h), [], List.nodup_nil, fun _ => ⟨fun h => (by cases h), fun h => (by cases h)⟩, rfl⟩, fun _ _ h => (by cases h), fun j hj => ?_, ⟨List.nodup_nil, fun q => by simp⟩, Nat.le_refl _, Nat.le_refl _⟩, fun j hj => by subst hj; simp, fun j o hj ho => ?_⟩⟩
  · rcases hj with e | ⟨p, e⟩
    · exact e
    · cases e
  · subst hj
    rw [hx] at ho
    injection ho with ho
    subst ho
    rfl
end Go.Proofs.Ytmlocfojmncghaa
