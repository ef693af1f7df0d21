/- Contracts, joined: EBind1, EBind2, EBits. -/
import Derived.Test.YtodmkmoglchoeaaDoorEHold
import Derived.Test.YtodmkmoglchoeaaDoorTVars
import Derived.Test.YtodmkmoglchoeaaDoorJBits
import Derived.Test.YtodmkmoglchoeaaDoorEBnd
import Derived.Lib.OthersKept
namespace Go.Proofs.YtodmkmoglchoeaaDoor
/- Layer 9: the program's parts of Bind. -/
section
open Go.RowKit Go.Maps

structure MatchN where
  present : Bool
  val : Nat
  mask : Nat
  pre : Int
  high : Nat
  hv : val < 340282366920938463463374607431768211456
  hm : mask < 340282366920938463463374607431768211456
  hh : high < 340282366920938463463374607431768211456
  hp : -9223372036854775808 ≤ pre ∧ pre < 9223372036854775808
def MatchN.zero : MatchN := ⟨false, 0, 0, 0, 0, by decide, by decide, by decide, by decide⟩
def cntN (z : Int) : Nat := (max z 0).toNat
def partM (m : MatchN) (a : ByteArray) : Nat := if a = sPrefix then cntN m.pre else if a = sMask then m.mask else if a = sHigh then m.high else m.val
def mAt (ms : List MatchN) (i : Nat) : MatchN := match ms[i]? with
  | some m => m
  | none => MatchN.zero
structure MtR (w : World) (A : Option Addr) (ms : List MatchN) : Prop where
  r : ms = [] ∨ ∃ g o, A = some ⟨g, o, none⟩ ∧ g < w.heap.size ∧ ∀ k m, ms[k]? = some m → w.cell? ⟨g, o + k * 8, none⟩ = some (.bool m.present) ∧ w.cell? ⟨g, o + k * 8 + 1, none⟩ = some (.int .u64 (hi m.val)) ∧ w.cell? ⟨g, o + k * 8 + 2, none⟩ = some (.int .u64 (lo m.val)) ∧ w.cell? ⟨g, o + k * 8 + 3, none⟩ = some (.int .u64 (hi m.mask)) ∧ w.cell? ⟨g, o + k * 8 + 4, none⟩ = some (.int .u64 (lo m.mask)) ∧ w.cell? ⟨g, o + k * 8 + 5, none⟩ = some (.int .i64 m.pre) ∧ w.cell? ⟨g, o + k * 8 + 6, none⟩ = some (.int .u64 (hi m.high)) ∧ w.cell? ⟨g, o + k * 8 + 7, none⟩ = some (.int .u64 (lo m.high))
theorem MtR.below {w w' : World} {A : Option Addr} {ms : List MatchN} (h : MtR w A ms) (hb : Below w.heap.size w w') : MtR w' A ms := by
  rcases h.r with h | ⟨g, o, h1, h2, h3⟩
  · exact ⟨.inl h⟩
  · refine ⟨.inr ⟨g, o, h1, Nat.lt_of_lt_of_le h2 hb.size, fun k m hm => ?_⟩⟩
    have e : ∀ j, w'.cell? ⟨g, j, none⟩ = w.cell? ⟨g, j, none⟩ := fun j => hb.cell (p := ⟨g, j, none⟩) h2
    simp only [e]
    exact h3 k m hm
theorem cnt_lt {z : Int} (h : z < 9223372036854775808) : cntN z < 9223372036854775808 := by unfold cntN; omega
set_option maxRecDepth 100000 in
set_option maxHeartbeats 1000000 in
theorem ev_count (z : Int) (h : z < 9223372036854775808) (w : World) : Calls Tryd.prog 46 #[.int .i64 z] w (RetV (cntN z) w) := by
  obtain ⟨n, hn⟩ : ∃ n, n = cntN z := ⟨_, rfl⟩
  rw [← hn]
  have hn2 : n < 18446744073709551616 := by rw [hn]; have := cnt_lt h; omega
  have hw : IntKind.u64.wrap (max z 0) = (n : Int) := by
    rw [hn]
    unfold IntKind.wrap cntN
    simp [IntKind.bits, IntKind.signed]
    omega
  have K := Lib.hid (of_any n hn2)
  clear hn hn2 h
  go_enter Tryd.func46, Tryd.ntmps46
  go_wp2_with (go_at_call 32; refine (K.out _).mono ?_; rintro e w1 ⟨rfl, hb⟩; obtain ⟨hc, hf, hz⟩ := after (w.heap.size + 1) hb (by simp) (by simp))
  refine bodyPost_ret (v := .agg #[.int .u64 (hi n), .int .u64 (lo n)]) (by simp [results, Tryd.results46, go_sem, hc]) rfl ⟨rfl, ?_⟩
  exact ((((Below.refl _ _).alloc (by simp) _).trans (hb.mono (by simp))).setCell (p := ⟨w.heap.size, 0, none⟩) (Nat.le_refl _) _).setCell (p := ⟨w.heap.size, 1, none⟩) (Nat.le_refl _) _
set_option maxRecDepth 100000 in
set_option maxHeartbeats 2000000 in
theorem ev_partOf (m : MatchN) (a : ByteArray) (ha : a = ⟨#[]⟩ ∨ a = sValue ∨ a = sLow ∨ a = sPrefix ∨ a = sMask ∨ a = sHigh) (w : World) : Calls Tryd.prog 45 #[.agg #[.bool m.present, .int .u64 (hi m.val), .int .u64 (lo m.val), .int .u64 (hi m.mask), .int .u64 (lo m.mask), .int .i64 m.pre, .int .u64 (hi m.high), .int .u64 (lo m.high)], .string a] w (RetV (partM m a) w) := by
  obtain ⟨p, v, k, z, h, _, _, _, hp⟩ := m
  simp only
  have K := Lib.hid (ev_count z hp.2)
  have e1 : partM ⟨p, v, k, z, h, by assumption, by assumption, by assumption, hp⟩ a = if a = sPrefix then cntN z else if a = sMask then k else if a = sHigh then h else v := rfl
  rw [e1]
  clear e1
  rcases ha with rfl | rfl | rfl | rfl | rfl | rfl
  · rw [if_neg (by decide), if_neg (by decide), if_neg (by decide)]
    clear K
    go_enter Tryd.func45, Tryd.ntmps45
    go_wp2
    refine bodyPost_ret (v := .agg #[.int .u64 (hi v), .int .u64 (lo v)]) (by simp [results, Tryd.results45, go_sem]) rfl ⟨rfl, ?_⟩
    exact ((((Below.refl _ _).alloc (by simp) _).alloc (by simp) _))
  · rw [if_neg (by decide), if_neg (by decide), if_neg (by decide)]
    unfold sValue
    clear K
    go_enter Tryd.func45, Tryd.ntmps45
    go_wp2
    refine bodyPost_ret (v := .agg #[.int .u64 (hi v), .int .u64 (lo v)]) (by simp [results, Tryd.results45, go_sem]) rfl ⟨rfl, ?_⟩
    exact ((((Below.refl _ _).alloc (by simp) _).alloc (by simp) _))
  · rw [if_neg (by decide), if_neg (by decide), if_neg (by decide)]
    unfold sLow
    clear K
    go_enter Tryd.func45, Tryd.ntmps45
    go_wp2
    refine bodyPost_ret (v := .agg #[.int .u64 (hi v), .int .u64 (lo v)]) (by simp [results, Tryd.results45, go_sem]) rfl ⟨rfl, ?_⟩
    exact ((((Below.refl _ _).alloc (by simp) _).alloc (by simp) _))
  · rw [if_pos rfl]
    unfold sPrefix
    go_enter Tryd.func45, Tryd.ntmps45
    go_wp2_with (go_at_call 46; refine (K.out _).mono ?_; rintro e w1 ⟨rfl, hb⟩; obtain ⟨hc, hf, hz⟩ := after (w.heap.size + 2) hb (by simp) (by simp))
    refine bodyPost_ret (v := .agg #[.int .u64 (hi (cntN z)), .int .u64 (lo (cntN z))]) (by simp [results, Tryd.results45, go_sem, hc]) rfl ⟨rfl, ?_⟩
    exact (((((Below.refl _ _).alloc (by simp) _).alloc (by simp) _).trans (hb.mono (by simp; omega))).setCell (p := ⟨w.heap.size + 1, 0, none⟩) (by simp) _).setCell (p := ⟨w.heap.size + 1, 1, none⟩) (by simp) _
  · rw [if_neg (by decide), if_pos rfl]
    unfold sMask
    clear K
    go_enter Tryd.func45, Tryd.ntmps45
    go_wp2
    refine bodyPost_ret (v := .agg #[.int .u64 (hi k), .int .u64 (lo k)]) (by simp [results, Tryd.results45, go_sem]) rfl ⟨rfl, ?_⟩
    exact ((((Below.refl _ _).alloc (by simp) _).alloc (by simp) _))
  · rw [if_neg (by decide), if_neg (by decide), if_pos rfl]
    unfold sHigh
    clear K
    go_enter Tryd.func45, Tryd.ntmps45
    go_wp2
    refine bodyPost_ret (v := .agg #[.int .u64 (hi h), .int .u64 (lo h)]) (by simp [results, Tryd.results45, go_sem]) rfl ⟨rfl, ?_⟩
    exact ((((Below.refl _ _).alloc (by simp) _).alloc (by simp) _))
set_option maxRecDepth 100000 in
set_option maxHeartbeats 1000000 in
theorem ev_bind (nm at_ : ByteArray) (x y : Int) (w : World) : Calls Tryd.prog 44 #[.agg #[.string nm, .string at_], .agg #[.int .u64 x, .int .u64 y]] w (RetX (.agg #[.string nm, .string at_, .int .u64 x, .int .u64 y]) w) := by
  go_enter Tryd.func44, Tryd.ntmps44
  go_wp2
  refine bodyPost_ret (v := .agg #[.string nm, .string at_, .int .u64 x, .int .u64 y]) (by simp [results, Tryd.results44, go_sem]) rfl ⟨rfl, ?_⟩
  exact (((((Below.refl _ _).alloc (by simp) _).alloc (by simp) _).alloc (by simp; omega) _))
set_option maxRecDepth 100000 in
set_option maxHeartbeats 2000000 in
theorem ev_matchAt (w : World) (A : Option Addr) (n c : Nat) (ms : List MatchN) (hn : ms.length = n) (hc : n ≤ c) (h : MtR w A ms) (i : Nat) : Calls Tryd.prog 40 #[.slice A n c, .int .i64 i] w (RetX (.agg #[.bool (mAt ms i).present, .int .u64 (hi (mAt ms i).val), .int .u64 (lo (mAt ms i).val), .int .u64 (hi (mAt ms i).mask), .int .u64 (lo (mAt ms i).mask), .int .i64 (mAt ms i).pre, .int .u64 (hi (mAt ms i).high), .int .u64 (lo (mAt ms i).high)]) w) := by
  by_cases hin : i < n
  · obtain ⟨m, hm⟩ : ∃ m, ms[i]? = some m := ⟨_, List.getElem?_eq_getElem (by omega)⟩
    have e : mAt ms i = m := by unfold mAt; rw [hm]
    obtain ⟨g, o, e1, l1, q⟩ := h.r.resolve_left (fun e => by rw [e] at hm; simp at hm)
    obtain ⟨c0, c1, c2, c3, c4, c5, c6, c7⟩ := q i m hm
    rw [e]
    obtain ⟨p, v, k, z, hh, _, _, _, _⟩ := m
    simp only at c0 c1 c2 c3 c4 c5 c6 c7 ⊢
    generalize hi v = v1 at c1 ⊢
    generalize lo v = v2 at c2 ⊢
    generalize hi k = v3 at c3 ⊢
    generalize lo k = v4 at c4 ⊢
    generalize hi hh = v5 at c6 ⊢
    generalize lo hh = v6 at c7 ⊢
    have hx : ∀ (T : TypeId) (cs : Array Value) (j : Nat), (w.alloc (.cells cs T)).cell? ⟨g, j, none⟩ = w.cell? ⟨g, j, none⟩ := fun T cs j => ((Below.refl w.heap.size w).alloc (Nat.le_refl _) _).cell (p := ⟨g, j, none⟩) l1
    have p1 : ¬ (n : Int) ≤ (i : Int) := by omega
    have p2 : (i : Int) < (n : Int) := by omega
    have p3 : (i : Int) < (c : Int) := by omega
    have p4 : 0 ≤ (i : Int) := by omega
    subst e1
    clear q e hm h hn hin hc
    go_enter Tryd.func40, Tryd.ntmps40
    go_wp2
    refine bodyPost_ret (v := .agg #[.bool p, .int .u64 v1, .int .u64 v2, .int .u64 v3, .int .u64 v4, .int .i64 z, .int .u64 v5, .int .u64 v6]) (by simp [results, Tryd.results40, go_sem]) rfl ⟨rfl, ?_⟩
    exact (Below.refl _ _).alloc (by simp) _
  · have e : mAt ms i = MatchN.zero := by unfold mAt; rw [List.getElem?_eq_none (by omega)]
    rw [e]
    have p1 : (n : Int) ≤ (i : Int) := by omega
    clear e h hn hin hc
    go_enter Tryd.func40, Tryd.ntmps40
    go_wp2
    refine bodyPost_ret (v := .agg #[.bool false, .int .u64 0, .int .u64 0, .int .u64 0, .int .u64 0, .int .i64 0, .int .u64 0, .int .u64 0]) (by simp [results, Tryd.results40, go_sem]) rfl ⟨rfl, ?_⟩
    exact (Below.refl _ _).alloc (by simp) _
theorem VarR.take {w : World} {A : Option Addr} {vs us : List (ByteArray × ByteArray)} (h : VarR w A (vs ++ us)) : VarR w A vs := by
  rcases h.r with h | ⟨g, h1, h2, h3⟩
  · exact ⟨.inl (by have := congrArg List.length h; simp at this; exact this.1)⟩
  · exact ⟨.inr ⟨g, h1, h2, fun k v hv => h3 k v (by rw [List.getElem?_append_left (List.getElem?_eq_some_iff.1 hv).1]; exact hv)⟩⟩
set_option maxRecDepth 100000 in
set_option maxHeartbeats 2000000 in
theorem ev_keyVars (nm : ByteArray) (fd kd : Int) (hs : nm.size ≤ 100000) (w : World) : Calls Tryd.prog 43 #[.agg #[.string nm, .int .i64 fd, .int .i64 kd]] w (RetVsO (keyVars ⟨nm, fd, kd⟩) w) := by
  obtain ⟨W, hW⟩ : ∃ W, W = (w.alloc (.cells #[.string nm, .int .i64 fd, .int .i64 kd] 66)).alloc (.cells #[.string nm, .int .i64 fd, .int .i64 kd] 66) := ⟨_, rfl⟩
  have hBW : Below w.heap.size w W := by rw [hW]; exact ((Below.refl _ _).alloc (Nat.le_refl _) _).alloc (by simp) _
  have hk : KeyR W (some ⟨w.heap.size + 1, 0, none⟩) [⟨nm, fd, kd⟩] := by
    refine ⟨.inr ⟨w.heap.size + 1, 0, rfl, by rw [hW]; simp, fun k v hv => ?_⟩⟩
    rcases k with _ | k
    · injection hv with hv
      subst hv
      rw [hW]
      have e : ∀ i, ((w.alloc (.cells #[.string nm, .int .i64 fd, .int .i64 kd] 66)).alloc (.cells #[.string nm, .int .i64 fd, .int .i64 kd] 66)).cell? ⟨w.heap.size + 1, i, none⟩ = #[Value.string nm, .int .i64 fd, .int .i64 kd][i]? := fun i => by
        have := World.cell?_alloc_new (w.alloc (.cells #[.string nm, .int .i64 fd, .int .i64 kd] 66)) #[.string nm, .int .i64 fd, .int .i64 kd] 66 i
        rw [World.size_alloc] at this
        exact this
      exact ⟨e _, e _, e _⟩
    · simp at hv
  obtain ⟨ks, hks⟩ : ∃ ks : List KeyN, ks = [⟨nm, fd, kd⟩] := ⟨_, rfl⟩
  have e1 : tvars ks = keyVars ⟨nm, fd, kd⟩ ++ [(sPrio, ⟨#[]⟩)] := by rw [hks]; simp [tvars]
  obtain ⟨vs, hvs⟩ : ∃ vs, vs = keyVars ⟨nm, fd, kd⟩ := ⟨_, rfl⟩
  obtain ⟨m, hm⟩ : ∃ m, m = vs.length := ⟨_, rfl⟩
  have K := Lib.hid (ty_TableVarsO W 0 0 0 ⟨#[]⟩ ⟨#[]⟩ (some ⟨w.heap.size + 1, 0, none⟩) 1 1 (.slice none 0 0) (.slice none 0 0) ks (by rw [hks]; rfl) (by omega) (by omega) (by rw [hks]; exact hk) (fun k hk => by
    rw [hks] at hk
    have : k = ⟨nm, fd, kd⟩ := by simpa using hk
    subst this
    exact hs))
  rw [← hvs]
  rw [← hvs] at e1
  have hm2 : m ≤ 2 := by rw [hm, hvs]; exact keyVars_len _
  have hml : (tvars ks).length = m + 1 := by rw [e1, List.length_append, hm]; rfl
  have E1 := Lib.hid e1
  have HML := Lib.hid hml
  have HM := Lib.hid hm
  have HBW := Lib.hid hBW
  have HW := Lib.hid hW
  clear hk hks e1 hvs hm hml hs hBW hW
  go_enter Tryd.func43, Tryd.ntmps43
  go_wp2_with fail
  go_at_call 7
  rw [HW.out] at K
  refine K.out.mono ?_
  rintro e w1 ⟨A1, c1, he, hc1, hv1, hb1⟩
  have he2 : e = .returned (.slice A1 ((m + 1 : Nat) : Nat) c1) := by rw [← HML.out]; exact he
  subst he2
  have hc2 : m + 1 ≤ c1 := by rw [← HML.out]; exact hc1
  have HV1 := Lib.hid hv1
  have hb0 := HBW.out
  rw [HW.out] at hb0
  have HB1 := Lib.hid (hb0.trans (hb1.mono hb0.size))
  clear hb0
  clear he hv1 hb1 K hc1
  have p1 : ((m + 1 : Nat) : Int) - 1 = (m : Int) := by omega
  have p2 : (m : Int) ≤ (c1 : Int) := by omega
  have p3 : 0 ≤ (m : Int) := by omega
  go_wp2_with fail
  go_ret
  refine ⟨A1, c1, by rw [← HM.out]; rfl, by rw [← HM.out]; omega, ⟨?_, HV1.out.t⟩, HB1.out⟩
  have := HV1.out.r
  rw [E1.out] at this
  exact this.take
end
/- Layer 9: the program's Bind. -/
section
open Go.RowKit

theorem others_below {e : TypeId} {b : Option Nat} {a w w' : World} (h : Lib.OthersKept e b a w) (hb : Below w.heap.size w w') : Lib.OthersKept e b a w' := by
  intro k x hk hne hx
  have h1 := h k x hk hne hx
  exact (hb.block k (Array.getElem?_eq_some_iff.1 h1).1).trans h1
theorem ones_lt (k : Int) : ones k < 340282366920938463463374607431768211456 := by
  unfold ones cl
  have h1 : 2 ^ (min (max k 0) 128).toNat ≤ 2 ^ 128 := Nat.pow_le_pow_right (by decide) (by omega)
  have h2 : (2 : Nat) ^ 128 = 340282366920938463463374607431768211456 := by decide
  rw [h2] at h1
  have h3 : 0 < 2 ^ (min (max k 0) 128).toNat := Nat.pow_pos (by decide)
  generalize 2 ^ (min (max k 0) 128).toNat = x at h1 h3 ⊢
  omega
def mkB (n a : ByteArray) (v : Nat) : BindN := if h : n.size ≤ maxLen ∧ a.size ≤ maxLen ∧ v < 340282366920938463463374607431768211456 then ⟨n, a, v, h.1, h.2.1, h.2.2⟩ else ⟨⟨#[]⟩, ⟨#[]⟩, 0, Nat.zero_le _, Nat.zero_le _, by decide⟩
theorem mkB_of {n a : ByteArray} {v : Nat} (h1 : n.size ≤ maxLen) (h2 : a.size ≤ maxLen) (h3 : v < 340282366920938463463374607431768211456) : (mkB n a v).name = n ∧ (mkB n a v).attr = a ∧ (mkB n a v).val = v := by
  unfold mkB
  rw [dif_pos ⟨h1, h2, h3⟩]
  exact ⟨rfl, rfl, rfl⟩
def mHi (b : Int → Int) (f : Int) (m : MatchN) : MatchN := if m.present = true then m else ⟨m.present, m.val, m.mask, m.pre, ones (b f), m.hv, m.hm, ones_lt _, m.hp⟩
theorem partM_lt (m : MatchN) (a : ByteArray) : partM m a < 340282366920938463463374607431768211456 := by
  unfold partM
  have := cnt_lt m.hp.2
  have := m.hm
  have := m.hh
  have := m.hv
  split
  · omega
  · split
    · omega
    · split <;> omega
def bindK (b : Int → Int) (k : KeyN) (m : MatchN) : List BindN := (keyVars k).map fun v => mkB v.1 v.2 (partM (mHi b k.field m) v.2)
def bindR (b : Int → Int) (ks : List KeyN) (ms : List MatchN) (n : Nat) : List BindN := (List.range n).flatMap fun i => match ks[i]? with
  | some k => bindK b k (mAt ms i)
  | none => []
theorem bindR_succ (b : Int → Int) (ks : List KeyN) (ms : List MatchN) (n : Nat) (k : KeyN) (h : ks[n]? = some k) : bindR b ks ms (n + 1) = bindR b ks ms n ++ bindK b k (mAt ms n) := by
  unfold bindR
  rw [List.range_succ, List.flatMap_append]
  simp [h]
theorem bindK_len (b : Int → Int) (k : KeyN) (m : MatchN) : (bindK b k m).length ≤ 2 := by
  unfold bindK; rw [List.length_map]; exact keyVars_len k
theorem bindR_len (b : Int → Int) (ks : List KeyN) (ms : List MatchN) : ∀ n, (bindR b ks ms n).length ≤ n * 2 := by
  intro n
  induction n with
  | zero => exact Nat.le_refl 0
  | succ n ih =>
    have e : bindR b ks ms (n + 1) = bindR b ks ms n ++ (match ks[n]? with
      | some k => bindK b k (mAt ms n)
      | none => []) := by unfold bindR; rw [List.range_succ, List.flatMap_append]; simp
    rw [e, List.length_append]
    cases ks[n]? with
    | none => show _ + 0 ≤ _; omega
    | some k => have := bindK_len b k (mAt ms n); show _ + (bindK b k (mAt ms n)).length ≤ _; omega
def bindAll (b : Int → Int) (ks : List KeyN) (ms : List MatchN) (pr : Int) : List BindN := bindR b ks ms ks.length ++ [mkB sPrio ⟨#[]⟩ (cntN pr)]
/-- one row appended to, in a region that draws its order -/
structure J1 (N M p s1 : Nat) (R1 : Value) (slot : Nat → Nat) (G : Nat → World → Value → Prop) (I Ra : World → Prop) (listed : Array Bool) (w : World) (v : Nat → Value) : Prop where
  size : listed.size = N
  inv : I w
  f : ∀ i, i < N → listed.getD i false = true → G i w (v (slot i))
  a : listed.getD p false = false → Ra w
  d : ∀ i, M ≤ i → listed.getD i false = true → listed.getD p false = true
  e1 : listed.getD s1 false = false → v (slot M) = R1
theorem J1.step {N M p s1 : Nat} {R1 : Value} {slot : Nat → Nat} {G : Nat → World → Value → Prop} {I Ra : World → Prop} {listed : Array Bool} {w w' : World} {v : Nat → Value} (h : J1 N M p s1 R1 slot G I Ra listed w v) {i : Nat} (hi : i < N) (hs : ∀ j, j < N → j ≠ i → slot j ≠ slot i) (hI : I w → I w')
    (hG : ∀ j x, j ≠ i → (M ≤ j → listed.getD p false = true) → G j w x → G j w' x) (hA : i ≠ p → Ra w → Ra w') (hd : M ≤ i → listed.getD p false = true) (hM : M < N) (h1 : i = M → listed.getD s1 false = true) {x : Value} (hx : G i w' x) :
    J1 N M p s1 R1 slot G I Ra (listed.setIfInBounds i true) w' (updv v (slot i) x) := by
  have hz : i < listed.size := by rw [h.size]; exact hi
  have mono : ∀ k, listed.getD k false = true → (listed.setIfInBounds i true).getD k false = true := fun k hk => by
    rw [getD_setN hz]
    split
    · rfl
    · exact hk
  refine ⟨by rw [Array.size_setIfInBounds]; exact h.size, hI h.inv, fun j hj hlj => ?_, fun hp => ?_, fun j hj hlj => ?_, fun hh => ?_⟩
  · rw [getD_setN hz] at hlj
    by_cases e : j = i
    · subst e
      rw [updv, if_pos rfl]; exact hx
    · rw [if_neg (Ne.symm e)] at hlj
      rw [updv, if_neg (hs j hj e)]
      exact hG j _ e (fun hM => h.d j hM hlj) (h.f j hj hlj)
  · rw [getD_setN hz] at hp
    split at hp
    · cases hp
    · rename_i e; exact hA e (h.a hp)
  · rw [getD_setN hz] at hlj
    by_cases e : i = j
    · exact mono _ (hd (by omega))
    · rw [if_neg e] at hlj
      exact mono _ (h.d j hj hlj)
  · have hf : listed.getD s1 false = false := by
      cases hl : listed.getD s1 false
      · rfl
      · rw [mono _ hl] at hh; cases hh
    have hne : i ≠ M := fun e => by rw [h1 e] at hf; cases hf
    rw [updv, if_neg (hs M (by omega) (Ne.symm hne))]
    exact h.e1 hf
theorem J1.begun {N M p s1 : Nat} {R1 : Value} {slot : Nat → Nat} {G : Nat → World → Value → Prop} {I Ra : World → Prop} {w : World} {v : Nat → Value} (hI : I w) (hA : Ra w) (h1 : v (slot M) = R1) : J1 N M p s1 R1 slot G I Ra (Array.replicate N false) w v := by
  have h : ∀ i, (Array.replicate N false).getD i false = false := fun i => by
    rw [Array.getD_eq_getD_getElem?, Array.getElem?_replicate]
    split <;> rfl
  exact ⟨by simp, hI, fun i _ hl => by (rw [h] at hl; cases hl), fun _ => hA, fun i _ hl => by (rw [h] at hl; cases hl), fun _ => h1⟩
theorem TmpB.below {S : Nat} {T : TypeId} {cs : List Value} {w w' : World} {y : Value} (h : TmpB S T cs w y) (hb : Below w.heap.size w w') : TmpB S T cs w' y := by
  obtain ⟨k, h1, h2, h3⟩ := h
  exact ⟨k, h1, h2, (hb.block k (Array.getElem?_eq_some_iff.1 h3).1).trans h3⟩
/-- what stays while a row of bindings grows -/
structure IB (B S : Nat) (w0 W1 : World) (w : World) : Prop where
  below : Below B w0 w
  sz : S ≤ w.heap.size
  oth : Lib.OthersKept 130 none W1 w
theorem IB.call {B S : Nat} {w0 W1 w w' : World} (h : IB B S w0 W1 w) (hB : B ≤ S) (hb : Below w.heap.size w w') : IB B S w0 W1 w' := ⟨h.below.trans (hb.mono (Nat.le_trans hB h.sz)), Nat.le_trans h.sz hb.size, others_below h.oth hb⟩
theorem IB.grown {B S : Nat} {w0 W1 w w' : World} (h : IB B S w0 W1 w) (hB : B ≤ S) {n : Nat} {r : Value} {c : List Value} (ha : w.ownsRow B 130 4 r n c) (hg : w.grownBy w' r.ownBlock) : IB B S w0 W1 w' :=
  ⟨h.below.grown hg (Nat.le_trans hB h.sz) (fun _ e => own_block_ge ha e), Nat.le_trans h.sz hg.size, h.oth.grown hg (own_kindY ha)⟩
def GB (B S : Nat) (r : Value) (n : Nat) (c : List Value) (nm at_ : ByteArray) (m : MatchN) (pv vb : Nat) (i : Nat) (w : World) (y : Value) : Prop :=
  match i with
  | 0 => y = r
  | 1 => y = .agg #[.string nm, .string at_]
  | 2 => y = .agg #[.bool m.present, .int .u64 (hi m.val), .int .u64 (lo m.val), .int .u64 (hi m.mask), .int .u64 (lo m.mask), .int .i64 m.pre, .int .u64 (hi m.high), .int .u64 (lo m.high)]
  | 3 => y = .pointer (some ⟨vb, 1, none⟩)
  | 4 => y = .string at_
  | 5 => y = .agg #[.int .u64 (hi pv), .int .u64 (lo pv)]
  | 6 => y = .agg #[.string nm, .string at_, .int .u64 (hi pv), .int .u64 (lo pv)]
  | 7 => TmpB S 130 [.string nm, .string at_, .int .u64 (hi pv), .int .u64 (lo pv)] w y
  | 8 => w.ownsRow B 130 4 y (n + 1) (c ++ [.string nm, .string at_, .int .u64 (hi pv), .int .u64 (lo pv)])
  | 9 => w.ownsRow B 130 4 y (n + 1) (c ++ [.string nm, .string at_, .int .u64 (hi pv), .int .u64 (lo pv)])
  | _ => True
theorem GB.call {B S : Nat} {r : Value} {n : Nat} {c : List Value} {nm at_ : ByteArray} {m : MatchN} {pv vb : Nat} {w w' : World} (hb : Below w.heap.size w w') : ∀ (j : Nat) (y : Value), GB B S r n c nm at_ m pv vb j w y → GB B S r n c nm at_ m pv vb j w' y := by
  intro j y h
  unfold GB at h ⊢
  split at h
  · exact h
  · exact h
  · exact h
  · exact h
  · exact h
  · exact h
  · exact h
  · exact TmpB.below h hb
  · exact own_below2 h hb
  · exact own_below2 h hb
  · trivial
theorem GB.app {B S : Nat} {r : Value} {n : Nat} {c : List Value} {nm at_ : ByteArray} {m : MatchN} {pv vb : Nat} {w w' : World} (hS : ∀ g, r.ownBlock = some g → g < S) (hg : w.grownBy w' r.ownBlock) : ∀ (j : Nat) (y : Value), j ≠ 8 → j < 9 → GB B S r n c nm at_ m pv vb j w y → GB B S r n c nm at_ m pv vb j w' y := by
  intro j y hj hM h
  unfold GB at h ⊢
  split at h
  · exact h
  · exact h
  · exact h
  · exact h
  · exact h
  · exact h
  · exact h
  · exact TmpB.grown h hg hS
  · exact absurd rfl hj
  · omega
  · trivial
def slB (i : Nat) : Nat := if i < 9 then 41 + i else 7
theorem slB_ne : ∀ i j, i < 10 → j < 10 → j ≠ i → slB j ≠ slB i := by
  intro i j hi hj h
  unfold slB
  split <;> split <;> omega
def sLB : List Nat := [41, 42, 43, 44, 45, 46, 47, 48, 49, 7]
theorem key_attr {k : KeyN} {v : ByteArray × ByteArray} (h : v ∈ keyVars k) : v.1 = k.name ∧ (v.2 = ⟨#[]⟩ ∨ v.2 = sValue ∨ v.2 = sLow ∨ v.2 = sPrefix ∨ v.2 = sMask ∨ v.2 = sHigh) := by
  obtain ⟨a, ha, rfl⟩ := List.mem_map.1 h
  refine ⟨rfl, ?_⟩
  show a = _ ∨ a = _ ∨ a = _ ∨ a = _ ∨ a = _ ∨ a = _
  unfold attrsK at ha
  split at ha
  · simp only [List.mem_cons, List.not_mem_nil, or_false] at ha
    rcases ha with rfl | rfl <;> simp
  · split at ha
    · simp only [List.mem_cons, List.not_mem_nil, or_false] at ha
      rcases ha with rfl | rfl <;> simp
    · split at ha
      · simp only [List.mem_cons, List.not_mem_nil, or_false] at ha
        rcases ha with rfl | rfl <;> simp
      · split at ha
        · simp only [List.mem_cons, List.not_mem_nil, or_false] at ha
          rcases ha with rfl | rfl <;> simp
        · cases ha
theorem attr_sz {a : ByteArray} (h : a = ⟨#[]⟩ ∨ a = sValue ∨ a = sLow ∨ a = sPrefix ∨ a = sMask ∨ a = sHigh) : a.size ≤ maxLen := by
  rcases h with rfl | rfl | rfl | rfl | rfl | rfl <;> (unfold maxLen; decide)
theorem VarT.others {w w' : World} {A : Option Addr} {vs : List (ByteArray × ByteArray)} (h : VarT w A vs) (ho : Lib.OthersKept 130 none w w') (hs : w.heap.size ≤ w'.heap.size) : VarT w' A vs := by
  have hk : ∀ g o, A = some ⟨g, o, none⟩ → w'.heap[g]? = w.heap[g]? := fun g o hA => by
    obtain ⟨cs, fr, hc⟩ := h.t g o hA
    rw [hc]
    exact ho g _ hc (by simp) (fun c fz e => by injection e with _ e _; exact absurd e (by decide))
  refine ⟨?_, fun g o hA => by rw [hk g o hA]; exact h.t g o hA⟩
  rcases h.r.r with h1 | ⟨g, h1, h2, h3⟩
  · exact ⟨.inl h1⟩
  · exact ⟨.inr ⟨g, h1, Nat.lt_of_lt_of_le h2 hs, fun k v hv => by
      rw [World.cell?_of_block (a := ⟨g, _, none⟩) (hk g 0 h1), World.cell?_of_block (a := ⟨g, _, none⟩) (hk g 0 h1)]
      exact h3 k v hv⟩⟩
/-- bindings that are being collected -/
structure BiAt (w : World) (l : List BindN) (v : Value) (w' : World) : Prop where
  below : Below w.heap.size w w'
  own : w'.ownsRow w.heap.size 130 4 v l.length (bcells l)
theorem BiAt.call {w w1 w2 : World} {l : List BindN} {v : Value} (h : BiAt w l v w1) (hb : Below w1.heap.size w1 w2) : BiAt w l v w2 :=
  ⟨h.below.trans (hb.mono h.below.size), own_below2 h.own hb⟩
def RetBi (l : List BindN) (w : World) (e : Ending) (w' : World) : Prop := ∃ A c, e = .returned (.slice A l.length c) ∧ l.length ≤ c ∧ BiR w' A l ∧ Below w.heap.size w w'
theorem cells5_of {w : World} {k : Nat} {a b c d e : Value} {T : TypeId} (hh : w.heap[k]? = some (.cells #[a, b, c, d, e] T (0, 0))) : w.cell? ⟨k, 0, none⟩ = some a ∧ w.cell? ⟨k, 1, none⟩ = some b ∧ w.cell? ⟨k, 2, none⟩ = some c ∧ w.cell? ⟨k, 3, none⟩ = some d ∧ w.cell? ⟨k, 4, none⟩ = some e := by
  refine ⟨?_, ?_, ?_, ?_, ?_⟩ <;> simp [World.cell?, hh]
theorem cells3_of {w : World} {k : Nat} {a b c : Value} {T : TypeId} (hh : w.heap[k]? = some (.cells #[a, b, c] T (0, 0))) : w.cell? ⟨k, 0, none⟩ = some a ∧ w.cell? ⟨k, 1, none⟩ = some b ∧ w.cell? ⟨k, 2, none⟩ = some c := by
  refine ⟨?_, ?_, ?_⟩ <;> simp [World.cell?, hh]
theorem cells10_of {w : World} {k : Nat} {a b c d e f g h i j : Value} {T : TypeId} (hh : w.heap[k]? = some (.cells #[a, b, c, d, e, f, g, h, i, j] T (0, 0))) : w.cell? ⟨k, 0, none⟩ = some a ∧ w.cell? ⟨k, 1, none⟩ = some b ∧ w.cell? ⟨k, 2, none⟩ = some c ∧ w.cell? ⟨k, 3, none⟩ = some d ∧ w.cell? ⟨k, 4, none⟩ = some e ∧ w.cell? ⟨k, 5, none⟩ = some f ∧ w.cell? ⟨k, 6, none⟩ = some g ∧ w.cell? ⟨k, 7, none⟩ = some h ∧ w.cell? ⟨k, 8, none⟩ = some i ∧ w.cell? ⟨k, 9, none⟩ = some j := by
  refine ⟨?_, ?_, ?_, ?_, ?_, ?_, ?_, ?_, ?_, ?_⟩ <;> simp [World.cell?, hh]
theorem set67 {w : World} {k : Nat} {a b c d e f g h : Value} {T : TypeId} (hh : w.heap[k]? = some (.cells #[a, b, c, d, e, f, g, h] T (0, 0))) (u v : Value) : ((w.setCell ⟨k, 6, none⟩ u).setCell ⟨k, 7, none⟩ v).heap[k]? = some (.cells #[a, b, c, d, e, f, u, v] T (0, 0)) := by
  have h1 : (w.setCell ⟨k, 6, none⟩ u).heap[k]? = some (.cells #[a, b, c, d, e, f, u, h] T (0, 0)) := by
    obtain ⟨hl, hk⟩ := Array.getElem?_eq_some_iff.1 hh
    show (w.heap.modify k _)[k]? = _
    rw [Array.getElem?_eq_getElem (by rw [Array.size_modify]; exact hl), Array.getElem_modify_self, hk]
    rfl
  obtain ⟨hl, hk⟩ := Array.getElem?_eq_some_iff.1 h1
  show ((w.setCell ⟨k, 6, none⟩ u).heap.modify k _)[k]? = _
  rw [Array.getElem?_eq_getElem (by rw [Array.size_modify]; exact hl), Array.getElem_modify_self, hk]
  rfl
theorem cells8_of {w : World} {k : Nat} {a b c d e f g h : Value} {T : TypeId} (hh : w.heap[k]? = some (.cells #[a, b, c, d, e, f, g, h] T (0, 0))) : w.cell? ⟨k, 0, none⟩ = some a ∧ w.cell? ⟨k, 1, none⟩ = some b ∧ w.cell? ⟨k, 2, none⟩ = some c ∧ w.cell? ⟨k, 3, none⟩ = some d ∧ w.cell? ⟨k, 4, none⟩ = some e ∧ w.cell? ⟨k, 5, none⟩ = some f ∧ w.cell? ⟨k, 6, none⟩ = some g ∧ w.cell? ⟨k, 7, none⟩ = some h := by
  refine ⟨?_, ?_, ?_, ?_, ?_, ?_, ?_, ?_⟩ <;> simp [World.cell?, hh]
theorem b4_one (a b : ByteArray) (x y : Int) : ∀ u ∈ [Value.string a, .string b, .int .u64 x, .int .u64 y], u.oneCell' = true := by
  intro u hu
  simp only [List.mem_cons, List.not_mem_nil, or_false] at hu
  rcases hu with rfl | rfl | rfl | rfl <;> rfl
def sch10 (s0 s1 s2 s3 s4 s5 s6 s7 s8 s9 : Value) : Array Value := #[s0, s1, s2, s3, s4, s5, s6, s7, s8, s9]
set_option maxRecDepth 100000 in
set_option maxHeartbeats 16000000 in
theorem ev_Bind (w : World) (s0 s1 s2 s3 s4 s5 s6 s7 s8 s9 : Value) (b : Int → Int) (KB : ∀ W id, Below w.heap.size w W → Calls Tryd.prog 42 #[.agg #[s0, s1, s2, s3, s4, s5, s6, s7, s8, s9], .int .i64 id] W (RetX (.int .i64 (b id)) W))
    (id df sz : Int) (tn rs : ByteArray) (A : Option Addr) (n c : Nat) (va ar : Value) (ks : List KeyN) (hn : ks.length = n) (hc : n ≤ c) (hn4 : n ≤ 100000) (h : KeyR w A ks) (hs : ∀ k ∈ ks, k.name.size ≤ 100000)
    (tb pr ac : Int) (hpr : pr < 9223372036854775808) (Am : Option Addr) (nm' cm : Nat) (ag : Value) (ms : List MatchN) (hm : ms.length = nm') (hcm : nm' ≤ cm) (hms : MtR w Am ms) :
    Calls Tryd.prog 30 #[.agg #[s0, s1, s2, s3, s4, s5, s6, s7, s8, s9], .agg #[.int .i64 id, .string tn, .slice A n c, va, .int .i64 df, ar, .int .i64 sz, .string rs], .agg #[.int .i64 tb, .slice Am nm' cm, .int .i64 pr, .int .i64 ac, ag]] w (RetBi (bindAll b ks ms pr) w) := by
  have HR := Lib.hid h
  have HN := Lib.hid hn
  have HS := Lib.hid hs
  have HKB := Lib.hid KB
  have HMS := Lib.hid hms
  have HML := Lib.hid hm
  obtain ⟨i3, hi3, hz3, hy3, hx3⟩ := info_bind
  have HI3 := Lib.hid hi3
  have HZ3 := Lib.hid hz3
  have HY3 := Lib.hid hy3
  have HX3 := Lib.hid hx3
  clear h hn hs KB hms hm hi3 hz3 hy3 hx3
  obtain ⟨W0, hW0⟩ : ∃ W, W = ((w.alloc (.cells #[s0, s1, s2, s3, s4, s5, s6, s7, s8, s9] 49)).alloc (.cells #[.int .i64 id, .string tn, .slice A n c, va, .int .i64 df, ar, .int .i64 sz, .string rs] 26)).alloc (.cells #[.int .i64 tb, .slice Am nm' cm, .int .i64 pr, .int .i64 ac, ag] 99) := ⟨_, rfl⟩
  have hB0 : Below w.heap.size w W0 := by rw [hW0]; exact (((Below.refl _ _).alloc (Nat.le_refl _) _).alloc (by simp) _).alloc (by simp; omega) _
  have hsz0 : W0.heap.size = w.heap.size + 3 := by rw [hW0]; simp
  have hS0 : W0.heap[w.heap.size]? = some (.cells #[s0, s1, s2, s3, s4, s5, s6, s7, s8, s9] 49 (0, 0)) := by
    rw [hW0]
    exact ((((Below.refl _ _).alloc (Nat.le_refl _) _).block w.heap.size (by simp; omega)).trans (((Below.refl _ _).alloc (Nat.le_refl _) _).block w.heap.size (by simp))).trans (heap_alloc_new _ _)
  have hE0 : W0.heap[w.heap.size + 2]? = some (.cells #[.int .i64 tb, .slice Am nm' cm, .int .i64 pr, .int .i64 ac, ag] 99 (0, 0)) := by
    rw [hW0, show w.heap.size + 2 = ((w.alloc (.cells #[s0, s1, s2, s3, s4, s5, s6, s7, s8, s9] 49)).alloc (.cells #[.int .i64 id, .string tn, .slice A n c, va, .int .i64 df, ar, .int .i64 sz, .string rs] 26)).heap.size by simp]
    exact heap_alloc_new _ _
  have HB0 := Lib.hid hB0
  have HSZ0 := Lib.hid hsz0
  have HS0 := Lib.hid hS0
  have HE0 := Lib.hid hE0
  have HW0 := Lib.hid hW0
  clear hB0 hsz0 hS0 hE0 hW0
  go_enter Tryd.func30, Tryd.ntmps30
  go_upto_region 3 with fail
  change Code.wp _ _ _ _ (((w.alloc (.cells #[s0, s1, s2, s3, s4, s5, s6, s7, s8, s9] 49)).alloc (.cells #[.int .i64 id, .string tn, .slice A n c, va, .int .i64 df, ar, .int .i64 sz, .string rs] 26)).alloc (.cells #[.int .i64 tb, .slice Am nm' cm, .int .i64 pr, .int .i64 ac, ag] 99))
  rw [← HW0.out]
  clear HW0
  go_wp2_with fail
  go_loopw [7, 16] (fun v i w' => ∃ k : Nat, k ≤ n ∧ i = .int .i64 k ∧ BiAt w (bindR b ks ms k) v w' ∧ Lib.OthersKept 130 none W0 w' ∧ W0.heap.size ≤ w'.heap.size) (fun _ i _ => n - (intOf i).toNat)
  case atStart => exact ⟨0, by omega, rfl, ⟨HB0.out, World.ownsRow_nil _ _ _ _⟩, Lib.OthersKept.refl _ _ _, Nat.le_refl _⟩
  case round =>
    obtain ⟨k, hk, rfl, hv, ho, hsw⟩ := hrel
    obtain ⟨A3, c3, rfl⟩ := own_shapeV hv.own
    obtain ⟨bs, hbs⟩ : ∃ bs, bs = bindR b ks ms k := ⟨_, rfl⟩
    rw [← hbs] at hv ⊢
    have hbl : bs.length ≤ 200000 := by rw [hbs]; have := bindR_len b ks ms k; omega
    have HV := Lib.hid hv
    have HO := Lib.hid ho
    have HBSL := Lib.hid hbs
    have hsz := hv.below.size
    have hz0 := HSZ0.out
    clear hv ho hbs
    by_cases hlt : k < n
    · have hkI : (k : Int) < (n : Int) := by omega
      have hkc : (k : Int) < (c : Int) := by omega
      have hk0 : 0 ≤ (k : Int) := by omega
      obtain ⟨d, hd⟩ : ∃ d, ks[k]? = some d := ⟨_, List.getElem?_eq_getElem (by rw [HN.out]; exact hlt)⟩
      obtain ⟨g, oo, e1, l1, q⟩ := (HR.out.below HV.out.below).r.resolve_left (fun e => by rw [e] at hd; simp at hd)
      obtain ⟨q0, q1, q2⟩ := q k d hd
      have hds := HS.out d (List.mem_of_getElem? hd)
      have HD := Lib.hid hd
      obtain ⟨dn, df', dk⟩ := d
      simp only at q0 q1 q2 hds
      subst e1
      clear q hd
      obtain ⟨t0, t1, t2, t3, t4⟩ := cells5_of (HO.out _ _ HE0.out (by simp) (fun c fz e => by injection e with _ e _; exact absurd e (by decide)))
      have hlE : w.heap.size + 2 < wr.heap.size := by omega
      obtain ⟨m, hmm⟩ : ∃ m, m = mAt ms k := ⟨_, rfl⟩
      have KM := Lib.hid fun W (hW : Below w.heap.size w W) => ev_matchAt W Am nm' cm ms HML.out hcm (HMS.out.below hW) k
      rw [← hmm] at KM
      have HMM := Lib.hid hmm
      obtain ⟨WK, hWK⟩ : ∃ W, W = wr.alloc (.cells #[.string dn, .int .i64 df', .int .i64 dk] 66) := ⟨_, rfl⟩
      have hBK : Below wr.heap.size wr WK := by rw [hWK]; exact (Below.refl _ _).alloc (Nat.le_refl _) _
      have hKB : WK.heap[wr.heap.size]? = some (.cells #[.string dn, .int .i64 df', .int .i64 dk] 66 (0, 0)) := by rw [hWK]; exact heap_alloc_new _ _
      have HBK := Lib.hid hBK
      have HKB2 := Lib.hid hKB
      have HWK := Lib.hid hWK
      clear hmm hBK hKB hWK
      have t1' : WK.cell? ⟨w.heap.size + 2, 1, none⟩ = some (.slice Am nm' cm) := (HBK.out.cell (p := ⟨w.heap.size + 2, 1, none⟩) (by show w.heap.size + 2 < _; omega)).trans t1
      go_upto_region 5 with fail
      change Code.wp _ _ _ _ (wr.alloc (.cells #[.string dn, .int .i64 df', .int .i64 dk] 66))
      rw [← HWK.out]
      clear q0 q1 q2 t0 t1 t2 t3 t4
      go_wp2_with fail
      go_at_call 40
      refine (KM.out _ (HV.out.below.trans (HBK.out.mono hsz))).mono ?_
      rintro e w7 ⟨rfl, hb7⟩
      have HB7 := Lib.hid (HBK.out.trans (hb7.mono HBK.out.size))
      have HK7 := Lib.hid ((hb7.block wr.heap.size (Array.getElem?_eq_some_iff.1 HKB2.out).1).trans HKB2.out)
      have h7 := HB7.out.size
      have hk7 : wr.heap.size < w7.heap.size := (Array.getElem?_eq_some_iff.1 HK7.out).1
      clear hb7 KM t1' HBK HKB2
      obtain ⟨m2, hm2⟩ : ∃ m2, m2 = mHi b df' m := ⟨_, rfl⟩
      have HM2 := Lib.hid hm2
      obtain ⟨W8, hW8⟩ : ∃ W, W = w7.alloc (.cells #[.bool m.present, .int .u64 (hi m.val), .int .u64 (lo m.val), .int .u64 (hi m.mask), .int .u64 (lo m.mask), .int .i64 m.pre, .int .u64 (hi m.high), .int .u64 (lo m.high)] 142) := ⟨_, rfl⟩
      have hB8 : Below w7.heap.size w7 W8 := by rw [hW8]; exact (Below.refl _ _).alloc (Nat.le_refl _) _
      have hM8 : W8.heap[w7.heap.size]? = some (.cells #[.bool m.present, .int .u64 (hi m.val), .int .u64 (lo m.val), .int .u64 (hi m.mask), .int .u64 (lo m.mask), .int .i64 m.pre, .int .u64 (hi m.high), .int .u64 (lo m.high)] 142 (0, 0)) := by rw [hW8]; exact heap_alloc_new _ _
      have HB8 := Lib.hid (HB7.out.trans (hB8.mono h7))
      have HM8 := Lib.hid hM8
      have HW8 := Lib.hid hW8
      have HK8 := Lib.hid ((hB8.block wr.heap.size hk7).trans HK7.out)
      have hS8 : W8.heap.size = w7.heap.size + 1 := by rw [hW8]; simp
      clear hm2 hB8 hM8 hW8 HB7 HK7
      have hend : ∀ (WE : World), Below wr.heap.size wr WE → WE.heap[w7.heap.size]? = some (.cells #[.bool m2.present, .int .u64 (hi m2.val), .int .u64 (lo m2.val), .int .u64 (hi m2.mask), .int .u64 (lo m2.mask), .int .i64 m2.pre, .int .u64 (hi m2.high), .int .u64 (lo m2.high)] 142 (0, 0)) → WE.heap[wr.heap.size]? = some (.cells #[.string dn, .int .i64 df', .int .i64 dk] 66 (0, 0)) → True := fun _ _ _ _ => trivial
      clear hend
      cases hpm : m.present with
      | true =>
        have e2 : m2 = m := by rw [HM2.out]; unfold mHi; rw [if_pos hpm]
        have HM9 : Hid (W8.heap[w7.heap.size]? = some (.cells #[.bool m2.present, .int .u64 (hi m2.val), .int .u64 (lo m2.val), .int .u64 (hi m2.mask), .int .u64 (lo m2.mask), .int .i64 m2.pre, .int .u64 (hi m2.high), .int .u64 (lo m2.high)] 142 (0, 0))) := Lib.hid (by rw [e2]; exact HM8.out)
        rw [hpm] at HW8
        clear e2 HM8
        go_upto_region 8 with fail
        change Code.wp _ _ _ _ (w7.alloc (.cells #[.bool true, .int .u64 (hi m.val), .int .u64 (lo m.val), .int .u64 (hi m.mask), .int .u64 (lo m.mask), .int .i64 m.pre, .int .u64 (hi m.high), .int .u64 (lo m.high)] 142))
        rw [← HW8.out]
        obtain ⟨W9, hW9⟩ : ∃ W, W = W8 := ⟨_, rfl⟩
        rw [← hW9] at HM9 HB8 HK8 hS8 ⊢
        have hS9 : w7.heap.size < W9.heap.size := by omega
        clear hW9 HW8 hS8 hpm
        obtain ⟨vs, hvs⟩ : ∃ vs, vs = keyVars ⟨dn, df', dk⟩ := ⟨_, rfl⟩
        obtain ⟨vm, hvm⟩ : ∃ vm, vm = vs.length := ⟨_, rfl⟩
        have hvm2 : vm ≤ 2 := by rw [hvm, hvs]; exact keyVars_len _
        have KV := Lib.hid (ev_keyVars dn df' dk hds)
        rw [← hvs] at KV
        have HVS := Lib.hid hvs
        have HVM := Lib.hid hvm
        obtain ⟨k0, k1, k2⟩ := cells3_of HK8.out
        have hkl : wr.heap.size < W9.heap.size := (Array.getElem?_eq_some_iff.1 HK8.out).1
        clear hvs hvm
        go_wp2_with fail
        go_at_call 43
        refine (KV.out _).mono ?_
        rintro e wk ⟨Aa, ca, he, hca, hva, hbk⟩
        have he2 : e = .returned (.slice Aa vm ca) := by rw [HVM.out]; exact he
        subst he2
        have hca2 : vm ≤ ca := by rw [HVM.out]; exact hca
        have HVA := Lib.hid hva
        have HBk := Lib.hid (HB8.out.trans (hbk.mono HB8.out.size))
        have HMk := Lib.hid ((hbk.block w7.heap.size hS9).trans HM9.out)
        have HVk := Lib.hid (HV.out.call HBk.out)
        have hkz := HBk.out.size
        have hmbk : w7.heap.size < wk.heap.size := by have := hbk.size; omega
        clear he hca hva hbk KV HB8 HM9 HK8 k0 k1 k2 HV
        go_wp2_with fail
        go_loopw [7, 37] (fun v j w' => ∃ q : Nat, q ≤ vm ∧ j = .int .i64 q ∧ BiAt w (bs ++ (vs.take q).map (fun u => mkB u.1 u.2 (partM m2 u.2))) v w' ∧ Lib.OthersKept 130 none wk w' ∧ wk.heap.size ≤ w'.heap.size) (fun _ j _ => vm - (intOf j).toNat)
        case atStart => exact ⟨0, by omega, rfl, by rw [List.take_zero, List.map_nil, List.append_nil]; exact HVk.out, Lib.OthersKept.refl _ _ _, Nat.le_refl _⟩
        case round =>
          clear HVk
          obtain ⟨q, hq, rfl, hvq, hoq, hsq⟩ := hrel
          obtain ⟨AQ, cQ, rfl⟩ := own_shapeV hvq.own
          obtain ⟨l, hl⟩ : ∃ l, l = bs ++ (vs.take q).map (fun u => mkB u.1 u.2 (partM m2 u.2)) := ⟨_, rfl⟩
          have hll : l.length = bs.length + q := by rw [hl, List.length_append, List.length_map, List.length_take, ← HVM.out, Nat.min_eq_left hq]
          rw [← hl] at hvq ⊢
          have HL := Lib.hid hl
          have HVQ := Lib.hid hvq
          have HOQ := Lib.hid hoq
          have hqz := hvq.below.size
          clear hl hvq hoq
          by_cases hqm : q < vm
          · have hqI : (q : Int) < (vm : Int) := by omega
            have hqc : (q : Int) < (ca : Int) := by omega
            have hq0 : 0 ≤ (q : Int) := by omega
            obtain ⟨u, hu⟩ : ∃ u, vs[q]? = some u := ⟨_, List.getElem?_eq_getElem (by rw [← HVM.out]; exact hqm)⟩
            have hvt := HVA.out.others HOQ.out hsq
            obtain ⟨ga, e1, l2, qq⟩ := hvt.r.r.resolve_left (fun e => by rw [e] at hu; simp at hu)
            obtain ⟨u0, u1⟩ := qq q u hu
            have hmem := List.mem_of_getElem? hu
            rw [HVS.out] at hmem
            obtain ⟨hk1, hk2⟩ := key_attr hmem
            have hnms : u.1.size ≤ maxLen := by rw [hk1]; unfold maxLen; show dn.size ≤ _; omega
            have hats := attr_sz hk2
            obtain ⟨nm, at_⟩ := u
            simp only at u0 u1 hk1 hk2 hnms hats
            subst e1
            obtain ⟨pv, hpv⟩ : ∃ pv, pv = partM m2 at_ := ⟨_, rfl⟩
            have hpl : pv < 340282366920938463463374607431768211456 := by rw [hpv]; exact partM_lt _ _
            obtain ⟨pb, hpb⟩ : ∃ pb, pb = mkB nm at_ pv := ⟨_, rfl⟩
            obtain ⟨p1, p2, p3⟩ := mkB_of hnms hats hpl
            rw [← hpb] at p1 p2 p3
            have hbc : bcell pb = [.string nm, .string at_, .int .u64 (hi pv), .int .u64 (lo pv)] := by unfold bcell; rw [p1, p2, p3]
            have KP : Hid (∀ W, Calls Tryd.prog 45 #[.agg #[.bool m2.present, .int .u64 (hi m2.val), .int .u64 (lo m2.val), .int .u64 (hi m2.mask), .int .u64 (lo m2.mask), .int .i64 m2.pre, .int .u64 (hi m2.high), .int .u64 (lo m2.high)], .string at_] W (RetX (.agg #[.int .u64 (hi pv), .int .u64 (lo pv)]) W)) := Lib.hid fun W => by rw [hpv]; exact ev_partOf m2 at_ hk2 W
            have HSN : Hid (bs ++ (vs.take (q + 1)).map (fun u => mkB u.1 u.2 (partM m2 u.2)) = l ++ [pb]) := Lib.hid (by
              rw [List.take_succ_eq_append_getElem (by rw [← HVM.out]; exact hqm), (List.getElem?_eq_some_iff.1 hu).2, List.map_append, ← List.append_assoc, ← HL.out, hpb, hpv]
              rfl)
            have HBC := Lib.hid hbc
            have HMq := HOQ.out w7.heap.size _ HMk.out (by simp) (fun c fz e => by injection e with _ e _; exact absurd e (by decide))
            obtain ⟨W1, hW1⟩ : ∃ W, W = wr.alloc (.cells #[.string nm, .string at_] 69) := ⟨_, rfl⟩
            have hb1 : Below wr.heap.size wr W1 := by rw [hW1]; exact (Below.refl _ _).alloc (Nat.le_refl _) _
            have HVB : Hid (W1.heap[wr.heap.size]? = some (.cells #[.string nm, .string at_] 69 (0, 0))) := Lib.hid (by rw [hW1]; exact heap_alloc_new _ _)
            have HMB : Hid (W1.heap[w7.heap.size]? = some (.cells #[.bool m2.present, .int .u64 (hi m2.val), .int .u64 (lo m2.val), .int .u64 (hi m2.mask), .int .u64 (lo m2.mask), .int .i64 m2.pre, .int .u64 (hi m2.high), .int .u64 (lo m2.high)] 142 (0, 0))) := Lib.hid ((hb1.block w7.heap.size (Array.getElem?_eq_some_iff.1 HMq).1).trans HMq)
            have HO1 := Lib.hid (others_below HOQ.out hb1)
            have HV1 := Lib.hid (HVQ.out.call hb1)
            have HW1 := Lib.hid hW1
            have hs1 : W1.heap.size = wr.heap.size + 1 := by rw [hW1]; simp
            clear hu hmem hk1 hk2 hnms hats hpv hpl hpb p1 p2 p3 hbc HMq hW1 hb1 HVQ hvt qq
            go_upto_region 11 with fail
            change Code.wp _ _ _ _ (wr.alloc (.cells #[.string nm, .string at_] 69))
            rw [← HW1.out]
            clear u0 u1 HW1
            obtain ⟨vb, hvb⟩ : ∃ x, x = wr.heap.size := ⟨_, rfl⟩
            obtain ⟨mb, hmb⟩ : ∃ x, x = w7.heap.size := ⟨_, rfl⟩
            obtain ⟨S, hS⟩ : ∃ x, x = W1.heap.size := ⟨_, rfl⟩
            obtain ⟨r, hr⟩ : ∃ r, r = Value.slice AQ l.length cQ := ⟨_, rfl⟩
            obtain ⟨nl, hnl⟩ : ∃ x, x = l.length := ⟨_, rfl⟩
            rw [← hvb] at HVB ⊢
            rw [← hmb] at HMB ⊢
            have ho := HV1.out.own
            rw [← hr, ← hnl] at ho
            rw [← hr]
            have HA := Lib.hid ho
            have HBS : Hid (w.heap.size ≤ S) := Lib.hid (by rw [hS]; omega)
            have HRS : Hid (∀ g, r.ownBlock = some g → g < S) := Lib.hid fun g hg => by rw [hS]; exact (ho.lt g hg).2
            have HI : Hid (IB w.heap.size S w W1 W1) := Lib.hid ⟨HV1.out.below, by rw [hS]; exact Nat.le_refl _, Lib.OthersKept.refl _ _ _⟩
            have hnl2 : nl ≤ 300000 := by omega
            have HVBE := Lib.hid hvb
            have HMBE := Lib.hid hmb
            have HSE := Lib.hid hS
            have HNLE := Lib.hid hnl
            clear ho hr hvb hmb hS hnl
            refine wp_region_S sLB (J1 10 9 8 0 r slB (GB w.heap.size S r nl (bcells l) nm at_ m2 pv vb) (IB w.heap.size S w W1) (fun x => x.ownsRow w.heap.size 130 4 r nl (bcells l))) (by kernel_rfl) ?_ ?_ ?_ ?_
            · simp [setS, sLB]
            · exact J1.begun ⟨HI.out.below.drew, HI.out.sz, HI.out.oth⟩ HA.out.drew rfl
            · clear HI HA
              intro listed w1 v i hJ hrd
              obtain ⟨hlt2, hun⟩ := ready_subN hrd
              have hlt3 : i < 10 := hlt2
              clear hlt2
              match i, hlt3 with
              | 0, _ =>
                have em : v 7 = r := hJ.e1 (unl hJ.size (by decide) hun)
                refine wpOp_step rfl (fun K' hK => ?_)
                simp only [setS, sLB, List.setIfInBounds_toArray, List.set_cons_succ, List.set_cons_zero]
                have HH := Lib.hid hK
                rw [em]
                clear hK hrd
                go_simp
                refine HH.out _ _ ⟨updv v (slB 0) r, by simp [setS, sLB, slB, updv, em], hJ.step (by decide) (slB_ne _ · (by decide)) (fun h => h) (fun _ _ _ _ h => h) (fun _ h => h) (fun h => absurd h (by decide)) (by decide) (fun h => absurd h (by decide)) rfl⟩
              | 1, _ =>
                obtain ⟨b0, b1⟩ := cells2_of (hJ.inv.oth vb _ HVB.out (by simp) (fun c fz e => by injection e with _ e _; exact absurd e (by decide)))
                refine wpOp_step rfl (fun K' hK => ?_)
                simp only [setS, sLB, List.setIfInBounds_toArray, List.set_cons_succ, List.set_cons_zero]
                have HH := Lib.hid hK
                clear hK hrd
                go_simp
                refine HH.out _ _ ⟨updv v (slB 1) (.agg #[.string nm, .string at_]), by simp [setS, sLB, slB, updv], hJ.step (by decide) (slB_ne _ · (by decide)) (fun h => h) (fun _ _ _ _ h => h) (fun _ h => h) (fun h => absurd h (by decide)) (by decide) (fun h => absurd h (by decide)) rfl⟩
              | 2, _ =>
                obtain ⟨b0, b1, b2, b3, b4, b5, b6, b7⟩ := cells8_of (hJ.inv.oth mb _ HMB.out (by simp) (fun c fz e => by injection e with _ e _; exact absurd e (by decide)))
                refine wpOp_step rfl (fun K' hK => ?_)
                simp only [setS, sLB, List.setIfInBounds_toArray, List.set_cons_succ, List.set_cons_zero]
                have HH := Lib.hid hK
                clear hK hrd
                go_simp
                refine HH.out _ _ ⟨updv v (slB 2) (.agg #[.bool m2.present, .int .u64 (hi m2.val), .int .u64 (lo m2.val), .int .u64 (hi m2.mask), .int .u64 (lo m2.mask), .int .i64 m2.pre, .int .u64 (hi m2.high), .int .u64 (lo m2.high)]), by simp [setS, sLB, slB, updv], hJ.step (by decide) (slB_ne _ · (by decide)) (fun h => h) (fun _ _ _ _ h => h) (fun _ h => h) (fun h => absurd h (by decide)) (by decide) (fun h => absurd h (by decide)) rfl⟩
              | 3, _ =>
                refine wpOp_step rfl (fun K' hK => ?_)
                simp only [setS, sLB, List.setIfInBounds_toArray, List.set_cons_succ, List.set_cons_zero]
                have HH := Lib.hid hK
                clear hK hrd
                go_simp
                refine HH.out _ _ ⟨updv v (slB 3) (.pointer (some ⟨vb, 1, none⟩)), by simp [setS, sLB, slB, updv], hJ.step (by decide) (slB_ne _ · (by decide)) (fun h => h) (fun _ _ _ _ h => h) (fun _ h => h) (fun h => absurd h (by decide)) (by decide) (fun h => absurd h (by decide)) rfl⟩
              | 4, _ =>
                have e3 : v 44 = .pointer (some ⟨vb, 1, none⟩) := hJ.f 3 (by decide) (ready_depN hrd rfl (e := ⟨3, .data⟩) (by simp) rfl)
                obtain ⟨b0, b1⟩ := cells2_of (hJ.inv.oth vb _ HVB.out (by simp) (fun c fz e => by injection e with _ e _; exact absurd e (by decide)))
                refine wpOp_step rfl (fun K' hK => ?_)
                simp only [setS, sLB, List.setIfInBounds_toArray, List.set_cons_succ, List.set_cons_zero]
                have HH := Lib.hid hK
                rw [e3]
                clear hK hrd
                go_simp
                refine HH.out _ _ ⟨updv v (slB 4) (.string at_), by simp [setS, sLB, slB, updv, e3], hJ.step (by decide) (slB_ne _ · (by decide)) (fun h => h) (fun _ _ _ _ h => h) (fun _ h => h) (fun h => absurd h (by decide)) (by decide) (fun h => absurd h (by decide)) rfl⟩
              | 5, _ =>
                have e2 : v 43 = .agg #[.bool m2.present, .int .u64 (hi m2.val), .int .u64 (lo m2.val), .int .u64 (hi m2.mask), .int .u64 (lo m2.mask), .int .i64 m2.pre, .int .u64 (hi m2.high), .int .u64 (lo m2.high)] := hJ.f 2 (by decide) (ready_depN hrd rfl (e := ⟨2, .data⟩) (by simp) rfl)
                have e4 : v 45 = .string at_ := hJ.f 4 (by decide) (ready_depN hrd rfl (e := ⟨4, .data⟩) (by simp) rfl)
                refine wpOp_step rfl (fun K' hK => ?_)
                simp only [setS, sLB, List.setIfInBounds_toArray, List.set_cons_succ, List.set_cons_zero]
                have HH := Lib.hid hK
                rw [e2, e4]
                clear hK hrd
                go_simp
                go_at_call 45
                refine (KP.out _).mono ?_
                rintro e w2 ⟨rfl, hb2⟩
                go_simp
                refine HH.out _ _ ⟨updv v (slB 5) (.agg #[.int .u64 (hi pv), .int .u64 (lo pv)]), by simp [setS, sLB, slB, updv, e2, e4], hJ.step (by decide) (slB_ne _ · (by decide)) (fun h => h.call HBS.out hb2) (fun j u _ _ h => GB.call hb2 j u h) (fun _ h => own_below2 h hb2) (fun h => absurd h (by decide)) (by decide) (fun h => absurd h (by decide)) rfl⟩
              | 6, _ =>
                have e1 : v 42 = .agg #[.string nm, .string at_] := hJ.f 1 (by decide) (ready_depN hrd rfl (e := ⟨1, .data⟩) (by simp) rfl)
                have e5 : v 46 = .agg #[.int .u64 (hi pv), .int .u64 (lo pv)] := hJ.f 5 (by decide) (ready_depN hrd rfl (e := ⟨5, .data⟩) (by simp) rfl)
                refine wpOp_step rfl (fun K' hK => ?_)
                simp only [setS, sLB, List.setIfInBounds_toArray, List.set_cons_succ, List.set_cons_zero]
                have HH := Lib.hid hK
                rw [e1, e5]
                clear hK hrd
                go_simp
                go_at_call 44
                refine (ev_bind nm at_ _ _ _).mono ?_
                rintro e w2 ⟨rfl, hb2⟩
                go_simp
                refine HH.out _ _ ⟨updv v (slB 6) (.agg #[.string nm, .string at_, .int .u64 (hi pv), .int .u64 (lo pv)]), by simp [setS, sLB, slB, updv, e1, e5], hJ.step (by decide) (slB_ne _ · (by decide)) (fun h => h.call HBS.out hb2) (fun j u _ _ h => GB.call hb2 j u h) (fun _ h => own_below2 h hb2) (fun h => absurd h (by decide)) (by decide) (fun h => absurd h (by decide)) rfl⟩
              | 7, _ =>
                have e6 : v 47 = .agg #[.string nm, .string at_, .int .u64 (hi pv), .int .u64 (lo pv)] := hJ.f 6 (by decide) (ready_depN hrd rfl (e := ⟨6, .data⟩) (by simp) rfl)
                refine wpOp_step rfl (fun K' hK => ?_)
                simp only [setS, sLB, List.setIfInBounds_toArray, List.set_cons_succ, List.set_cons_zero]
                have HH := Lib.hid hK
                rw [e6]
                clear hK hrd
                go_simp
                have hb2 := (Below.refl w1.heap.size w1).alloc (Nat.le_refl _) (.cells #[.string nm, .string at_, .int .u64 (hi pv), .int .u64 (lo pv)] 130)
                refine HH.out _ _ ⟨updv v (slB 7) (.slice (some ⟨w1.heap.size, 0, none⟩) 1 1), by simp [setS, sLB, slB, updv, e6], hJ.step (by decide) (slB_ne _ · (by decide)) (fun h => h.call HBS.out hb2) (fun j u _ _ h => GB.call hb2 j u h) (fun _ h => own_below2 h hb2) (fun h => absurd h (by decide)) (by decide) (fun h => absurd h (by decide)) (TmpB.new 130 [.string nm, .string at_, .int .u64 (hi pv), .int .u64 (lo pv)] w1 hJ.inv.sz)⟩
              | 8, _ =>
                have e0 : v 41 = r := hJ.f 0 (by decide) (ready_depN hrd rfl (e := ⟨0, .data⟩) (by simp) rfl)
                obtain ⟨kk, e1, hkS, hkk⟩ : TmpB S 130 _ w1 (v 48) := hJ.f 7 (by decide) (ready_depN hrd rfl (e := ⟨7, .data⟩) (by simp) rfl)
                have hun2 : listed.getD 8 false = false := unl hJ.size (by decide) hun
                have hown := hJ.a hun2
                refine wpOp_step rfl (fun K' hK => ?_)
                have HH := Lib.hid hK
                clear hK hrd
                refine step_appY rfl (.tmp 41) (.tmp 48) 91 (by rfl) w.heap.size 130 i3 _ 4 48 Tryd.underlying91 HI3.out HZ3.out HY3.out HX3.out rfl (by decide) r nl _ (by simp [setS, sLB, Act.eval, e0]) hown ⟨kk, 0, none⟩ 1 1 [.string nm, .string at_, .int .u64 (hi pv), .int .u64 (lo pv)] (by simp [setS, sLB, Act.eval, e1]) rfl (World.news_of_block hkk) (b4_one _ _ _ _) (by unfold maxLen; omega) (by omega) (Nat.le_trans HBS.out hJ.inv.sz) ?_
                intro y w2 hO hg _
                clear e1
                refine HH.out _ _ ⟨updv v (slB 8) y, by simp [Act.put, setS, sLB, slB, updv], hJ.step (by decide) (slB_ne _ · (by decide)) (fun h => h.grown HBS.out hown hg) (fun j u hj hM h => GB.app HRS.out hg j u hj (Nat.lt_of_not_le fun hh => by have := hM hh; rw [hun2] at this; cases this) h) (fun h => absurd rfl h) (fun h => absurd h (by decide)) (by decide) (fun h => absurd h (by decide)) hO⟩
              | 9, _ =>
                have hx := hJ.f 8 (by decide) (ready_depN hrd rfl (e := ⟨8, .data⟩) (by simp) rfl)
                have d1 := ready_depN hrd rfl (e := ⟨8, .phase⟩) (by simp) rfl
                have d3 := ready_depN hrd rfl (e := ⟨0, .phase⟩) (by simp) rfl
                refine wpOp_step rfl (fun K' hK => ?_)
                simp only [setS, sLB, List.setIfInBounds_toArray, List.set_cons_succ, List.set_cons_zero]
                have HH := Lib.hid hK
                clear hK hrd
                go_simp
                refine HH.out _ _ ⟨updv v (slB 9) (v 49), by simp [setS, sLB, slB, updv], hJ.step (by decide) (slB_ne _ · (by decide)) (fun h => h) (fun _ _ _ _ h => h) (fun _ h => h) (fun _ => d1) (by decide) (fun _ => d3) hx⟩
              | _ + 10, h => exact absurd h (by omega)
            · intro listed w1 v hJ hr
              have hmb := HMBE.out
              subst hmb
              have hall := ready_allN (by kernel_rfl) hJ.size hr
              have ho1 : w1.ownsRow w.heap.size 130 4 (v 7) (nl + 1) (bcells l ++ [.string nm, .string at_, .int .u64 (hi pv), .int .u64 (lo pv)]) := hJ.f 9 (by decide) (hall 9 (by decide))
              have hIn := hJ.inv
              clear hJ hr hall HI HA
              simp only [setS, sLB, List.setIfInBounds_toArray, List.set_cons_succ, List.set_cons_zero]
              generalize v 7 = r2 at ho1 ⊢
              have HO2 := Lib.hid ho1
              have HIN := Lib.hid hIn
              clear ho1 hIn
              go_wp2_with fail
              go_roundw
              case rel =>
                go_light
                refine ⟨q + 1, by omega, by simp, ?_, HO1.out.trans HIN.out.oth, by have := HIN.out.sz; have h9 := HSE.out; omega⟩
                rw [HSN.out]
                refine ⟨HIN.out.below, ?_⟩
                rw [List.length_append, bcells_snoc, HBC.out]
                have := HO2.out
                rw [HNLE.out] at this
                exact this
              case measure => simp [intOf]; omega
          · have hqI : ¬ (q : Int) < (vm : Int) := by omega
            obtain rfl : q = vm := by omega
            go_wp2_with fail
            go_roundw
            case rel =>
              go_light
              refine ⟨k + 1, by omega, by simp, ?_, (others_below HO.out HBk.out).trans HOQ.out, by omega⟩
              have e2 : bindR b ks ms (k + 1) = l := by
                rw [bindR_succ b ks ms k _ HD.out, ← HBSL.out, HL.out, HVM.out, List.take_length, ← HMM.out, HVS.out]
                unfold bindK
                rw [← HM2.out]
              rw [e2]
              exact HVQ.out
            case measure => simp [intOf]; omega
      | false =>
        have e2 : m2 = ⟨m.present, m.val, m.mask, m.pre, ones (b df'), m.hv, m.hm, ones_lt _, m.hp⟩ := by rw [HM2.out]; unfold mHi; rw [if_neg (by rw [hpm]; simp)]
        have f0 : m2.present = false := by rw [e2]; exact hpm
        have f1 : m2.val = m.val := by rw [e2]
        have f2 : m2.mask = m.mask := by rw [e2]
        have f3 : m2.pre = m.pre := by rw [e2]
        have f4 : m2.high = ones (b df') := by rw [e2]
        rw [hpm] at HW8
        rw [← f1, ← f2, ← f3] at HW8
        rw [← f1, ← f2, ← f3]
        have HF := Lib.hid f4
        have HF0 := Lib.hid f0
        have hsc := HO.out _ _ HS0.out (by simp) (fun c fz e => by injection e with _ e _; exact absurd e (by decide))
        have hlS : w.heap.size < wr.heap.size := by omega
        have hsc8 : W8.heap[w.heap.size]? = some (.cells #[s0, s1, s2, s3, s4, s5, s6, s7, s8, s9] 49 (0, 0)) := (HB8.out.block w.heap.size hlS).trans hsc
        obtain ⟨a0, a1, a2, a3, a4, a5, a6, a7, a8, a9⟩ := cells10_of hsc8
        obtain ⟨k0, k1, k2⟩ := cells3_of HK8.out
        have hl8a : w.heap.size < W8.heap.size := by have := HB8.out.size; omega
        clear e2 HM8 f0 f1 f2 f3 f4 hsc hsc8
        go_upto_region 7 with fail
        change Code.wp _ _ _ _ (w7.alloc (.cells #[.bool false, .int .u64 (hi m2.val), .int .u64 (lo m2.val), .int .u64 (hi m2.mask), .int .u64 (lo m2.mask), .int .i64 m2.pre, .int .u64 (hi m.high), .int .u64 (lo m.high)] 142))
        have HM8 : Hid (W8.heap[w7.heap.size]? = some (.cells #[.bool false, .int .u64 (hi m2.val), .int .u64 (lo m2.val), .int .u64 (hi m2.mask), .int .u64 (lo m2.mask), .int .i64 m2.pre, .int .u64 (hi m.high), .int .u64 (lo m.high)] 142 (0, 0))) := Lib.hid (by rw [HW8.out]; exact heap_alloc_new _ _)
        rw [← HW8.out]
        go_wp2_with fail
        go_at_call 42
        refine (HKB.out _ df' (HV.out.below.trans (HB8.out.mono hsz))).mono ?_
        rintro e wa ⟨rfl, hba⟩
        have hMa := (hba.block w7.heap.size (by omega)).trans HM8.out
        have HBa := Lib.hid (HB8.out.trans (hba.mono HB8.out.size))
        have HKa := Lib.hid ((hba.block wr.heap.size (Array.getElem?_eq_some_iff.1 HK8.out).1).trans HK8.out)
        have hSa : w7.heap.size < wa.heap.size := by have := hba.size; omega
        have HMa := Lib.hid hMa
        clear hba hMa HB8 HK8 HM8 HW8 k0 k1 k2 a0 a1 a2 a3 a4 a5 a6 a7 a8 a9
        go_wp2_with fail
        go_at_call 41
        refine (ones_any (b df') _).mono ?_
        rintro e wb ⟨rfl, hbb⟩
        have hMb := (hbb.block w7.heap.size hSa).trans HMa.out
        have HBb := Lib.hid (HBa.out.trans (hbb.mono HBa.out.size))
        have HKb := Lib.hid ((hbb.block wr.heap.size (Array.getElem?_eq_some_iff.1 HKa.out).1).trans HKa.out)
        have hSb : w7.heap.size < wb.heap.size := by have := hbb.size; omega
        obtain ⟨m0, m1, mm2, m3, m4, m5, m6, m7⟩ := cells8_of hMb
        have fr6 : wb.frozen? ⟨w7.heap.size, 6, none⟩ = false := by simp [World.frozen?, hMb]
        have fr7 : wb.frozen? ⟨w7.heap.size, 7, none⟩ = false := by simp [World.frozen?, hMb]
        have HMb := Lib.hid hMb
        clear hbb hMb HBa HKa HMa
        rw [← HF.out]
        go_upto_region 8 with fail
        obtain ⟨W9, hW9⟩ : ∃ W, W = (wb.setCell ⟨w7.heap.size, 6, none⟩ (.int .u64 (hi m2.high))).setCell ⟨w7.heap.size, 7, none⟩ (.int .u64 (lo m2.high)) := ⟨_, rfl⟩
        have hM9 : W9.heap[w7.heap.size]? = some (.cells #[.bool m2.present, .int .u64 (hi m2.val), .int .u64 (lo m2.val), .int .u64 (hi m2.mask), .int .u64 (lo m2.mask), .int .i64 m2.pre, .int .u64 (hi m2.high), .int .u64 (lo m2.high)] 142 (0, 0)) := by
          rw [hW9, HF0.out]
          exact set67 HMb.out _ _
        have hB9 : Below wr.heap.size wr W9 := by
          rw [hW9]
          exact (HBb.out.setCell (p := ⟨w7.heap.size, 6, none⟩) (by show _ ≤ w7.heap.size; omega) _).setCell (p := ⟨w7.heap.size, 7, none⟩) (by show _ ≤ w7.heap.size; omega) _
        have hK9 : W9.heap[wr.heap.size]? = some (.cells #[.string dn, .int .i64 df', .int .i64 dk] 66 (0, 0)) := by
          rw [hW9, Below.heap_setCell _ _ _ _ (by show _ ≠ w7.heap.size; omega), Below.heap_setCell _ _ _ _ (by show _ ≠ w7.heap.size; omega)]
          exact HKb.out
        have hS9 : w7.heap.size < W9.heap.size := by rw [hW9]; simpa using hSb
        change Code.wp _ _ _ _ ((wb.setCell ⟨w7.heap.size, 6, none⟩ (.int .u64 (hi m2.high))).setCell ⟨w7.heap.size, 7, none⟩ (.int .u64 (lo m2.high)))
        rw [← hW9]
        have HM9 := Lib.hid hM9
        have HB8 := Lib.hid hB9
        have HK8 := Lib.hid hK9
        clear hM9 hB9 hK9 hW9 m0 m1 mm2 m3 m4 m5 m6 m7 fr6 fr7 HMb HBb HKb hSa hSb hS8
        obtain ⟨vs, hvs⟩ : ∃ vs, vs = keyVars ⟨dn, df', dk⟩ := ⟨_, rfl⟩
        obtain ⟨vm, hvm⟩ : ∃ vm, vm = vs.length := ⟨_, rfl⟩
        have hvm2 : vm ≤ 2 := by rw [hvm, hvs]; exact keyVars_len _
        have KV := Lib.hid (ev_keyVars dn df' dk hds)
        rw [← hvs] at KV
        have HVS := Lib.hid hvs
        have HVM := Lib.hid hvm
        obtain ⟨k0, k1, k2⟩ := cells3_of HK8.out
        have hkl : wr.heap.size < W9.heap.size := (Array.getElem?_eq_some_iff.1 HK8.out).1
        clear hvs hvm
        go_wp2_with fail
        go_at_call 43
        refine (KV.out _).mono ?_
        rintro e wk ⟨Aa, ca, he, hca, hva, hbk⟩
        have he2 : e = .returned (.slice Aa vm ca) := by rw [HVM.out]; exact he
        subst he2
        have hca2 : vm ≤ ca := by rw [HVM.out]; exact hca
        have HVA := Lib.hid hva
        have HBk := Lib.hid (HB8.out.trans (hbk.mono HB8.out.size))
        have HMk := Lib.hid ((hbk.block w7.heap.size hS9).trans HM9.out)
        have HVk := Lib.hid (HV.out.call HBk.out)
        have hkz := HBk.out.size
        have hmbk : w7.heap.size < wk.heap.size := by have := hbk.size; omega
        clear he hca hva hbk KV HB8 HM9 HK8 k0 k1 k2 HV
        go_wp2_with fail
        go_loopw [7, 37] (fun v j w' => ∃ q : Nat, q ≤ vm ∧ j = .int .i64 q ∧ BiAt w (bs ++ (vs.take q).map (fun u => mkB u.1 u.2 (partM m2 u.2))) v w' ∧ Lib.OthersKept 130 none wk w' ∧ wk.heap.size ≤ w'.heap.size) (fun _ j _ => vm - (intOf j).toNat)
        case atStart => exact ⟨0, by omega, rfl, by rw [List.take_zero, List.map_nil, List.append_nil]; exact HVk.out, Lib.OthersKept.refl _ _ _, Nat.le_refl _⟩
        case round =>
          clear HVk
          obtain ⟨q, hq, rfl, hvq, hoq, hsq⟩ := hrel
          obtain ⟨AQ, cQ, rfl⟩ := own_shapeV hvq.own
          obtain ⟨l, hl⟩ : ∃ l, l = bs ++ (vs.take q).map (fun u => mkB u.1 u.2 (partM m2 u.2)) := ⟨_, rfl⟩
          have hll : l.length = bs.length + q := by rw [hl, List.length_append, List.length_map, List.length_take, ← HVM.out, Nat.min_eq_left hq]
          rw [← hl] at hvq ⊢
          have HL := Lib.hid hl
          have HVQ := Lib.hid hvq
          have HOQ := Lib.hid hoq
          have hqz := hvq.below.size
          clear hl hvq hoq
          by_cases hqm : q < vm
          · have hqI : (q : Int) < (vm : Int) := by omega
            have hqc : (q : Int) < (ca : Int) := by omega
            have hq0 : 0 ≤ (q : Int) := by omega
            obtain ⟨u, hu⟩ : ∃ u, vs[q]? = some u := ⟨_, List.getElem?_eq_getElem (by rw [← HVM.out]; exact hqm)⟩
            have hvt := HVA.out.others HOQ.out hsq
            obtain ⟨ga, e1, l2, qq⟩ := hvt.r.r.resolve_left (fun e => by rw [e] at hu; simp at hu)
            obtain ⟨u0, u1⟩ := qq q u hu
            have hmem := List.mem_of_getElem? hu
            rw [HVS.out] at hmem
            obtain ⟨hk1, hk2⟩ := key_attr hmem
            have hnms : u.1.size ≤ maxLen := by rw [hk1]; unfold maxLen; show dn.size ≤ _; omega
            have hats := attr_sz hk2
            obtain ⟨nm, at_⟩ := u
            simp only at u0 u1 hk1 hk2 hnms hats
            subst e1
            obtain ⟨pv, hpv⟩ : ∃ pv, pv = partM m2 at_ := ⟨_, rfl⟩
            have hpl : pv < 340282366920938463463374607431768211456 := by rw [hpv]; exact partM_lt _ _
            obtain ⟨pb, hpb⟩ : ∃ pb, pb = mkB nm at_ pv := ⟨_, rfl⟩
            obtain ⟨p1, p2, p3⟩ := mkB_of hnms hats hpl
            rw [← hpb] at p1 p2 p3
            have hbc : bcell pb = [.string nm, .string at_, .int .u64 (hi pv), .int .u64 (lo pv)] := by unfold bcell; rw [p1, p2, p3]
            have KP : Hid (∀ W, Calls Tryd.prog 45 #[.agg #[.bool m2.present, .int .u64 (hi m2.val), .int .u64 (lo m2.val), .int .u64 (hi m2.mask), .int .u64 (lo m2.mask), .int .i64 m2.pre, .int .u64 (hi m2.high), .int .u64 (lo m2.high)], .string at_] W (RetX (.agg #[.int .u64 (hi pv), .int .u64 (lo pv)]) W)) := Lib.hid fun W => by rw [hpv]; exact ev_partOf m2 at_ hk2 W
            have HSN : Hid (bs ++ (vs.take (q + 1)).map (fun u => mkB u.1 u.2 (partM m2 u.2)) = l ++ [pb]) := Lib.hid (by
              rw [List.take_succ_eq_append_getElem (by rw [← HVM.out]; exact hqm), (List.getElem?_eq_some_iff.1 hu).2, List.map_append, ← List.append_assoc, ← HL.out, hpb, hpv]
              rfl)
            have HBC := Lib.hid hbc
            have HMq := HOQ.out w7.heap.size _ HMk.out (by simp) (fun c fz e => by injection e with _ e _; exact absurd e (by decide))
            obtain ⟨W1, hW1⟩ : ∃ W, W = wr.alloc (.cells #[.string nm, .string at_] 69) := ⟨_, rfl⟩
            have hb1 : Below wr.heap.size wr W1 := by rw [hW1]; exact (Below.refl _ _).alloc (Nat.le_refl _) _
            have HVB : Hid (W1.heap[wr.heap.size]? = some (.cells #[.string nm, .string at_] 69 (0, 0))) := Lib.hid (by rw [hW1]; exact heap_alloc_new _ _)
            have HMB : Hid (W1.heap[w7.heap.size]? = some (.cells #[.bool m2.present, .int .u64 (hi m2.val), .int .u64 (lo m2.val), .int .u64 (hi m2.mask), .int .u64 (lo m2.mask), .int .i64 m2.pre, .int .u64 (hi m2.high), .int .u64 (lo m2.high)] 142 (0, 0))) := Lib.hid ((hb1.block w7.heap.size (Array.getElem?_eq_some_iff.1 HMq).1).trans HMq)
            have HO1 := Lib.hid (others_below HOQ.out hb1)
            have HV1 := Lib.hid (HVQ.out.call hb1)
            have HW1 := Lib.hid hW1
            have hs1 : W1.heap.size = wr.heap.size + 1 := by rw [hW1]; simp
            clear hu hmem hk1 hk2 hnms hats hpv hpl hpb p1 p2 p3 hbc HMq hW1 hb1 HVQ hvt qq
            go_upto_region 11 with fail
            change Code.wp _ _ _ _ (wr.alloc (.cells #[.string nm, .string at_] 69))
            rw [← HW1.out]
            clear u0 u1 HW1
            obtain ⟨vb, hvb⟩ : ∃ x, x = wr.heap.size := ⟨_, rfl⟩
            obtain ⟨mb, hmb⟩ : ∃ x, x = w7.heap.size := ⟨_, rfl⟩
            obtain ⟨S, hS⟩ : ∃ x, x = W1.heap.size := ⟨_, rfl⟩
            obtain ⟨r, hr⟩ : ∃ r, r = Value.slice AQ l.length cQ := ⟨_, rfl⟩
            obtain ⟨nl, hnl⟩ : ∃ x, x = l.length := ⟨_, rfl⟩
            rw [← hvb] at HVB ⊢
            rw [← hmb] at HMB ⊢
            have ho := HV1.out.own
            rw [← hr, ← hnl] at ho
            rw [← hr]
            have HA := Lib.hid ho
            have HBS : Hid (w.heap.size ≤ S) := Lib.hid (by rw [hS]; omega)
            have HRS : Hid (∀ g, r.ownBlock = some g → g < S) := Lib.hid fun g hg => by rw [hS]; exact (ho.lt g hg).2
            have HI : Hid (IB w.heap.size S w W1 W1) := Lib.hid ⟨HV1.out.below, by rw [hS]; exact Nat.le_refl _, Lib.OthersKept.refl _ _ _⟩
            have hnl2 : nl ≤ 300000 := by omega
            have HVBE := Lib.hid hvb
            have HMBE := Lib.hid hmb
            have HSE := Lib.hid hS
            have HNLE := Lib.hid hnl
            clear ho hr hvb hmb hS hnl
            refine wp_region_S sLB (J1 10 9 8 0 r slB (GB w.heap.size S r nl (bcells l) nm at_ m2 pv vb) (IB w.heap.size S w W1) (fun x => x.ownsRow w.heap.size 130 4 r nl (bcells l))) (by kernel_rfl) ?_ ?_ ?_ ?_
            · simp [setS, sLB]
            · exact J1.begun ⟨HI.out.below.drew, HI.out.sz, HI.out.oth⟩ HA.out.drew rfl
            · clear HI HA
              intro listed w1 v i hJ hrd
              obtain ⟨hlt2, hun⟩ := ready_subN hrd
              have hlt3 : i < 10 := hlt2
              clear hlt2
              match i, hlt3 with
              | 0, _ =>
                have em : v 7 = r := hJ.e1 (unl hJ.size (by decide) hun)
                refine wpOp_step rfl (fun K' hK => ?_)
                simp only [setS, sLB, List.setIfInBounds_toArray, List.set_cons_succ, List.set_cons_zero]
                have HH := Lib.hid hK
                rw [em]
                clear hK hrd
                go_simp
                refine HH.out _ _ ⟨updv v (slB 0) r, by simp [setS, sLB, slB, updv, em], hJ.step (by decide) (slB_ne _ · (by decide)) (fun h => h) (fun _ _ _ _ h => h) (fun _ h => h) (fun h => absurd h (by decide)) (by decide) (fun h => absurd h (by decide)) rfl⟩
              | 1, _ =>
                obtain ⟨b0, b1⟩ := cells2_of (hJ.inv.oth vb _ HVB.out (by simp) (fun c fz e => by injection e with _ e _; exact absurd e (by decide)))
                refine wpOp_step rfl (fun K' hK => ?_)
                simp only [setS, sLB, List.setIfInBounds_toArray, List.set_cons_succ, List.set_cons_zero]
                have HH := Lib.hid hK
                clear hK hrd
                go_simp
                refine HH.out _ _ ⟨updv v (slB 1) (.agg #[.string nm, .string at_]), by simp [setS, sLB, slB, updv], hJ.step (by decide) (slB_ne _ · (by decide)) (fun h => h) (fun _ _ _ _ h => h) (fun _ h => h) (fun h => absurd h (by decide)) (by decide) (fun h => absurd h (by decide)) rfl⟩
              | 2, _ =>
                obtain ⟨b0, b1, b2, b3, b4, b5, b6, b7⟩ := cells8_of (hJ.inv.oth mb _ HMB.out (by simp) (fun c fz e => by injection e with _ e _; exact absurd e (by decide)))
                refine wpOp_step rfl (fun K' hK => ?_)
                simp only [setS, sLB, List.setIfInBounds_toArray, List.set_cons_succ, List.set_cons_zero]
                have HH := Lib.hid hK
                clear hK hrd
                go_simp
                refine HH.out _ _ ⟨updv v (slB 2) (.agg #[.bool m2.present, .int .u64 (hi m2.val), .int .u64 (lo m2.val), .int .u64 (hi m2.mask), .int .u64 (lo m2.mask), .int .i64 m2.pre, .int .u64 (hi m2.high), .int .u64 (lo m2.high)]), by simp [setS, sLB, slB, updv], hJ.step (by decide) (slB_ne _ · (by decide)) (fun h => h) (fun _ _ _ _ h => h) (fun _ h => h) (fun h => absurd h (by decide)) (by decide) (fun h => absurd h (by decide)) rfl⟩
              | 3, _ =>
                refine wpOp_step rfl (fun K' hK => ?_)
                simp only [setS, sLB, List.setIfInBounds_toArray, List.set_cons_succ, List.set_cons_zero]
                have HH := Lib.hid hK
                clear hK hrd
                go_simp
                refine HH.out _ _ ⟨updv v (slB 3) (.pointer (some ⟨vb, 1, none⟩)), by simp [setS, sLB, slB, updv], hJ.step (by decide) (slB_ne _ · (by decide)) (fun h => h) (fun _ _ _ _ h => h) (fun _ h => h) (fun h => absurd h (by decide)) (by decide) (fun h => absurd h (by decide)) rfl⟩
              | 4, _ =>
                have e3 : v 44 = .pointer (some ⟨vb, 1, none⟩) := hJ.f 3 (by decide) (ready_depN hrd rfl (e := ⟨3, .data⟩) (by simp) rfl)
                obtain ⟨b0, b1⟩ := cells2_of (hJ.inv.oth vb _ HVB.out (by simp) (fun c fz e => by injection e with _ e _; exact absurd e (by decide)))
                refine wpOp_step rfl (fun K' hK => ?_)
                simp only [setS, sLB, List.setIfInBounds_toArray, List.set_cons_succ, List.set_cons_zero]
                have HH := Lib.hid hK
                rw [e3]
                clear hK hrd
                go_simp
                refine HH.out _ _ ⟨updv v (slB 4) (.string at_), by simp [setS, sLB, slB, updv, e3], hJ.step (by decide) (slB_ne _ · (by decide)) (fun h => h) (fun _ _ _ _ h => h) (fun _ h => h) (fun h => absurd h (by decide)) (by decide) (fun h => absurd h (by decide)) rfl⟩
              | 5, _ =>
                have e2 : v 43 = .agg #[.bool m2.present, .int .u64 (hi m2.val), .int .u64 (lo m2.val), .int .u64 (hi m2.mask), .int .u64 (lo m2.mask), .int .i64 m2.pre, .int .u64 (hi m2.high), .int .u64 (lo m2.high)] := hJ.f 2 (by decide) (ready_depN hrd rfl (e := ⟨2, .data⟩) (by simp) rfl)
                have e4 : v 45 = .string at_ := hJ.f 4 (by decide) (ready_depN hrd rfl (e := ⟨4, .data⟩) (by simp) rfl)
                refine wpOp_step rfl (fun K' hK => ?_)
                simp only [setS, sLB, List.setIfInBounds_toArray, List.set_cons_succ, List.set_cons_zero]
                have HH := Lib.hid hK
                rw [e2, e4]
                clear hK hrd
                go_simp
                go_at_call 45
                refine (KP.out _).mono ?_
                rintro e w2 ⟨rfl, hb2⟩
                go_simp
                refine HH.out _ _ ⟨updv v (slB 5) (.agg #[.int .u64 (hi pv), .int .u64 (lo pv)]), by simp [setS, sLB, slB, updv, e2, e4], hJ.step (by decide) (slB_ne _ · (by decide)) (fun h => h.call HBS.out hb2) (fun j u _ _ h => GB.call hb2 j u h) (fun _ h => own_below2 h hb2) (fun h => absurd h (by decide)) (by decide) (fun h => absurd h (by decide)) rfl⟩
              | 6, _ =>
                have e1 : v 42 = .agg #[.string nm, .string at_] := hJ.f 1 (by decide) (ready_depN hrd rfl (e := ⟨1, .data⟩) (by simp) rfl)
                have e5 : v 46 = .agg #[.int .u64 (hi pv), .int .u64 (lo pv)] := hJ.f 5 (by decide) (ready_depN hrd rfl (e := ⟨5, .data⟩) (by simp) rfl)
                refine wpOp_step rfl (fun K' hK => ?_)
                simp only [setS, sLB, List.setIfInBounds_toArray, List.set_cons_succ, List.set_cons_zero]
                have HH := Lib.hid hK
                rw [e1, e5]
                clear hK hrd
                go_simp
                go_at_call 44
                refine (ev_bind nm at_ _ _ _).mono ?_
                rintro e w2 ⟨rfl, hb2⟩
                go_simp
                refine HH.out _ _ ⟨updv v (slB 6) (.agg #[.string nm, .string at_, .int .u64 (hi pv), .int .u64 (lo pv)]), by simp [setS, sLB, slB, updv, e1, e5], hJ.step (by decide) (slB_ne _ · (by decide)) (fun h => h.call HBS.out hb2) (fun j u _ _ h => GB.call hb2 j u h) (fun _ h => own_below2 h hb2) (fun h => absurd h (by decide)) (by decide) (fun h => absurd h (by decide)) rfl⟩
              | 7, _ =>
                have e6 : v 47 = .agg #[.string nm, .string at_, .int .u64 (hi pv), .int .u64 (lo pv)] := hJ.f 6 (by decide) (ready_depN hrd rfl (e := ⟨6, .data⟩) (by simp) rfl)
                refine wpOp_step rfl (fun K' hK => ?_)
                simp only [setS, sLB, List.setIfInBounds_toArray, List.set_cons_succ, List.set_cons_zero]
                have HH := Lib.hid hK
                rw [e6]
                clear hK hrd
                go_simp
                have hb2 := (Below.refl w1.heap.size w1).alloc (Nat.le_refl _) (.cells #[.string nm, .string at_, .int .u64 (hi pv), .int .u64 (lo pv)] 130)
                refine HH.out _ _ ⟨updv v (slB 7) (.slice (some ⟨w1.heap.size, 0, none⟩) 1 1), by simp [setS, sLB, slB, updv, e6], hJ.step (by decide) (slB_ne _ · (by decide)) (fun h => h.call HBS.out hb2) (fun j u _ _ h => GB.call hb2 j u h) (fun _ h => own_below2 h hb2) (fun h => absurd h (by decide)) (by decide) (fun h => absurd h (by decide)) (TmpB.new 130 [.string nm, .string at_, .int .u64 (hi pv), .int .u64 (lo pv)] w1 hJ.inv.sz)⟩
              | 8, _ =>
                have e0 : v 41 = r := hJ.f 0 (by decide) (ready_depN hrd rfl (e := ⟨0, .data⟩) (by simp) rfl)
                obtain ⟨kk, e1, hkS, hkk⟩ : TmpB S 130 _ w1 (v 48) := hJ.f 7 (by decide) (ready_depN hrd rfl (e := ⟨7, .data⟩) (by simp) rfl)
                have hun2 : listed.getD 8 false = false := unl hJ.size (by decide) hun
                have hown := hJ.a hun2
                refine wpOp_step rfl (fun K' hK => ?_)
                have HH := Lib.hid hK
                clear hK hrd
                refine step_appY rfl (.tmp 41) (.tmp 48) 91 (by rfl) w.heap.size 130 i3 _ 4 48 Tryd.underlying91 HI3.out HZ3.out HY3.out HX3.out rfl (by decide) r nl _ (by simp [setS, sLB, Act.eval, e0]) hown ⟨kk, 0, none⟩ 1 1 [.string nm, .string at_, .int .u64 (hi pv), .int .u64 (lo pv)] (by simp [setS, sLB, Act.eval, e1]) rfl (World.news_of_block hkk) (b4_one _ _ _ _) (by unfold maxLen; omega) (by omega) (Nat.le_trans HBS.out hJ.inv.sz) ?_
                intro y w2 hO hg _
                clear e1
                refine HH.out _ _ ⟨updv v (slB 8) y, by simp [Act.put, setS, sLB, slB, updv], hJ.step (by decide) (slB_ne _ · (by decide)) (fun h => h.grown HBS.out hown hg) (fun j u hj hM h => GB.app HRS.out hg j u hj (Nat.lt_of_not_le fun hh => by have := hM hh; rw [hun2] at this; cases this) h) (fun h => absurd rfl h) (fun h => absurd h (by decide)) (by decide) (fun h => absurd h (by decide)) hO⟩
              | 9, _ =>
                have hx := hJ.f 8 (by decide) (ready_depN hrd rfl (e := ⟨8, .data⟩) (by simp) rfl)
                have d1 := ready_depN hrd rfl (e := ⟨8, .phase⟩) (by simp) rfl
                have d3 := ready_depN hrd rfl (e := ⟨0, .phase⟩) (by simp) rfl
                refine wpOp_step rfl (fun K' hK => ?_)
                simp only [setS, sLB, List.setIfInBounds_toArray, List.set_cons_succ, List.set_cons_zero]
                have HH := Lib.hid hK
                clear hK hrd
                go_simp
                refine HH.out _ _ ⟨updv v (slB 9) (v 49), by simp [setS, sLB, slB, updv], hJ.step (by decide) (slB_ne _ · (by decide)) (fun h => h) (fun _ _ _ _ h => h) (fun _ h => h) (fun _ => d1) (by decide) (fun _ => d3) hx⟩
              | _ + 10, h => exact absurd h (by omega)
            · intro listed w1 v hJ hr
              have hmb := HMBE.out
              subst hmb
              have hall := ready_allN (by kernel_rfl) hJ.size hr
              have ho1 : w1.ownsRow w.heap.size 130 4 (v 7) (nl + 1) (bcells l ++ [.string nm, .string at_, .int .u64 (hi pv), .int .u64 (lo pv)]) := hJ.f 9 (by decide) (hall 9 (by decide))
              have hIn := hJ.inv
              clear hJ hr hall HI HA
              simp only [setS, sLB, List.setIfInBounds_toArray, List.set_cons_succ, List.set_cons_zero]
              generalize v 7 = r2 at ho1 ⊢
              have HO2 := Lib.hid ho1
              have HIN := Lib.hid hIn
              clear ho1 hIn
              go_wp2_with fail
              go_roundw
              case rel =>
                go_light
                refine ⟨q + 1, by omega, by simp, ?_, HO1.out.trans HIN.out.oth, by have := HIN.out.sz; have h9 := HSE.out; omega⟩
                rw [HSN.out]
                refine ⟨HIN.out.below, ?_⟩
                rw [List.length_append, bcells_snoc, HBC.out]
                have := HO2.out
                rw [HNLE.out] at this
                exact this
              case measure => simp [intOf]; omega
          · have hqI : ¬ (q : Int) < (vm : Int) := by omega
            obtain rfl : q = vm := by omega
            go_wp2_with fail
            go_roundw
            case rel =>
              go_light
              refine ⟨k + 1, by omega, by simp, ?_, (others_below HO.out HBk.out).trans HOQ.out, by omega⟩
              have e2 : bindR b ks ms (k + 1) = l := by
                rw [bindR_succ b ks ms k _ HD.out, ← HBSL.out, HL.out, HVM.out, List.take_length, ← HMM.out, HVS.out]
                unfold bindK
                rw [← HM2.out]
              rw [e2]
              exact HVQ.out
            case measure => simp [intOf]; omega
    · have hkI : ¬ (k : Int) < (n : Int) := by omega
      obtain rfl : k = n := by omega
      obtain ⟨t0, t1, t2, t3, t4⟩ := cells5_of (HO.out _ _ HE0.out (by simp) (fun c fz e => by injection e with _ e _; exact absurd e (by decide)))
      obtain ⟨pb, hpb⟩ : ∃ pb, pb = mkB sPrio ⟨#[]⟩ (cntN pr) := ⟨_, rfl⟩
      obtain ⟨p1, p2, p3⟩ := mkB_of (n := sPrio) (a := ⟨#[]⟩) (v := cntN pr) (by unfold maxLen; decide) (Nat.zero_le _) (by have := cnt_lt hpr; omega)
      rw [← hpb] at p1 p2 p3
      have HPB := Lib.hid hpb
      have hbc : bcell pb = [.string sPrio, .string ⟨#[]⟩, .int .u64 (hi (cntN pr)), .int .u64 (lo (cntN pr))] := by unfold bcell; rw [p1, p2, p3]
      have HBC := Lib.hid hbc
      clear hpb p1 p2 p3 hbc
      go_wp2_with fail
      go_at_call 46
      refine (ev_count pr hpr _).mono ?_
      rintro e w9 ⟨rfl, hb9⟩
      have HV9 := Lib.hid (HV.out.call hb9)
      have h9 := HV9.out.below.size
      clear hb9 HV t0 t1 t2 t3 t4
      go_wp2_with (at_builtin; (refine wpList_append_own _ rfl (.tmp 52) (.tmp 57) 91 rfl w.heap.size 130 i3 _ 4 48 Tryd.underlying91 HI3.out HZ3.out HY3.out HX3.out rfl (by decide) _ bs.length _ rfl (World.ownsRow.alloc HV9.out.own _) ⟨w9.heap.size, 0, none⟩ 1 1 [.string sPrio, .string ⟨#[]⟩, .int .u64 (hi (cntN pr)), .int .u64 (lo (cntN pr))] rfl rfl (World.news_of_block (cs := #[.string sPrio, .string ⟨#[]⟩, .int .u64 (hi (cntN pr)), .int .u64 (lo (cntN pr))]) (t := 130) (fr := (0, 0)) (heap_alloc_new w9 _)) (b4_one _ _ _ _) (by unfold maxLen; omega) (by omega) (by simp; omega) ?_; intro v4 w4 hO4 hg4 hi4; clear hi4; obtain ⟨A4, c4, rfl⟩ := own_shapeV hO4; have HO4 := Lib.hid hO4; have HG4 := Lib.hid hg4; clear hO4 hg4))
      go_ret
      have hl : (bindAll b ks ms pr).length = bs.length + 1 := by unfold bindAll; rw [List.length_append, HN.out, ← HBSL.out]; rfl
      have hq : bindAll b ks ms pr = bs ++ [pb] := by unfold bindAll; rw [HN.out, ← HBSL.out, HPB.out]
      refine ⟨A4, c4, by rw [hl]; rfl, by rw [hl]; exact own_le HO4.out, ?_, ?_⟩
      · have := HO4.out
        rw [← HBC.out, ← bcells_snoc] at this
        rw [hq]
        exact biR_own this (by simp)
      · exact (HV9.out.below.alloc h9 _).grown HG4.out (by simp; omega) (fun j e => own_block_ge HV9.out.own e)
end
/- Layer 9: the program's bitsOf. -/
section
open Go.RowKit

structure FldN where
  id : Int
  name : ByteArray
  bits : Int
structure FldR (w : World) (A : Option Addr) (fs : List FldN) : Prop where
  r : fs = [] ∨ ∃ g o, A = some ⟨g, o, none⟩ ∧ g < w.heap.size ∧ ∀ k f, fs[k]? = some f → w.cell? ⟨g, o + k * 3, none⟩ = some (.int .i64 f.id) ∧ w.cell? ⟨g, o + k * 3 + 1, none⟩ = some (.string f.name) ∧ w.cell? ⟨g, o + k * 3 + 2, none⟩ = some (.int .i64 f.bits)
theorem FldR.below {w w' : World} {A : Option Addr} {fs : List FldN} (h : FldR w A fs) (hb : Below w.heap.size w w') : FldR w' A fs := by
  rcases h.r with h | ⟨g, o, h1, h2, h3⟩
  · exact ⟨.inl h⟩
  · refine ⟨.inr ⟨g, o, h1, Nat.lt_of_lt_of_le h2 hb.size, fun k m hm => ?_⟩⟩
    have e : ∀ j, w'.cell? ⟨g, j, none⟩ = w.cell? ⟨g, j, none⟩ := fun j => hb.cell (p := ⟨g, j, none⟩) h2
    simp only [e]
    exact h3 k m hm
def ixF (id : Int) : List FldN → Nat → Int
  | [], _ => -1
  | f :: r, k => if f.id = id then k else ixF id r (k + 1)
def bitsF (fs : List FldN) (id : Int) : Int := match fs with
  | [] => 0
  | f :: r => if f.id = id then f.bits else bitsF r id
theorem ixF_is (id : Int) : ∀ (fs : List FldN) (k : Nat), (ixF id fs k = -1 ∧ bitsF fs id = 0) ∨ ∃ j f, ixF id fs k = ((k + j : Nat) : Int) ∧ fs[j]? = some f ∧ bitsF fs id = f.bits := by
  intro fs
  induction fs with
  | nil => intro k; exact .inl ⟨rfl, rfl⟩
  | cons f r ih =>
    intro k
    unfold ixF bitsF
    by_cases h : f.id = id
    · rw [if_pos h, if_pos h]
      exact .inr ⟨0, f, rfl, rfl, rfl⟩
    · rw [if_neg h, if_neg h]
      rcases ih (k + 1) with ⟨h1, h2⟩ | ⟨j, g, h1, h2, h3⟩
      · exact .inl ⟨h1, h2⟩
      · exact .inr ⟨j + 1, g, by rw [h1]; congr 1; omega, h2, h3⟩
set_option maxRecDepth 100000 in
set_option maxHeartbeats 1000000 in
theorem ev_bits1 (i b : Int) (nm : ByteArray) (P : Nat) (id : Int) (w : World) (hP : w.cell? ⟨P, 0, none⟩ = some (.int .i64 id)) : Calls Tryd.prog 63 #[.agg #[.int .i64 i, .string nm, .int .i64 b], .pointer (some ⟨P, 0, none⟩)] w (RetX (.bool (decide (i = id))) w) := by
  have hPl : P < w.heap.size := World.block_lt_of_cell? w _ hP
  have hP2 : (w.alloc (.cells #[.int .i64 i, .string nm, .int .i64 b] 80)).cell? ⟨P, 0, none⟩ = some (.int .i64 id) := by
    rw [((Below.refl w.heap.size w).alloc (Nat.le_refl _) _).cell (p := ⟨P, 0, none⟩) hPl]; exact hP
  by_cases h : i = id
  · subst h
    rw [decide_eq_true rfl]
    go_enter Tryd.func63, Tryd.ntmps63
    go_wp2
    go_ret
    exact ⟨rfl, (Below.refl _ _).alloc (Nat.le_refl _) _⟩
  · rw [decide_eq_false h]
    go_enter Tryd.func63, Tryd.ntmps63
    go_wp2
    go_ret
    exact ⟨by simp [h], (Below.refl _ _).alloc (Nat.le_refl _) _⟩
set_option maxRecDepth 100000 in
set_option maxHeartbeats 2000000 in
theorem ix_field (w : World) (A : Option Addr) (n c : Nat) (fs : List FldN) (hn : fs.length = n) (hc : n ≤ c) (hn4 : n ≤ 100000) (h : FldR w A fs) (P : Nat) (id : Int) (hP : w.cell? ⟨P, 0, none⟩ = some (.int .i64 id)) :
    Calls Tryd.prog 62 #[.slice A n c, .func (.func 63) #[] #[.pointer (some ⟨P, 0, none⟩)]] w (RetX (.int .i64 (ixF id fs 0)) w) := by
  have HR := Lib.hid h
  have HN := Lib.hid hn
  have HP := Lib.hid hP
  have hPl : P < w.heap.size := World.block_lt_of_cell? w _ hP
  obtain ⟨r, hr⟩ : ∃ r, r = ixF id fs 0 := ⟨_, rfl⟩
  rw [← hr]
  have HRR := Lib.hid hr
  clear h hn hP hr
  go_enter Tryd.func62, Tryd.ntmps62
  go_wp2_with fail
  go_loopw [8] (fun i w' => ∃ k : Nat, k ≤ n ∧ i = .int .i64 k ∧ Below w.heap.size w w' ∧ Hid (r = ixF id (fs.drop k) k)) (fun i _ => n - (intOf i).toNat)
  case atStart => exact ⟨0, by omega, rfl, Below.refl _ _, HRR⟩
  case round =>
    obtain ⟨k, hk, rfl, hb, hxh⟩ := hrel
    have hx := hxh.out
    clear hxh HRR
    have HB := Lib.hid hb
    have hPw : wr.cell? ⟨P, 0, none⟩ = some (.int .i64 id) := (hb.cell (p := ⟨P, 0, none⟩) hPl).trans HP.out
    clear hb
    by_cases hlt : k < n
    · have hkI : (k : Int) < (n : Int) := by omega
      have hkc : (k : Int) < (c : Int) := by omega
      have hk0 : 0 ≤ (k : Int) := by omega
      obtain ⟨d, hd⟩ : ∃ d, fs[k]? = some d := ⟨_, List.getElem?_eq_getElem (by rw [HN.out]; exact hlt)⟩
      obtain ⟨g, oo, e1, l1, q⟩ := (HR.out.below HB.out).r.resolve_left (fun e => by rw [e] at hd; simp at hd)
      obtain ⟨q0, q1, q2⟩ := q k d hd
      have hdr : fs.drop k = d :: fs.drop (k + 1) := by
        rw [List.drop_eq_getElem_cons (by rw [HN.out]; exact hlt), (List.getElem?_eq_some_iff.1 hd).2]
      rw [hdr, ixF] at hx
      obtain ⟨i, nm, b⟩ := d
      simp only at q0 q1 q2 hx
      subst e1
      have KC := Lib.hid (ev_bits1 i b nm P id wr hPw)
      have HX := Lib.hid hx
      clear q hd hdr hx hPw
      go_wp2_with fail
      go_at_call 63
      refine KC.out.mono ?_
      rintro e w1 ⟨rfl, hb1⟩
      have HB1 := Lib.hid (HB.out.trans (hb1.mono HB.out.size))
      clear hb1
      by_cases hi : i = id
      · have hval : r = (k : Int) := by rw [HX.out, if_pos hi]
        rw [decide_eq_true hi]
        subst hval
        clear HX
        go_wp2_with fail
        go_ret
        exact ⟨rfl, HB1.out⟩
      · have hval : r = ixF id (fs.drop (k + 1)) (k + 1) := by rw [HX.out, if_neg hi]
        have HVAL := Lib.hid hval
        clear hval HX
        rw [decide_eq_false hi]
        go_wp2_with fail
        go_roundw
        case rel => (go_light; exact ⟨k + 1, by omega, by simp, HB1.out, HVAL⟩)
        case measure => simp [intOf]; omega
    · have hkI : ¬ (k : Int) < (n : Int) := by omega
      have hval : r = -1 := by rw [hx, List.drop_of_length_le (by rw [HN.out]; omega)]; rfl
      subst hval
      clear hx
      go_wp2_with fail
      go_ret
      exact ⟨rfl, HB.out⟩
set_option maxRecDepth 100000 in
set_option maxHeartbeats 2000000 in
theorem ev_bitsOf (w : World) (A : Option Addr) (n c : Nat) (fs : List FldN) (hn : fs.length = n) (hc : n ≤ c) (hn4 : n ≤ 100000) (h : FldR w A fs) (s1 s2 s3 s4 s5 s6 s7 s8 s9 : Value) (id : Int) :
    Calls Tryd.prog 42 #[.agg #[.slice A n c, s1, s2, s3, s4, s5, s6, s7, s8, s9], .int .i64 id] w (RetX (.int .i64 (bitsF fs id)) w) := by
  obtain ⟨W0, hW0⟩ : ∃ W, W = (w.alloc (.cells #[.slice A n c, s1, s2, s3, s4, s5, s6, s7, s8, s9] 49)).alloc (.cells #[.int .i64 id] 3) := ⟨_, rfl⟩
  have hB0 : Below w.heap.size w W0 := by rw [hW0]; exact ((Below.refl _ _).alloc (Nat.le_refl _) _).alloc (by simp) _
  have hS0 : W0.heap[w.heap.size]? = some (.cells #[.slice A n c, s1, s2, s3, s4, s5, s6, s7, s8, s9] 49 (0, 0)) := by
    rw [hW0]
    exact (((Below.refl _ _).alloc (Nat.le_refl _) _).block w.heap.size (by simp)).trans (heap_alloc_new _ _)
  have hI0 : W0.heap[w.heap.size + 1]? = some (.cells #[.int .i64 id] 3 (0, 0)) := by
    rw [hW0, show w.heap.size + 1 = (w.alloc (.cells #[.slice A n c, s1, s2, s3, s4, s5, s6, s7, s8, s9] 49)).heap.size by simp]
    exact heap_alloc_new _ _
  have hP : W0.cell? ⟨w.heap.size + 1, 0, none⟩ = some (.int .i64 id) := by simp [World.cell?, hI0]
  have KX := Lib.hid (ix_field W0 A n c fs hn hc hn4 (h.below hB0) (w.heap.size + 1) id hP)
  have c0 : W0.cell? ⟨w.heap.size, 0, none⟩ = some (.slice A n c) := (cells10_of hS0).1
  have HB0 := Lib.hid hB0
  have hz0 : W0.heap.size = w.heap.size + 2 := by rw [hW0]; simp
  have HW0 := Lib.hid hW0
  have HR := Lib.hid h
  have HN := Lib.hid hn
  have HS0 := Lib.hid hS0
  obtain ⟨r, hr⟩ : ∃ r, r = bitsF fs id := ⟨_, rfl⟩
  rw [← hr]
  have HRR := Lib.hid hr
  clear hW0 hB0 h hn hI0 hP hS0 hr
  go_enter Tryd.func42, Tryd.ntmps42
  go_upto_region 1 with fail
  change Code.wp _ _ _ _ ((w.alloc (.cells #[.slice A n c, s1, s2, s3, s4, s5, s6, s7, s8, s9] 49)).alloc (.cells #[.int .i64 id] 3))
  rw [← HW0.out]
  clear HW0
  have hmf : ∀ (fn : Fn) (first cap : Array Value) (w : World), (Instr.makeFunc fn first cap).run Tryd.prog w = .ok (.func fn first cap) w := fun _ _ _ _ => rfl
  go_wp2_with fail
  go_at_call 62
  refine KX.out.mono ?_
  rintro e w1 ⟨rfl, hb1⟩
  have HB1 := Lib.hid (HB0.out.trans (hb1.mono HB0.out.size))
  have c0' : w1.cell? ⟨w.heap.size, 0, none⟩ = some (.slice A n c) := (hb1.cell (p := ⟨w.heap.size, 0, none⟩) (by show w.heap.size < _; omega)).trans c0
  clear hb1 KX c0
  rcases ixF_is id fs 0 with ⟨e1, e2⟩ | ⟨j, f, e1, e2, e3⟩
  · rw [e1]
    have hr := HRR.out
    rw [e2] at hr
    subst hr
    clear e1 e2
    go_wp2_with fail
    go_ret
    exact ⟨rfl, HB1.out⟩
  · rw [e1, Nat.zero_add]
    have hr := HRR.out
    rw [e3] at hr
    have hjn : j < n := by have := (List.getElem?_eq_some_iff.1 e2).1; rw [HN.out] at this; exact this
    have hjI : ¬ (j : Int) < 0 := by omega
    have hjI2 : (j : Int) < (n : Int) := by omega
    have hj0 : 0 ≤ (j : Int) := by omega
    obtain ⟨g, oo, e4, l1, q⟩ := (HR.out.below HB1.out).r.resolve_left (fun e => by rw [e] at e2; simp at e2)
    obtain ⟨q0, q1, q2⟩ := q j f e2
    obtain ⟨i, nm, b⟩ := f
    simp only at q0 q1 q2 hr
    subst e4
    subst hr
    clear q e1 e2 e3 q0 q1 HRR
    go_wp2_with fail
    go_ret
    exact ⟨rfl, HB1.out⟩
end
end Go.Proofs.YtodmkmoglchoeaaDoor
