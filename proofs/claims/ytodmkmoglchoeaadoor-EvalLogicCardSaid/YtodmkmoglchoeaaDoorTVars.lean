/- Contracts, joined: TSet, TVars, TVarsO. -/
import Derived.Test.YtodmkmoglchoeaaDoorTPure
import Derived.Maps.OwnSet
import Derived.DeepKeys4
namespace Go.Proofs.YtodmkmoglchoeaaDoor
/- Layer 8: variables in memory; the set of them as a map. -/
section
open Go.RowKit Go.Maps

/-- a row of variables -/
structure VarR (w : World) (A : Option Addr) (vs : List (ByteArray × ByteArray)) : Prop where
  r : vs = [] ∨ ∃ g, A = some ⟨g, 0, none⟩ ∧ g < w.heap.size ∧ ∀ k v, vs[k]? = some v → w.cell? ⟨g, k * 2, none⟩ = some (.string v.1) ∧ w.cell? ⟨g, k * 2 + 1, none⟩ = some (.string v.2)
theorem VarR.below {w w' : World} {A : Option Addr} {vs : List (ByteArray × ByteArray)} (h : VarR w A vs) (hb : Below w.heap.size w w') : VarR w' A vs := by
  rcases h.r with h | ⟨g, h1, h2, h3⟩
  · exact ⟨.inl h⟩
  · exact ⟨.inr ⟨g, h1, Nat.lt_of_lt_of_le h2 hb.size, fun k v hv => by rw [hb.cell (p := ⟨g, _, none⟩) h2, hb.cell (p := ⟨g, _, none⟩) h2]; exact h3 k v hv⟩⟩
/-- texts that a map may have in its keys -/
def VarS (vs : List (ByteArray × ByteArray)) : Prop := ∀ v ∈ vs, v.1.size ≤ 100000 ∧ v.2.size ≤ 100000
set_option maxRecDepth 100000 in
theorem laidOutT : laidOutB Tryd.prog = true := by kernel_rfl
set_option maxRecDepth 100000 in
theorem lawVar : Keyed Tryd.prog 69 := Keyed.of_law (deep_law_laid laidOutT (m := 2) (by omega) (of_decide_eq_true (by kernel_rfl)) (by kernel_rfl) (by kernel_rfl))
set_option maxRecDepth 100000 in
theorem keyVar (a c : ByteArray) (ha : a.size ≤ maxLen) (hc : c.size ≤ maxLen) : ∃ l, keyOf Tryd.prog 69 (.agg #[.string a, .string c]) = some l := by
  have hk : Tryd.prog.keyType 69 = true := by kernel_rfl
  have h2 : Tryd.prog.cellsOf 69 = 2 := by kernel_rfl
  have h1 : Tryd.prog.cellsOf 9 = 1 := by kernel_rfl
  obtain ⟨m, hm⟩ : ∃ m, Tryd.prog.types.size = m + 1 := ⟨Tryd.prog.types.size - 1, by have : 0 < Tryd.prog.types.size := of_decide_eq_true (by kernel_rfl); omega⟩
  unfold keyOf
  rw [Tryd.underlying69]
  simp only [hk, hm, Bool.true_and]
  simp [Value.formed, Value.cells, Tryd.underlying69, h2, Program.keyLits, h1, Tryd.underlying9, ha, hc, List.mapM_cons]
set_option maxRecDepth 100000 in
theorem zeroBool (w : World) : (zeroValue 4).run Tryd.prog w = .ok (.bool false) w := by kernel_rfl
theorem plainBool_inv {v : Value} {z : DataW Unit × List MemPlace} (h : plainElem Tryd.prog 4 v = some z) : ∃ b, v = .bool b ∧ z = (.lit (.bool b), []) := by
  unfold plainElem at h
  cases v <;> simp [Tryd.underlying4] at h
  exact ⟨_, rfl, h.symm⟩
/-- a map that holds true at just these variables -/
def SetAt (w : World) (b n : Nat) (vs : List (ByteArray × ByteArray)) : Prop := ∃ D : DataW Unit, w.ownsMap Tryd.prog 69 (plainElem Tryd.prog 4) b n D ∧ IsMap D ∧ ∀ a c l, keyOf Tryd.prog 69 (.agg #[.string a, .string c]) = some l → D.atKey l (.lit (.bool false)) = .lit (.bool (vin vs a c))
theorem SetAt.below {w w' : World} {b n : Nat} {vs : List (ByteArray × ByteArray)} (h : SetAt w b n vs) (hb : Below w.heap.size w w') : SetAt w' b n vs := by
  obtain ⟨D, h1, h2⟩ := h
  exact ⟨D, h1.kept (grown_of_below2 hb none) (by simp), h2⟩
set_option maxRecDepth 100000 in
theorem SetAt.lookup {w : World} {b n : Nat} {vs : List (ByteArray × ByteArray)} (h : SetAt w b n vs) (a c : ByteArray) (ha : a.size ≤ maxLen) (hc : c.size ≤ maxLen) : (Instr.lookup 162 (.map (some b)) (.agg #[.string a, .string c]) false).run Tryd.prog w = .ok (.bool (vin vs a c)) w := by
  obtain ⟨D, h1, _, h3⟩ := h
  obtain ⟨l, hl⟩ := keyVar a c ha hc
  obtain ⟨v, ps, hrun, hv⟩ := h1.lookup lawVar Tryd.underlying162 (zeroBool w) (plainElem_bool Tryd.underlying4 false) hl
  obtain ⟨x, rfl, hx⟩ := plainBool_inv hv
  rw [h3 a c l hl] at hx
  simp only [Prod.mk.injEq, DataW.lit.injEq, Lit.bool.injEq] at hx
  rw [hx.1, hrun]
theorem SetAt.made (w : World) : SetAt (w.alloc (.map #[] 0)) w.heap.size 0 [] :=
  ⟨.map [], World.ownsMap_made _ _ _ _, isMap_empty, fun a c l _ => by simp [DataW.atKey, vin]⟩
set_option maxRecDepth 100000 in
theorem SetAt.put {w : World} {b n : Nat} {vs : List (ByteArray × ByteArray)} (h : SetAt w b n vs) (a c : ByteArray) (ha : a.size ≤ maxLen) (hc : c.size ≤ maxLen) (hn : n < maxLen) : ∃ w', (Instr.mapUpdate 162 (.map (some b)) (.agg #[.string a, .string c]) (.bool true)).run Tryd.prog w = .ok () w' ∧ SetAt w' b (n + 1) (vs ++ [(a, c)]) ∧ w.grownBy w' (some b) := by
  obtain ⟨D, h1, h2, h3⟩ := h
  obtain ⟨l, hl⟩ := keyVar a c ha hc
  obtain ⟨w', hrun, h4, h5⟩ := h1.update lawVar Tryd.underlying162 hn hl (plainElem_bool Tryd.underlying4 true)
  refine ⟨w', hrun, ⟨_, h4, h2.put _ _, fun a' c' l' hl' => ?_⟩, h5⟩
  by_cases e : l' = l
  · subst e
    have e2 := lawVar.inj hl hl'
    injection e2 with e2
    have e3 : a = a' ∧ c = c' := by simpa using e2
    obtain ⟨rfl, rfl⟩ := e3
    rw [atKey_put_same h2 (lawVar.key hl)]
    simp [vin]
  · rw [atKey_put_other e, h3 a' c' l' hl']
    have : ¬ (a = a' ∧ c = c') := fun e2 => e (by
      obtain ⟨rfl, rfl⟩ := e2
      rw [hl] at hl'
      exact (Option.some.inj hl').symm)
    have h6 : (decide (a = a') && decide (c = c')) = false := by
      cases hh : (decide (a = a') && decide (c = c'))
      · rfl
      · rw [Bool.and_eq_true, decide_eq_true_iff, decide_eq_true_iff] at hh; exact absurd hh this
    unfold vin
    rw [List.any_append]
    simp [h6]
end
/- Layer 8: the program's TableVars. -/
section
open Go.RowKit Go.Maps

structure KeyN where
  name : ByteArray
  field : Int
  kind : Int
def sValue : ByteArray := ⟨#[118, 97, 108, 117, 101]⟩
def sPrefix : ByteArray := ⟨#[112, 114, 101, 102, 105, 120, 95, 108, 101, 110, 103, 116, 104]⟩
def sMask : ByteArray := ⟨#[109, 97, 115, 107]⟩
def sLow : ByteArray := ⟨#[108, 111, 119]⟩
def sHigh : ByteArray := ⟨#[104, 105, 103, 104]⟩
def sPrio : ByteArray := ⟨#[112, 114, 105, 111, 114, 105, 116, 121]⟩
/-- the attributes of a kind -/
def attrsK (k : Int) : List ByteArray := if k = 1 then [⟨#[]⟩, sValue] else if k = 2 then [sValue, sPrefix] else if k = 3 then [sValue, sMask] else if k = 4 then [sLow, sHigh] else []
def keyVars (k : KeyN) : List (ByteArray × ByteArray) := (attrsK k.kind).map fun a => (k.name, a)
def tvars (ks : List KeyN) : List (ByteArray × ByteArray) := ks.flatMap keyVars ++ [(sPrio, ⟨#[]⟩)]
def RetAt (k : Int) (w : World) (e : Ending) (w' : World) : Prop := (∃ a b, attrsK k = [a, b] ∧ e = .returned (.slice (some ⟨w.heap.size, 0, none⟩) 2 2) ∧ w' = w.alloc (.cells #[.string a, .string b] 9)) ∨ (attrsK k = [] ∧ e = .returned (.slice none 0 0) ∧ w' = w)
set_option maxRecDepth 100000 in
set_option maxHeartbeats 1000000 in
theorem ty_attrs (k : Int) (w : World) : Calls Tryd.prog 18 #[.int .i64 k] w (RetAt k w) := by
  by_cases h1 : k = 1
  · subst h1
    go_enter Tryd.func18, Tryd.ntmps18
    go_wp2
    go_ret
    exact .inl ⟨_, _, rfl, rfl, rfl⟩
  · by_cases h2 : k = 2
    · subst h2
      go_enter Tryd.func18, Tryd.ntmps18
      go_wp2
      go_ret
      exact .inl ⟨_, _, rfl, rfl, rfl⟩
    · by_cases h3 : k = 3
      · subst h3
        go_enter Tryd.func18, Tryd.ntmps18
        go_wp2
        go_ret
        exact .inl ⟨_, _, rfl, rfl, rfl⟩
      · by_cases h4 : k = 4
        · subst h4
          go_enter Tryd.func18, Tryd.ntmps18
          go_wp2
          go_ret
          exact .inl ⟨_, _, rfl, rfl, rfl⟩
        · have e : attrsK k = [] := by unfold attrsK; rw [if_neg h1, if_neg h2, if_neg h3, if_neg h4]
          have HE := Lib.hid e
          have q1 : (k == 1) = false := by rw [beq_eq_false_iff_ne]; exact h1
          have q2 : (k == 2) = false := by rw [beq_eq_false_iff_ne]; exact h2
          have q3 : (k == 3) = false := by rw [beq_eq_false_iff_ne]; exact h3
          have q4 : (k == 4) = false := by rw [beq_eq_false_iff_ne]; exact h4
          clear e
          go_enter Tryd.func18, Tryd.ntmps18
          go_wp2
          go_ret
          exact .inr ⟨HE.out, rfl, rfl⟩
def vcell (v : ByteArray × ByteArray) : List Value := [.string v.1, .string v.2]
def vcells (l : List (ByteArray × ByteArray)) : List Value := l.flatMap vcell
theorem vcells_snoc (l : List (ByteArray × ByteArray)) (v : ByteArray × ByteArray) : vcells (l ++ [v]) = vcells l ++ vcell v := by simp [vcells]
theorem vcells_len (l : List (ByteArray × ByteArray)) : (vcells l).length = l.length * 2 := by
  induction l with
  | nil => rfl
  | cons t r ih =>
    show (vcell t ++ vcells r).length = _
    rw [List.length_append, ih, List.length_cons]
    show 2 + _ = _
    omega
theorem vcells_at (l : List (ByteArray × ByteArray)) : ∀ (k j : Nat) (hk : k < l.length), j < 2 → (vcells l)[k * 2 + j]? = (vcell (l[k]'hk))[j]? := by
  induction l with
  | nil => intro k j hk; simp at hk
  | cons t r ih =>
    intro k j hk hj
    show (vcell t ++ vcells r)[k * 2 + j]? = _
    cases k with
    | zero =>
      rw [Nat.zero_mul, Nat.zero_add, List.getElem?_append_left (by show j < 2; exact hj)]
      rfl
    | succ k =>
      rw [List.getElem?_append_right (by show 2 ≤ _; omega)]
      have := ih k j (by simp at hk; omega) hj
      rw [show (k + 1) * 2 + j - (vcell t).length = k * 2 + j by show _ - 2 = _; omega, this]
      rfl
theorem vcell_one (v : ByteArray × ByteArray) : ∀ u ∈ vcell v, u.oneCell' = true := by
  intro u hu
  simp only [vcell, List.mem_cons, List.not_mem_nil, or_false] at hu
  rcases hu with rfl | rfl <;> rfl
theorem varR_own {w : World} {B e : Nat} {A : Option Addr} {cap n : Nat} {l : List (ByteArray × ByteArray)} (h : w.ownsRow B e 2 (.slice A n cap) n (vcells l)) (hn : l.length = n) : VarR w A l := by
  by_cases h0 : l = []
  · exact ⟨.inl h0⟩
  · have hp : 0 < n := by rw [← hn]; exact List.length_pos_iff.2 h0
    obtain ⟨g, c, hv, hge, hl⟩ := h.form hp
    injection hv with e1 e2 e3
    subst e1
    refine ⟨.inr ⟨g, rfl, hl, fun k v hv => ?_⟩⟩
    obtain ⟨hk, rfl⟩ := List.getElem?_eq_some_iff.1 hv
    have hz := vcells_len l
    have h1 := vcells_at l k 0 hk (by decide)
    rw [Nat.add_zero] at h1
    exact ⟨by rw [h.cellAt (k * 2) (by omega), h1]; rfl, by rw [h.cellAt (k * 2 + 1) (by omega), vcells_at l k 1 hk (by decide)]; rfl⟩
theorem own_shapeV {w : World} {B e sz n : Nat} {v : Value} {l : List Value} (h : w.ownsRow B e sz v n l) : ∃ A cap, v = .slice A n cap := by
  rcases h.2 with ⟨rfl, rfl⟩ | ⟨g, cap, cur, rfl, _⟩
  · exact ⟨_, _, rfl⟩
  · exact ⟨_, _, rfl⟩
/-- variables that are being collected -/
structure VrAt (w : World) (vs : List (ByteArray × ByteArray)) (v : Value) (w' : World) : Prop where
  below : Below w.heap.size w w'
  own : w'.ownsRow w.heap.size 69 2 v vs.length (vcells vs)
theorem VrAt.call {w w1 w2 : World} {vs : List (ByteArray × ByteArray)} {v : Value} (h : VrAt w vs v w1) (hb : Below w1.heap.size w1 w2) : VrAt w vs v w2 :=
  ⟨h.below.trans (hb.mono h.below.size), own_below2 h.own hb⟩
theorem VrAt.app {w W W2 : World} {vs : List (ByteArray × ByteArray)} {x : ByteArray × ByteArray} {v v' : Value} (h : VrAt w vs v W) (o : Obj) (hO : W2.ownsRow w.heap.size 69 2 v' (vs.length + 1) (vcells vs ++ vcell x)) (hg : (W.alloc o).grownBy W2 v.ownBlock) : VrAt w (vs ++ [x]) v' W2 := by
  refine ⟨(h.below.alloc h.below.size o).grown hg (Nat.le_trans h.below.size (by simp)) (fun k hk => own_block_ge h.own hk), ?_⟩
  rw [List.length_append, vcells_snoc]
  exact hO
theorem VrAt.other {w W W2 : World} {vs : List (ByteArray × ByteArray)} {v : Value} (h : VrAt w vs v W) (o : Obj) (hg : (W.alloc o).grownBy W2 v.ownBlock) {k : Nat} {cs : Array Value} {T : TypeId} {fr : Nat × Nat} (hk : W.heap[k]? = some (.cells cs T fr)) (hT : T ≠ 69) : W2.heap[k]? = some (.cells cs T fr) := by
  have hlt : k < W.heap.size := (Array.getElem?_eq_some_iff.1 hk).1
  have h1 : (W.alloc o).heap[k]? = some (.cells cs T fr) := by
    rw [← hk]
    exact ((Below.refl W.heap.size W).alloc (Nat.le_refl _) o).block k hlt
  rw [← h1]
  refine hg.block k (by simp; omega) (fun e => ?_)
  obtain ⟨c, fz, hb⟩ := own_kindY h.own k e.symm
  rw [hk] at hb
  injection hb with hb
  injection hb with _ e2 _
  exact hT e2
structure KeyR (w : World) (A : Option Addr) (ks : List KeyN) : Prop where
  r : ks = [] ∨ ∃ g o, A = some ⟨g, o, none⟩ ∧ g < w.heap.size ∧ ∀ k v, ks[k]? = some v → w.cell? ⟨g, o + k * 3, none⟩ = some (.string v.name) ∧ w.cell? ⟨g, o + k * 3 + 1, none⟩ = some (.int .i64 v.field) ∧ w.cell? ⟨g, o + k * 3 + 2, none⟩ = some (.int .i64 v.kind)
theorem KeyR.below {w w' : World} {A : Option Addr} {ks : List KeyN} (h : KeyR w A ks) (hb : Below w.heap.size w w') : KeyR w' A ks := by
  rcases h.r with h | ⟨g, o, h1, h2, h3⟩
  · exact ⟨.inl h⟩
  · exact ⟨.inr ⟨g, o, h1, Nat.lt_of_lt_of_le h2 hb.size, fun k v hv => by rw [hb.cell (p := ⟨g, _, none⟩) h2, hb.cell (p := ⟨g, _, none⟩) h2, hb.cell (p := ⟨g, _, none⟩) h2]; exact h3 k v hv⟩⟩
def RetVs (vs : List (ByteArray × ByteArray)) (w : World) (e : Ending) (w' : World) : Prop := ∃ A c, e = .returned (.slice A vs.length c) ∧ vs.length ≤ c ∧ VarR w' A vs ∧ Below w.heap.size w w'
theorem cell_of_heap {w : World} {k : Nat} {cs : Array Value} {T : TypeId} {fr : Nat × Nat} (h : w.heap[k]? = some (.cells cs T fr)) (i : Nat) : w.cell? ⟨k, i, none⟩ = cs[i]? := by
  simp [World.cell?, h]
set_option maxRecDepth 100000 in
theorem info_varT : ∃ i, Tryd.prog.info? 69 = some i ∧ i.zero = some (.agg #[.string ⟨#[]⟩, .string ⟨#[]⟩]) ∧ i.size = 2 ∧ i.bytes = 32 := by
  have h : (Tryd.prog.info? 69).map (fun i => (i.zero, i.size, i.bytes)) = some (some (.agg #[.string ⟨#[]⟩, .string ⟨#[]⟩]), 2, 32) := by kernel_rfl
  cases hi : Tryd.prog.info? 69 with
  | none => rw [hi] at h; cases h
  | some i =>
    rw [hi] at h
    simp only [Option.map_some, Option.some.injEq, Prod.mk.injEq] at h
    exact ⟨i, rfl, h.1, h.2.1, h.2.2⟩
def AtS (w : World) (A : Option Addr) (l : List ByteArray) : Prop := ∀ (q : Nat) (a : ByteArray), l[q]? = some a → ∃ (g : Nat) (cs : Array Value), A = some ⟨g, 0, none⟩ ∧ w.heap[g]? = some (.cells cs 9 (0, 0)) ∧ cs[q]? = some (.string a)
def RetAS (k : Int) (w : World) (e : Ending) (w' : World) : Prop := ∃ A m, m = (attrsK k).length ∧ e = .returned (.slice A m m) ∧ AtS w' A (attrsK k) ∧ Below w.heap.size w w'
theorem ty_attrsS (k : Int) (w : World) : Calls Tryd.prog 18 #[.int .i64 k] w (RetAS k w) := by
  refine (ty_attrs k w).mono ?_
  rintro e w1 (⟨a, b, h, rfl, rfl⟩ | ⟨h, rfl, rfl⟩)
  · refine ⟨_, 2, by rw [h]; rfl, rfl, fun q x hx => ⟨_, _, rfl, heap_alloc_new w _, ?_⟩, (Below.refl _ _).alloc (Nat.le_refl _) _⟩
    rw [h] at hx
    rcases q with _ | _ | q
    · injection hx with hx; subst hx; rfl
    · injection hx with hx; subst hx; rfl
    · simp at hx
  · exact ⟨none, 0, by rw [h]; rfl, rfl, fun q x hx => (by rw [h] at hx; simp at hx), Below.refl _ _⟩
theorem AtS.other {w W W2 : World} {vs : List (ByteArray × ByteArray)} {v : Value} {A : Option Addr} {l : List ByteArray} (ha : AtS W A l) (h : VrAt w vs v W) (o : Obj) (hg : (W.alloc o).grownBy W2 v.ownBlock) : AtS W2 A l := fun q a hq => by
  obtain ⟨g, cs, h1, h2, h3⟩ := ha q a hq
  exact ⟨g, cs, h1, h.other o hg h2 (by decide), h3⟩
theorem AtS.below {w w' : World} {A : Option Addr} {l : List ByteArray} (ha : AtS w A l) (hb : Below w.heap.size w w') : AtS w' A l := fun q a hq => by
  obtain ⟨g, cs, h1, h2, h3⟩ := ha q a hq
  exact ⟨g, cs, h1, (hb.block g (Array.getElem?_eq_some_iff.1 h2).1).trans h2, h3⟩
theorem keyVars_len (k : KeyN) : (keyVars k).length ≤ 2 := by
  unfold keyVars attrsK
  rw [List.length_map]
  repeat (first | split | (show _ ≤ 2; simp))
theorem flat_len (ks : List KeyN) : (ks.flatMap keyVars).length ≤ ks.length * 2 := by
  induction ks with
  | nil => simp
  | cons k r ih =>
    have := keyVars_len k
    rw [List.flatMap_cons, List.length_append, List.length_cons]
    omega
set_option maxRecDepth 100000 in
set_option maxHeartbeats 8000000 in
theorem ty_TableVars (w : World) (id df sz : Int) (nm rs : ByteArray) (A : Option Addr) (n c : Nat) (va ar : Value) (ks : List KeyN) (hn : ks.length = n) (hc : n ≤ c) (hn4 : n ≤ 100000) (h : KeyR w A ks) (hs : ∀ k ∈ ks, k.name.size ≤ 100000) :
    Calls Tryd.prog 7 #[.agg #[.int .i64 id, .string nm, .slice A n c, va, .int .i64 df, ar, .int .i64 sz, .string rs]] w (RetVs (tvars ks) w) := by
  have HR := Lib.hid h
  have HN := Lib.hid hn
  have HS := Lib.hid hs
  obtain ⟨i0, hi0, hz0, hy1, hy2⟩ := info_varT
  have HI := Lib.hid hi0
  have HZ := Lib.hid hz0
  have HY1 := Lib.hid hy1
  have HY2 := Lib.hid hy2
  clear h hn hs hi0 hz0 hy1 hy2
  go_enter Tryd.func7, Tryd.ntmps7
  go_wp2_with fail
  have HB0 : Hid (VrAt w [] (.slice none 0 0) (w.alloc (.cells #[.int .i64 id, .string nm, .slice A n c, va, .int .i64 df, ar, .int .i64 sz, .string rs] 26))) := Lib.hid ⟨(Below.refl _ _).alloc (Nat.le_refl _) _, World.ownsRow_nil _ _ _ _⟩
  go_loopw [3, 11] (fun v i w' => ∃ k : Nat, k ≤ n ∧ i = .int .i64 k ∧ VrAt w ((ks.take k).flatMap keyVars) v w') (fun _ i _ => n - (intOf i).toNat)
  case atStart => exact ⟨0, by omega, rfl, by rw [List.take_zero]; exact HB0.out⟩
  case round =>
    clear HB0
    obtain ⟨k, hk, rfl, hv⟩ := hrel
    obtain ⟨w6, hw6⟩ : ∃ x, x = wr := ⟨wr, rfl⟩
    subst hw6
    obtain ⟨A3, c3, rfl⟩ := own_shapeV hv.own
    have HV := Lib.hid hv
    have hsz := hv.below.size
    obtain ⟨bs, hbs⟩ : ∃ bs, bs = (ks.take k).flatMap keyVars := ⟨_, rfl⟩
    rw [← hbs] at HV
    have hbl : bs.length ≤ 200000 := by rw [hbs]; have := flat_len (ks.take k); rw [List.length_take] at this; omega
    rw [← hbs]
    have HBS := Lib.hid hbs
    clear hv hbs
    by_cases hlt : k < n
    · have hkI : (k : Int) < (n : Int) := by omega
      have hkc : (k : Int) < (c : Int) := by omega
      have hk0 : 0 ≤ (k : Int) := by omega
      obtain ⟨d, hd⟩ : ∃ d, ks[k]? = some d := ⟨_, List.getElem?_eq_getElem (by rw [HN.out]; exact hlt)⟩
      obtain ⟨g, oo, e1, l1, q⟩ := (HR.out.below HV.out.below).r.resolve_left (fun e => by rw [e] at hd; simp at hd)
      obtain ⟨q0, q1, q2⟩ := q k d hd
      have hds := HS.out d (List.mem_of_getElem? hd)
      have HD := Lib.hid hd
      obtain ⟨dn, df', dk⟩ := d
      simp only at q0 q1 q2 hds
      subst e1
      clear q hd
      have hVA := HV.out.call ((Below.refl w6.heap.size w6).alloc (Nat.le_refl _) (.cells #[.string dn, .int .i64 df', .int .i64 dk] 66))
      have hkb : (w6.alloc (.cells #[.string dn, .int .i64 df', .int .i64 dk] 66)).heap[w6.heap.size]? = some (.cells #[.string dn, .int .i64 df', .int .i64 dk] 66) := heap_alloc_new w6 _
      have HVA := Lib.hid hVA
      have HKB := Lib.hid hkb
      clear hVA hkb
      go_wp2_with fail
      go_at_call 18
      refine (ty_attrsS dk _).mono ?_
      rintro e w7 ⟨Aa, m, hm, rfl, ha, hb7⟩
      have hm2 : m ≤ 2 := by have := keyVars_len ⟨dn, df', dk⟩; unfold keyVars at this; rw [List.length_map] at this; change (attrsK dk).length ≤ 2 at this; omega
      have HMM := Lib.hid hm
      have HA7 := Lib.hid ha
      have HV7 : Hid (VrAt w (bs ++ ((attrsK dk).take 0).map (fun a => (dn, a))) (.slice A3 bs.length c3) w7) := Lib.hid (by rw [List.take_zero, List.map_nil, List.append_nil]; exact HVA.out.call hb7)
      have HK7 : Hid (w7.heap[w6.heap.size]? = some (.cells #[.string dn, .int .i64 df', .int .i64 dk] 66)) := Lib.hid ((hb7.block w6.heap.size (by simp)).trans HKB.out)
      clear hm ha hb7 HVA HKB
      go_wp2_with fail
      go_loopw [3, 19] (fun v j w' => ∃ q : Nat, q ≤ m ∧ j = .int .i64 q ∧ VrAt w (bs ++ ((attrsK dk).take q).map (fun a => (dn, a))) v w' ∧ Hid (w'.heap[w6.heap.size]? = some (.cells #[.string dn, .int .i64 df', .int .i64 dk] 66)) ∧ AtS w' Aa (attrsK dk)) (fun _ j _ => m - (intOf j).toNat)
      case atStart => exact ⟨0, by omega, rfl, HV7.out, HK7, HA7.out⟩
      case round =>
        clear HV7 HK7 HA7
        obtain ⟨q, hq, rfl, hv8, HK8, ha8⟩ := hrel
        have hl8 : (bs ++ ((attrsK dk).take q).map (fun a => (dn, a))).length = bs.length + q := by
          rw [List.length_append, List.length_map, List.length_take, ← HMM.out, Nat.min_eq_left hq]
        obtain ⟨A8, c8, rfl⟩ := own_shapeV hv8.own
        rw [hl8] at hv8 ⊢
        have HV8 := Lib.hid hv8
        have HA8 := Lib.hid ha8
        have HL8 := Lib.hid hl8
        have h8 := hv8.below.size
        clear hv8 ha8 hl8
        by_cases hqm : q < m
        · have hqI : (q : Int) < (m : Int) := by omega
          have hq0 : 0 ≤ (q : Int) := by omega
          obtain ⟨a, haq⟩ : ∃ a, (attrsK dk)[q]? = some a := ⟨_, List.getElem?_eq_getElem (by rw [← HMM.out]; exact hqm)⟩
          obtain ⟨ga, cs, e1, hga, hcs⟩ := HA8.out q a haq
          have hca : wr.cell? ⟨ga, q, none⟩ = some (.string a) := by rw [cell_of_heap hga, hcs]
          have hcn : wr.cell? ⟨w6.heap.size, 0, none⟩ = some (.string dn) := by rw [cell_of_heap HK8.out]; rfl
          have HAQ := Lib.hid haq
          subst e1
          clear hga hcs haq
          go_wp2_with fail
          go_at_call 19
          refine (st_clone dn (by omega) _).mono ?_
          rintro e w9 ⟨rfl, hb9⟩
          have HV9 := Lib.hid (HV8.out.call hb9)
          have HK9 : Hid (w9.heap[w6.heap.size]? = some (.cells #[.string dn, .int .i64 df', .int .i64 dk] 66)) := Lib.hid ((hb9.block w6.heap.size (Array.getElem?_eq_some_iff.1 HK8.out).1).trans HK8.out)
          have HA9 := Lib.hid (HA8.out.below hb9)
          have h9 := HV9.out.below.size
          clear hb9 HK8 HV8 HA8
          go_wp2_with (at_builtin; (refine wpList_append_own _ rfl (.tmp 23) (.tmp 29) 33 rfl w.heap.size 69 i0 _ 2 32 Tryd.underlying33 HI.out HZ.out HY1.out HY2.out rfl (by decide) _ (bs.length + q) _ rfl (World.ownsRow.alloc (HL8.out ▸ HV9.out.own) _) ⟨w9.heap.size, 0, none⟩ 1 1 (vcell (dn, a)) rfl rfl (World.news_of_block (cs := (vcell (dn, a)).toArray) (t := 69) (fr := (0, 0)) (heap_alloc_new w9 _)) (vcell_one _) (by unfold maxLen; omega) (by omega) (by simp; omega) ?_; intro v4 w4 hO4 hg4 hi4; clear hi4; have HO4 := Lib.hid hO4; have HG4 := Lib.hid hg4; clear hO4 hg4))
          go_roundw
          case rel =>
            go_light
            refine ⟨q + 1, by omega, by simp, ?_, Lib.hid (HV9.out.other _ HG4.out HK9.out (by decide)), HA9.out.other HV9.out _ HG4.out⟩
            have e2 : bs ++ ((attrsK dk).take (q + 1)).map (fun a => (dn, a)) = (bs ++ ((attrsK dk).take q).map (fun a => (dn, a))) ++ [(dn, a)] := by
              rw [List.take_succ_eq_append_getElem (by rw [← HMM.out]; exact hqm), (List.getElem?_eq_some_iff.1 HAQ.out).2, List.map_append, List.append_assoc]; rfl
            rw [e2]
            exact HV9.out.app _ (by rw [HL8.out]; exact HO4.out) HG4.out
          case measure => simp [intOf]; omega
        · have hqI : ¬ (q : Int) < (m : Int) := by omega
          obtain rfl : q = m := by omega
          go_wp2_with fail
          go_roundw
          case rel =>
            go_light
            refine ⟨k + 1, by omega, by simp, ?_⟩
            have e2 : (ks.take (k + 1)).flatMap keyVars = bs ++ ((attrsK dk).take q).map (fun a => (dn, a)) := by
              rw [List.take_succ_eq_append_getElem (by rw [HN.out]; exact hlt), (List.getElem?_eq_some_iff.1 HD.out).2, List.flatMap_append, ← HBS.out, HMM.out, List.take_length]; simp [keyVars]
            rw [e2]
            exact HV8.out
          case measure => simp [intOf]; omega
    · have hkI : ¬ (k : Int) < (n : Int) := by omega
      have hbs : bs = ks.flatMap keyVars := by rw [HBS.out, List.take_of_length_le (by rw [HN.out]; omega)]
      have HBB := Lib.hid hbs
      clear hbs
      go_wp2_with (at_builtin; (refine wpList_append_own _ rfl (.tmp 33) (.tmp 35) 33 rfl w.heap.size 69 i0 _ 2 32 Tryd.underlying33 HI.out HZ.out HY1.out HY2.out rfl (by decide) _ bs.length _ rfl (World.ownsRow.alloc HV.out.own _) ⟨w6.heap.size, 0, none⟩ 1 1 (vcell (sPrio, ⟨#[]⟩)) rfl rfl (World.news_of_block (cs := (vcell (sPrio, ⟨#[]⟩)).toArray) (t := 69) (fr := (0, 0)) (heap_alloc_new w6 _)) (vcell_one _) (by unfold maxLen; omega) (by omega) (by simp; omega) ?_; intro v4 w4 hO4 hg4 hi4; clear hi4; have HO4 := Lib.hid hO4; have HG4 := Lib.hid hg4; clear hO4 hg4))
      have hfin := HV.out.app _ HO4.out HG4.out
      obtain ⟨A4, c4, rfl⟩ := own_shapeV HO4.out
      have hl : (tvars ks).length = bs.length + 1 := by unfold tvars; rw [List.length_append, ← HBB.out]; rfl
      have HF := Lib.hid hfin
      have HLL := Lib.hid hl
      clear hfin hl
      go_ret
      refine ⟨A4, c4, by rw [HLL.out]; rfl, by rw [HLL.out]; exact own_le HO4.out, ?_, HF.out.below⟩
      have := HF.out.own
      have e3 : tvars ks = bs ++ [(sPrio, ⟨#[]⟩)] := by unfold tvars; rw [← HBB.out]
      rw [e3]
      exact varR_own (n := bs.length + 1) (by rw [List.length_append] at this; exact this) (by simp)
end
/- Layer 8: the program's TableVars, its row's type told. -/
section
open Go.RowKit Go.Maps

theorem own_kindY2 {w : World} {B e sz n : Nat} {v : Value} {l : List Value} (h : w.ownsRow B e sz v n l) : ∀ g, v.ownBlock = some g → ∃ c fz, w.heap[g]? = some (.cells c e fz) := by
  intro g hg
  rcases h.2 with ⟨rfl, _⟩ | ⟨g', cap, cur, rfl, _, hgg, _⟩
  · simp [Value.ownBlock] at hg
  · simp [Value.ownBlock] at hg
    subst hg
    exact ⟨_, _, hgg⟩
/-- a row of variables whose block's type is known -/
structure VarT (w : World) (A : Option Addr) (vs : List (ByteArray × ByteArray)) : Prop where
  r : VarR w A vs
  t : ∀ g o, A = some ⟨g, o, none⟩ → ∃ cs fr, w.heap[g]? = some (.cells cs 69 fr)
def RetVsO (vs : List (ByteArray × ByteArray)) (w : World) (e : Ending) (w' : World) : Prop := ∃ A c, e = .returned (.slice A vs.length c) ∧ vs.length ≤ c ∧ VarT w' A vs ∧ Below w.heap.size w w'
set_option maxRecDepth 100000 in
set_option maxHeartbeats 8000000 in
theorem ty_TableVarsO (w : World) (id df sz : Int) (nm rs : ByteArray) (A : Option Addr) (n c : Nat) (va ar : Value) (ks : List KeyN) (hn : ks.length = n) (hc : n ≤ c) (hn4 : n ≤ 100000) (h : KeyR w A ks) (hs : ∀ k ∈ ks, k.name.size ≤ 100000) :
    Calls Tryd.prog 7 #[.agg #[.int .i64 id, .string nm, .slice A n c, va, .int .i64 df, ar, .int .i64 sz, .string rs]] w (RetVsO (tvars ks) w) := by
  have HR := Lib.hid h
  have HN := Lib.hid hn
  have HS := Lib.hid hs
  obtain ⟨i0, hi0, hz0, hy1, hy2⟩ := info_varT
  have HI := Lib.hid hi0
  have HZ := Lib.hid hz0
  have HY1 := Lib.hid hy1
  have HY2 := Lib.hid hy2
  clear h hn hs hi0 hz0 hy1 hy2
  go_enter Tryd.func7, Tryd.ntmps7
  go_wp2_with fail
  have HB0 : Hid (VrAt w [] (.slice none 0 0) (w.alloc (.cells #[.int .i64 id, .string nm, .slice A n c, va, .int .i64 df, ar, .int .i64 sz, .string rs] 26))) := Lib.hid ⟨(Below.refl _ _).alloc (Nat.le_refl _) _, World.ownsRow_nil _ _ _ _⟩
  go_loopw [3, 11] (fun v i w' => ∃ k : Nat, k ≤ n ∧ i = .int .i64 k ∧ VrAt w ((ks.take k).flatMap keyVars) v w') (fun _ i _ => n - (intOf i).toNat)
  case atStart => exact ⟨0, by omega, rfl, by rw [List.take_zero]; exact HB0.out⟩
  case round =>
    clear HB0
    obtain ⟨k, hk, rfl, hv⟩ := hrel
    obtain ⟨w6, hw6⟩ : ∃ x, x = wr := ⟨wr, rfl⟩
    subst hw6
    obtain ⟨A3, c3, rfl⟩ := own_shapeV hv.own
    have HV := Lib.hid hv
    have hsz := hv.below.size
    obtain ⟨bs, hbs⟩ : ∃ bs, bs = (ks.take k).flatMap keyVars := ⟨_, rfl⟩
    rw [← hbs] at HV
    have hbl : bs.length ≤ 200000 := by rw [hbs]; have := flat_len (ks.take k); rw [List.length_take] at this; omega
    rw [← hbs]
    have HBS := Lib.hid hbs
    clear hv hbs
    by_cases hlt : k < n
    · have hkI : (k : Int) < (n : Int) := by omega
      have hkc : (k : Int) < (c : Int) := by omega
      have hk0 : 0 ≤ (k : Int) := by omega
      obtain ⟨d, hd⟩ : ∃ d, ks[k]? = some d := ⟨_, List.getElem?_eq_getElem (by rw [HN.out]; exact hlt)⟩
      obtain ⟨g, oo, e1, l1, q⟩ := (HR.out.below HV.out.below).r.resolve_left (fun e => by rw [e] at hd; simp at hd)
      obtain ⟨q0, q1, q2⟩ := q k d hd
      have hds := HS.out d (List.mem_of_getElem? hd)
      have HD := Lib.hid hd
      obtain ⟨dn, df', dk⟩ := d
      simp only at q0 q1 q2 hds
      subst e1
      clear q hd
      have hVA := HV.out.call ((Below.refl w6.heap.size w6).alloc (Nat.le_refl _) (.cells #[.string dn, .int .i64 df', .int .i64 dk] 66))
      have hkb : (w6.alloc (.cells #[.string dn, .int .i64 df', .int .i64 dk] 66)).heap[w6.heap.size]? = some (.cells #[.string dn, .int .i64 df', .int .i64 dk] 66) := heap_alloc_new w6 _
      have HVA := Lib.hid hVA
      have HKB := Lib.hid hkb
      clear hVA hkb
      go_wp2_with fail
      go_at_call 18
      refine (ty_attrsS dk _).mono ?_
      rintro e w7 ⟨Aa, m, hm, rfl, ha, hb7⟩
      have hm2 : m ≤ 2 := by have := keyVars_len ⟨dn, df', dk⟩; unfold keyVars at this; rw [List.length_map] at this; change (attrsK dk).length ≤ 2 at this; omega
      have HMM := Lib.hid hm
      have HA7 := Lib.hid ha
      have HV7 : Hid (VrAt w (bs ++ ((attrsK dk).take 0).map (fun a => (dn, a))) (.slice A3 bs.length c3) w7) := Lib.hid (by rw [List.take_zero, List.map_nil, List.append_nil]; exact HVA.out.call hb7)
      have HK7 : Hid (w7.heap[w6.heap.size]? = some (.cells #[.string dn, .int .i64 df', .int .i64 dk] 66)) := Lib.hid ((hb7.block w6.heap.size (by simp)).trans HKB.out)
      clear hm ha hb7 HVA HKB
      go_wp2_with fail
      go_loopw [3, 19] (fun v j w' => ∃ q : Nat, q ≤ m ∧ j = .int .i64 q ∧ VrAt w (bs ++ ((attrsK dk).take q).map (fun a => (dn, a))) v w' ∧ Hid (w'.heap[w6.heap.size]? = some (.cells #[.string dn, .int .i64 df', .int .i64 dk] 66)) ∧ AtS w' Aa (attrsK dk)) (fun _ j _ => m - (intOf j).toNat)
      case atStart => exact ⟨0, by omega, rfl, HV7.out, HK7, HA7.out⟩
      case round =>
        clear HV7 HK7 HA7
        obtain ⟨q, hq, rfl, hv8, HK8, ha8⟩ := hrel
        have hl8 : (bs ++ ((attrsK dk).take q).map (fun a => (dn, a))).length = bs.length + q := by
          rw [List.length_append, List.length_map, List.length_take, ← HMM.out, Nat.min_eq_left hq]
        obtain ⟨A8, c8, rfl⟩ := own_shapeV hv8.own
        rw [hl8] at hv8 ⊢
        have HV8 := Lib.hid hv8
        have HA8 := Lib.hid ha8
        have HL8 := Lib.hid hl8
        have h8 := hv8.below.size
        clear hv8 ha8 hl8
        by_cases hqm : q < m
        · have hqI : (q : Int) < (m : Int) := by omega
          have hq0 : 0 ≤ (q : Int) := by omega
          obtain ⟨a, haq⟩ : ∃ a, (attrsK dk)[q]? = some a := ⟨_, List.getElem?_eq_getElem (by rw [← HMM.out]; exact hqm)⟩
          obtain ⟨ga, cs, e1, hga, hcs⟩ := HA8.out q a haq
          have hca : wr.cell? ⟨ga, q, none⟩ = some (.string a) := by rw [cell_of_heap hga, hcs]
          have hcn : wr.cell? ⟨w6.heap.size, 0, none⟩ = some (.string dn) := by rw [cell_of_heap HK8.out]; rfl
          have HAQ := Lib.hid haq
          subst e1
          clear hga hcs haq
          go_wp2_with fail
          go_at_call 19
          refine (st_clone dn (by omega) _).mono ?_
          rintro e w9 ⟨rfl, hb9⟩
          have HV9 := Lib.hid (HV8.out.call hb9)
          have HK9 : Hid (w9.heap[w6.heap.size]? = some (.cells #[.string dn, .int .i64 df', .int .i64 dk] 66)) := Lib.hid ((hb9.block w6.heap.size (Array.getElem?_eq_some_iff.1 HK8.out).1).trans HK8.out)
          have HA9 := Lib.hid (HA8.out.below hb9)
          have h9 := HV9.out.below.size
          clear hb9 HK8 HV8 HA8
          go_wp2_with (at_builtin; (refine wpList_append_own _ rfl (.tmp 23) (.tmp 29) 33 rfl w.heap.size 69 i0 _ 2 32 Tryd.underlying33 HI.out HZ.out HY1.out HY2.out rfl (by decide) _ (bs.length + q) _ rfl (World.ownsRow.alloc (HL8.out ▸ HV9.out.own) _) ⟨w9.heap.size, 0, none⟩ 1 1 (vcell (dn, a)) rfl rfl (World.news_of_block (cs := (vcell (dn, a)).toArray) (t := 69) (fr := (0, 0)) (heap_alloc_new w9 _)) (vcell_one _) (by unfold maxLen; omega) (by omega) (by simp; omega) ?_; intro v4 w4 hO4 hg4 hi4; clear hi4; have HO4 := Lib.hid hO4; have HG4 := Lib.hid hg4; clear hO4 hg4))
          go_roundw
          case rel =>
            go_light
            refine ⟨q + 1, by omega, by simp, ?_, Lib.hid (HV9.out.other _ HG4.out HK9.out (by decide)), HA9.out.other HV9.out _ HG4.out⟩
            have e2 : bs ++ ((attrsK dk).take (q + 1)).map (fun a => (dn, a)) = (bs ++ ((attrsK dk).take q).map (fun a => (dn, a))) ++ [(dn, a)] := by
              rw [List.take_succ_eq_append_getElem (by rw [← HMM.out]; exact hqm), (List.getElem?_eq_some_iff.1 HAQ.out).2, List.map_append, List.append_assoc]; rfl
            rw [e2]
            exact HV9.out.app _ (by rw [HL8.out]; exact HO4.out) HG4.out
          case measure => simp [intOf]; omega
        · have hqI : ¬ (q : Int) < (m : Int) := by omega
          obtain rfl : q = m := by omega
          go_wp2_with fail
          go_roundw
          case rel =>
            go_light
            refine ⟨k + 1, by omega, by simp, ?_⟩
            have e2 : (ks.take (k + 1)).flatMap keyVars = bs ++ ((attrsK dk).take q).map (fun a => (dn, a)) := by
              rw [List.take_succ_eq_append_getElem (by rw [HN.out]; exact hlt), (List.getElem?_eq_some_iff.1 HD.out).2, List.flatMap_append, ← HBS.out, HMM.out, List.take_length]; simp [keyVars]
            rw [e2]
            exact HV8.out
          case measure => simp [intOf]; omega
    · have hkI : ¬ (k : Int) < (n : Int) := by omega
      have hbs : bs = ks.flatMap keyVars := by rw [HBS.out, List.take_of_length_le (by rw [HN.out]; omega)]
      have HBB := Lib.hid hbs
      clear hbs
      go_wp2_with (at_builtin; (refine wpList_append_own _ rfl (.tmp 33) (.tmp 35) 33 rfl w.heap.size 69 i0 _ 2 32 Tryd.underlying33 HI.out HZ.out HY1.out HY2.out rfl (by decide) _ bs.length _ rfl (World.ownsRow.alloc HV.out.own _) ⟨w6.heap.size, 0, none⟩ 1 1 (vcell (sPrio, ⟨#[]⟩)) rfl rfl (World.news_of_block (cs := (vcell (sPrio, ⟨#[]⟩)).toArray) (t := 69) (fr := (0, 0)) (heap_alloc_new w6 _)) (vcell_one _) (by unfold maxLen; omega) (by omega) (by simp; omega) ?_; intro v4 w4 hO4 hg4 hi4; clear hi4; have HO4 := Lib.hid hO4; have HG4 := Lib.hid hg4; clear hO4 hg4))
      have hfin := HV.out.app _ HO4.out HG4.out
      obtain ⟨A4, c4, rfl⟩ := own_shapeV HO4.out
      have hl : (tvars ks).length = bs.length + 1 := by unfold tvars; rw [List.length_append, ← HBB.out]; rfl
      have HF := Lib.hid hfin
      have HLL := Lib.hid hl
      clear hfin hl
      go_ret
      refine ⟨A4, c4, by rw [HLL.out]; rfl, by rw [HLL.out]; exact own_le HO4.out, ⟨?_, ?_⟩, HF.out.below⟩
      · have := HF.out.own
        have e3 : tvars ks = bs ++ [(sPrio, ⟨#[]⟩)] := by unfold tvars; rw [← HBB.out]
        rw [e3]
        exact varR_own (n := bs.length + 1) (by rw [List.length_append] at this; exact this) (by simp)
      · intro g o hA
        obtain ⟨g2, c2, hv2, _⟩ := HO4.out.form (by omega)
        injection hv2 with hv2
        rw [hv2] at hA
        injection hA with hA
        injection hA with hA
        subst hA
        exact own_kindY2 HO4.out g2 (by rw [hv2]; rfl)
end
end Go.Proofs.YtodmkmoglchoeaaDoor
