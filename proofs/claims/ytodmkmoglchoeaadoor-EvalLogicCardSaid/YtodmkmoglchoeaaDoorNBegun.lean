/- Contracts, joined: NInv, NSum, NBegun. -/
import Derived.Test.YtodmkmoglchoeaaDoorNRText
import Derived.Deep.CutRange
import Derived.Deep.DeepCutAuto
namespace Go.Proofs.YtodmkmoglchoeaaDoor
/- A region of ten operations that draws its order, eight slots: two loads, a call and a call, twice; two stores. By an invariant. -/
section
open Go.RowKit

/-- How many operations have not yet come up. -/
def leftN (ops : Array Oper) (listed : Array Bool) : Nat := ((List.range ops.size).filter fun i => !listed.getD i true).length
theorem ready_subN {md : Region.Mode} {ops : Array Oper} {listed : Array Bool} {i : Nat} (h : i ∈ Region.ready md ops listed) : i < ops.size ∧ listed.getD i true = false := by
  unfold Region.ready at h
  obtain ⟨h1, h2⟩ := List.mem_filter.1 h
  rw [Bool.and_eq_true] at h2
  exact ⟨List.mem_range.1 h1, by simpa using h2.1⟩
theorem getD_setN {listed : Array Bool} {i j : Nat} {d : Bool} (hl : i < listed.size) : (listed.setIfInBounds i true).getD j d = if i = j then true else listed.getD j d := by
  rw [Array.getD_eq_getD_getElem?, Array.getD_eq_getD_getElem?, Array.getElem?_setIfInBounds]
  by_cases h : i = j
  · subst h; simp [hl]
  · simp [h]
theorem leftN_set {ops : Array Oper} {listed : Array Bool} {i : Nat} (hi : i < ops.size) (hl : listed.getD i true = false) : leftN ops (listed.setIfInBounds i true) < leftN ops listed := by
  unfold leftN
  have hlt : i < listed.size := by
    rcases Nat.lt_or_ge i listed.size with h | h
    · exact h
    · rw [Array.getD_eq_getD_getElem?, Array.getElem?_eq_none h] at hl; cases hl
  have key : ∀ (L : List Nat), (L.filter fun j => !(listed.setIfInBounds i true).getD j true).length ≤ (L.filter fun j => !listed.getD j true).length ∧ (i ∈ L → (L.filter fun j => !(listed.setIfInBounds i true).getD j true).length < (L.filter fun j => !listed.getD j true).length) := by
    intro L
    induction L with
    | nil => simp
    | cons x M ih =>
      rw [List.filter_cons, List.filter_cons, getD_setN hlt]
      by_cases hxi : i = x
      · subst hxi
        rw [if_pos rfl, hl]
        simp only [Bool.not_true, Bool.false_eq_true, if_false, Bool.not_false, if_true, List.length_cons]
        exact ⟨by omega, fun _ => by omega⟩
      · rw [if_neg hxi]
        cases hx : listed.getD x true with
        | true =>
          simp only [Bool.not_true, Bool.false_eq_true, if_false]
          exact ⟨ih.1, fun h => ih.2 (by rcases List.mem_cons.1 h with e | e; exact absurd e hxi; exact e)⟩
        | false =>
          simp only [Bool.not_false, if_true, List.length_cons]
          exact ⟨by omega, fun h => by have := ih.2 (by rcases List.mem_cons.1 h with e | e; exact absurd e hxi; exact e); omega⟩
  exact (key _).2 (List.mem_range.2 hi)
/-- the act with eight slots from base on -/
def setv (a : Act) (base : Nat) (v : Nat → Value) : Act :=
  { a with tmps := (((((((a.tmps.setIfInBounds base (v 0)).setIfInBounds (base + 1) (v 1)).setIfInBounds (base + 2) (v 2)).setIfInBounds (base + 3) (v 3)).setIfInBounds (base + 4) (v 4)).setIfInBounds (base + 5) (v 5)).setIfInBounds (base + 6) (v 6)).setIfInBounds (base + 7) (v 7) }
def updv (v : Nat → Value) (i : Nat) (x : Value) : Nat → Value := fun j => if j = i then x else v j
section
variable {P : Program} {ops : Array Oper} {Q : Exit → Act → World → Prop} {md : Region.Mode} {a0 : Act} {base : Nat}
theorem wpAny_slots (J : Array Bool → World → (Nat → Value) → Prop)
    (hstep : ∀ listed w v i, J listed w v → i ∈ Region.ready md ops listed → wpOp P ops Q i (fun a' w' => ∃ v', a' = setv a0 base v' ∧ J (listed.setIfInBounds i true) w' v') (setv a0 base v) w)
    (hend : ∀ listed w v, J listed w v → Region.ready md ops listed = [] → Q .normal (setv a0 base v) w) :
    ∀ (fuel : Nat) (listed : Array Bool) (v : Nat → Value) (w : World), leftN ops listed ≤ fuel → J listed w v → wpAny P md ops Q fuel listed (setv a0 base v) w
  | 0, listed, v, w, hf, hI => by
    have hr : Region.ready md ops listed = [] := by
      cases e : Region.ready md ops listed with
      | nil => rfl
      | cons i rs =>
        obtain ⟨h1, h2⟩ := ready_subN (md := md) (ops := ops) (listed := listed) (i := i) (by rw [e]; exact List.mem_cons_self ..)
        have := leftN_set h1 h2
        omega
    exact ⟨hr, hend listed w v hI hr⟩
  | fuel + 1, listed, v, w, hf, hI => by
    refine ⟨fun hr => hend listed w v hI hr, fun i hi => ?_⟩
    obtain ⟨h1, h2⟩ := ready_subN hi
    have hlt := leftN_set h1 h2
    refine wpOp_mono (fun a' w' h' => ?_) (hstep listed w v i hI hi)
    obtain ⟨v', rfl, hJ⟩ := h'
    exact wpAny_slots J hstep hend fuel _ v' w' (by omega) hJ
theorem wp_region_slots {id : Nat} {W : World} (J : Array Bool → World → (Nat → Value) → Prop) (hm : P.follows .mixedOrders = true)
    (ha : a0 = setv a0 base (fun i => a0.tmps[base + i]?.getD undef))
    (h0 : J (Array.replicate ops.size false) W.drew (fun i => a0.tmps[base + i]?.getD undef))
    (hstep : ∀ listed w v i, J listed w v → i ∈ Region.ready .any ops listed → wpOp P ops Q i (fun a' w' => ∃ v', a' = setv a0 base v' ∧ J (listed.setIfInBounds i true) w' v') (setv a0 base v) w)
    (hend : ∀ listed w v, J listed w v → Region.ready .any ops listed = [] → Q .normal (setv a0 base v) w) : (Code.region id ops true).wp P Q a0 W := by
  refine wp_region_any hm ?_
  have h := wpAny_slots (a0 := a0) (base := base) J hstep hend ops.size (Array.replicate ops.size false) _ W.drew (Nat.le_trans (List.length_filter_le _ _) (by simp)) h0
  rw [← ha] at h
  exact h
end
theorem ready_depN {md : Region.Mode} {ops : Array Oper} {listed : Array Bool} {i : Nat} {o : Oper} (h : i ∈ Region.ready md ops listed) (ho : ops[i]? = some o) {e : Edge} (he : e ∈ o.after) (hb : Region.binds md e = true) : listed.getD e.on false = true := by
  unfold Region.ready at h
  have h2 := (List.mem_filter.1 h).2
  rw [Bool.and_eq_true, ho] at h2
  have h3 := h2.2
  simp only [Option.map_some, Option.getD_some, Array.all_eq_true'] at h3
  have := h3 e he
  simpa [hb] using this
theorem ready_allN {md : Region.Mode} {ops : Array Oper} {listed : Array Bool} (hchk : (List.range ops.size).all (fun i => ((ops[i]?).map fun o => o.after.all fun e => decide (e.on < i)).getD true) = true)
    (hls : listed.size = ops.size) (hr : Region.ready md ops listed = []) : ∀ i, i < ops.size → listed.getD i false = true := by
  intro i
  induction i using Nat.strongRecOn with
  | ind i ih =>
    intro hi
    cases hl : listed.getD i true with
    | true =>
      rw [Array.getD_eq_getD_getElem?] at hl ⊢
      rw [Array.getElem?_eq_getElem (by omega)] at hl ⊢
      exact hl
    | false =>
      exfalso
      have hmem : i ∈ Region.ready md ops listed := by
        unfold Region.ready
        refine List.mem_filter.2 ⟨List.mem_range.2 hi, ?_⟩
        rw [Bool.and_eq_true]
        refine ⟨by rw [hl]; rfl, ?_⟩
        rw [Array.getElem?_eq_getElem hi]
        simp only [Option.map_some, Option.getD_some, Array.all_eq_true']
        intro e he
        have h1 := List.all_eq_true.1 hchk i (List.mem_range.2 hi)
        rw [Array.getElem?_eq_getElem hi] at h1
        simp only [Option.map_some, Option.getD_some, Array.all_eq_true', decide_eq_true_eq] at h1
        have h2 := h1 e he
        rw [ih e.on h2 (by omega)]
        simp
      rw [hr] at hmem
      cases hmem
end
/- The law's own sum of values with signs, by the program and by the reference. -/
section
open Go.RowKit

/-- The slice holds the values f. -/
def ValsB (w : World) (A : Option Addr) (n : Nat) (f : Nat → Nat) : Prop := n = 0 ∨ ∃ b o, A = some ⟨b, o, none⟩ ∧ b < w.heap.size ∧ ∀ i, i < n → w.cell? ⟨b, o + i * 2, none⟩ = some (.int .u64 (hi (f i))) ∧ w.cell? ⟨b, o + i * 2 + 1, none⟩ = some (.int .u64 (lo (f i)))
/-- The slice holds the truth values g. -/
def BoolsB (w : World) (A : Option Addr) (n : Nat) (g : Nat → Bool) : Prop := n = 0 ∨ ∃ b o, A = some ⟨b, o, none⟩ ∧ b < w.heap.size ∧ ∀ i, i < n → w.cell? ⟨b, o + i, none⟩ = some (.bool (g i))
theorem ValsB.below {w w' : World} {A : Option Addr} {n : Nat} {f : Nat → Nat} (h : ValsB w A n f) (hb : Below w.heap.size w w') : ValsB w' A n f := by
  rcases h with h | ⟨b, o, h1, h2, h3⟩
  · exact .inl h
  · exact .inr ⟨b, o, h1, Nat.lt_of_lt_of_le h2 hb.size, fun i hi => ⟨by rw [hb.cell (p := ⟨b, _, none⟩) h2]; exact (h3 i hi).1, by rw [hb.cell (p := ⟨b, _, none⟩) h2]; exact (h3 i hi).2⟩⟩
theorem BoolsB.below {w w' : World} {A : Option Addr} {n : Nat} {g : Nat → Bool} (h : BoolsB w A n g) (hb : Below w.heap.size w w') : BoolsB w' A n g := by
  rcases h with h | ⟨b, o, h1, h2, h3⟩
  · exact .inl h
  · exact .inr ⟨b, o, h1, Nat.lt_of_lt_of_le h2 hb.size, fun i hi => by rw [hb.cell (p := ⟨b, _, none⟩) h2]; exact h3 i hi⟩
/-- the sum of the first k values, with signs -/
def sm (f : Nat → Nat) (g : Nat → Bool) (m : Nat) : Nat → Int
  | 0 => 0
  | k + 1 => if k < m ∧ g k = true then sm f g m k - (f k : Int) else sm f g m k + (f k : Int)
theorem sm_b (f : Nat → Nat) (g : Nat → Bool) (m : Nat) (hf : ∀ i, f i < 2 ^ 128) (k : Nat) : -((k : Int) * 2 ^ 128) ≤ sm f g m k ∧ sm f g m k ≤ (k : Int) * 2 ^ 128 := by
  induction k with
  | zero => simp [sm]
  | succ k ih =>
    have := hf k
    unfold sm
    have e : ((k + 1 : Nat) : Int) * 2 ^ 128 = (k : Int) * 2 ^ 128 + 2 ^ 128 := by omega
    rw [e]
    split <;> omega
/-- sum's end -/
def RetSum (z : Int) (w : World) (e : Ending) (w' : World) : Prop := ∃ s A n c, e = .returned (.tuple #[.agg #[.int .u32 (wd z 0), .int .u32 (wd z 1), .int .u32 (wd z 2), .int .u32 (wd z 3), .int .u32 (wd z 4), .int .u32 (wd z 5)], .agg #[.bool s, .slice A n c]]) ∧ IntS w' s A n c z ∧ Below w.heap.size w w'
/-- sum's state -/
structure SmAt (w : World) (P R : Nat) (z : Int) (w' : World) : Prop where
  below : Below w.heap.size w w'
  np : w.heap.size + 2 ≤ P
  pr : P < R
  r6 : RowAt w' w.heap.size 6 fun _ => .int .u32 0
  res : ResAt w w' (w.heap.size + 1)
  num : RowAt w' P 6 (wV z)
  box : ∃ s A n c, BoxI w' R s A n c z
/-- what a region of sum needs of memory: the number of zn, the Int of zi, the value x -/
structure SmB (w : World) (P V x : Nat) (zn : Int) (s : Bool) (A : Option Addr) (n c : Nat) (zi : Int) (w' : World) : Prop where
  below : Below w.heap.size w w'
  np : w.heap.size + 2 ≤ P
  pv : P + 1 < V
  lt : V < w'.heap.size
  r6 : RowAt w' w.heap.size 6 fun _ => .int .u32 0
  res : ResAt w w' (w.heap.size + 1)
  num : RowAt w' P 6 (wV zn)
  box : BoxI w' (P + 1) s A n c zi
  v0 : w'.cell? ⟨V, 0, none⟩ = some (.int .u64 (hi x))
  v1 : w'.cell? ⟨V, 1, none⟩ = some (.int .u64 (lo x))
theorem SmB.call {w w1 w2 : World} {P V x : Nat} {zn zi : Int} {s : Bool} {A : Option Addr} {n c : Nat} (h : SmB w P V x zn s A n c zi w1) (hb : Below w1.heap.size w1 w2) : SmB w P V x zn s A n c zi w2 := by
  have hl := h.lt
  have hp := h.np
  have hv := h.pv
  exact ⟨h.below.trans (hb.mono h.below.size), h.np, h.pv, Nat.lt_of_lt_of_le h.lt hb.size, h.r6.below hb (by omega), h.res.call hb, h.num.below hb (by omega), h.box.call hb, by rw [hb.cell (p := ⟨V, 0, none⟩) h.lt]; exact h.v0, by rw [hb.cell (p := ⟨V, 1, none⟩) h.lt]; exact h.v1⟩
theorem DigA.store6 {w : World} {A : Option Addr} {D : List Nat} (h : DigA w A D) {b : Nat} {z : Int} (hr : RowAt w b 6 (wV z)) (v0 v1 v2 v3 v4 v5 : Value) : DigA ((((((w.setCell ⟨b, 0, none⟩ v0).setCell ⟨b, 1, none⟩ v1).setCell ⟨b, 2, none⟩ v2).setCell ⟨b, 3, none⟩ v3).setCell ⟨b, 4, none⟩ v4).setCell ⟨b, 5, none⟩ v5) A D := by
  by_cases h0 : D = []
  · exact .inl h0
  · have hp : 0 < D.length := by cases D with
      | nil => exact absurd rfl h0
      | cons _ _ => simp
    obtain ⟨g, hg, _, hc⟩ := h.at 0 hp
    have hne : ∀ ad, A = some ad → ad.block ≠ b := fun ad e e2 => by
      rw [hg] at e; injection e with e; subst e; simp only at e2; subst e2
      rw [hr.cell 0 (by decide)] at hc; injection hc with hc; injection hc with hc; cases hc
    exact (((((h.set hne 0 _).set hne 1 _).set hne 2 _).set hne 3 _).set hne 4 _).set hne 5 _
theorem IntS.store6 {w : World} {s : Bool} {A : Option Addr} {n c : Nat} {zi : Int} (h : IntS w s A n c zi) {b : Nat} {z : Int} (hr : RowAt w b 6 (wV z)) (v0 v1 v2 v3 v4 v5 : Value) : IntS ((((((w.setCell ⟨b, 0, none⟩ v0).setCell ⟨b, 1, none⟩ v1).setCell ⟨b, 2, none⟩ v2).setCell ⟨b, 3, none⟩ v3).setCell ⟨b, 4, none⟩ v4).setCell ⟨b, 5, none⟩ v5) s A n c zi :=
  ⟨h.1, h.2.1, h.2.2.1, h.2.2.2.1, h.2.2.2.2.store6 hr _ _ _ _ _ _⟩
/-- what each of the eight slots holds, once its operation has come up -/
def SmF (x : Nat) (z z' : Int) (s : Bool) (A : Option Addr) (n c : Nat) (i : Nat) (w : World) (u : Value) : Prop :=
  match i with
  | 0 => u = .agg #[.int .u32 (wd z 0), .int .u32 (wd z 1), .int .u32 (wd z 2), .int .u32 (wd z 3), .int .u32 (wd z 4), .int .u32 (wd z 5)]
  | 1 => u = .agg #[.int .u64 (hi x), .int .u64 (lo x)]
  | 2 => u = .agg #[.int .u32 (wd x 0), .int .u32 (wd x 1), .int .u32 (wd x 2), .int .u32 (wd x 3), .int .u32 (wd x 4), .int .u32 (wd x 5)]
  | 3 => u = .agg #[.int .u32 (wd z' 0), .int .u32 (wd z' 1), .int .u32 (wd z' 2), .int .u32 (wd z' 3), .int .u32 (wd z' 4), .int .u32 (wd z' 5)]
  | 4 => u = .agg #[.bool s, .slice A n c]
  | 5 => u = .agg #[.int .u64 (hi x), .int .u64 (lo x)]
  | 6 => ∃ s' A' n' c', u = .agg #[.bool s', .slice A' n' c'] ∧ IntS w s' A' n' c' x
  | 7 => ∃ s' A' n' c', u = .agg #[.bool s', .slice A' n' c'] ∧ IntS w s' A' n' c' z'
  | _ => True
theorem SmF.kept {x : Nat} {z z' : Int} {s : Bool} {A : Option Addr} {n c i : Nat} {w w' : World} {u : Value} (h : SmF x z z' s A n c i w u) (hb : Below w.heap.size w w') : SmF x z z' s A n c i w' u := by
  unfold SmF at h ⊢
  split at h
  · exact h
  · exact h
  · exact h
  · exact h
  · exact h
  · exact h
  · obtain ⟨s', A', n', c', h1, h2⟩ := h; exact ⟨s', A', n', c', h1, h2.below hb⟩
  · obtain ⟨s', A', n', c', h1, h2⟩ := h; exact ⟨s', A', n', c', h1, h2.below hb⟩
  · trivial
/-- the invariant of a region of sum -/
structure SmJ (w : World) (P V x : Nat) (z z' : Int) (s : Bool) (A : Option Addr) (n c : Nat) (listed : Array Bool) (w' : World) (v : Nat → Value) : Prop where
  size : listed.size = 10
  l9 : listed.getD 9 false = true → listed.getD 8 false = true
  l8 : listed.getD 8 false = true → ∀ j, j < 8 → listed.getD j false = true
  l7 : listed.getD 7 false = true → listed.getD 4 false = true ∧ listed.getD 6 false = true
  l6 : listed.getD 6 false = true → listed.getD 5 false = true
  first : listed.getD 8 false = false → SmB w P V x z s A n c z w' ∧ ∀ i, i < 8 → listed.getD i false = true → SmF x z z' s A n c i w' (v i)
  mid : listed.getD 8 false = true → listed.getD 9 false = false → SmB w P V x z' s A n c z w' ∧ SmF x z z' s A n c 7 w' (v 7)
  last : listed.getD 9 false = true → SmAt w P (P + 1) z' w'
theorem SmJ.not8 {w : World} {P V x : Nat} {z z' : Int} {s : Bool} {A : Option Addr} {n c : Nat} {listed : Array Bool} {w' : World} {v : Nat → Value} (h : SmJ w P V x z z' s A n c listed w' v) {i : Nat} (hi : i < 8) (hl : listed.getD i true = false) : listed.getD 8 false = false := by
  cases e : listed.getD 8 false with
  | false => rfl
  | true =>
    have := h.l8 e i hi
    rw [Array.getD_eq_getD_getElem?] at this hl
    rw [Array.getElem?_eq_getElem (by have := h.size; omega)] at this hl
    simp at this hl
    rw [this] at hl; cases hl
theorem SmJ.step {w : World} {P V x : Nat} {z z' : Int} {s : Bool} {A : Option Addr} {n c : Nat} {listed : Array Bool} {w' w'' : World} {v : Nat → Value} (h : SmJ w P V x z z' s A n c listed w' v) {i : Nat} (hi : i < 8) (hl : listed.getD i true = false) (hb : Below w'.heap.size w' w'') {u : Value} (hu : SmF x z z' s A n c i w'' u) (h7 : i = 7 → listed.getD 4 false = true ∧ listed.getD 6 false = true) (h6 : i = 6 → listed.getD 5 false = true) :
    SmJ w P V x z z' s A n c (listed.setIfInBounds i true) w'' (updv v i u) := by
  have h8 := h.not8 hi hl
  have hs := h.size
  have h9 : listed.getD 9 false = false := by
    cases e : listed.getD 9 false with
    | false => rfl
    | true => rw [h.l9 e] at h8; cases h8
  have g : ∀ j, (listed.setIfInBounds i true).getD j false = if i = j then true else listed.getD j false := fun j => getD_setN (by omega)
  obtain ⟨hB, hF⟩ := h.first h8
  refine ⟨by simpa using hs, ?_, ?_, ?_, ?_, ?_, ?_, ?_⟩
  · rw [g, if_neg (by omega), h9]; intro e; cases e
  · rw [g, if_neg (by omega), h8]; intro e; cases e
  · rw [g, g, g]
    intro e
    have e2 : listed.getD 4 false = true ∧ listed.getD 6 false = true := by
      by_cases hi7 : i = 7
      · exact h7 hi7
      · rw [if_neg hi7] at e; exact h.l7 e
    rw [e2.1, e2.2]; simp
  · rw [g, g]
    intro e
    have e2 : listed.getD 5 false = true := by
      by_cases hi6 : i = 6
      · exact h6 hi6
      · rw [if_neg hi6] at e; exact h.l6 e
    rw [e2]; simp
  · intro _
    refine ⟨hB.call hb, fun j hj hlj => ?_⟩
    unfold updv
    by_cases e : j = i
    · subst e; rw [if_pos rfl]; exact hu
    · rw [if_neg e]
      rw [g, if_neg (fun e2 => e e2.symm)] at hlj
      exact (hF j hj hlj).kept hb
  · rw [g, if_neg (by omega), h8]; intro e; cases e
  · rw [g, if_neg (by omega), h9]; intro e; cases e
theorem bd_next {f : Nat → Nat} {g : Nat → Bool} {m k : Nat} (hf : ∀ i, f i < 2 ^ 128) (hk : k < 20) (sub : Bool) : Bd (if sub = true then sm f g m k - (f k : Int) else sm f g m k + (f k : Int)) := by
  have h := sm_b f g m hf k
  have h2 := hf k
  have h3 : ((k : Int) * 2 ^ 128) ≤ 20 * 2 ^ 128 := by omega
  have e : ∀ z : Int, -(21 * 2 ^ 128) ≤ z → z ≤ 21 * 2 ^ 128 → Bd z := fun z h1 h2 => by
    unfold Bd
    have : z.natAbs < 2 ^ 140 := by omega
    exact Nat.lt_trans this (by decide +kernel)
  split
  · exact e _ (by omega) (by omega)
  · exact e _ (by omega) (by omega)
theorem SmJ.begun {w wr : World} {P : Nat} {z : Int} (h : SmAt w P (P + 1) z wr) (x : Nat) (z' : Int) {s : Bool} {A : Option Addr} {n c : Nat} (hb : BoxI wr (P + 1) s A n c z) {v : Nat → Value} : SmJ w P wr.heap.size x z z' s A n c (Array.replicate 10 false) (wr.alloc (.cells #[.int .u64 (hi x), .int .u64 (lo x)] 102)).drew v := by
  have al : Below wr.heap.size wr (wr.alloc (.cells #[.int .u64 (hi x), .int .u64 (lo x)] 102)) := (Below.refl _ _).alloc (Nat.le_refl _) _
  have hp := h.np
  have hl := hb.lt
  have g : ∀ j, j < 10 → (Array.replicate 10 false).getD j false = false := fun j hj => by
    rw [Array.getD_eq_getD_getElem?, Array.getElem?_replicate]; split <;> rfl
  refine ⟨by simp, ?_, ?_, ?_, ?_, ?_, ?_, ?_⟩
  · rw [g 9 (by decide)]; intro e; cases e
  · rw [g 8 (by decide)]; intro e; cases e
  · rw [g 7 (by decide)]; intro e; cases e
  · rw [g 6 (by decide)]; intro e; cases e
  · intro _
    refine ⟨⟨(h.below.alloc h.below.size _).drew, hp, by omega, by simp, (h.r6.past (by omega) _).drew, (h.res.call al).drew, (h.num.past (by omega) _).drew, (hb.call al).drew, by simp [go_sem], by simp [go_sem]⟩, fun i hi e => ?_⟩
    rw [g i (by omega)] at e; cases e
  · rw [g 8 (by decide)]; intro e; cases e
  · rw [g 9 (by decide)]; intro e; cases e
theorem cell_far6 {w : World} {b c : Nat} (hne : b ≠ c) (o : Nat) (v0 v1 v2 v3 v4 v5 : Value) : ((((((w.setCell ⟨b, 0, none⟩ v0).setCell ⟨b, 1, none⟩ v1).setCell ⟨b, 2, none⟩ v2).setCell ⟨b, 3, none⟩ v3).setCell ⟨b, 4, none⟩ v4).setCell ⟨b, 5, none⟩ v5).cell? ⟨c, o, none⟩ = w.cell? ⟨c, o, none⟩ := by
  rw [World.cell?_setCell_far _ _ _ _ hne, World.cell?_setCell_far _ _ _ _ hne, World.cell?_setCell_far _ _ _ _ hne, World.cell?_setCell_far _ _ _ _ hne, World.cell?_setCell_far _ _ _ _ hne, World.cell?_setCell_far _ _ _ _ hne]
theorem froz6 {w : World} {b c : Nat} (o : Nat) (v0 v1 v2 v3 v4 v5 : Value) : ((((((w.setCell ⟨b, 0, none⟩ v0).setCell ⟨b, 1, none⟩ v1).setCell ⟨b, 2, none⟩ v2).setCell ⟨b, 3, none⟩ v3).setCell ⟨b, 4, none⟩ v4).setCell ⟨b, 5, none⟩ v5).frozen? ⟨c, o, none⟩ = w.frozen? ⟨c, o, none⟩ := by
  rw [World.frozen?_setCell, World.frozen?_setCell, World.frozen?_setCell, World.frozen?_setCell, World.frozen?_setCell, World.frozen?_setCell]
theorem size6 {w : World} {b : Nat} (v0 v1 v2 v3 v4 v5 : Value) : ((((((w.setCell ⟨b, 0, none⟩ v0).setCell ⟨b, 1, none⟩ v1).setCell ⟨b, 2, none⟩ v2).setCell ⟨b, 3, none⟩ v3).setCell ⟨b, 4, none⟩ v4).setCell ⟨b, 5, none⟩ v5).heap.size = w.heap.size := by
  rw [World.size_setCell, World.size_setCell, World.size_setCell, World.size_setCell, World.size_setCell, World.size_setCell]
theorem SmB.setNum {w w1 : World} {P V x : Nat} {zn zi : Int} {s : Bool} {A : Option Addr} {n c : Nat} (h : SmB w P V x zn s A n c zi w1) (z' : Int) : SmB w P V x z' s A n c zi ((((((w1.setCell ⟨P, 0, none⟩ (.int .u32 (wd z' 0))).setCell ⟨P, 1, none⟩ (.int .u32 (wd z' 1))).setCell ⟨P, 2, none⟩ (.int .u32 (wd z' 2))).setCell ⟨P, 3, none⟩ (.int .u32 (wd z' 3))).setCell ⟨P, 4, none⟩ (.int .u32 (wd z' 4))).setCell ⟨P, 5, none⟩ (.int .u32 (wd z' 5))) := by
  have hl := h.lt
  have hp := h.np
  have hv := h.pv
  exact ⟨store6 h.below (by omega) _ _ _ _ _ _, hp, hv, by rw [size6]; exact hl, far6 h.r6 (by omega) _ _ _ _ _ _,
    ⟨store6 h.res.below (by omega) _ _ _ _ _ _, h.res.nb, by rw [size6]; exact h.res.lt, by rw [cell_far6 (by omega)]; exact h.res.c0, by rw [cell_far6 (by omega)]; exact h.res.c1, by rw [froz6]; exact h.res.f0, by rw [froz6]; exact h.res.f1⟩,
    row6 h.num, ⟨by rw [cell_far6 (by omega)]; exact h.box.c0, by rw [cell_far6 (by omega)]; exact h.box.c1, by rw [froz6]; exact h.box.f0, by rw [froz6]; exact h.box.f1, h.box.v.store6 h.num _ _ _ _ _ _⟩,
    by rw [cell_far6 (by omega)]; exact h.v0, by rw [cell_far6 (by omega)]; exact h.v1⟩
theorem SmB.setBox {w w1 : World} {P V x : Nat} {zn zi : Int} {s : Bool} {A : Option Addr} {n c : Nat} (h : SmB w P V x zn s A n c zi w1) {s' : Bool} {A' : Option Addr} {n' c' : Nat} (hI : IntS w1 s' A' n' c' zn) : SmAt w P (P + 1) zn ((w1.setCell ⟨P + 1, 0, none⟩ (.bool s')).setCell ⟨P + 1, 1, none⟩ (.slice A' n' c')) := by
  have hp := h.np
  exact ⟨store2 h.below (by omega) _ _, hp, by omega, (h.r6.far _ (by simp; omega) _).far _ (by simp; omega) _, h.res.set (by omega) (by omega) _ _, (h.num.far _ (by simp) _).far _ (by simp) _, s', A', n', c', h.box.set hI⟩
theorem SmJ.next8 {w : World} {P V x : Nat} {z z' : Int} {s : Bool} {A : Option Addr} {n c : Nat} {listed : Array Bool} {w1 : World} {v : Nat → Value} (h : SmJ w P V x z z' s A n c listed w1 v) (hl : listed.getD 8 true = false) (l0 : listed.getD 0 false = true) (l1 : listed.getD 1 false = true) (l2 : listed.getD 2 false = true) (l3 : listed.getD 3 false = true) (l7 : listed.getD 7 false = true) :
    SmJ w P V x z z' s A n c (listed.setIfInBounds 8 true) ((((((w1.setCell ⟨P, 0, none⟩ (.int .u32 (wd z' 0))).setCell ⟨P, 1, none⟩ (.int .u32 (wd z' 1))).setCell ⟨P, 2, none⟩ (.int .u32 (wd z' 2))).setCell ⟨P, 3, none⟩ (.int .u32 (wd z' 3))).setCell ⟨P, 4, none⟩ (.int .u32 (wd z' 4))).setCell ⟨P, 5, none⟩ (.int .u32 (wd z' 5))) v := by
  have hs := h.size
  have h8 : listed.getD 8 false = false := by
    rw [Array.getD_eq_getD_getElem?, Array.getElem?_eq_getElem (by omega)] at hl ⊢; exact hl
  have h9 : listed.getD 9 false = false := by
    cases e : listed.getD 9 false with
    | false => rfl
    | true => rw [h.l9 e] at h8; cases h8
  have g : ∀ j, (listed.setIfInBounds 8 true).getD j false = if 8 = j then true else listed.getD j false := fun j => getD_setN (by omega)
  obtain ⟨hB, hF⟩ := h.first h8
  obtain ⟨l4, l6⟩ := h.l7 l7
  have l5 := h.l6 l6
  refine ⟨by simpa using hs, ?_, ?_, ?_, ?_, ?_, ?_, ?_⟩
  · rw [g, if_neg (by omega), h9]; intro e; cases e
  · intro _ j hj
    rw [g, if_neg (by omega)]
    match j, hj with
    | 0, _ => exact l0 | 1, _ => exact l1 | 2, _ => exact l2 | 3, _ => exact l3 | 4, _ => exact l4 | 5, _ => exact l5 | 6, _ => exact l6 | 7, _ => exact l7
  · intro _; rw [g, g, if_neg (by omega), if_neg (by omega)]; exact ⟨l4, l6⟩
  · intro _; rw [g, if_neg (by omega)]; exact l5
  · rw [g, if_pos rfl]; intro e; cases e
  · intro _ _
    refine ⟨hB.setNum z', ?_⟩
    obtain ⟨s', A', n', c', e1, e2⟩ := hF 7 (by decide) l7
    exact ⟨s', A', n', c', e1, e2.store6 hB.num _ _ _ _ _ _⟩
  · rw [g, if_neg (by omega), h9]; intro e; cases e
theorem SmJ.next9 {w : World} {P V x : Nat} {z z' : Int} {s : Bool} {A : Option Addr} {n c : Nat} {listed : Array Bool} {w1 : World} {v : Nat → Value} (h : SmJ w P V x z z' s A n c listed w1 v) (l8 : listed.getD 8 false = true) {s' : Bool} {A' : Option Addr} {n' c' : Nat} (hB : SmB w P V x z' s A n c z w1) (hI : IntS w1 s' A' n' c' z') :
    SmJ w P V x z z' s A n c (listed.setIfInBounds 9 true) ((w1.setCell ⟨P + 1, 0, none⟩ (.bool s')).setCell ⟨P + 1, 1, none⟩ (.slice A' n' c')) v := by
  have hs := h.size
  have g : ∀ j, (listed.setIfInBounds 9 true).getD j false = if 9 = j then true else listed.getD j false := fun j => getD_setN (by omega)
  refine ⟨by simpa using hs, ?_, ?_, ?_, ?_, ?_, ?_, ?_⟩
  · intro _; rw [g, if_neg (by omega)]; exact l8
  · intro _ j hj; rw [g, if_neg (by omega)]; exact h.l8 l8 j hj
  · intro _; rw [g, g, if_neg (by omega), if_neg (by omega)]; exact ⟨h.l8 l8 4 (by decide), h.l8 l8 6 (by decide)⟩
  · intro _; rw [g, if_neg (by omega)]; exact h.l8 l8 5 (by decide)
  · rw [g, if_neg (by omega), l8]; intro e; cases e
  · rw [g, g, if_pos rfl]; intro _ e; cases e
  · intro _; exact hB.setBox hI
end
/- The law's sanity check. -/
section
open Go.RowKit
theorem dg_ex : dg 18446744073709551613 = [3, 1, 6, 1, 5, 5, 9, 0, 7, 3, 7, 0, 4, 4, 7, 6, 4, 4, 8, 1] := by
  rw [dg_hi (by decide), dg_hi (by decide), dg_hi (by decide), dg_hi (by decide), dg_hi (by decide), dg_hi (by decide), dg_hi (by decide), dg_hi (by decide), dg_hi (by decide), dg_hi (by decide), dg_hi (by decide), dg_hi (by decide), dg_hi (by decide), dg_hi (by decide), dg_hi (by decide), dg_hi (by decide), dg_hi (by decide), dg_hi (by decide), dg_hi (by decide), dg_lo (by decide)]
theorem tl_ex (V : Nat) (h : V = 18446744073709551616) : strN (tl (3 - (V : Int))) = ⟨#[45, 49, 56, 52, 52, 54, 55, 52, 52, 48, 55, 51, 55, 48, 57, 53, 53, 49, 54, 49, 51]⟩ := by
  have h1 : (3 - (V : Int)).natAbs = 18446744073709551613 := by omega
  have e : tl (3 - (V : Int)) = [45, 49, 56, 52, 52, 54, 55, 52, 52, 48, 55, 51, 55, 48, 57, 53, 53, 49, 54, 49, 51] := by
    unfold tl
    rw [h1, if_pos (by omega), dg_ex]
    rfl
  rw [e]; rfl
theorem from_ex (V : Nat) (h : V = 18446744073709551616) (w : World) : Calls Tryd.prog 58 #[.agg #[.int .u64 1, .int .u64 0]] w (RetN V w) := by
  have h1 : hi V = 1 := by unfold hi; omega
  have h2 : lo V = 0 := by unfold lo; omega
  have hF := nn_from V (by omega) w
  rw [h1, h2] at hF
  exact hF
end
end Go.Proofs.YtodmkmoglchoeaaDoor
