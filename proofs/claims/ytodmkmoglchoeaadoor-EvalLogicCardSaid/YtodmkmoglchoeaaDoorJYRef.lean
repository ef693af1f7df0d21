/- Contracts, joined: YRef, YRef2, YRef3, YRef4, YRef5, YRef6, YRef7, YRef8. -/
import Derived.Test.YtodmkmoglchoeaaDoorJYProg
import Derived.Test.YtodmkmoglchoeaaDoorJSums
import Derived.StillTailTactics
namespace Go.Proofs.YtodmkmoglchoeaaDoor
/- The reference's parser in memory; see, take, node. -/
section
open Go.RowKit

end
/- The reference's rules. -/
section
open Go.RowKit

/-- a place that a rule of the reference may begin at -/
structure PR (l : List Tok) (p : PS) : Prop where
  ha : p.at_ ≤ l.length
  ho : p.out.length ≤ p.at_
theorem PR.went {l : List Tok} {p q : PS} (h : PR l p) (k : Went l p q) : PR l q :=
  ⟨k.len h.ha, by have := k.out; have := h.ho; have := k.le; omega⟩
theorem PR.adv {l : List Tok} {p : PS} (h : PR l p) {x : ByteArray} (hs : see l p x = true) : PR l p.adv :=
  ⟨by show p.at_ + 1 ≤ _; have := (see_lt hs).1; omega, by show p.out.length ≤ p.at_ + 1; have := h.ho; omega⟩
theorem opAt1 (l : List Tok) (p : PS) (o : Nat) : opAt l p [o] = if see l p (sy o) = true then o else 0 := rfl
theorem ifF (x : Nat) : (if false = true then x else 0) = 0 := rfl
theorem ifT (x : Nat) : (if true = true then x else 0) = x := rfl
theorem PR.nod {l : List Tok} {q u : PS} (h : PR l q) (hlt : q.at_ + 1 ≤ l.length) (k : Went l q.adv u) (d : Nd) : PR l (u.nod d).2 := by
  have h1 : u.out.length + (q.at_ + 1) ≤ q.out.length + u.at_ := k.out
  have h2 := h.ho
  refine ⟨k.len hlt, ?_⟩
  show (u.out ++ [d]).length ≤ u.at_
  rw [List.length_append]
  simp
  omega
end
/- The reference's sum and compare. -/
section
open Go.RowKit

theorem see_excl {l : List Tok} {q : PS} {x y : ByteArray} (h : see l q x = true) (hne : x ≠ y) : see l q y = false := by
  have hb := (see_lt h).2
  rw [see_tok l q hb, Bool.and_eq_true, decide_eq_true_iff, decide_eq_true_iff] at h
  rw [see_tok l q hb, h.2, decide_eq_false hne, Bool.and_false]
theorem ifFF : (if false = true then 6 else if false = true then 7 else 0) = 0 := rfl
def cmA : Array Value := #[.string ⟨#[61, 61]⟩, .string ⟨#[33, 61]⟩, .string ⟨#[60]⟩, .string ⟨#[60, 61]⟩, .string ⟨#[62]⟩, .string ⟨#[62, 61]⟩]
theorem cmA_lit : cmA = #[.string ⟨#[61, 61]⟩, .string ⟨#[33, 61]⟩, .string ⟨#[60]⟩, .string ⟨#[60, 61]⟩, .string ⟨#[62]⟩, .string ⟨#[62, 61]⟩] := rfl
theorem cmA_at : ∀ i, i < 6 → cmA[i]? = some (.string (sy (8 + i))) := by
  intro i hi
  have h : i = 0 ∨ i = 1 ∨ i = 2 ∨ i = 3 ∨ i = 4 ∨ i = 5 := by omega
  rcases h with rfl | rfl | rfl | rfl | rfl | rfl <;> rfl
theorem opC_drop (l : List Tok) (q : PS) (k : Nat) (hk : k < 6) : opAt l q ([8, 9, 10, 11, 12, 13].drop k) = if see l q (sy (8 + k)) = true then 8 + k else opAt l q ([8, 9, 10, 11, 12, 13].drop (k + 1)) := by
  have h : k = 0 ∨ k = 1 ∨ k = 2 ∨ k = 3 ∨ k = 4 ∨ k = 5 := by omega
  rcases h with rfl | rfl | rfl | rfl | rfl | rfl <;> rfl
end
/- The reference's value of a literal. -/
section
open Go.RowKit

/-- a Value in a box -/
structure VB (w : World) (b a : Nat) : Prop where
  lt : b < w.heap.size
  c0 : w.cell? ⟨b, 0, none⟩ = some (.int .u64 (hi a))
  c1 : w.cell? ⟨b, 1, none⟩ = some (.int .u64 (lo a))
  fr : ∀ i, w.frozen? ⟨b, i, none⟩ = false
theorem VB.below {w w' : World} {b a B : Nat} (h : VB w b a) (hb : Below B w w') (hB : b < B) : VB w' b a :=
  ⟨Nat.lt_of_lt_of_le h.lt hb.size, by rw [hb.cell (p := ⟨b, 0, none⟩) hB]; exact h.c0, by rw [hb.cell (p := ⟨b, 1, none⟩) hB]; exact h.c1, fun i => by rw [hb.frozen (p := ⟨b, i, none⟩) hB]; exact h.fr i⟩
theorem VB.call {w w' : World} {b a : Nat} (h : VB w b a) (hb : Below w.heap.size w w') : VB w' b a := h.below hb h.lt
theorem VB.new (w : World) (a : Nat) (t : TypeId) : VB (w.alloc (.cells #[.int .u64 (hi a), .int .u64 (lo a)] t)) w.heap.size a :=
  ⟨by simp, World.cell?_alloc_new .., World.cell?_alloc_new .., fun _ => World.frozen?_alloc_new ..⟩
theorem VB.set {w : World} {b a : Nat} (h : VB w b a) (c : Nat) : VB ((w.setCell ⟨b, 0, none⟩ (.int .u64 (hi c))).setCell ⟨b, 1, none⟩ (.int .u64 (lo c))) b c := by
  refine ⟨by rw [World.size_setCell, World.size_setCell]; exact h.lt, ?_, ?_, fun i => by rw [World.frozen?_setCell, World.frozen?_setCell]; exact h.fr i⟩
  · rw [World.cell?_setCell_other _ _ _ _ (by intro e; injection e with _ e; omega), World.cell?_setCell_same' _ _ _ (by rw [h.c0]; rfl)]
  · rw [World.cell?_setCell_same' _ _ _ (by rw [World.cell?_setCell_other _ _ _ _ (by intro e; injection e with _ e; omega), h.c1]; rfl)]
theorem VB.far {w : World} {b a d : Nat} (h : VB w b a) (hne : b ≠ d) (x y : Value) : VB ((w.setCell ⟨d, 0, none⟩ x).setCell ⟨d, 1, none⟩ y) b a := by
  refine ⟨by rw [World.size_setCell, World.size_setCell]; exact h.lt, ?_, ?_, fun i => by rw [World.frozen?_setCell, World.frozen?_setCell]; exact h.fr i⟩
  · rw [World.cell?_setCell_other _ _ _ _ (by intro e; injection e with e; exact hne e.symm), World.cell?_setCell_other _ _ _ _ (by intro e; injection e with e; exact hne e.symm)]; exact h.c0
  · rw [World.cell?_setCell_other _ _ _ _ (by intro e; injection e with e; exact hne e.symm), World.cell?_setCell_other _ _ _ _ (by intro e; injection e with e; exact hne e.symm)]; exact h.c1
theorem pv_pre {b : Nat} {g : Nat → Nat} {n x k : Nat} (h : pv b g n = some x) (hk : k ≤ n) : ∃ a, pv b g k = some a := by
  cases e : pv b g k with
  | none => rw [pv_none e hk] at h; cases h
  | some a => exact ⟨a, rfl⟩
theorem pv_succ {b : Nat} {g : Nat → Nat} {k a x : Nat} (h : pv b g k = some a) (hx : pv b g (k + 1) = some x) : dgN (g k) < b ∧ a * b + dgN (g k) < 340282366920938463463374607431768211456 ∧ x = a * b + dgN (g k) := by
  rw [pv, h, Option.bind_some] at hx
  split at hx
  · rename_i hc; injection hx with hx; exact ⟨hc.1, hc.2, hx.symm⟩
  · cases hx
/-- the region of two shifts: its slots -/
def setw (a : Act) (v : Nat → Value) : Act :=
  { a with tmps := (((((a.tmps.setIfInBounds 25 (v 0)).setIfInBounds 26 (v 1)).setIfInBounds 27 (v 2)).setIfInBounds 28 (v 3)).setIfInBounds 6 (v 4)).setIfInBounds 7 (v 5) }
def updw (v : Nat → Value) (i : Nat) (x : Value) : Nat → Value := fun j => if j = i then x else v j
def leftW (ops : Array Oper) (listed : Array Bool) : Nat := ((List.range ops.size).filter fun i => !listed.getD i true).length
theorem ready_subW {md : Region.Mode} {ops : Array Oper} {listed : Array Bool} {i : Nat} (h : i ∈ Region.ready md ops listed) : i < ops.size ∧ listed.getD i true = false := by
  unfold Region.ready at h
  obtain ⟨h1, h2⟩ := List.mem_filter.1 h
  rw [Bool.and_eq_true] at h2
  exact ⟨List.mem_range.1 h1, by simpa using h2.1⟩
theorem getD_setW {listed : Array Bool} {i j : Nat} {d : Bool} (hl : i < listed.size) : (listed.setIfInBounds i true).getD j d = if i = j then true else listed.getD j d := by
  rw [Array.getD_eq_getD_getElem?, Array.getD_eq_getD_getElem?, Array.getElem?_setIfInBounds]
  by_cases h : i = j
  · subst h; simp [hl]
  · simp [h]
theorem leftW_set {ops : Array Oper} {listed : Array Bool} {i : Nat} (hi : i < ops.size) (hl : listed.getD i true = false) : leftW ops (listed.setIfInBounds i true) < leftW ops listed := by
  unfold leftW
  have hlt : i < listed.size := by
    rcases Nat.lt_or_ge i listed.size with h | h
    · exact h
    · rw [Array.getD_eq_getD_getElem?, Array.getElem?_eq_none h] at hl; cases hl
  have key : ∀ (L : List Nat), (L.filter fun j => !(listed.setIfInBounds i true).getD j true).length ≤ (L.filter fun j => !listed.getD j true).length ∧ (i ∈ L → (L.filter fun j => !(listed.setIfInBounds i true).getD j true).length < (L.filter fun j => !listed.getD j true).length) := by
    intro L
    induction L with
    | nil => simp
    | cons x M ih =>
      rw [List.filter_cons, List.filter_cons, getD_setW hlt]
      by_cases hxi : i = x
      · subst hxi
        rw [if_pos rfl, hl]
        simp only [Bool.not_true, Bool.false_eq_true, if_false, Bool.not_false, if_true, List.length_cons]
        exact ⟨by omega, fun _ => by omega⟩
      · rw [if_neg hxi]
        cases hx : listed.getD x true with
        | true =>
          simp only [Bool.not_true, Bool.false_eq_true, if_false]
          exact ⟨ih.1, fun h => ih.2 (by rcases List.mem_cons.1 h with e | e; exact absurd e hxi; exact e)⟩
        | false =>
          simp only [Bool.not_false, if_true, List.length_cons]
          exact ⟨by omega, fun h => by have := ih.2 (by rcases List.mem_cons.1 h with e | e; exact absurd e hxi; exact e); omega⟩
  exact (key _).2 (List.mem_range.2 hi)
section
variable {P : Program} {ops : Array Oper} {Q : Exit → Act → World → Prop} {md : Region.Mode} {ι : Type} {S : ι → Act}
theorem wpAny_fam (J : Array Bool → World → ι → Prop)
    (hstep : ∀ listed w v i, J listed w v → i ∈ Region.ready md ops listed → wpOp P ops Q i (fun a' w' => ∃ v', a' = S v' ∧ J (listed.setIfInBounds i true) w' v') (S v) w)
    (hend : ∀ listed w v, J listed w v → Region.ready md ops listed = [] → Q .normal (S v) w) :
    ∀ (fuel : Nat) (listed : Array Bool) (v : ι) (w : World), leftW ops listed ≤ fuel → J listed w v → wpAny P md ops Q fuel listed (S v) w
  | 0, listed, v, w, hf, hI => by
    have hr : Region.ready md ops listed = [] := by
      cases e : Region.ready md ops listed with
      | nil => rfl
      | cons i rs =>
        obtain ⟨h1, h2⟩ := ready_subW (md := md) (ops := ops) (listed := listed) (i := i) (by rw [e]; exact List.mem_cons_self ..)
        have := leftW_set h1 h2
        omega
    exact ⟨hr, hend listed w v hI hr⟩
  | fuel + 1, listed, v, w, hf, hI => by
    refine ⟨fun hr => hend listed w v hI hr, fun i hi => ?_⟩
    obtain ⟨h1, h2⟩ := ready_subW hi
    have hlt := leftW_set h1 h2
    refine wpOp_mono (fun a' w' h' => ?_) (hstep listed w v i hI hi)
    obtain ⟨v', rfl, hJ⟩ := h'
    exact wpAny_fam J hstep hend fuel _ v' w' (by omega) hJ
theorem wp_region_fam {id : Nat} {W : World} {a0 : Act} (J : Array Bool → World → ι → Prop) (v0 : ι) (hm : P.follows .mixedOrders = true)
    (ha : a0 = S v0) (h0 : J (Array.replicate ops.size false) W.drew v0)
    (hstep : ∀ listed w v i, J listed w v → i ∈ Region.ready .any ops listed → wpOp P ops Q i (fun a' w' => ∃ v', a' = S v' ∧ J (listed.setIfInBounds i true) w' v') (S v) w)
    (hend : ∀ listed w v, J listed w v → Region.ready .any ops listed = [] → Q .normal (S v) w) : (Code.region id ops true).wp P Q a0 W := by
  refine wp_region_any hm ?_
  have h := wpAny_fam (S := S) J hstep hend ops.size (Array.replicate ops.size false) v0 W.drew (Nat.le_trans (List.length_filter_le _ _) (by simp)) h0
  rw [← ha] at h
  exact h
end
def slw : Nat → Nat
  | 0 => 25
  | 1 => 26
  | 2 => 27
  | 3 => 28
  | 4 => 6
  | _ => 7
theorem wp_region_w {P : Program} {ops : Array Oper} {Q : Exit → Act → World → Prop} {id : Nat} {W : World} {a0 : Act} (J : Array Bool → World → (Nat → Value) → Prop) (hm : P.follows .mixedOrders = true)
    (ha : a0 = setw a0 (fun j => a0.tmps[slw j]?.getD undef)) (h0 : J (Array.replicate ops.size false) W.drew (fun j => a0.tmps[slw j]?.getD undef))
    (hstep : ∀ listed w v i, J listed w v → i ∈ Region.ready .any ops listed → wpOp P ops Q i (fun a' w' => ∃ v', a' = setw a0 v' ∧ J (listed.setIfInBounds i true) w' v') (setw a0 v) w)
    (hend : ∀ listed w v, J listed w v → Region.ready .any ops listed = [] → Q .normal (setw a0 v) w) : (Code.region id ops true).wp P Q a0 W :=
  wp_region_fam (S := setw a0) J _ hm ha h0 hstep hend
theorem ready_depW {md : Region.Mode} {ops : Array Oper} {listed : Array Bool} {i : Nat} {o : Oper} (h : i ∈ Region.ready md ops listed) (ho : ops[i]? = some o) {e : Edge} (he : e ∈ o.after) (hb : Region.binds md e = true) : listed.getD e.on false = true := by
  unfold Region.ready at h
  have h2 := (List.mem_filter.1 h).2
  rw [Bool.and_eq_true, ho] at h2
  have h3 := h2.2
  simp only [Option.map_some, Option.getD_some, Array.all_eq_true'] at h3
  have := h3 e he
  simpa [hb] using this
theorem ready_allW {md : Region.Mode} {ops : Array Oper} {listed : Array Bool} (hchk : (List.range ops.size).all (fun i => ((ops[i]?).map fun o => o.after.all fun e => decide (e.on < i)).getD true) = true)
    (hls : listed.size = ops.size) (hr : Region.ready md ops listed = []) : ∀ i, i < ops.size → listed.getD i false = true := by
  intro i
  induction i using Nat.strongRecOn with
  | ind i ih =>
    intro hi
    cases hl : listed.getD i true with
    | true =>
      rw [Array.getD_eq_getD_getElem?] at hl ⊢
      rw [Array.getElem?_eq_getElem (by omega)] at hl ⊢
      exact hl
    | false =>
      exfalso
      have hmem : i ∈ Region.ready md ops listed := by
        unfold Region.ready
        refine List.mem_filter.2 ⟨List.mem_range.2 hi, ?_⟩
        rw [Bool.and_eq_true]
        refine ⟨by rw [hl]; rfl, ?_⟩
        rw [Array.getElem?_eq_getElem hi]
        simp only [Option.map_some, Option.getD_some, Array.all_eq_true']
        intro e he
        have h1 := List.all_eq_true.1 hchk i (List.mem_range.2 hi)
        rw [Array.getElem?_eq_getElem hi] at h1
        simp only [Option.map_some, Option.getD_some, Array.all_eq_true'] at h1
        have h2 := h1 e he
        rw [decide_eq_true_iff] at h2
        rw [ih e.on h2 (by omega)]
        simp
      rw [hr] at hmem
      cases hmem
def vA (n : Nat) : Value := .agg #[.int .u64 (hi n), .int .u64 (lo n)]
def shV (a : Nat) : Nat → Value
  | 0 => vA a
  | 1 => vA (vleft a 3)
  | 2 => vA a
  | _ => vA (vleft a 1)
/-- what holds between the operations -/
structure SJ (W0 : World) (a : Nat) (listed : Array Bool) (w : World) (v : Nat → Value) : Prop where
  size : listed.size = 8
  below : Below W0.heap.size W0 w
  f : ∀ j, j < 4 → listed.getD j false = true → v j = shV a j
  e : listed.getD 4 false = true → ∃ E, v 4 = .pointer (some ⟨E, 0, none⟩) ∧ W0.heap.size ≤ E ∧ VB w E (if listed.getD 6 false = true then vleft a 3 else 0)
  d : listed.getD 5 false = true → ∃ D, v 5 = .pointer (some ⟨D, 0, none⟩) ∧ W0.heap.size ≤ D ∧ VB w D (if listed.getD 7 false = true then vleft a 1 else 0)
  ne : ∀ E D, v 4 = .pointer (some ⟨E, 0, none⟩) → v 5 = .pointer (some ⟨D, 0, none⟩) → listed.getD 4 false = true → listed.getD 5 false = true → E ≠ D
  s6 : listed.getD 6 false = true → listed.getD 4 false = true
  s7 : listed.getD 7 false = true → listed.getD 5 false = true
theorem SJ.step {W0 : World} {a : Nat} {listed : Array Bool} {w w' : World} {v : Nat → Value} (h : SJ W0 a listed w v) {i : Nat} (hi : i < 4) (hb : Below w.heap.size w w') : SJ W0 a (listed.setIfInBounds i true) w' (updw v i (shV a i)) := by
  have gn : ∀ j, i ≠ j → (listed.setIfInBounds i true).getD j false = listed.getD j false := fun j hj => by rw [getD_setW (by rw [h.size]; omega), if_neg hj]
  have gi : (listed.setIfInBounds i true).getD i false = true := by rw [getD_setW (by rw [h.size]; omega), if_pos rfl]
  refine ⟨by simpa using h.size, h.below.trans (hb.mono h.below.size), fun j hj hl => ?_, ?_, ?_, ?_, ?_, ?_⟩
  · unfold updw
    by_cases e : j = i
    · subst e; rw [if_pos rfl]
    · rw [if_neg e]; rw [gn j (fun e2 => e e2.symm)] at hl; exact h.f j hj hl
  · rw [gn 4 (by omega), gn 6 (by omega)]
    intro hl
    obtain ⟨E, h1, h2, h3⟩ := h.e hl
    exact ⟨E, by unfold updw; rw [if_neg (by omega)]; exact h1, h2, h3.call hb⟩
  · rw [gn 5 (by omega), gn 7 (by omega)]
    intro hl
    obtain ⟨E, h1, h2, h3⟩ := h.d hl
    exact ⟨E, by unfold updw; rw [if_neg (by omega)]; exact h1, h2, h3.call hb⟩
  · intro E D; unfold updw; rw [if_neg (by omega), if_neg (by omega), gn 4 (by omega), gn 5 (by omega)]; exact h.ne E D
  · rw [gn 6 (by omega), gn 4 (by omega)]; exact h.s6
  · rw [gn 7 (by omega), gn 5 (by omega)]; exact h.s7
theorem hi_zro : hi 0 = 0 := rfl
theorem lo_zro : lo 0 = 0 := rfl
theorem SJ.new4 {W0 : World} {a : Nat} {listed : Array Bool} {w : World} {v : Nat → Value} (h : SJ W0 a listed w v) (h6 : listed.getD 4 false = false) : SJ W0 a (listed.setIfInBounds 4 true) (w.alloc (.cells #[.int .u64 0, .int .u64 0] 102)) (updw v 4 (.pointer (some ⟨w.heap.size, 0, none⟩))) := by
  have gn : ∀ j, 4 ≠ j → (listed.setIfInBounds 4 true).getD j false = listed.getD j false := fun j hj => by rw [getD_setW (by rw [h.size]; omega), if_neg hj]
  have gi : (listed.setIfInBounds 4 true).getD 4 false = true := by rw [getD_setW (by rw [h.size]; omega), if_pos rfl]
  have hb : Below w.heap.size w (w.alloc (.cells #[.int .u64 0, .int .u64 0] 102)) := (Below.refl _ _).alloc (Nat.le_refl _) _
  have h66 : listed.getD 6 false = false := by
    cases e : listed.getD 6 false
    · rfl
    · have := h.s6 e; rw [h6] at this; cases this
  refine ⟨by simpa using h.size, h.below.trans (hb.mono h.below.size), fun j hj hl => ?_, ?_, ?_, ?_, ?_, ?_⟩
  · unfold updw; rw [if_neg (by omega)]; rw [gn j (by omega)] at hl; exact h.f j hj hl
  · intro _
    refine ⟨w.heap.size, rfl, h.below.size, ?_⟩
    rw [gn 6 (by omega), h66, if_neg (by decide)]
    have := VB.new w 0 102
    rwa [hi_zro, lo_zro] at this
  · rw [gn 5 (by omega), gn 7 (by omega)]
    intro hl
    obtain ⟨E, h1, h2, h3⟩ := h.d hl
    exact ⟨E, by unfold updw; rw [if_neg (by omega)]; exact h1, h2, h3.call hb⟩
  · intro E D h1 h2 _ h4
    rw [gn 5 (by omega)] at h4
    obtain ⟨D2, h5, _, h7⟩ := h.d h4
    have e1 : E = w.heap.size := by unfold updw at h1; rw [if_pos rfl] at h1; injection h1 with h1; injection h1 with h1; injection h1 with h1; exact h1.symm
    have e2 : D2 = D := by unfold updw at h2; rw [if_neg (by omega), h5] at h2; injection h2 with h2; injection h2 with h2; injection h2 with h2
    have := h7.lt
    omega
  · rw [gn 6 (by omega), h66]; intro e; cases e
  · rw [gn 7 (by omega), gn 5 (by omega)]; exact h.s7
theorem SJ.new5 {W0 : World} {a : Nat} {listed : Array Bool} {w : World} {v : Nat → Value} (h : SJ W0 a listed w v) (h6 : listed.getD 5 false = false) : SJ W0 a (listed.setIfInBounds 5 true) (w.alloc (.cells #[.int .u64 0, .int .u64 0] 102)) (updw v 5 (.pointer (some ⟨w.heap.size, 0, none⟩))) := by
  have gn : ∀ j, 5 ≠ j → (listed.setIfInBounds 5 true).getD j false = listed.getD j false := fun j hj => by rw [getD_setW (by rw [h.size]; omega), if_neg hj]
  have gi : (listed.setIfInBounds 5 true).getD 5 false = true := by rw [getD_setW (by rw [h.size]; omega), if_pos rfl]
  have hb : Below w.heap.size w (w.alloc (.cells #[.int .u64 0, .int .u64 0] 102)) := (Below.refl _ _).alloc (Nat.le_refl _) _
  have h66 : listed.getD 7 false = false := by
    cases e : listed.getD 7 false
    · rfl
    · have := h.s7 e; rw [h6] at this; cases this
  refine ⟨by simpa using h.size, h.below.trans (hb.mono h.below.size), fun j hj hl => ?_, ?_, ?_, ?_, ?_, ?_⟩
  · unfold updw; rw [if_neg (by omega)]; rw [gn j (by omega)] at hl; exact h.f j hj hl
  · rw [gn 4 (by omega), gn 6 (by omega)]
    intro hl
    obtain ⟨E, h1, h2, h3⟩ := h.e hl
    exact ⟨E, by unfold updw; rw [if_neg (by omega)]; exact h1, h2, h3.call hb⟩
  · intro _
    refine ⟨w.heap.size, rfl, h.below.size, ?_⟩
    rw [gn 7 (by omega), h66, if_neg (by decide)]
    have := VB.new w 0 102
    rwa [hi_zro, lo_zro] at this
  · intro E D h1 h2 h4 _
    rw [gn 4 (by omega)] at h4
    obtain ⟨D2, h5, _, h7⟩ := h.e h4
    have e1 : D = w.heap.size := by unfold updw at h2; rw [if_pos rfl] at h2; injection h2 with h2; injection h2 with h2; injection h2 with h2; exact h2.symm
    have e2 : D2 = E := by unfold updw at h1; rw [if_neg (by omega), h5] at h1; injection h1 with h1; injection h1 with h1; injection h1 with h1
    have := h7.lt
    omega
  · rw [gn 6 (by omega), gn 4 (by omega)]; exact h.s6
  · rw [gn 7 (by omega), h66]; intro e; cases e
theorem SJ.put6 {W0 : World} {a : Nat} {listed : Array Bool} {w : World} {v : Nat → Value} (h : SJ W0 a listed w v) {E : Nat} (h4 : listed.getD 4 false = true) (hE : v 4 = .pointer (some ⟨E, 0, none⟩)) :
    SJ W0 a (listed.setIfInBounds 6 true) ((w.setCell ⟨E, 0, none⟩ (.int .u64 (hi (vleft a 3)))).setCell ⟨E, 1, none⟩ (.int .u64 (lo (vleft a 3)))) v := by
  have gn : ∀ j, 6 ≠ j → (listed.setIfInBounds 6 true).getD j false = listed.getD j false := fun j hj => by rw [getD_setW (by rw [h.size]; omega), if_neg hj]
  have gi : (listed.setIfInBounds 6 true).getD 6 false = true := by rw [getD_setW (by rw [h.size]; omega), if_pos rfl]
  obtain ⟨E2, h1, h2, h3⟩ := h.e h4
  obtain rfl : E2 = E := by rw [hE] at h1; injection h1 with h1; injection h1 with h1; injection h1 with h1; exact h1.symm
  refine ⟨by simpa using h.size, (h.below.setCell (p := ⟨E2, 0, none⟩) h2 _).setCell (p := ⟨E2, 1, none⟩) h2 _, fun j hj hl => ?_, ?_, ?_, ?_, ?_, ?_⟩
  · rw [gn j (by omega)] at hl; exact h.f j hj hl
  · intro _
    refine ⟨E2, hE, h2, ?_⟩
    rw [gi, if_pos rfl]
    exact h3.set _
  · rw [gn 5 (by omega), gn 7 (by omega)]
    intro hl
    obtain ⟨D, q1, q2, q3⟩ := h.d hl
    exact ⟨D, q1, q2, q3.far (fun e => h.ne E2 D hE q1 h4 hl e.symm) _ _⟩
  · intro E' D'; rw [gn 4 (by omega), gn 5 (by omega)]; exact h.ne E' D'
  · intro _; rw [gn 4 (by omega)]; exact h4
  · rw [gn 7 (by omega), gn 5 (by omega)]; exact h.s7
theorem SJ.put7 {W0 : World} {a : Nat} {listed : Array Bool} {w : World} {v : Nat → Value} (h : SJ W0 a listed w v) {E : Nat} (h4 : listed.getD 5 false = true) (hE : v 5 = .pointer (some ⟨E, 0, none⟩)) :
    SJ W0 a (listed.setIfInBounds 7 true) ((w.setCell ⟨E, 0, none⟩ (.int .u64 (hi (vleft a 1)))).setCell ⟨E, 1, none⟩ (.int .u64 (lo (vleft a 1)))) v := by
  have gn : ∀ j, 7 ≠ j → (listed.setIfInBounds 7 true).getD j false = listed.getD j false := fun j hj => by rw [getD_setW (by rw [h.size]; omega), if_neg hj]
  have gi : (listed.setIfInBounds 7 true).getD 7 false = true := by rw [getD_setW (by rw [h.size]; omega), if_pos rfl]
  obtain ⟨E2, h1, h2, h3⟩ := h.d h4
  obtain rfl : E2 = E := by rw [hE] at h1; injection h1 with h1; injection h1 with h1; injection h1 with h1; exact h1.symm
  refine ⟨by simpa using h.size, (h.below.setCell (p := ⟨E2, 0, none⟩) h2 _).setCell (p := ⟨E2, 1, none⟩) h2 _, fun j hj hl => ?_, ?_, ?_, ?_, ?_, ?_⟩
  · rw [gn j (by omega)] at hl; exact h.f j hj hl
  · rw [gn 4 (by omega), gn 6 (by omega)]
    intro hl
    obtain ⟨D, q1, q2, q3⟩ := h.e hl
    exact ⟨D, q1, q2, q3.far (fun e => h.ne D E2 q1 hE hl h4 e) _ _⟩
  · intro _
    refine ⟨E2, hE, h2, ?_⟩
    rw [gi, if_pos rfl]
    exact h3.set _
  · intro E' D'; rw [gn 4 (by omega), gn 5 (by omega)]; exact h.ne E' D'
  · rw [gn 6 (by omega), gn 4 (by omega)]; exact h.s6
  · intro _; rw [gn 5 (by omega)]; exact h4
/-- the state of value's loop -/
structure VAt (w : World) (a : Nat) (w' : World) : Prop where
  below : Below w.heap.size w w'
  r : VB w' w.heap.size 0
  v : VB w' (w.heap.size + 1) a
theorem VAt.call {w w1 w2 : World} {a : Nat} (h : VAt w a w1) (hb : Below w1.heap.size w1 w2) : VAt w a w2 := ⟨h.below.trans (hb.mono h.below.size), h.r.call hb, h.v.call hb⟩
theorem VAt.put {w w1 : World} {a : Nat} (h : VAt w a w1) (c : Nat) : VAt w c ((w1.setCell ⟨w.heap.size + 1, 0, none⟩ (.int .u64 (hi c))).setCell ⟨w.heap.size + 1, 1, none⟩ (.int .u64 (lo c))) :=
  ⟨(h.below.setCell (p := ⟨w.heap.size + 1, 0, none⟩) (Nat.le_add_right _ 1) _).setCell (p := ⟨w.heap.size + 1, 1, none⟩) (Nat.le_add_right _ 1) _, h.r.far (by omega) _ _, h.v.set c⟩
theorem VAt.new (w : World) (t : TypeId) : VAt w 0 ((w.alloc (.cells #[.int .u64 0, .int .u64 0] t)).alloc (.cells #[.int .u64 0, .int .u64 0] t)) := by
  have h1 := VB.new w 0 t
  rw [hi_zro, lo_zro] at h1
  have h2 := VB.new (w.alloc (.cells #[.int .u64 0, .int .u64 0] t)) 0 t
  rw [hi_zro, lo_zro, World.size_alloc] at h2
  exact ⟨((Below.refl _ _).alloc (Nat.le_refl _) _).alloc (by simp) _, h1.call ((Below.refl _ _).alloc (Nat.le_refl _) _), h2⟩
theorem VAt.farD {w w1 : World} {a D : Nat} (h : VAt w a w1) (hD : w.heap.size ≤ D) (h1 : D ≠ w.heap.size) (h2 : D ≠ w.heap.size + 1) (x y : Value) : VAt w a ((w1.setCell ⟨D, 0, none⟩ x).setCell ⟨D, 1, none⟩ y) :=
  ⟨(h.below.setCell (p := ⟨D, 0, none⟩) hD _).setCell (p := ⟨D, 1, none⟩) hD _, h.r.far (fun e => h1 e.symm) _ _, h.v.far (fun e => h2 e.symm) _ _⟩
end
/- The reference's value of a hexadecimal literal. -/
section
open Go.RowKit

end
/- The reference's variable and atom. -/
section
open Go.RowKit

end
/- The reference's atom; every rule. -/
section
open Go.RowKit

end
/- The reference's Depth. -/
section
open Go.RowKit

end
end Go.Proofs.YtodmkmoglchoeaaDoor
