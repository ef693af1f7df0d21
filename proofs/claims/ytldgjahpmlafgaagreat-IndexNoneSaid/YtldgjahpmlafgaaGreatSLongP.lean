/- Schemas that a law makes: rows of structs; the long schema. -/
import Derived.Test.YtldgjahpmlafgaaGreatSBegun
import Derived.OwnWalk
namespace Go.Proofs.YtldgjahpmlafgaaGreat
open Go.RowKit

/-- The cells of a list of structs, one after the other. -/
def flat {α : Type} (enc : α → List Value) (xs : List α) : List Value := xs.flatMap enc
theorem flat_get {α : Type} {enc : α → List Value} {sz : Nat} (hsz : ∀ x, (enc x).length = sz) : ∀ (xs : List α) (i j : Nat) (x : α), xs[i]? = some x → j < sz → (flat enc xs)[i * sz + j]? = (enc x)[j]?
  | [], i, j, x, h, _ => by simp at h
  | y :: ys, 0, j, x, h, hj => by
    simp at h
    subst h
    simp only [flat, List.flatMap_cons, Nat.zero_mul, Nat.zero_add]
    rw [List.getElem?_append_left (by rw [hsz]; exact hj)]
  | y :: ys, i + 1, j, x, h, hj => by
    simp only [List.getElem?_cons_succ] at h
    have ih := flat_get hsz ys i j x h hj
    simp only [flat, List.flatMap_cons] at ih ⊢
    rw [List.getElem?_append_right (by rw [hsz, Nat.add_mul]; omega), hsz, ← ih]
    congr 1
    rw [Nat.add_mul]
    omega
theorem flatS_len {α : Type} {enc : α → List Value} {sz : Nat} (hsz : ∀ x, (enc x).length = sz) : ∀ (xs : List α), (flat enc xs).length = xs.length * sz
  | [] => by simp [flat]
  | y :: ys => by
    have ih := flatS_len hsz ys
    simp only [flat, List.flatMap_cons, List.length_append, List.length_cons] at ih ⊢
    rw [ih, hsz, Nat.add_mul]
    omega
theorem flat_snoc {α : Type} (enc : α → List Value) (xs : List α) (x : α) : flat enc (xs ++ [x]) = flat enc xs ++ enc x := by simp [flat]
/-- A row of one's own holds these structs. -/
theorem rowV_of_own {α : Type} {P : CellP α} {enc : α → List Value} {sz base B : Nat} {e : TypeId} {w : World} {v : Value} {xs : List α} (hsz : ∀ x, (enc x).length = sz) (hB : w.heap.size ≤ B)
    (hP : ∀ x ∈ xs, P B w (enc x) x) (h : w.ownsRow base e sz v xs.length (flat enc xs)) : RowV sz P B w v xs := by
  have h2 := h.2
  rcases h2 with ⟨rfl, h0⟩ | ⟨g, cap, cur, rfl, hg, hh, hn, hc, hcs, htake⟩
  · exact ⟨none, 0, 0, rfl, Lib.hid h0.symm, Nat.le_refl _, Nat.zero_le _, .inl (List.eq_nil_of_length_eq_zero h0)⟩
  · have hgl : g < w.heap.size := by
      rcases Nat.lt_or_ge g w.heap.size with h | h
      · exact h
      · rw [Array.getElem?_eq_none h] at hh; cases hh
    refine ⟨_, _, cap, rfl, Lib.hid rfl, hn, hc, .inr ⟨g, 0, rfl, fun i x hx => ⟨by omega, enc x, fun j hj => ?_, hP x (List.mem_of_getElem? hx)⟩⟩⟩
    rw [hsz] at hj
    have hi : i < xs.length := (List.getElem?_eq_some_iff.1 hx).1
    have hlt : i * sz + j < xs.length * sz := by
      have : (i + 1) * sz ≤ xs.length * sz := Nat.mul_le_mul_right _ hi
      rw [Nat.add_mul] at this
      omega
    have hcell := World.ownsRow.cellAt h (i * sz + j) hlt
    rw [Nat.zero_add, hcell]
    have := flat_get hsz xs i j x hx hj
    exact this.trans (List.getElem?_eq_getElem _)
theorem str_snoc (l : List Nat) (x : Nat) : strL l ++ ⟨#[UInt8.ofNat x]⟩ = strL (l ++ [x]) := by
  have h : ∀ a b : ByteArray, a.data.toList = b.data.toList → a = b := fun a b e => by
    cases a; cases b; simp only [ByteArray.mk.injEq]; exact Array.ext' e
  refine h _ _ ?_
  rw [strL_data, ByteArray.data_append, Array.toList_append, strL_data]
  simp

def tabD (t : List Nat) (i : Nat) : TableD := ⟨i, [], [], [], 0, [], 0, t⟩
def actD (t : List Nat) (i : Nat) : ActionD := ⟨i, [], [], [], t⟩
def encTab (x : TableD) : List Value := [.int .i64 x.id, .string (strL x.name), .slice none 0 0, .slice none 0 0, .int .i64 x.dflt, .slice none 0 0, .int .i64 x.size, .string (strL x.restr)]
def encAct (x : ActionD) : List Value := [.int .i64 x.id, .string (strL x.name), .slice none 0 0, .slice none 0 0, .string (strL x.restr)]
def longD (t : List Nat) : SchemaD := ⟨[], [], [], (List.range 12).map (actD t), (List.range 8).map (tabD t), [], [], [], 0, 0⟩
/-- No error yet. -/
def FineS (s : WS) : Prop := s.long = false ∧ s.strange = false ∧ s.outside = false
theorem fine_num {k : Nat} {n : Int} (h : outR k n = false) {s : WS} (hs : FineS s) : FineS (wNum k n s) := ⟨hs.1, hs.2.1, by simp [wNum, hs.2.2, h]⟩
theorem fine_text {most : Nat} {t : List Nat} (h : t.length ≤ most) (hp : plain t = true) {s : WS} (hs : FineS s) : FineS (pText most t s) := by
  rw [pText, if_neg (by omega)]
  exact ⟨hs.1, by simp [hs.2.1, hp], hs.2.2⟩
theorem fine_fold {α : Type} {f : α → WS → WS} : ∀ (xs : List α), (∀ x ∈ xs, ∀ s, FineS s → FineS (f x s)) → ∀ s, FineS s → FineS (xs.foldl (fun s x => f x s) s)
  | [], _, _, h => h
  | x :: xs, hf, s, h => fine_fold xs (fun y hy => hf y (List.mem_cons_of_mem _ hy)) _ (hf x (List.mem_cons_self ..) s h)
theorem fine_list {α : Type} {most : Nat} {f : α → WS → WS} {xs : List α} (h : xs.length ≤ most) (hf : ∀ x ∈ xs, ∀ s, FineS s → FineS (f x s)) {s : WS} (hs : FineS s) : FineS (pList most f xs s) := by
  rw [pList, if_neg (by omega)]
  exact fine_fold xs hf _ ⟨hs.1, hs.2.1, hs.2.2⟩
theorem fine_nil {α : Type} {most : Nat} {f : α → WS → WS} {s : WS} (hs : FineS s) : FineS (pList most f [] s) := fine_list (Nat.zero_le _) (fun _ h => by cases h) hs
theorem outR_small {k i : Nat} (h : i < 2 ^ (8 * k)) : outR k (i : Int) = false := by
  have : (i : Int) < 2 ^ (8 * k) := by exact_mod_cast h
  simp [outR]
  omega
theorem fine_long (t : List Nat) (ht : t.length ≤ 400) (hp : plain t = true) : FineS (eSchema wayP (longD t) ws0) := by
  have h0 : FineS ws0 := ⟨rfl, rfl, rfl⟩
  have hz : outR 2 0 = false := by decide
  have ha : ∀ x ∈ (List.range 12).map (actD t), ∀ s, FineS s → FineS (eAction wayP x s) := fun x hx s hs => by
    obtain ⟨i, hi, rfl⟩ := List.mem_map.1 hx
    have hi := List.mem_range.1 hi
    show FineS (pText 400 t (pList 12 ePrim [] (pList 4 (eParam wayP) [] (pText 24 [] (wNum 2 (i : Int) s)))))
    exact fine_text ht hp (fine_nil (fine_nil (fine_text (Nat.zero_le _) rfl (fine_num (outR_small (by omega)) hs))))
  have htb : ∀ x ∈ (List.range 8).map (tabD t), ∀ s, FineS s → FineS (eTable wayP x s) := fun x hx s hs => by
    obtain ⟨i, hi, rfl⟩ := List.mem_map.1 hx
    have hi := List.mem_range.1 hi
    show FineS (pText 400 t (wNum 2 0 (pList 4 wVal [] (wNum 2 0 (pList 12 (wNum 2) [] (pList 4 (eKey wayP) [] (pText 24 [] (wNum 2 (i : Int) s))))))))
    exact fine_text ht hp (fine_num hz (fine_nil (fine_num hz (fine_nil (fine_nil (fine_text (Nat.zero_le _) rfl (fine_num (outR_small (by omega)) hs)))))))
  show FineS (pList 8 eRef [] (pList 6 (eRole wayP) [] (pList 12 eStage [] (pList 8 (eTable wayP) ((List.range 8).map (tabD t)) (pList 12 (eAction wayP) ((List.range 12).map (actD t)) (pList 12 (eState wayP) [] (pList 8 (eHeader wayP) [] (pList 32 (eField wayP) [] (wNum 2 0 (wNum 2 0 ws0))))))))))
  exact fine_nil (fine_nil (fine_nil (fine_list (by simp) htb (fine_list (by simp) ha (fine_nil (fine_nil (fine_nil (fine_num hz (fine_num hz h0)))))))))
theorem long_res (t : List Nat) (ht : t.length ≤ 400) (hp : plain t = true) : (finE (eSchema wayP (longD t) ws0) = 0 ∨ finE (eSchema wayP (longD t) ws0) = 3) ∧ (eSchema wayR (longD t) ws0).l.length ≤ 6800000 := by
  have hf := fine_long t ht hp
  have hr := (sim_schema (longD t)).rel _ _ (.refl ws0)
  have ha := adds_schema (longD t) ws0
  constructor
  · unfold finE
    rw [hf.1, hf.2.1, hf.2.2]
    simp only [Bool.false_eq_true, if_false]
    split
    · exact .inr rfl
    · exact .inl rfl
  · rw [← hr.2 (hr.1.symm.trans hf.1)]
    have e : ws0.l.length = 0 := rfl
    omega
end Go.Proofs.YtldgjahpmlafgaaGreat
