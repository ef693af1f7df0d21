/- Layer 7, pure: the text of a tree is scanned into its tokens. -/
import Derived.Test.YtmdifoclojogpaaGreatDoorYTree
namespace Go.Proofs.YtmdifoclojogpaaGreatDoor
open Go.RowKit

theorem strN_bl (ns : List Int) : bl (strN ns) = ns.map fun n => UInt8.ofNat n.toNat := by
  have h : ∀ (ns : List Int) (s : ByteArray), (ns.foldl (fun r n => r.push (UInt8.ofNat n.toNat)) s).data.toList = s.data.toList ++ ns.map fun n => UInt8.ofNat n.toNat := by
    intro ns
    induction ns with
    | nil => intro s; simp
    | cons x t ih => intro s; rw [List.foldl_cons, ih]; simp
  unfold bl strN; rw [h]; rfl
/-- the decimal text of a number -/
def dtx (v : Nat) : ByteArray := strN (tl (v : Nat))
theorem dtx_bl (v : Nat) : bl (dtx v) = (dg v).reverse.map fun d => UInt8.ofNat (48 + d) := by
  unfold dtx
  rw [strN_bl]
  have e : (v : Int).natAbs = v := by omega
  unfold tl
  rw [if_neg (by omega), List.nil_append, e, List.map_map]
  refine List.map_congr_left fun d _ => ?_
  show UInt8.ofNat (48 + (d : Int)).toNat = _
  rw [show (48 + (d : Int)).toNat = 48 + d by omega]
def dval (L : List Nat) : Nat := L.foldl (fun a d => a * 10 + d) 0
theorem dval_snoc (L : List Nat) (d : Nat) : dval (L ++ [d]) = dval L * 10 + d := by unfold dval; rw [List.foldl_append]; rfl
theorem dval_dg (n : Nat) : dval (dg n).reverse = n := by
  induction n using Nat.strongRecOn with
  | ind n ih =>
    by_cases h : n < 10
    · rw [dg_lo h]; show 0 * 10 + n = n; omega
    · rw [dg_hi h, List.reverse_cons, dval_snoc, ih (n / 10) (by omega)]; omega
theorem dval_take (L : List Nat) (k : Nat) : dval (L.take k) ≤ dval L := by
  have h : ∀ (B A : List Nat), dval A ≤ dval (A ++ B) := by
    intro B
    induction B with
    | nil => intro A; rw [List.append_nil]; exact Nat.le_refl _
    | cons d B ih =>
      intro A
      have := ih (A ++ [d])
      rw [dval_snoc, List.append_assoc] at this
      show dval A ≤ dval (A ++ ([d] ++ B))
      omega
  have := h (L.drop k) (L.take k)
  rwa [List.take_append_drop] at this
theorem dgN_dig : ∀ d, d < 10 → dgN (48 + d) = d := by decide
theorem isWd_dig : ∀ d, d < 10 → isWd (48 + d) = true ∧ isL (48 + d) = false := by decide
theorem dtx_size (v : Nat) : (dtx v).size = (dg v).length := by rw [← bl_len, dtx_bl, List.length_map, List.length_reverse]
theorem dtx_bt (v i : Nat) (hi : i < (dg v).length) : ∃ d, d < 10 ∧ (dg v).reverse[i]? = some d ∧ bt (dtx v) i = 48 + d := by
  have hl : i < (dg v).reverse.length := by rw [List.length_reverse]; exact hi
  have hd : (dg v).reverse[i]'hl < 10 := dg_lt v _ (List.mem_reverse.1 (List.getElem_mem hl))
  have e : (bl (dtx v))[i]? = some (UInt8.ofNat (48 + (dg v).reverse[i]'hl)) := by
    rw [dtx_bl, List.getElem?_map, List.getElem?_eq_getElem hl]; rfl
  have e2 := List.getElem?_eq_getElem hl
  generalize (dg v).reverse[i]'hl = d at hd e e2
  refine ⟨d, hd, e2, ?_⟩
  rw [bt_bl _ _ _ e, UInt8.toNat_ofNat']
  omega
theorem dtx_lit (v : Nat) (hv : v < 340282366920938463463374607431768211456) : litV (dtx v) = some v := by
  have hx : hpB (dtx v) x0 = false := by
    rw [hpB_eq, decide_eq_false_iff_not]
    intro e
    have hm : (120 : UInt8) ∈ bl (dtx v) := by
      have : (120 : UInt8) ∈ (bl (dtx v)).take x0.size := by rw [e]; decide
      exact List.mem_of_mem_take this
    rw [dtx_bl] at hm
    obtain ⟨d, hd, he⟩ := List.mem_map.1 hm
    have h10 := dg_lt v d (List.mem_reverse.1 hd)
    have := congrArg UInt8.toNat he
    simp at this
    omega
  have hpos := dg_pos v
  unfold litV litS litB
  rw [hx]
  show (if 0 < (dtx v).size then pv 10 (bt (dtx v)) (dtx v).size else none) = some v
  rw [dtx_size, if_pos hpos]
  have h : ∀ k, k ≤ (dg v).length → pv 10 (bt (dtx v)) k = some (dval ((dg v).reverse.take k)) := by
    intro k
    induction k with
    | zero => intro _; rfl
    | succ k ih =>
      intro hk
      obtain ⟨d, h10, hd, hb⟩ := dtx_bt v k (by omega)
      have hle := dval_take (dg v).reverse (k + 1)
      have hkl : k < (dg v).reverse.length := by rw [List.length_reverse]; omega
      have e : (dg v).reverse.take (k + 1) = (dg v).reverse.take k ++ [d] := by
        rw [List.take_succ_eq_append_getElem hkl, (List.getElem?_eq_some_iff.1 hd).2]
      rw [e, dval_snoc, dval_dg] at hle
      rw [pv_step (ih (by omega)) (by rw [hb, dgN_dig d h10]; omega) (by rw [hb, dgN_dig d h10]; omega), hb, dgN_dig d h10, e, dval_snoc]
  rw [h _ (Nat.le_refl _), List.take_of_length_le (by rw [List.length_reverse]; exact Nat.le_refl _), dval_dg]
theorem dtx_good (v : Nat) (hv : v < 340282366920938463463374607431768211456) : GoodTok ⟨1, dtx v, 0⟩ := by
  have hpos := dg_pos v
  have hw : ∀ i, i < (dtx v).size → isWd (bt (dtx v) i) = true := fun i hi => by
    rw [dtx_size] at hi
    obtain ⟨d, h10, _, hb⟩ := dtx_bt v i hi
    rw [hb]; exact (isWd_dig d h10).1
  refine ⟨by show 1 ≤ (dtx v).size; rw [dtx_size]; omega, .inl ⟨?_, Nat.one_ne_zero, hw⟩⟩
  show 1 = kindN (dtx v)
  obtain ⟨d, h10, _, hb⟩ := dtx_bt v 0 hpos
  unfold kindN
  rw [hb, (isWd_dig d h10).2, if_neg (by decide), if_pos (by rw [dtx_lit v hv]; rfl)]
/-- a space, or a token's kind and text -/
abbrev It := Option (Nat × ByteArray)
def itB : It → List UInt8
  | none => [32]
  | some x => bl x.2
def itx (l : List It) : List UInt8 := l.flatMap itB
theorem itx_app (l r : List It) : itx (l ++ r) = itx l ++ itx r := by unfold itx; rw [List.flatMap_append]
/-- may this byte follow the token? -/
def folB (k : Nat) (t : ByteArray) (d : UInt8) : Bool := if k = 3 then decide ((symL.find? fun y => hpB (t ++ ⟨#[d]⟩) y) = some t) else !isWd d.toNat
def FolT (x : Nat × ByteArray) (rest : List UInt8) : Prop := rest = [] ∨ ∃ d q, rest = d :: q ∧ folB x.1 x.2 d = true
def GI : List It → List UInt8 → Prop
  | [], _ => True
  | none :: r, tail => GI r tail
  | some x :: r, tail => GoodTok ⟨x.1, x.2, 0⟩ ∧ FolT x (itx r ++ tail) ∧ GI r tail
theorem GI_app (l r : List It) (tail : List UInt8) (h1 : GI l (itx r ++ tail)) (h2 : GI r tail) : GI (l ++ r) tail := by
  induction l with
  | nil => exact h2
  | cons x l ih =>
    cases x with
    | none => exact ih h1
    | some x =>
      obtain ⟨a, b, c⟩ := h1
      refine ⟨a, ?_, ih c⟩
      show FolT x (itx (l ++ r) ++ tail)
      rw [itx_app, List.append_assoc]; exact b
theorem sym_find2 (T x : ByteArray) (rest : List UInt8) (hx : x ∈ symL) (hT : bl T = bl x ++ rest) (hr : rest = [] ∨ ∃ d q, rest = d :: q ∧ (symL.find? fun y => hpB (x ++ ⟨#[d]⟩) y) = some x) : (symL.find? fun y => hpB T y) = some x := by
  have hall := List.all_eq_true.1 sym_self x hx
  simp only [Bool.and_eq_true, Bool.or_eq_true, decide_eq_true_iff] at hall
  obtain ⟨⟨⟨⟨h1, _⟩, h3⟩, _⟩, _⟩ := hall
  rcases hr with rfl | ⟨d, q, rfl, h2⟩
  · rw [find_cg (U := x) (by rw [hT, List.append_nil])]; exact h1
  · rw [find_cg (U := x ++ ⟨#[d]⟩) (by
      rw [hT, bl_app]
      have hlx := bl_len x
      cases hb : bl x with
      | nil => rw [hb] at hlx; simp at hlx; omega
      | cons b r =>
        rw [hb] at hlx
        cases r with
        | nil => rfl
        | cons c r => rfl)]
    exact h2
theorem next_is2 (s : ByteArray) (a : Nat) (t : Tok) (rest : List UInt8) (ha : a ≤ s.size) (hg : GoodTok t) (hd : (bl s).drop a = bl t.text ++ rest) (hr : FolT (t.kind, t.text) rest) : nextTok s a = some ⟨t.kind, t.text, a⟩ ∧ bt s a ≠ 32 ∧ a + t.text.size ≤ s.size := by
  have hlen := congrArg List.length hd
  rw [List.length_drop, List.length_append, bl_len, bl_len] at hlen
  have hle : a + t.text.size ≤ s.size := by have := hg.pos; omega
  have hby : ∀ i, i < t.text.size → bt s (a + i) = bt t.text i := by
    intro i hi
    have e : (bl s)[a + i]? = some (t.text[i]'hi) := by
      rw [← List.getElem?_drop, hd, List.getElem?_append_left (by rw [bl_len]; exact hi)]
      exact pr_get t.text i hi
    rw [bt_bl s _ _ e, bt_at]
  have hend : rest = [] → a + t.text.size = s.size := fun e => by rw [e] at hlen; simp at hlen; have := hg.pos; omega
  have hsp : ∀ d q, rest = d :: q → bt s (a + t.text.size) = d.toNat := fun d q e => by
    have e2 : (bl s)[a + t.text.size]? = some d := by
      rw [← List.getElem?_drop, hd, List.getElem?_append_right (by rw [bl_len]; exact Nat.le_refl _), bl_len, Nat.sub_self, e]; rfl
    rw [bt_bl s _ _ e2]
  have hext : s.extract a (a + t.text.size) = t.text := by
    apply ba_ext
    rw [bl_ext, hd, Nat.add_sub_cancel_left, List.take_append_of_le_length (by rw [bl_len]; exact Nat.le_refl _), List.take_of_length_le (by rw [bl_len]; exact Nat.le_refl _)]
  have hpos := hg.pos
  have h0 := hby 0 (by omega)
  rw [Nat.add_zero] at h0
  rcases hg.is with ⟨hk, hk0, hw⟩ | ⟨hk, hx⟩
  · have hk3 : t.kind ≠ 3 := by
      rw [hk]; unfold kindN; split
      · decide
      · split <;> decide
    have hstop : ¬ (a + t.text.size < s.size ∧ isWd (bt s (a + t.text.size)) = true) := fun h => by
      rcases hr with e | ⟨d, q, e, hf⟩
      · have := hend e; omega
      · rw [hsp d q e] at h
        unfold folB at hf
        rw [if_neg hk3, h.2] at hf
        cases hf
    have hrun := wrun_is s t.text.size a (fun i hi => ⟨by omega, by rw [hby i hi]; exact hw i hi⟩) hstop
    refine ⟨?_, ?_, hle⟩
    · unfold nextTok
      rw [hrun, if_pos (by omega), hext, if_pos (by rw [← hk]; exact hk0), ← hk]
    · rw [h0]; intro e; have := hw 0 (by omega); rw [e] at this; exact absurd this (by decide)
  · have hall := List.all_eq_true.1 sym_self t.text hx
    simp only [Bool.and_eq_true, Bool.not_eq_true', decide_eq_false_iff_not] at hall
    have hnw := hall.1.2
    have hn32 := hall.2
    refine ⟨?_, by rw [h0]; exact hn32, hle⟩
    have hrun : wrun s a = 0 := wrun_stop s a (fun h => by rw [h0, hnw] at h; exact absurd h.2 (by decide))
    unfold nextTok
    rw [hrun, if_neg (by decide)]
    have hf := sym_find2 (s.extract a s.size) t.text rest hx (by
      rw [bl_ext, List.take_of_length_le (by rw [List.length_drop, bl_len]; exact Nat.le_refl _), hd]) (by
      rcases hr with e | ⟨d, q, e, hf⟩
      · exact .inl e
      · unfold folB at hf
        rw [if_pos hk, decide_eq_true_iff] at hf
        exact .inr ⟨d, q, e, hf⟩)
    unfold symAt
    rw [hf, hk]
    rfl
theorem it_scanN (s : ByteArray) : ∀ (r : List It) (f a : Nat) (acc : List Tok), a ≤ s.size → s.size ≤ f + a → GI r [] → (bl s).drop a = itx r → ∃ l', scanN s f a acc = (acc ++ l', 0, 0) ∧ l'.map kt = r.filterMap id := by
  intro r
  induction r with
  | nil =>
    intro f a acc ha hf _ hd
    have h := congrArg List.length hd
    rw [List.length_drop, bl_len] at h
    obtain rfl : a = s.size := by simp [itx] at h; omega
    exact ⟨[], by rw [scanN_end, List.append_nil], rfl⟩
  | cons x r ih =>
    intro f a acc ha hf hg hd
    cases x with
    | none =>
      have hd1 : (bl s).drop a = 32 :: itx r := hd
      have hlt : a < s.size := by
        have h := congrArg List.length hd1
        rw [List.length_drop, bl_len] at h
        simp at h; omega
      have h32 : bt s a = 32 := by
        have e : (bl s)[a]? = some 32 := by
          have h := congrArg (fun l => l[0]?) hd1
          simp only [List.getElem?_drop, Nat.add_zero, List.getElem?_cons_zero] at h
          exact h
        rw [bt_bl s a _ e]; rfl
      obtain ⟨f1, rfl⟩ : ∃ f1, f = f1 + 1 := ⟨f - 1, by omega⟩
      obtain ⟨l', e1, e2⟩ := ih f1 (a + 1) acc (by omega) (by omega) hg (by rw [← List.drop_drop, hd1]; rfl)
      exact ⟨l', by rw [scanN, if_pos hlt, if_pos h32]; exact e1, e2⟩
    | some x =>
      obtain ⟨g1, g2, g3⟩ := hg
      rw [List.append_nil] at g2
      have hd1 : (bl s).drop a = bl x.2 ++ itx r := hd
      obtain ⟨n1, n2, n3⟩ := next_is2 s a ⟨x.1, x.2, 0⟩ _ ha g1 hd1 g2
      have hp := g1.pos
      have hp2 : 1 ≤ x.2.size := hp
      have n3' : a + x.2.size ≤ s.size := n3
      obtain ⟨f1, rfl⟩ : ∃ f1, f = f1 + 1 := ⟨f - 1, by omega⟩
      obtain ⟨l', e1, e2⟩ := ih f1 (a + x.2.size) (acc ++ [⟨x.1, x.2, a⟩]) n3' (by omega) g3 (by
        rw [← List.drop_drop, hd1, List.drop_append_of_le_length (by rw [bl_len]; exact Nat.le_refl _), List.drop_of_length_le (by rw [bl_len]; exact Nat.le_refl _), List.nil_append])
      refine ⟨⟨x.1, x.2, a⟩ :: l', ?_, by rw [List.map_cons, e2]; rfl⟩
      rw [scanN, if_pos (by omega), if_neg n2, n1]
      show scanN s f1 (a + x.2.size) (acc ++ [⟨x.1, x.2, a⟩]) = _
      rw [e1, List.append_assoc]; rfl
/-- the text of items -/
def itT (l : List It) : ByteArray := ⟨(itx l).toArray⟩
theorem bl_itT (l : List It) : bl (itT l) = itx l := rfl
theorem it_scan (l : List It) (hg : GI l []) (h : (itT l).size ≤ 400) : ∃ l', scan (itT l) = (l', 0, 0) ∧ l'.map kt = l.filterMap id := by
  unfold scan
  rw [if_neg (by omega)]
  obtain ⟨l', e1, e2⟩ := it_scanN (itT l) l (itT l).size 0 [] (Nat.zero_le _) (by omega) hg rfl
  exact ⟨l', by rw [e1]; rfl, e2⟩
end Go.Proofs.YtmdifoclojogpaaGreatDoor
