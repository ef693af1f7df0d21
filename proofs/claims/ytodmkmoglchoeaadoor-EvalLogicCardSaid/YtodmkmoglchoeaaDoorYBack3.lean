/- Contracts, joined: YBack1, YBack2, YBack3. -/
import Derived.Test.YtodmkmoglchoeaaDoorYTree
namespace Go.Proofs.YtodmkmoglchoeaaDoor
/- Layer 7, pure: the text of a tree is scanned into its tokens. -/
section
open Go.RowKit

theorem strN_bl (ns : List Int) : bl (strN ns) = ns.map fun n => UInt8.ofNat n.toNat := by
  have h : ∀ (ns : List Int) (s : ByteArray), (ns.foldl (fun r n => r.push (UInt8.ofNat n.toNat)) s).data.toList = s.data.toList ++ ns.map fun n => UInt8.ofNat n.toNat := by
    intro ns
    induction ns with
    | nil => intro s; simp
    | cons x t ih => intro s; rw [List.foldl_cons, ih]; simp
  unfold bl strN; rw [h]; rfl
/-- the decimal text of a number -/
def dtx (v : Nat) : ByteArray := strN (tl (v : Nat))
theorem dtx_bl (v : Nat) : bl (dtx v) = (dg v).reverse.map fun d => UInt8.ofNat (48 + d) := by
  unfold dtx
  rw [strN_bl]
  have e : (v : Int).natAbs = v := by omega
  unfold tl
  rw [if_neg (by omega), List.nil_append, e, List.map_map]
  refine List.map_congr_left fun d _ => ?_
  show UInt8.ofNat (48 + (d : Int)).toNat = _
  rw [show (48 + (d : Int)).toNat = 48 + d by omega]
def dval (L : List Nat) : Nat := L.foldl (fun a d => a * 10 + d) 0
theorem dval_snoc (L : List Nat) (d : Nat) : dval (L ++ [d]) = dval L * 10 + d := by unfold dval; rw [List.foldl_append]; rfl
theorem dval_dg (n : Nat) : dval (dg n).reverse = n := by
  induction n using Nat.strongRecOn with
  | ind n ih =>
    by_cases h : n < 10
    · rw [dg_lo h]; show 0 * 10 + n = n; omega
    · rw [dg_hi h, List.reverse_cons, dval_snoc, ih (n / 10) (by omega)]; omega
theorem dval_take (L : List Nat) (k : Nat) : dval (L.take k) ≤ dval L := by
  have h : ∀ (B A : List Nat), dval A ≤ dval (A ++ B) := by
    intro B
    induction B with
    | nil => intro A; rw [List.append_nil]; exact Nat.le_refl _
    | cons d B ih =>
      intro A
      have := ih (A ++ [d])
      rw [dval_snoc, List.append_assoc] at this
      show dval A ≤ dval (A ++ ([d] ++ B))
      omega
  have := h (L.drop k) (L.take k)
  rwa [List.take_append_drop] at this
theorem dgN_dig : ∀ d, d < 10 → dgN (48 + d) = d := by decide
theorem isWd_dig : ∀ d, d < 10 → isWd (48 + d) = true ∧ isL (48 + d) = false := by decide
theorem dtx_size (v : Nat) : (dtx v).size = (dg v).length := by rw [← bl_len, dtx_bl, List.length_map, List.length_reverse]
theorem dtx_bt (v i : Nat) (hi : i < (dg v).length) : ∃ d, d < 10 ∧ (dg v).reverse[i]? = some d ∧ bt (dtx v) i = 48 + d := by
  have hl : i < (dg v).reverse.length := by rw [List.length_reverse]; exact hi
  have hd : (dg v).reverse[i]'hl < 10 := dg_lt v _ (List.mem_reverse.1 (List.getElem_mem hl))
  have e : (bl (dtx v))[i]? = some (UInt8.ofNat (48 + (dg v).reverse[i]'hl)) := by
    rw [dtx_bl, List.getElem?_map, List.getElem?_eq_getElem hl]; rfl
  have e2 := List.getElem?_eq_getElem hl
  generalize (dg v).reverse[i]'hl = d at hd e e2
  refine ⟨d, hd, e2, ?_⟩
  rw [bt_bl _ _ _ e, UInt8.toNat_ofNat']
  omega
theorem dtx_lit (v : Nat) (hv : v < 340282366920938463463374607431768211456) : litV (dtx v) = some v := by
  have hx : hpB (dtx v) x0 = false := by
    rw [hpB_eq, decide_eq_false_iff_not]
    intro e
    have hm : (120 : UInt8) ∈ bl (dtx v) := by
      have : (120 : UInt8) ∈ (bl (dtx v)).take x0.size := by rw [e]; decide
      exact List.mem_of_mem_take this
    rw [dtx_bl] at hm
    obtain ⟨d, hd, he⟩ := List.mem_map.1 hm
    have h10 := dg_lt v d (List.mem_reverse.1 hd)
    have := congrArg UInt8.toNat he
    simp at this
    omega
  have hpos := dg_pos v
  unfold litV litS litB
  rw [hx]
  show (if 0 < (dtx v).size then pv 10 (bt (dtx v)) (dtx v).size else none) = some v
  rw [dtx_size, if_pos hpos]
  have h : ∀ k, k ≤ (dg v).length → pv 10 (bt (dtx v)) k = some (dval ((dg v).reverse.take k)) := by
    intro k
    induction k with
    | zero => intro _; rfl
    | succ k ih =>
      intro hk
      obtain ⟨d, h10, hd, hb⟩ := dtx_bt v k (by omega)
      have hle := dval_take (dg v).reverse (k + 1)
      have hkl : k < (dg v).reverse.length := by rw [List.length_reverse]; omega
      have e : (dg v).reverse.take (k + 1) = (dg v).reverse.take k ++ [d] := by
        rw [List.take_succ_eq_append_getElem hkl, (List.getElem?_eq_some_iff.1 hd).2]
      rw [e, dval_snoc, dval_dg] at hle
      rw [pv_step (ih (by omega)) (by rw [hb, dgN_dig d h10]; omega) (by rw [hb, dgN_dig d h10]; omega), hb, dgN_dig d h10, e, dval_snoc]
  rw [h _ (Nat.le_refl _), List.take_of_length_le (by rw [List.length_reverse]; exact Nat.le_refl _), dval_dg]
theorem dtx_good (v : Nat) (hv : v < 340282366920938463463374607431768211456) : GoodTok ⟨1, dtx v, 0⟩ := by
  have hpos := dg_pos v
  have hw : ∀ i, i < (dtx v).size → isWd (bt (dtx v) i) = true := fun i hi => by
    rw [dtx_size] at hi
    obtain ⟨d, h10, _, hb⟩ := dtx_bt v i hi
    rw [hb]; exact (isWd_dig d h10).1
  refine ⟨by show 1 ≤ (dtx v).size; rw [dtx_size]; omega, .inl ⟨?_, Nat.one_ne_zero, hw⟩⟩
  show 1 = kindN (dtx v)
  obtain ⟨d, h10, _, hb⟩ := dtx_bt v 0 hpos
  unfold kindN
  rw [hb, (isWd_dig d h10).2, if_neg (by decide), if_pos (by rw [dtx_lit v hv]; rfl)]
/-- a space, or a token's kind and text -/
abbrev It := Option (Nat × ByteArray)
def itB : It → List UInt8
  | none => [32]
  | some x => bl x.2
def itx (l : List It) : List UInt8 := l.flatMap itB
theorem itx_app (l r : List It) : itx (l ++ r) = itx l ++ itx r := by unfold itx; rw [List.flatMap_append]
/-- may this byte follow the token? -/
def folB (k : Nat) (t : ByteArray) (d : UInt8) : Bool := if k = 3 then decide ((symL.find? fun y => hpB (t ++ ⟨#[d]⟩) y) = some t) else !isWd d.toNat
def FolT (x : Nat × ByteArray) (rest : List UInt8) : Prop := rest = [] ∨ ∃ d q, rest = d :: q ∧ folB x.1 x.2 d = true
def GI : List It → List UInt8 → Prop
  | [], _ => True
  | none :: r, tail => GI r tail
  | some x :: r, tail => GoodTok ⟨x.1, x.2, 0⟩ ∧ FolT x (itx r ++ tail) ∧ GI r tail
theorem GI_app (l r : List It) (tail : List UInt8) (h1 : GI l (itx r ++ tail)) (h2 : GI r tail) : GI (l ++ r) tail := by
  induction l with
  | nil => exact h2
  | cons x l ih =>
    cases x with
    | none => exact ih h1
    | some x =>
      obtain ⟨a, b, c⟩ := h1
      refine ⟨a, ?_, ih c⟩
      show FolT x (itx (l ++ r) ++ tail)
      rw [itx_app, List.append_assoc]; exact b
theorem sym_find2 (T x : ByteArray) (rest : List UInt8) (hx : x ∈ symL) (hT : bl T = bl x ++ rest) (hr : rest = [] ∨ ∃ d q, rest = d :: q ∧ (symL.find? fun y => hpB (x ++ ⟨#[d]⟩) y) = some x) : (symL.find? fun y => hpB T y) = some x := by
  have hall := List.all_eq_true.1 sym_self x hx
  simp only [Bool.and_eq_true, Bool.or_eq_true, decide_eq_true_iff] at hall
  obtain ⟨⟨⟨⟨h1, _⟩, h3⟩, _⟩, _⟩ := hall
  rcases hr with rfl | ⟨d, q, rfl, h2⟩
  · rw [find_cg (U := x) (by rw [hT, List.append_nil])]; exact h1
  · rw [find_cg (U := x ++ ⟨#[d]⟩) (by
      rw [hT, bl_app]
      have hlx := bl_len x
      cases hb : bl x with
      | nil => rw [hb] at hlx; simp at hlx; omega
      | cons b r =>
        rw [hb] at hlx
        cases r with
        | nil => rfl
        | cons c r => rfl)]
    exact h2
theorem next_is2 (s : ByteArray) (a : Nat) (t : Tok) (rest : List UInt8) (ha : a ≤ s.size) (hg : GoodTok t) (hd : (bl s).drop a = bl t.text ++ rest) (hr : FolT (t.kind, t.text) rest) : nextTok s a = some ⟨t.kind, t.text, a⟩ ∧ bt s a ≠ 32 ∧ a + t.text.size ≤ s.size := by
  have hlen := congrArg List.length hd
  rw [List.length_drop, List.length_append, bl_len, bl_len] at hlen
  have hle : a + t.text.size ≤ s.size := by have := hg.pos; omega
  have hby : ∀ i, i < t.text.size → bt s (a + i) = bt t.text i := by
    intro i hi
    have e : (bl s)[a + i]? = some (t.text[i]'hi) := by
      rw [← List.getElem?_drop, hd, List.getElem?_append_left (by rw [bl_len]; exact hi)]
      exact pr_get t.text i hi
    rw [bt_bl s _ _ e, bt_at]
  have hend : rest = [] → a + t.text.size = s.size := fun e => by rw [e] at hlen; simp at hlen; have := hg.pos; omega
  have hsp : ∀ d q, rest = d :: q → bt s (a + t.text.size) = d.toNat := fun d q e => by
    have e2 : (bl s)[a + t.text.size]? = some d := by
      rw [← List.getElem?_drop, hd, List.getElem?_append_right (by rw [bl_len]; exact Nat.le_refl _), bl_len, Nat.sub_self, e]; rfl
    rw [bt_bl s _ _ e2]
  have hext : s.extract a (a + t.text.size) = t.text := by
    apply ba_ext
    rw [bl_ext, hd, Nat.add_sub_cancel_left, List.take_append_of_le_length (by rw [bl_len]; exact Nat.le_refl _), List.take_of_length_le (by rw [bl_len]; exact Nat.le_refl _)]
  have hpos := hg.pos
  have h0 := hby 0 (by omega)
  rw [Nat.add_zero] at h0
  rcases hg.is with ⟨hk, hk0, hw⟩ | ⟨hk, hx⟩
  · have hk3 : t.kind ≠ 3 := by
      rw [hk]; unfold kindN; split
      · decide
      · split <;> decide
    have hstop : ¬ (a + t.text.size < s.size ∧ isWd (bt s (a + t.text.size)) = true) := fun h => by
      rcases hr with e | ⟨d, q, e, hf⟩
      · have := hend e; omega
      · rw [hsp d q e] at h
        unfold folB at hf
        rw [if_neg hk3, h.2] at hf
        cases hf
    have hrun := wrun_is s t.text.size a (fun i hi => ⟨by omega, by rw [hby i hi]; exact hw i hi⟩) hstop
    refine ⟨?_, ?_, hle⟩
    · unfold nextTok
      rw [hrun, if_pos (by omega), hext, if_pos (by rw [← hk]; exact hk0), ← hk]
    · rw [h0]; intro e; have := hw 0 (by omega); rw [e] at this; exact absurd this (by decide)
  · have hall := List.all_eq_true.1 sym_self t.text hx
    simp only [Bool.and_eq_true, Bool.not_eq_true', decide_eq_false_iff_not] at hall
    have hnw := hall.1.2
    have hn32 := hall.2
    refine ⟨?_, by rw [h0]; exact hn32, hle⟩
    have hrun : wrun s a = 0 := wrun_stop s a (fun h => by rw [h0, hnw] at h; exact absurd h.2 (by decide))
    unfold nextTok
    rw [hrun, if_neg (by decide)]
    have hf := sym_find2 (s.extract a s.size) t.text rest hx (by
      rw [bl_ext, List.take_of_length_le (by rw [List.length_drop, bl_len]; exact Nat.le_refl _), hd]) (by
      rcases hr with e | ⟨d, q, e, hf⟩
      · exact .inl e
      · unfold folB at hf
        rw [if_pos hk, decide_eq_true_iff] at hf
        exact .inr ⟨d, q, e, hf⟩)
    unfold symAt
    rw [hf, hk]
    rfl
theorem it_scanN (s : ByteArray) : ∀ (r : List It) (f a : Nat) (acc : List Tok), a ≤ s.size → s.size ≤ f + a → GI r [] → (bl s).drop a = itx r → ∃ l', scanN s f a acc = (acc ++ l', 0, 0) ∧ l'.map kt = r.filterMap id := by
  intro r
  induction r with
  | nil =>
    intro f a acc ha hf _ hd
    have h := congrArg List.length hd
    rw [List.length_drop, bl_len] at h
    obtain rfl : a = s.size := by simp [itx] at h; omega
    exact ⟨[], by rw [scanN_end, List.append_nil], rfl⟩
  | cons x r ih =>
    intro f a acc ha hf hg hd
    cases x with
    | none =>
      have hd1 : (bl s).drop a = 32 :: itx r := hd
      have hlt : a < s.size := by
        have h := congrArg List.length hd1
        rw [List.length_drop, bl_len] at h
        simp at h; omega
      have h32 : bt s a = 32 := by
        have e : (bl s)[a]? = some 32 := by
          have h := congrArg (fun l => l[0]?) hd1
          simp only [List.getElem?_drop, Nat.add_zero, List.getElem?_cons_zero] at h
          exact h
        rw [bt_bl s a _ e]; rfl
      obtain ⟨f1, rfl⟩ : ∃ f1, f = f1 + 1 := ⟨f - 1, by omega⟩
      obtain ⟨l', e1, e2⟩ := ih f1 (a + 1) acc (by omega) (by omega) hg (by rw [← List.drop_drop, hd1]; rfl)
      exact ⟨l', by rw [scanN, if_pos hlt, if_pos h32]; exact e1, e2⟩
    | some x =>
      obtain ⟨g1, g2, g3⟩ := hg
      rw [List.append_nil] at g2
      have hd1 : (bl s).drop a = bl x.2 ++ itx r := hd
      obtain ⟨n1, n2, n3⟩ := next_is2 s a ⟨x.1, x.2, 0⟩ _ ha g1 hd1 g2
      have hp := g1.pos
      have hp2 : 1 ≤ x.2.size := hp
      have n3' : a + x.2.size ≤ s.size := n3
      obtain ⟨f1, rfl⟩ : ∃ f1, f = f1 + 1 := ⟨f - 1, by omega⟩
      obtain ⟨l', e1, e2⟩ := ih f1 (a + x.2.size) (acc ++ [⟨x.1, x.2, a⟩]) n3' (by omega) g3 (by
        rw [← List.drop_drop, hd1, List.drop_append_of_le_length (by rw [bl_len]; exact Nat.le_refl _), List.drop_of_length_le (by rw [bl_len]; exact Nat.le_refl _), List.nil_append])
      refine ⟨⟨x.1, x.2, a⟩ :: l', ?_, by rw [List.map_cons, e2]; rfl⟩
      rw [scanN, if_pos (by omega), if_neg n2, n1]
      show scanN s f1 (a + x.2.size) (acc ++ [⟨x.1, x.2, a⟩]) = _
      rw [e1, List.append_assoc]; rfl
/-- the text of items -/
def itT (l : List It) : ByteArray := ⟨(itx l).toArray⟩
theorem bl_itT (l : List It) : bl (itT l) = itx l := rfl
theorem it_scan (l : List It) (hg : GI l []) (h : (itT l).size ≤ 400) : ∃ l', scan (itT l) = (l', 0, 0) ∧ l'.map kt = l.filterMap id := by
  unfold scan
  rw [if_neg (by omega)]
  obtain ⟨l', e1, e2⟩ := it_scanN (itT l) l (itT l).size 0 [] (Nat.zero_le _) (by omega) hg rfl
  exact ⟨l', by rw [e1]; rfl, e2⟩
end
/- Layer 7, pure: the text of a tree is parsed into the tree. -/
section
open Go.RowKit

/-- a leaf's tokens -/
def lfK (n : Nd) : List It :=
  if n.op = 1 then [some (1, dtx n.val)]
  else if n.op = 2 then [some (2, if n.val = 1 then syTrue else syFalse)]
  else if n.attr.size = 0 then [some (2, n.name)] else [some (2, n.name), some (3, syOf), some (2, n.attr)]
def emK : Tr → List It
  | .leaf n => lfK n
  | .un o t => some (3, sy o) :: some (3, syOpen) :: (emK t ++ [some (3, syClose)])
  | .bin o t u => some (3, syOpen) :: (emK t ++ (some (3, syClose) :: none :: some (3, sy o) :: none :: some (3, syOpen) :: (emK u ++ [some (3, syClose)])))
def emT (t : Tr) : List (Nat × ByteArray) := (emK t).filterMap id
def Tail (tail : List UInt8) : Prop := tail = [] ∨ ∃ q, tail = 41 :: q
theorem word_tail (k : Nat) (t : ByteArray) (hk : k ≠ 3) {tail : List UInt8} (h : Tail tail) : FolT (k, t) tail := by
  rcases h with h | ⟨q, h⟩
  · exact .inl h
  · exact .inr ⟨41, q, h, by unfold folB; rw [if_neg hk]; rfl⟩
theorem close_good : GoodTok ⟨3, syClose, 0⟩ := ⟨by decide, .inr ⟨rfl, by unfold symL syClose; simp⟩⟩
theorem open_good : GoodTok ⟨3, syOpen, 0⟩ := ⟨by decide, .inr ⟨rfl, by unfold symL syOpen; simp⟩⟩
theorem of_good : GoodTok ⟨3, syOf, 0⟩ := ⟨by decide, .inr ⟨rfl, by unfold symL syOf; simp⟩⟩
theorem sy_good : ∀ o, 4 ≤ o → o ≤ 16 → GoodTok ⟨3, sy o, 0⟩ := by
  intro o h1 h2
  have : o = 4 ∨ o = 5 ∨ o = 6 ∨ o = 7 ∨ o = 8 ∨ o = 9 ∨ o = 10 ∨ o = 11 ∨ o = 12 ∨ o = 13 ∨ o = 14 ∨ o = 15 ∨ o = 16 := by omega
  rcases this with rfl | rfl | rfl | rfl | rfl | rfl | rfl | rfl | rfl | rfl | rfl | rfl | rfl
  all_goals exact ⟨by decide, .inr ⟨rfl, by unfold symL sy syL; simp⟩⟩
set_option maxRecDepth 100000 in
theorem close_41 : folB 3 syClose 41 = true := by kernel_rfl
set_option maxRecDepth 100000 in
theorem close_32 : folB 3 syClose 32 = true := by kernel_rfl
set_option maxRecDepth 100000 in
theorem un_40 : folB 3 (sy 4) 40 = true ∧ folB 3 (sy 5) 40 = true := ⟨by kernel_rfl, by kernel_rfl⟩
set_option maxRecDepth 100000 in
theorem sy_32 : ((List.range 17).all fun o => decide (o < 4) || folB 3 (sy o) 32) = true := by kernel_rfl
theorem open_any (d : UInt8) : folB 3 syOpen d = true := by
  have h3 := of_decide_eq_true (List.all_eq_true.1 sym40 d.toNat (List.mem_range.2 d.toNat_lt))
  rw [UInt8.ofNat_toNat] at h3
  unfold folB
  rw [if_pos rfl, decide_eq_true_iff]
  exact h3
set_option maxRecDepth 100000 in
theorem of_58 : ((List.range 256).all fun b => decide ((symL.find? fun y => hpB (syOf ++ ⟨#[UInt8.ofNat b]⟩) y) = some syOf)) = true := by kernel_rfl
theorem of_any58 (d : UInt8) : folB 3 syOf d = true := by
  have h3 := of_decide_eq_true (List.all_eq_true.1 of_58 d.toNat (List.mem_range.2 d.toNat_lt))
  rw [UInt8.ofNat_toNat] at h3
  unfold folB
  rw [if_pos rfl, decide_eq_true_iff]
  exact h3
theorem any_tail {x : Nat × ByteArray} (h : ∀ d, folB x.1 x.2 d = true) (rest : List UInt8) : FolT x rest := by
  cases rest with
  | nil => exact .inl rfl
  | cons d q => exact .inr ⟨d, q, rfl, h d⟩
theorem name_good {t : ByteArray} (h : kindN t = 2) (hw : ∀ i, i < t.size → isWd (bt t i) = true) : GoodTok ⟨2, t, 0⟩ := by
  refine ⟨?_, .inl ⟨h.symm, (show 2 ≠ 0 by decide), hw⟩⟩
  show 1 ≤ t.size
  rcases Nat.eq_zero_or_pos t.size with h0 | h0
  · exfalso
    have hb : bt t 0 = 0 := by unfold bt; simp [h0]
    unfold kindN at h
    rw [hb, if_neg (by decide)] at h
    split at h <;> cases h
  · exact h0
theorem size0 {t : ByteArray} (h : t.size = 0) : t = ⟨#[]⟩ := by
  apply ba_ext
  have := bl_len t
  rw [h] at this
  exact List.eq_nil_of_length_eq_zero this
theorem lf_GI {n : Nd} (h : LeafOk n) {tail : List UInt8} (ht : Tail tail) : GI (lfK n) tail := by
  unfold lfK
  rcases h.is with ⟨e, _, _, hv⟩ | ⟨e, _, _, hv⟩ | ⟨e, _, hk, n1, n2, ha, hw, hwa⟩
  · rw [if_pos e]
    exact ⟨dtx_good _ hv, word_tail 1 _ (by decide) ht, trivial⟩
  · rw [if_neg (by omega), if_pos e]
    by_cases h1 : n.val = 1
    · rw [if_pos h1]; exact ⟨name_good (by decide) (by decide), word_tail 2 _ (by decide) ht, trivial⟩
    · rw [if_neg h1]; exact ⟨name_good (by decide) (by decide), word_tail 2 _ (by decide) ht, trivial⟩
  · rw [if_neg (by omega), if_neg (by omega)]
    by_cases h0 : n.attr.size = 0
    · rw [if_pos h0]; exact ⟨name_good hk hw, word_tail 2 _ (by decide) ht, trivial⟩
    · rw [if_neg h0]
      have hk2 : kindN n.attr = 2 := by
        rcases ha with ha | ha
        · rw [ha] at h0; exact absurd rfl h0
        · exact ha
      exact ⟨name_good hk hw, .inr ⟨58, 58 :: (itx [some (2, n.attr)] ++ tail), rfl, rfl⟩, of_good, any_tail of_any58 _, name_good hk2 hwa, word_tail 2 _ (by decide) ht, trivial⟩
theorem close_tail {tail : List UInt8} (h : Tail tail) : FolT (3, syClose) tail := by
  rcases h with h | ⟨q, h⟩
  · exact .inl h
  · exact .inr ⟨41, q, h, close_41⟩
theorem em_GI (t : Tr) : ∀ tail, t.Ok → Tail tail → GI (emK t) tail := by
  induction t with
  | leaf n => intro tail h ht; exact lf_GI h ht
  | un o t ih =>
    intro tail h ht
    obtain ⟨h1, h2⟩ := h
    have hc : GI [some (3, syClose)] tail := ⟨close_good, close_tail ht, trivial⟩
    refine ⟨sy_good o (by omega) (by omega), .inr ⟨40, _, rfl, ?_⟩, open_good, any_tail open_any _, GI_app _ _ _ (ih _ h2 (.inr ⟨_, rfl⟩)) hc⟩
    rcases h1 with rfl | rfl
    · exact un_40.1
    · exact un_40.2
  | bin o t u ih1 ih2 =>
    intro tail h ht
    obtain ⟨h1, h2, h3, h4⟩ := h
    have hc : GI [some (3, syClose)] tail := ⟨close_good, close_tail ht, trivial⟩
    have h32 : folB 3 (sy o) 32 = true := by
      have := List.all_eq_true.1 sy_32 o (List.mem_range.2 (by omega))
      rw [Bool.or_eq_true, decide_eq_true_iff] at this
      exact this.resolve_left (by omega)
    exact ⟨open_good, any_tail open_any _, GI_app _ _ _ (ih1 _ h3 (.inr ⟨_, rfl⟩)) ⟨close_good, .inr ⟨32, _, rfl, close_32⟩, sy_good o (by omega) h2, .inr ⟨32, _, rfl, h32⟩, open_good, any_tail open_any _, GI_app _ _ _ (ih2 _ h4 (.inr ⟨_, rfl⟩)) hc⟩⟩
/-- it comes to this, with fuel enough -/
def Ev (l : List Tok) (R : Ru) (p : PS) (r : Nat × PS) : Prop := ∃ N, pR l N R p = some r
/-- the tokens from here on -/
def Kn (l : List Tok) (p : PS) (K : List (Nat × ByteArray)) : Prop := p.bad = false ∧ (l.drop p.at_).map kt = K
theorem kn_get {l : List Tok} {p : PS} {x : Nat × ByteArray} {K : List (Nat × ByteArray)} (h : Kn l p (x :: K)) : ∃ t, l[p.at_]? = some t ∧ t.kind = x.1 ∧ t.text = x.2 := by
  have e := congrArg (fun q => q[0]?) h.2
  simp only [List.getElem?_map, List.getElem?_drop, Nat.add_zero, List.getElem?_cons_zero] at e
  cases ht : l[p.at_]? with
  | none => rw [ht] at e; cases e
  | some t =>
    rw [ht] at e
    injection e with e
    exact ⟨t, rfl, by rw [← e]; rfl, by rw [← e]; rfl⟩
theorem kn_adv {l : List Tok} {p : PS} {x : Nat × ByteArray} {K : List (Nat × ByteArray)} (h : Kn l p (x :: K)) : Kn l p.adv K := by
  refine ⟨h.1, ?_⟩
  show (l.drop (p.at_ + 1)).map kt = K
  rw [← List.drop_drop, List.map_drop, h.2]; rfl
theorem kn_see {l : List Tok} {p : PS} {x : Nat × ByteArray} {K : List (Nat × ByteArray)} (h : Kn l p (x :: K)) (y : ByteArray) : see l p y = (decide (x.1 = 3) && decide (x.2 = y)) := by
  obtain ⟨t, h1, h2, h3⟩ := kn_get h
  unfold see
  rw [h.1, h1]
  simp only [h2, h3]
  rfl
theorem kn_nil {l : List Tok} {p : PS} (h : Kn l p []) (y : ByteArray) : see l p y = false := by
  have e := congrArg List.length h.2
  rw [List.length_map, List.length_drop] at e
  exact see_end (by simp at e; omega) y
def Stop (K : List (Nat × ByteArray)) : Prop := K = [] ∨ ∃ q, K = (3, syClose) :: q
theorem stop_see {l : List Tok} {p : PS} {K : List (Nat × ByteArray)} (h : Kn l p K) (hs : Stop K) (y : ByteArray) (hy : y ≠ syClose) : see l p y = false := by
  rcases hs with rfl | ⟨q, rfl⟩
  · exact kn_nil h y
  · rw [kn_see h, decide_eq_false (fun e : syClose = y => hy e.symm), Bool.and_false]
theorem stop_op {l : List Tok} {p : PS} {K : List (Nat × ByteArray)} (h : Kn l p K) (hs : Stop K) (os : List Nat) (ho : (os.all fun o => decide (sy o ≠ syClose)) = true) : opAt l p os = 0 :=
  opAt_no fun o hm => stop_see h hs _ (of_decide_eq_true (List.all_eq_true.1 ho o hm))
def opS (x : ByteArray) : List Nat → Nat
  | [] => 0
  | o :: r => if x = sy o then o else opS x r
theorem kn_op {l : List Tok} {p : PS} {x : ByteArray} {K : List (Nat × ByteArray)} (h : Kn l p ((3, x) :: K)) (os : List Nat) : opAt l p os = opS x os := by
  induction os with
  | nil => rfl
  | cons o r ih =>
    rw [opAt, opS, kn_see h, ih]
    by_cases e : x = sy o
    · rw [if_pos e]; simp [e]
    · rw [if_neg e]; simp [e]
section
variable {l : List Tok} {p : PS} {r : Nat × PS}
theorem ev_una (h : Ev l .atm p r) (h4 : see l p (sy 4) = false) : Ev l .una p r := by
  obtain ⟨N, h⟩ := h
  exact ⟨N + 1, by rw [pR, if_pos (by rw [opAt, h4, if_neg (by decide)]; rfl)]; exact h⟩
theorem ev_grp (k : Nat) (h : Ev l (prt k) p r) (ho : opAt l r.2 (gops k) = 0) : Ev l (.grp k) p r := by
  obtain ⟨N, h⟩ := h
  exact ⟨N + 2, by rw [pR, pR_mono1 l _ _ _ _ h, Option.bind_some, pR, if_pos ho]⟩
theorem ev_cmp (h : Ev l (.grp 2) p r) (ho : opAt l r.2 [8, 9, 10, 11, 12, 13] = 0) : Ev l .cmp p r := by
  obtain ⟨N, h⟩ := h
  exact ⟨N + 1, by rw [pR, h, Option.bind_some, if_pos ho]⟩
theorem ev_not (h : Ev l .cmp p r) (h5 : see l p (sy 5) = false) : Ev l .not p r := by
  obtain ⟨N, h⟩ := h
  exact ⟨N + 1, by rw [pR, if_pos (by rw [opAt, h5, if_neg (by decide)]; rfl)]; exact h⟩
theorem ev_imp (h : Ev l (.grp 0) p r) (ho : opAt l r.2 [16] = 0) : Ev l .imp p r := by
  obtain ⟨N, h⟩ := h
  exact ⟨N + 1, by rw [pR, h, Option.bind_some, if_pos ho]⟩
/-- two with fuel enough for both -/
theorem ev_two {R R' : Ru} {p p' : PS} {r r' : Nat × PS} (h : Ev l R p r) (h' : Ev l R' p' r') : ∃ N, pR l N R p = some r ∧ pR l N R' p' = some r' := by
  obtain ⟨N, h⟩ := h
  obtain ⟨M, h'⟩ := h'
  exact ⟨N + M, pR_mono l R p r N M h, by rw [Nat.add_comm]; exact pR_mono l R' p' r' M N h'⟩
theorem ev_par {q : Nat × PS} (h : Ev l .imp p.adv q) (ho : ∀ y, see l p y = decide (syOpen = y)) (hb : p.bad = false) (ht : ∃ t, l[p.at_]? = some t ∧ t.kind = 3) (hc : see l q.2 syClose = true) : Ev l .atm p (q.1, q.2.adv) := by
  obtain ⟨N, h⟩ := h
  obtain ⟨t, ht, hk⟩ := ht
  refine ⟨N + 1, ?_⟩
  rw [pR, if_neg (by rw [hb]; decide), ht]
  simp only [hk]
  rw [if_neg (by decide), if_neg (by decide), if_pos (by rw [ho]; exact decide_eq_true rfl), h, Option.bind_some, if_pos hc]
theorem ev_grp_op (k : Nat) {x y : Nat × PS} {o : Nat} (h : Ev l (prt k) p x) (ho : opAt l x.2 (gops k) = o) (ho0 : o ≠ 0) (h' : Ev l (prt k) x.2.adv y) (hs : opAt l (y.2.nod (nd o x.1 y.1)).2 (gops k) = 0) : Ev l (.grp k) p (y.2.nod (nd o x.1 y.1)) := by
  obtain ⟨N, h1, h2⟩ := ev_two h h'
  refine ⟨N + 1 + 1 + 1, ?_⟩
  rw [pR, pR_mono1 l _ _ _ _ (pR_mono1 l _ _ _ _ h1), Option.bind_some, pR, ho, if_neg ho0, pR_mono1 l _ _ _ _ h2, Option.bind_some, pR, if_pos hs]
theorem ev_cmp_op {x y : Nat × PS} {o : Nat} (h : Ev l (.grp 2) p x) (ho : opAt l x.2 [8, 9, 10, 11, 12, 13] = o) (ho0 : o ≠ 0) (h' : Ev l (.grp 2) x.2.adv y) : Ev l .cmp p (y.2.nod (nd o x.1 y.1)) := by
  obtain ⟨N, h1, h2⟩ := ev_two h h'
  exact ⟨N + 1, by rw [pR, h1, Option.bind_some, ho, if_neg ho0, h2]; rfl⟩
theorem ev_imp_op {x y : Nat × PS} (h : Ev l (.grp 0) p x) (ho : opAt l x.2 [16] = 16) (h' : Ev l .imp x.2.adv y) : Ev l .imp p (y.2.nod (nd 16 x.1 y.1)) := by
  obtain ⟨N, h1, h2⟩ := ev_two h h'
  exact ⟨N + 1, by rw [pR, h1, Option.bind_some, ho, if_neg (by decide), h2]; rfl⟩
theorem ev_neg {x : Nat × PS} (h4 : opAt l p [4] = 4) (h : Ev l .una p.adv x) : Ev l .una p (x.2.nod (nd 4 x.1 0)) := by
  obtain ⟨N, h⟩ := h
  exact ⟨N + 1, by rw [pR, h4, if_neg (by decide), h]; rfl⟩
theorem ev_nt {x : Nat × PS} (h5 : opAt l p [5] = 5) (h : Ev l .not p.adv x) : Ev l .not p (x.2.nod (nd 5 x.1 0)) := by
  obtain ⟨N, h⟩ := h
  exact ⟨N + 1, by rw [pR, h5, if_neg (by decide), h]; rfl⟩
end
end
/- Layer 7, pure: the text of a tree is parsed into the tree: the rules; the whole. -/
section
open Go.RowKit

def resT (p : PS) (t : Tr) : Nat × PS := (p.out.length + t.size - 1, ⟨p.at_ + (emT t).length, false, p.out ++ t.flat p.out.length⟩)
theorem kn_skip {l : List Tok} {p : PS} {A K : List (Nat × ByteArray)} (h : Kn l p (A ++ K)) (o : List Nd) : Kn l ⟨p.at_ + A.length, false, o⟩ K := by
  refine ⟨rfl, ?_⟩
  show (l.drop (p.at_ + A.length)).map kt = K
  rw [← List.drop_drop, List.map_drop, h.2, List.drop_left]
theorem ev_up {l : List Tok} {p : PS} {r : Nat × PS} {K : List (Nat × ByteArray)} (h : Ev l .atm p r) (h4 : see l p (sy 4) = false) (h5 : see l p (sy 5) = false) (hk : Kn l r.2 K) (hs : Stop K) : Ev l .imp p r :=
  ev_imp (ev_grp 0 (ev_grp 1 (ev_not (ev_cmp (ev_grp 2 (ev_una h h4) (stop_op hk hs _ (gops_ne 2))) (stop_op hk hs _ (by decide))) h5) (stop_op hk hs _ (gops_ne 1))) (stop_op hk hs _ (gops_ne 0))) (stop_op hk hs _ (by decide))
theorem emT_un (o : Nat) (t : Tr) : emT (.un o t) = (3, sy o) :: (3, syOpen) :: (emT t ++ [(3, syClose)]) := by
  unfold emT; simp [emK, List.filterMap_append]
theorem emT_bin (o : Nat) (t u : Tr) : emT (.bin o t u) = (3, syOpen) :: (emT t ++ ((3, syClose) :: (3, sy o) :: (3, syOpen) :: (emT u ++ [(3, syClose)]))) := by
  unfold emT; simp [emK, List.filterMap_append]
theorem ev_leaf {l : List Tok} {p : PS} {n : Nd} {K : List (Nat × ByteArray)} (h : LeafOk n) (hk : Kn l p (emT (.leaf n) ++ K)) (hs : Stop K) : Ev l .imp p (resT p (.leaf n)) := by
  obtain ⟨op, a, b, nm, at_, v⟩ := n
  have hend := kn_skip hk (p.out ++ [⟨op, a, b, nm, at_, v⟩])
  obtain ⟨ha, hb, his⟩ := h
  simp only at ha hb his
  subst ha hb
  rcases his with ⟨rfl, rfl, rfl, hv⟩ | ⟨rfl, rfl, rfl, hv⟩ | ⟨rfl, rfl, hkn, n1, n2, hat, hw, hwa⟩
  · have e : emT (.leaf ⟨1, 0, 0, ⟨#[]⟩, ⟨#[]⟩, v⟩) = [(1, dtx v)] := rfl
    rw [e] at hk hend
    obtain ⟨t, ht, hk1, hk2⟩ := kn_get hk
    have hsee : ∀ y, see l p y = false := fun y => by rw [kn_see hk]; rfl
    refine ev_up (r := resT p _) ⟨1, ?_⟩ (hsee _) (hsee _) hend hs
    rw [pR, if_neg (by rw [hk.1]; decide), ht]
    simp only [hk1, hk2, dtx_lit v hv, if_true]
    rw [show resT p (.leaf ⟨1, 0, 0, ⟨#[]⟩, ⟨#[]⟩, v⟩) = p.adv.nod ⟨1, 0, 0, ⟨#[]⟩, ⟨#[]⟩, v⟩ by unfold resT PS.nod PS.adv; rw [hk.1]; rfl]
    rfl
  · have e : emT (.leaf ⟨2, 0, 0, ⟨#[]⟩, ⟨#[]⟩, v⟩) = [(2, if v = 1 then syTrue else syFalse)] := rfl
    rw [e] at hk hend
    obtain ⟨t, ht, hk1, hk2⟩ := kn_get hk
    have hsee : ∀ y, see l p y = false := fun y => by rw [kn_see hk]; rfl
    refine ev_up (r := resT p _) ⟨1, ?_⟩ (hsee _) (hsee _) hend hs
    rw [pR, if_neg (by rw [hk.1]; decide), ht]
    simp only [hk1, hk2, if_true]
    rw [if_neg (by decide)]
    by_cases h1 : v = 1
    · subst h1; rw [if_pos rfl, if_pos rfl]; rw [show resT p (.leaf ⟨2, 0, 0, ⟨#[]⟩, ⟨#[]⟩, 1⟩) = p.adv.nod ⟨2, 0, 0, ⟨#[]⟩, ⟨#[]⟩, 1⟩ by unfold resT PS.nod PS.adv; rw [hk.1]; rfl]
    · obtain rfl : v = 0 := by omega
      rw [if_neg (show ¬ (if (0 : Nat) = 1 then syTrue else syFalse) = syTrue by decide), if_pos (show (if (0 : Nat) = 1 then syTrue else syFalse) = syFalse by decide)]; rw [show resT p (.leaf ⟨2, 0, 0, ⟨#[]⟩, ⟨#[]⟩, 0⟩) = p.adv.nod ⟨2, 0, 0, ⟨#[]⟩, ⟨#[]⟩, 0⟩ by unfold resT PS.nod PS.adv; rw [hk.1]; rfl]
  · by_cases h0 : at_.size = 0
    · have hate := size0 h0
      subst hate
      have e : emT (.leaf ⟨3, 0, 0, nm, ⟨#[]⟩, 0⟩) = [(2, nm)] := rfl
      rw [e] at hk hend
      obtain ⟨t, ht, hk1, hk2⟩ := kn_get hk
      have hsee : ∀ y, see l p y = false := fun y => by rw [kn_see hk]; rfl
      have hof : see l p.adv syOf = false := stop_see (kn_adv hk) hs _ (by decide)
      refine ev_up (r := resT p _) ⟨1, ?_⟩ (hsee _) (hsee _) hend hs
      rw [pR, if_neg (by rw [hk.1]; decide), ht]
      simp only [hk1, hk2, if_true]
      rw [if_neg (by decide), if_neg n1, if_neg n2]
      unfold pVar
      rw [if_neg (by rw [hof]; decide)]
      rw [show resT p (.leaf ⟨3, 0, 0, nm, ⟨#[]⟩, 0⟩) = p.adv.nod ⟨3, 0, 0, nm, ⟨#[]⟩, 0⟩ by unfold resT PS.nod PS.adv; rw [hk.1]; rfl]
    · have e : emT (.leaf ⟨3, 0, 0, nm, at_, 0⟩) = [(2, nm), (3, syOf), (2, at_)] := by
        unfold emT emK lfK
        rw [if_neg (show ¬ (3 : Nat) = 1 by decide), if_neg (show ¬ (3 : Nat) = 2 by decide), if_neg h0]; rfl
      have hel : (emT (.leaf ⟨3, 0, 0, nm, at_, 0⟩)).length = 3 := by rw [e]; rfl
      rw [e] at hk hend
      obtain ⟨t, ht, hk1, hk2⟩ := kn_get hk
      have hsee : ∀ y, see l p y = false := fun y => by rw [kn_see hk]; rfl
      have hof : see l p.adv syOf = true := by rw [kn_see (kn_adv hk)]; simp
      obtain ⟨u, hu, hu1, hu2⟩ := kn_get (kn_adv (kn_adv hk))
      have hu' : l[p.adv.at_ + 1]? = some u := hu
      refine ev_up (r := resT p (.leaf ⟨3, 0, 0, nm, at_, 0⟩)) ⟨1, ?_⟩ (hsee _) (hsee _) (by unfold resT; rw [hel]; exact hend) hs
      rw [pR, if_neg (by rw [hk.1]; decide), ht]
      simp only [hk1, hk2, if_true]
      rw [if_neg (by decide), if_neg n1, if_neg n2]
      unfold pVar
      rw [if_pos hof, hu']
      simp only [hu1, hu2, if_true]
      rw [show resT p (.leaf ⟨3, 0, 0, nm, at_, 0⟩) = p.adv.adv.adv.nod ⟨3, 0, 0, nm, at_, 0⟩ by unfold resT PS.nod PS.adv; rw [hel, hk.1]; rfl]
def resP (p : PS) (t : Tr) : Nat × PS := (p.out.length + t.size - 1, ⟨p.at_ + ((emT t).length + 2), false, p.out ++ t.flat p.out.length⟩)
theorem ev_brk {l : List Tok} {p : PS} {t : Tr} {K : List (Nat × ByteArray)} (h : ∀ (p : PS) (K : List (Nat × ByteArray)), Kn l p (emT t ++ K) → Stop K → Ev l .imp p (resT p t)) (hk : Kn l p ((3, syOpen) :: (emT t ++ ((3, syClose) :: K)))) : Ev l .atm p (resP p t) ∧ Kn l (resP p t).2 K := by
  have h1 := h p.adv ((3, syClose) :: K) (kn_adv hk) (.inr ⟨K, rfl⟩)
  have h2 : Kn l (resT p.adv t).2 ((3, syClose) :: K) := kn_skip (kn_adv hk) _
  obtain ⟨tk, ht, hk1, hk2⟩ := kn_get hk
  have h3 := ev_par h1 (fun y => by rw [kn_see hk]; simp) hk.1 ⟨tk, ht, hk1⟩ (by rw [kn_see h2]; simp)
  have e : ((resT p.adv t).1, (resT p.adv t).2.adv) = resP p t := by
    unfold resT resP PS.adv
    simp only [Prod.mk.injEq, PS.mk.injEq, and_true, true_and]
    omega
  rw [e] at h3
  refine ⟨h3, ?_⟩
  have := kn_adv h2
  rw [show (resT p.adv t).2.adv = (resP p t).2 from congrArg Prod.snd e] at this
  exact this
theorem nod_kn {l : List Tok} {q : PS} {K : List (Nat × ByteArray)} (h : Kn l q K) (n : Nd) : Kn l (q.nod n).2 K := h
theorem opS_all : ((List.range 17).all fun o => decide (o < 6) || (if o ≤ 7 then decide (opS (sy o) [6, 7] = o) else decide (opS (sy o) [6, 7] = 0)) && (if 8 ≤ o ∧ o ≤ 13 then decide (opS (sy o) [8, 9, 10, 11, 12, 13] = o) else o ≤ 7 || decide (opS (sy o) [8, 9, 10, 11, 12, 13] = 0)) && (if o = 14 then decide (opS (sy o) [14] = 14) else o < 14 || decide (opS (sy o) [14] = 0)) && (if o = 15 then decide (opS (sy o) [15] = 15) else o < 15 || decide (opS (sy o) [15] = 0)) && (o ≠ 16 || decide (opS (sy o) [16] = 16))) = true := by decide
theorem em_parse {l : List Tok} (t : Tr) : t.Ok → ∀ (p : PS) (K : List (Nat × ByteArray)), Kn l p (emT t ++ K) → Stop K → Ev l .imp p (resT p t) := by
  induction t with
  | leaf n => intro h p K hk hs; exact ev_leaf h hk hs
  | un o t ih =>
    intro h p K hk hs
    obtain ⟨h1, h2⟩ := h
    rw [emT_un] at hk
    have hk' : Kn l p ((3, sy o) :: (3, syOpen) :: (emT t ++ ((3, syClose) :: K))) := by
      simpa [List.append_assoc] using hk
    obtain ⟨e1, k1⟩ := ev_brk (ih h2) (kn_adv hk')
    have hopen : ∀ y, y ≠ syOpen → see l p.adv y = false := fun y hy => by
      rw [kn_see (kn_adv hk'), decide_eq_false (fun e : syOpen = y => hy e.symm), Bool.and_false]
    have eun := ev_una e1 (hopen _ (by decide))
    have hp := t.pos
    have eR : ∀ o, (resP p.adv t).2.nod (nd o (resP p.adv t).1 0) = resT p (.un o t) := fun o => by
      unfold resP resT PS.nod PS.adv
      rw [emT_un]
      simp only [Prod.mk.injEq, PS.mk.injEq, List.length_append, Tr.flat_len, Tr.size, Tr.flat, List.append_assoc, List.length_cons, List.length_nil, and_true]
      omega
    have kR : Kn l (resT p (.un o t)).2 K := by rw [← eR o]; exact nod_kn k1 _
    rcases h1 with rfl | rfl
    · have e2 := ev_neg (by rw [kn_op hk']; decide) eun
      rw [eR 4] at e2
      exact ev_imp (ev_grp 0 (ev_grp 1 (ev_not (ev_cmp (ev_grp 2 e2 (stop_op kR hs _ (gops_ne 2))) (stop_op kR hs _ (by decide))) (by rw [kn_see hk']; decide)) (stop_op kR hs _ (gops_ne 1))) (stop_op kR hs _ (gops_ne 0))) (stop_op kR hs _ (by decide))
    · have e2 := ev_nt (by rw [kn_op hk']; decide) (ev_not (ev_cmp (ev_grp 2 eun (stop_op k1 hs _ (gops_ne 2))) (stop_op k1 hs _ (by decide))) (hopen _ (by decide)))
      rw [eR 5] at e2
      exact ev_imp (ev_grp 0 (ev_grp 1 e2 (stop_op kR hs _ (gops_ne 1))) (stop_op kR hs _ (gops_ne 0))) (stop_op kR hs _ (by decide))
  | bin o t u ih1 ih2 =>
    intro h p K hk hs
    obtain ⟨h6, h16, h3, h4⟩ := h
    rw [emT_bin] at hk
    have hk' : Kn l p ((3, syOpen) :: (emT t ++ ((3, syClose) :: (3, sy o) :: (3, syOpen) :: (emT u ++ ((3, syClose) :: K))))) := by
      simpa [List.append_assoc] using hk
    obtain ⟨e1, k1⟩ := ev_brk (ih1 h3) hk'
    obtain ⟨e2, k2⟩ := ev_brk (ih2 h4) (kn_adv k1)
    have hopen : ∀ y, y ≠ syOpen → see l p y = false := fun y hy => by
      rw [kn_see hk', decide_eq_false (fun e : syOpen = y => hy e.symm), Bool.and_false]
    have hopen2 : ∀ y, y ≠ syOpen → see l (resP p t).2.adv y = false := fun y hy => by
      rw [kn_see (kn_adv k1), decide_eq_false (fun e : syOpen = y => hy e.symm), Bool.and_false]
    have u1 := ev_una e1 (hopen _ (by decide))
    have u2 := ev_una e2 (hopen2 _ (by decide))
    have hop : ∀ os, opAt l (resP p t).2 os = opS (sy o) os := fun os => kn_op k1 os
    have hall := List.all_eq_true.1 opS_all o (List.mem_range.2 (by omega))
    have hp := t.pos
    have hq := u.pos
    have eR : (resP (resP p t).2.adv u).2.nod (nd o (resP p t).1 (resP (resP p t).2.adv u).1) = resT p (.bin o t u) := by
      unfold resP resT PS.nod PS.adv
      rw [emT_bin]
      simp only [Prod.mk.injEq, PS.mk.injEq, true_and, List.length_append, Tr.flat_len, Tr.size, Tr.flat, List.append_assoc, List.length_cons, List.length_nil]
      exact ⟨by omega, by omega, trivial⟩
    have kR : Kn l (resT p (.bin o t u)).2 K := by rw [← eR]; exact nod_kn k2 _
    have up1 : Ev l (.grp 2) p (resT p (.bin o t u)) → Ev l .imp p (resT p (.bin o t u)) := fun e =>
      ev_imp (ev_grp 0 (ev_grp 1 (ev_not (ev_cmp e (stop_op kR hs _ (by decide))) (hopen _ (by decide))) (stop_op kR hs _ (gops_ne 1))) (stop_op kR hs _ (gops_ne 0))) (stop_op kR hs _ (by decide))
    have hcase : (o = 6 ∨ o = 7) ∨ (8 ≤ o ∧ o ≤ 13) ∨ o = 14 ∨ o = 15 ∨ o = 16 := by omega
    rcases hcase with h7 | h13 | rfl | rfl | rfl
    · have hS : opS (sy o) [6, 7] = o := by rcases h7 with rfl | rfl <;> decide
      have e := ev_grp_op 2 u1 (o := o) (by rw [hop]; exact hS) (by omega) u2 (stop_op (nod_kn k2 _) hs _ (gops_ne 2))
      rw [eR] at e
      exact up1 e
    · have hS0 : opS (sy o) [6, 7] = 0 := by
        have : o = 8 ∨ o = 9 ∨ o = 10 ∨ o = 11 ∨ o = 12 ∨ o = 13 := by omega
        rcases this with rfl | rfl | rfl | rfl | rfl | rfl <;> decide
      have hS : opS (sy o) [8, 9, 10, 11, 12, 13] = o := by
        have : o = 8 ∨ o = 9 ∨ o = 10 ∨ o = 11 ∨ o = 12 ∨ o = 13 := by omega
        rcases this with rfl | rfl | rfl | rfl | rfl | rfl <;> decide
      have e := ev_cmp_op (o := o) (ev_grp 2 u1 (by rw [hop]; exact hS0)) (by rw [hop]; exact hS) (by omega) (ev_grp 2 u2 (stop_op k2 hs _ (gops_ne 2)))
      rw [eR] at e
      exact ev_imp (ev_grp 0 (ev_grp 1 (ev_not e (hopen _ (by decide))) (stop_op kR hs _ (gops_ne 1))) (stop_op kR hs _ (gops_ne 0))) (stop_op kR hs _ (by decide))
    · have n1 := ev_not (ev_cmp (ev_grp 2 u1 (by rw [hop]; decide)) (by rw [hop]; decide)) (hopen _ (by decide))
      have n2 := ev_not (ev_cmp (ev_grp 2 u2 (stop_op k2 hs _ (gops_ne 2))) (stop_op k2 hs _ (by decide))) (hopen2 _ (by decide))
      have e := ev_grp_op 1 n1 (o := 14) (by rw [hop]; decide) (by decide) n2 (stop_op (nod_kn k2 _) hs _ (gops_ne 1))
      rw [eR] at e
      exact ev_imp (ev_grp 0 e (stop_op kR hs _ (gops_ne 0))) (stop_op kR hs _ (by decide))
    · have n1 := ev_grp 1 (ev_not (ev_cmp (ev_grp 2 u1 (by rw [hop]; decide)) (by rw [hop]; decide)) (hopen _ (by decide))) (by rw [hop]; decide)
      have n2 := ev_grp 1 (ev_not (ev_cmp (ev_grp 2 u2 (stop_op k2 hs _ (gops_ne 2))) (stop_op k2 hs _ (by decide))) (hopen2 _ (by decide))) (stop_op k2 hs _ (gops_ne 1))
      have e := ev_grp_op 0 n1 (o := 15) (by rw [hop]; decide) (by decide) n2 (stop_op (nod_kn k2 _) hs _ (gops_ne 0))
      rw [eR] at e
      exact ev_imp e (stop_op kR hs _ (by decide))
    · have n1 := ev_grp 0 (ev_grp 1 (ev_not (ev_cmp (ev_grp 2 u1 (by rw [hop]; decide)) (by rw [hop]; decide)) (hopen _ (by decide))) (by rw [hop]; decide)) (by rw [hop]; decide)
      have n2 := ev_up e2 (hopen2 _ (by decide)) (hopen2 _ (by decide)) k2 hs
      have e := ev_imp_op n1 (by rw [hop]; decide) n2
      rw [eR] at e
      exact e
/-- a tree's text, its tokens parsed -/
theorem em_whole {l : List Tok} {t : Tr} (h : t.Ok) (hl : l.map kt = emT t) (h120 : (t.flat 0).length ≤ 120) (h12 : depth (t.flat 0) ≤ 12) : parse l = (t.flat 0, 0, 0) := by
  obtain ⟨N, hN⟩ := em_parse t h p0 [] ⟨rfl, by show (l.drop 0).map kt = emT t ++ []; rw [List.drop_zero, List.append_nil, hl]⟩ (.inl rfl)
  have h1 := pRun_some l
  have h2 := pR_mono l _ _ _ _ N h1
  have h3 := pR_mono l _ _ _ _ (fuel l) hN
  rw [Nat.add_comm N] at h3
  rw [h3] at h2
  injection h2 with h2
  have hlen : l.length = (emT t).length := by rw [← hl, List.length_map]
  have hat : (pRun l).2.at_ = l.length := by rw [← h2, hlen]; show 0 + (emT t).length = _; omega
  have hbad : (pRun l).2.bad = false := by rw [← h2]; rfl
  have hout : (pRun l).2.out = t.flat 0 := by rw [← h2]; rfl
  unfold parse
  rw [if_neg (by rw [hbad, hat]; simp), hout, if_neg (by omega)]
/-- the text of a tree that a text gave -/
def fmtT (t : Tr) : ByteArray := itT (emK t)
theorem fmt_back {t : Tr} (h : t.Ok) (h120 : (t.flat 0).length ≤ 120) (h12 : depth (t.flat 0) ≤ 12) (h4 : (fmtT t).size ≤ 400) : pOk (fmtT t) = true ∧ pTree (fmtT t) = t.flat 0 := by
  obtain ⟨l, e1, e2⟩ := it_scan (emK t) (em_GI t [] h (.inl rfl)) h4
  have e3 := em_whole h e2 h120 h12
  unfold pOk pTree fmtT
  rw [e1]
  simp only
  rw [e3]
  exact ⟨rfl, rfl⟩
theorem parse_lim {l : List Tok} (h : (parse l).2.2 = 0) : (parse l).1.length ≤ 120 ∧ depth (parse l).1 ≤ 12 := by
  unfold parse at h ⊢
  split at h
  · cases h
  · rename_i h1
    rw [if_neg h1]
    split at h
    · cases h
    · rename_i h2
      rw [if_neg h2]
      simp only
      omega
theorem pTree_lim (s : ByteArray) (h : pOk s = true) : (pTree s).length ≤ 120 ∧ depth (pTree s) ≤ 12 := by
  unfold pOk at h
  rw [Bool.and_eq_true, decide_eq_true_iff, decide_eq_true_iff] at h
  unfold pTree
  rw [if_pos h.1]
  exact parse_lim h.2
end
end Go.Proofs.YtodmkmoglchoeaaDoor
