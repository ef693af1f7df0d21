/- Contracts, joined: LScansW, LPlc, LJn. -/
import Derived.Test.YtodmkmoglchoeaaDoorLSame
import Derived.Lib.ConvBytes
namespace Go.Proofs.YtodmkmoglchoeaaDoor
/- LexerScans, its walk. -/
section
open Go.RowKit

/-- '[]byte(s)' of any text -/
theorem cv_sb (w : World) (s : ByteArray) : ∃ cap W, (convert 9 31 (.string s)).run Tryd.prog w = .ok (.slice (some ⟨w.heap.size, 0, none⟩) s.size cap) W ∧
    (∀ i, i < s.size → W.cell? ⟨w.heap.size, i, none⟩ = some (.int .u8 (bt s i : Nat))) ∧ (∀ i, i < s.size → W.frozen? ⟨w.heap.size, i, none⟩ = false) ∧ Below w.heap.size w W ∧ w.heap.size < W.heap.size ∧ s.size ≤ cap := by
  refine ⟨grownCap w s.size 0 5, Go.Lib.bytesWorld w 5 s, Go.Lib.run_convert_string_bytes w 9 31 5 s Tryd.underlying9 Tryd.underlying31 Tryd.underlying5, fun i hi => ?_, fun i hi => ?_, ?_, ?_, ?_⟩
  · rw [Go.Lib.bytesWorld_cell w _ _ i hi, ← bt_at s i hi]
    have : s.data.toList.getD i 0 = s[i]'hi := by
      rw [List.getD_eq_getElem?_getD, Array.getElem?_toList, Array.getElem?_eq_getElem hi]; rfl
    rw [this]
  · have h := Go.Lib.bytesWorld_at_new w 5 s
    have hsz : s.size ≤ (Go.Lib.bytesCells w 5 s).size := by unfold Go.Lib.bytesCells; rw [Array.size_append, Array.size_map]; exact Nat.le_add_right _ _
    unfold World.frozen?
    simp only [h]
    simp
    omega
  · exact ⟨rfl, rfl, rfl, by rw [Go.Lib.bytesWorld_size]; omega, fun k hk => Go.Lib.bytesWorld_at_old w _ _ k hk⟩
  · rw [Go.Lib.bytesWorld_size]; omega
  · exact grownCap_ge w s.size 0 5
theorem scanN_len (s : ByteArray) : ∀ (f a : Nat) (l : List Tok), l.length ≤ a → a ≤ s.size → (scanN s f a l).1.length ≤ s.size := by
  intro f
  induction f with
  | zero => intro a l h1 h2; show l.length ≤ _; omega
  | succ f ih =>
    intro a l h1 h2
    rw [scanN]
    split
    · rename_i hlt
      split
      · exact ih (a + 1) l (by omega) (by omega)
      · cases hn : nextTok s a with
        | none => simp
        | some t =>
          have hp : 1 ≤ t.text.size ∧ a + t.text.size ≤ s.size := by
            unfold nextTok at hn
            split at hn
            · rename_i hw
              split at hn
              · injection hn with hn
                subst hn
                have h := wrun_le s a (by omega)
                simp only
                rw [ext_size s a _ h]
                omega
              · cases hn
            · cases hy : symAt s a with
              | none => rw [hy] at hn; cases hn
              | some x =>
                rw [hy] at hn
                injection hn with hn
                subst hn
                have h := hy
                unfold symAt at h
                exact ⟨sym_pos x (List.mem_of_find?_eq_some h), (hp_ext s x a (by omega) (List.find?_some h)).1⟩
          exact ih (a + t.text.size) (l ++ [t]) (by rw [List.length_append]; simp; omega) hp.2
    · show l.length ≤ _; omega
theorem scan_len (s : ByteArray) : (scan s).1.length ≤ 400 := by
  unfold scan
  split
  · simp
  · have := scanN_len s s.size 0 [] (by simp) (by omega); omega
theorem cv_zero (w : World) (b cap : Nat) : (convert 31 9 (.slice (some ⟨b, 0, none⟩) 0 cap)).run Tryd.prog w = .ok (.string (strN [])) w := by
  rw [run_convert_bytes_string w 31 9 5 _ _ _ Tryd.underlying31 Tryd.underlying5 Tryd.underlying9]
  refine run_bytesToString w ⟨b, 0, none⟩ 0 cap [] ?_
  have e := run_loadCells_list (P := Tryd.prog) w ⟨b, 0, none⟩ ([] : List Value) (fun j u hu => by simp at hu)
  simpa using e
/-- four texts in memory -/
def Four4 (w : World) (B : Nat) (Sx : Nat → ByteArray) : Prop := B < w.heap.size ∧ ∀ j, j < 4 → w.cell? ⟨B, j, none⟩ = some (.string (Sx j))
theorem Four4.call {w w' : World} {B : Nat} {Sx : Nat → ByteArray} (h : Four4 w B Sx) (hb : Below w.heap.size w w') : Four4 w' B Sx := ⟨Nat.lt_of_lt_of_le h.1 hb.size, fun j hj => by rw [hb.cell (p := ⟨B, j, none⟩) h.1]; exact h.2 j hj⟩
end
/- LexerPlaces, pure: an accepted text is its tokens at their places, and spaces. -/
section
open Go.RowKit

/-- a token covers a place -/
def cov (l : List Tok) (j : Nat) : Bool := l.any fun t => decide (t.at_ ≤ j) && decide (j < t.at_ + t.text.size)
theorem cov_snoc (l : List Tok) (t : Tok) (j : Nat) : cov (l ++ [t]) j = (cov l j || (decide (t.at_ ≤ j) && decide (j < t.at_ + t.text.size))) := by
  unfold cov; rw [List.any_append]; simp
structure Plcd (s : ByteArray) (l : List Tok) (a : Nat) : Prop where
  fit : ∀ t ∈ l, t.at_ + t.text.size ≤ a ∧ ∀ i, i < t.text.size → bt t.text i = bt s (t.at_ + i)
  spc : ∀ j, j < a → cov l j = false → bt s j = 32
theorem nextTok_spec (s : ByteArray) (a : Nat) (ha : a < s.size) (t : Tok) (h : nextTok s a = some t) : t.at_ = a ∧ 1 ≤ t.text.size ∧ a + t.text.size ≤ s.size ∧ t.text = s.extract a (a + t.text.size) := by
  unfold nextTok at h
  split at h
  · rename_i hw
    split at h
    · injection h with h
      subst h
      have h1 := wrun_le s a (by omega)
      have h2 := ext_size s a (a + wrun s a) h1
      refine ⟨rfl, ?_, ?_, ?_⟩
      · show 1 ≤ (s.extract a (a + wrun s a)).size; omega
      · show a + (s.extract a (a + wrun s a)).size ≤ _; omega
      · show s.extract a (a + wrun s a) = s.extract a (a + (s.extract a (a + wrun s a)).size)
        rw [show a + (s.extract a (a + wrun s a)).size = a + wrun s a by omega]
    · cases h
  · cases hy : symAt s a with
    | none => rw [hy] at h; cases h
    | some x =>
      rw [hy] at h
      injection h with h
      subst h
      have h1 := hy
      unfold symAt at h1
      have h2 := hp_ext s x a (by omega) (List.find?_some h1)
      exact ⟨rfl, sym_pos x (List.mem_of_find?_eq_some h1), h2.1, h2.2.symm⟩
theorem scanN_plcd (s : ByteArray) : ∀ (f a : Nat) (l : List Tok), a ≤ s.size → s.size ≤ f + a → Plcd s l a → (scanN s f a l).2.2 = 0 → Plcd s (scanN s f a l).1 s.size := by
  intro f
  induction f with
  | zero =>
    intro a l ha hf hp _
    obtain rfl : a = s.size := by omega
    exact hp
  | succ f ih =>
    intro a l ha hf hp h0
    rw [scanN] at h0 ⊢
    by_cases hlt : a < s.size
    · rw [if_pos hlt] at h0 ⊢
      by_cases hsp : bt s a = 32
      · rw [if_pos hsp] at h0 ⊢
        refine ih (a + 1) l (by omega) (by omega) ⟨fun t ht => ⟨by have := (hp.fit t ht).1; omega, (hp.fit t ht).2⟩, fun j hj hc => ?_⟩ h0
        by_cases e : j = a
        · rw [e]; exact hsp
        · exact hp.spc j (by omega) hc
      · rw [if_neg hsp] at h0 ⊢
        cases hn : nextTok s a with
        | none => rw [hn] at h0; cases h0
        | some t =>
          rw [hn] at h0
          obtain ⟨e1, e2, e3, e4⟩ := nextTok_spec s a hlt t hn
          refine ih (a + t.text.size) (l ++ [t]) e3 (by omega) ⟨fun u hu => ?_, fun j hj hc => ?_⟩ h0
          · rcases List.mem_append.1 hu with hu | hu
            · exact ⟨by have := (hp.fit u hu).1; omega, (hp.fit u hu).2⟩
            · obtain rfl : u = t := by simpa using hu
              refine ⟨by omega, fun i hi => ?_⟩
              rw [e1, e4]
              exact bt_ext2 s a _ i e3 (by omega)
          · rw [cov_snoc, Bool.or_eq_false_iff] at hc
            refine hp.spc j ?_ hc.1
            have h2 := hc.2
            rw [e1] at h2
            simp at h2
            omega
    · rw [if_neg hlt] at h0 ⊢
      obtain rfl : a = s.size := by omega
      exact hp
theorem scan_plcd (s : ByteArray) (h : (scan s).2.2 = 0) : Plcd s (scan s).1 s.size := by
  unfold scan at h ⊢
  by_cases h4 : 400 < s.size
  · rw [if_pos h4] at h; cases h
  · rw [if_neg h4] at h ⊢
    exact scanN_plcd s s.size 0 [] (by omega) (by omega) ⟨fun t ht => absurd ht (by simp), fun j hj => by omega⟩ h
theorem scanN_fail (s : ByteArray) : ∀ (f a : Nat) (l : List Tok), (scanN s f a l).2.2 ≠ 0 → (scanN s f a l).1 = [] := by
  intro f
  induction f with
  | zero => intro a l h; exact absurd rfl h
  | succ f ih =>
    intro a l h
    rw [scanN] at h ⊢
    by_cases hlt : a < s.size
    · rw [if_pos hlt] at h ⊢
      by_cases hsp : bt s a = 32
      · rw [if_pos hsp] at h ⊢; exact ih _ _ h
      · rw [if_neg hsp] at h ⊢
        cases hn : nextTok s a with
        | none => rfl
        | some t => rw [hn] at h; exact ih _ _ h
    · rw [if_neg hlt] at h; exact absurd rfl h
theorem scan_fail (s : ByteArray) (h : (scan s).2.2 ≠ 0) : (scan s).1 = [] := by
  unfold scan at h ⊢
  by_cases h4 : 400 < s.size
  · rw [if_pos h4]
  · rw [if_neg h4] at h ⊢; exact scanN_fail s _ _ _ h
theorem scanN_pos (s : ByteArray) : ∀ (f a : Nat) (l : List Tok), (∀ t ∈ l, 1 ≤ t.text.size) → ∀ t ∈ (scanN s f a l).1, 1 ≤ t.text.size := by
  intro f
  induction f with
  | zero => intro a l h; exact h
  | succ f ih =>
    intro a l h
    rw [scanN]
    by_cases hlt : a < s.size
    · rw [if_pos hlt]
      by_cases hsp : bt s a = 32
      · rw [if_pos hsp]; exact ih _ _ h
      · rw [if_neg hsp]
        cases hn : nextTok s a with
        | none => intro t ht; simp at ht
        | some t =>
          refine ih _ _ (fun u hu => ?_)
          rcases List.mem_append.1 hu with hu | hu
          · exact h u hu
          · obtain rfl : u = t := by simpa using hu
            exact (nextTok_spec s a hlt u hn).2.1
    · rw [if_neg hlt]; exact h
theorem scan_pos (s : ByteArray) : ∀ t ∈ (scan s).1, 1 ≤ t.text.size := by
  unfold scan
  split
  · intro t ht; simp at ht
  · exact scanN_pos s _ _ _ (fun t ht => absurd ht (by simp))
/-- what lies in the row when the tokens l have been laid over the spaces -/
def fillB (s : ByteArray) (l : List Tok) (j : Nat) : Nat := if cov l j = true then bt s j else 32
theorem fill_done {s : ByteArray} {l : List Tok} (h : Plcd s l s.size) : strG s.size (fillB s l) = s := by
  apply ByteArray.ext
  apply Array.ext'
  unfold strG
  rw [pr_dl, List.map_map]
  apply List.ext_getElem?
  intro i
  by_cases hi : i < s.size
  · rw [pr_get s i hi, List.getElem?_map, List.getElem?_range hi]
    simp only [Option.map_some, Function.comp_apply, Option.some.injEq]
    have e : fillB s l i = bt s i := by
      unfold fillB
      cases hc : cov l i
      · rw [if_neg (by decide), h.spc i hi hc]
      · rw [if_pos rfl]
    rw [e, ← bt_at s i hi]
    simp
  · rw [List.getElem?_eq_none (by simp; omega), List.getElem?_eq_none (by rw [Array.length_toList]; show s.size ≤ i; omega)]
end
/- LexerJoins, pure: the tokens joined with spaces are the same tokens again. -/
section
open Go.RowKit

structure GoodTok (t : Tok) : Prop where
  pos : 1 ≤ t.text.size
  is : (t.kind = kindN t.text ∧ t.kind ≠ 0 ∧ ∀ i, i < t.text.size → isWd (bt t.text i) = true) ∨ (t.kind = 3 ∧ t.text ∈ symL)
theorem wrun_all (s : ByteArray) : ∀ (d a : Nat), d = s.size - a → ∀ i, i < wrun s a → isWd (bt s (a + i)) = true := by
  intro d
  induction d with
  | zero => intro a hd i hi; rw [wrun_stop s a (fun h => by have := h.1; omega)] at hi; omega
  | succ d ih =>
    intro a hd i hi
    by_cases h : a < s.size ∧ isWd (bt s a) = true
    · rw [wrun_step s a h.1 h.2] at hi
      cases i with
      | zero => exact h.2
      | succ i => have := ih (a + 1) (by omega) i (by omega); rwa [show a + 1 + i = a + (i + 1) by omega] at this
    · rw [wrun_stop s a h] at hi; omega
theorem wrun_is (s : ByteArray) : ∀ (n a : Nat), (∀ i, i < n → a + i < s.size ∧ isWd (bt s (a + i)) = true) → ¬ (a + n < s.size ∧ isWd (bt s (a + n)) = true) → wrun s a = n := by
  intro n
  induction n with
  | zero => intro a _ h; exact wrun_stop s a h
  | succ n ih =>
    intro a h hn
    have h0 := h 0 (by omega)
    rw [wrun_step s a h0.1 h0.2, ih (a + 1) (fun i hi => by have := h (i + 1) (by omega); rwa [show a + (i + 1) = a + 1 + i by omega] at this) (by rwa [show a + 1 + n = a + (n + 1) by omega])]
theorem nextTok_good (s : ByteArray) (a : Nat) (ha : a < s.size) (t : Tok) (h : nextTok s a = some t) : GoodTok t := by
  have hs := nextTok_spec s a ha t h
  refine ⟨hs.2.1, ?_⟩
  unfold nextTok at h
  split at h
  · rename_i hw
    split at h
    · rename_i hk
      injection h with h
      subst h
      refine .inl ⟨rfl, hk, fun i hi => ?_⟩
      have h1 := wrun_le s a (by omega)
      have h2 : i < (s.extract a (a + wrun s a)).size := hi
      rw [ext_size s a _ h1] at h2
      show isWd (bt (s.extract a (a + wrun s a)) i) = true
      rw [bt_ext2 s a _ i h1 (by omega)]
      exact wrun_all s _ a rfl i (by omega)
    · cases h
  · cases hy : symAt s a with
    | none => rw [hy] at h; cases h
    | some x =>
      rw [hy] at h
      injection h with h
      subst h
      unfold symAt at hy
      exact .inr ⟨rfl, List.mem_of_find?_eq_some hy⟩
theorem scanN_good (s : ByteArray) : ∀ (f a : Nat) (l : List Tok), a ≤ s.size → (∀ t ∈ l, GoodTok t) → ∀ t ∈ (scanN s f a l).1, GoodTok t := by
  intro f
  induction f with
  | zero => intro a l _ h; exact h
  | succ f ih =>
    intro a l ha h
    rw [scanN]
    by_cases hlt : a < s.size
    · rw [if_pos hlt]
      by_cases hsp : bt s a = 32
      · rw [if_pos hsp]; exact ih _ _ (by omega) h
      · rw [if_neg hsp]
        cases hn : nextTok s a with
        | none => intro t ht; cases ht
        | some t =>
          refine ih _ _ (nextTok_spec s a hlt t hn).2.2.1 (fun u hu => ?_)
          rcases List.mem_append.1 hu with hu | hu
          · exact h u hu
          · obtain rfl : u = t := by simpa using hu
            exact nextTok_good s a hlt u hn
    · rw [if_neg hlt]; exact h
theorem scan_good (s : ByteArray) : ∀ t ∈ (scan s).1, GoodTok t := by
  unfold scan
  split
  · intro t ht; cases ht
  · exact scanN_good s _ _ _ (by omega) (fun t ht => by cases ht)
/-- the bytes of a text -/
def bl (s : ByteArray) : List UInt8 := s.data.toList
theorem bl_len (s : ByteArray) : (bl s).length = s.size := by unfold bl; rw [Array.length_toList]; rfl
def jnT (l : List Tok) : List UInt8 := l.flatMap fun t => 32 :: bl t.text
def jnL : List Tok → List UInt8
  | [] => []
  | t :: r => bl t.text ++ jnT r
theorem jnL_snoc (l : List Tok) (t : Tok) : jnL (l ++ [t]) = if l = [] then bl t.text else jnL l ++ 32 :: bl t.text := by
  cases l with
  | nil => simp [jnL, jnT]
  | cons u r => simp [jnL, jnT]
/-- the text of tokens -/
def jn (l : List Tok) : ByteArray := ⟨(jnL l).toArray⟩
theorem bl_jn (l : List Tok) : bl (jn l) = jnL l := rfl
theorem hpB_eq (T y : ByteArray) : hpB T y = decide ((bl T).take y.size = bl y) := by
  unfold hpB
  rw [ByteArray.toList_eq, ByteArray.toList_eq, ByteArray.data_extract, Array.toList_extract, List.extract_eq_take_drop, List.drop_zero, Nat.sub_zero]
  by_cases h : y.size ≤ T.size
  · rw [decide_eq_true h, Bool.true_and]
    exact Bool.beq_eq_decide_eq _ _
  · rw [decide_eq_false h, Bool.false_and]
    symm
    rw [decide_eq_false_iff_not]
    intro e
    have := congrArg List.length e
    rw [List.length_take, bl_len, bl_len] at this
    omega
theorem hpB_two (T y : ByteArray) (h : y.size ≤ 2) : hpB T y = hpB ⟨((bl T).take 2).toArray⟩ y := by
  rw [hpB_eq, hpB_eq]
  congr 2
  show _ = List.take y.size (List.take 2 (bl T))
  rw [List.take_take, Nat.min_eq_left h]
set_option maxRecDepth 100000 in
theorem sym_self : (symL.all fun x => decide ((symL.find? fun y => hpB x y) = some x) && decide ((symL.find? fun y => hpB (x ++ ⟨#[32]⟩) y) = some x) && (decide (x.size = 1) || decide (x.size = 2)) && !isWd (bt x 0) && !decide (bt x 0 = 32)) = true := by kernel_rfl
theorem sym_find (T x : ByteArray) (rest : List UInt8) (hx : x ∈ symL) (hT : bl T = bl x ++ rest) (hr : rest = [] ∨ ∃ q, rest = 32 :: q) : (symL.find? fun y => hpB T y) = some x := by
  have hall := List.all_eq_true.1 sym_self x hx
  simp only [Bool.and_eq_true, Bool.or_eq_true, decide_eq_true_iff] at hall
  obtain ⟨⟨⟨⟨h1, h2⟩, h3⟩, _⟩, _⟩ := hall
  have hsz : ∀ y ∈ symL, y.size ≤ 2 := by decide
  have hcg : ∀ (U : ByteArray), (∀ y ∈ symL, hpB T y = hpB U y) → (symL.find? fun y => hpB T y) = (symL.find? fun y => hpB U y) := by
    intro U
    generalize symL = L
    intro h
    induction L with
    | nil => rfl
    | cons y r ih =>
      rw [List.find?_cons, List.find?_cons, h y (by simp), ih (fun z hz => h z (by simp [hz]))]
  have hX : ∀ U : ByteArray, (bl T).take 2 = (bl U).take 2 → (symL.find? fun y => hpB T y) = (symL.find? fun y => hpB U y) := fun U e =>
    hcg U fun y hy => by rw [hpB_two T y (hsz y hy), hpB_two U y (hsz y hy), e]
  have hlx := bl_len x
  rcases hr with rfl | ⟨q, rfl⟩
  · rw [hX x (by rw [hT, List.append_nil])]; exact h1
  · rcases h3 with h3 | h3
    · rw [hX (x ++ ⟨#[32]⟩) (by
        rw [hT]
        have e : bl (x ++ ⟨#[32]⟩) = bl x ++ [32] := by unfold bl; rw [ByteArray.data_append, Array.toList_append]
        rw [e]
        cases hb : bl x with
        | nil => rw [hb] at hlx; simp at hlx; omega
        | cons b r =>
          rw [hb] at hlx
          cases r with
          | nil => rfl
          | cons c r => simp at hlx; omega)]
      exact h2
    · rw [hX x (by rw [hT, List.take_append_of_le_length (by omega)])]; exact h1
theorem bt_bl (s : ByteArray) (i : Nat) (b : UInt8) (h : (bl s)[i]? = some b) : bt s i = b.toNat := bt_of s i b h
/-- a token ahead of a space, or of the end -/
theorem next_is (s : ByteArray) (a : Nat) (t : Tok) (rest : List UInt8) (ha : a ≤ s.size) (hg : GoodTok t) (hd : (bl s).drop a = bl t.text ++ rest) (hr : rest = [] ∨ ∃ q, rest = 32 :: q) : nextTok s a = some ⟨t.kind, t.text, a⟩ ∧ bt s a ≠ 32 ∧ a + t.text.size ≤ s.size := by
  have hlen := congrArg List.length hd
  rw [List.length_drop, List.length_append, bl_len, bl_len] at hlen
  have hle : a + t.text.size ≤ s.size := by have := hg.pos; omega
  have hby : ∀ i, i < t.text.size → bt s (a + i) = bt t.text i := by
    intro i hi
    have e : (bl s)[a + i]? = some (t.text[i]'hi) := by
      rw [← List.getElem?_drop, hd, List.getElem?_append_left (by rw [bl_len]; exact hi)]
      exact pr_get t.text i hi
    rw [bt_bl s _ _ e, bt_at]
  have hend : rest = [] → a + t.text.size = s.size := fun e => by rw [e] at hlen; simp at hlen; have := hg.pos; omega
  have hsp : ∀ q, rest = 32 :: q → bt s (a + t.text.size) = 32 := fun q e => by
    have e2 : (bl s)[a + t.text.size]? = some 32 := by
      rw [← List.getElem?_drop, hd, List.getElem?_append_right (by rw [bl_len]; exact Nat.le_refl _), bl_len, Nat.sub_self, e]; rfl
    rw [bt_bl s _ _ e2]; rfl
  have hext : s.extract a (a + t.text.size) = t.text := by
    apply ByteArray.ext
    apply Array.ext'
    rw [ByteArray.data_extract, Array.toList_extract, List.extract_eq_take_drop]
    show ((bl s).drop a).take (a + t.text.size - a) = bl t.text
    rw [hd, Nat.add_sub_cancel_left, List.take_append_of_le_length (by rw [bl_len]; exact Nat.le_refl _), List.take_of_length_le (by rw [bl_len]; exact Nat.le_refl _)]
  have hstop : ¬ (a + t.text.size < s.size ∧ isWd (bt s (a + t.text.size)) = true) := fun h => by
    rcases hr with e | ⟨q, e⟩
    · have := hend e; omega
    · rw [hsp q e] at h; exact absurd h.2 (by decide)
  have hpos := hg.pos
  have h0 := hby 0 (by omega)
  rw [Nat.add_zero] at h0
  rcases hg.is with ⟨hk, hk0, hw⟩ | ⟨hk, hx⟩
  · have hrun := wrun_is s t.text.size a (fun i hi => ⟨by omega, by rw [hby i hi]; exact hw i hi⟩) hstop
    refine ⟨?_, ?_, hle⟩
    · unfold nextTok
      rw [hrun, if_pos (by omega), hext, if_pos (by rw [← hk]; exact hk0), ← hk]
    · rw [h0]; intro e; have := hw 0 (by omega); rw [e] at this; exact absurd this (by decide)
  · have hall := List.all_eq_true.1 sym_self t.text hx
    simp only [Bool.and_eq_true, Bool.not_eq_true', decide_eq_false_iff_not] at hall
    have hnw := hall.1.2
    have hn32 := hall.2
    refine ⟨?_, by rw [h0]; exact hn32, hle⟩
    have hrun : wrun s a = 0 := wrun_stop s a (fun h => by rw [h0, hnw] at h; exact absurd h.2 (by decide))
    unfold nextTok
    rw [hrun, if_neg (by decide)]
    have hf := sym_find (s.extract a s.size) t.text rest hx (by
      have : bl (s.extract a s.size) = (bl s).drop a := by
        unfold bl
        rw [ByteArray.data_extract, Array.toList_extract, List.extract_eq_take_drop, List.take_of_length_le (by rw [List.length_drop, Array.length_toList]; show s.size - a ≤ _; exact Nat.le_refl _)]
      rw [this, hd]) hr
    unfold symAt
    rw [hf, hk]
    rfl
def kt (t : Tok) : Nat × ByteArray := (t.kind, t.text)
theorem jn_scanN (s : ByteArray) : ∀ (r : List Tok) (f a : Nat) (acc : List Tok), a ≤ s.size → s.size ≤ f + a → (∀ t ∈ r, GoodTok t) → (bl s).drop a = jnT r → ∃ l', scanN s f a acc = (acc ++ l', 0, 0) ∧ l'.map kt = r.map kt := by
  intro r
  induction r with
  | nil =>
    intro f a acc ha hf _ hd
    have h := congrArg List.length hd
    rw [List.length_drop, bl_len] at h
    obtain rfl : a = s.size := by simp [jnT] at h; omega
    exact ⟨[], by rw [scanN_end, List.append_nil], rfl⟩
  | cons t r ih =>
    intro f a acc ha hf hg hd
    have hd1 : (bl s).drop a = 32 :: (bl t.text ++ jnT r) := by rw [hd]; simp [jnT]
    have hlt : a < s.size := by
      have h := congrArg List.length hd1
      rw [List.length_drop, bl_len] at h
      simp at h; omega
    have h32 : bt s a = 32 := by
      have e : (bl s)[a]? = some 32 := by
        have h := congrArg (fun l => l[0]?) hd1
        simp only [List.getElem?_drop, Nat.add_zero, List.getElem?_cons_zero] at h
        exact h
      rw [bt_bl s a _ e]; rfl
    have hd2 : (bl s).drop (a + 1) = bl t.text ++ jnT r := by
      rw [← List.drop_drop, hd1]; rfl
    have hrest : jnT r = [] ∨ ∃ q, jnT r = 32 :: q := by
      cases r with
      | nil => exact .inl rfl
      | cons u v => exact .inr ⟨bl u.text ++ jnT v, by simp [jnT]⟩
    obtain ⟨n1, n2, n3⟩ := next_is s (a + 1) t _ hlt (hg t (by simp)) hd2 hrest
    have hp := (hg t (by simp)).pos
    obtain ⟨f1, rfl⟩ : ∃ f1, f = f1 + 1 + 1 := ⟨f - 2, by omega⟩
    have hd3 : (bl s).drop (a + 1 + t.text.size) = jnT r := by
      rw [← List.drop_drop, hd2, List.drop_append_of_le_length (by rw [bl_len]; exact Nat.le_refl _), List.drop_of_length_le (by rw [bl_len]; exact Nat.le_refl _), List.nil_append]
    obtain ⟨l', e1, e2⟩ := ih f1 (a + 1 + t.text.size) (acc ++ [⟨t.kind, t.text, a + 1⟩]) n3 (by omega) (fun u hu => hg u (by simp [hu])) hd3
    refine ⟨⟨t.kind, t.text, a + 1⟩ :: l', ?_, by rw [List.map_cons, e2]; rfl⟩
    rw [scanN, if_pos hlt, if_pos h32, scanN, if_pos (by omega), if_neg n2, n1]
    show scanN s f1 (a + 1 + t.text.size) (acc ++ [⟨t.kind, t.text, a + 1⟩]) = _
    rw [e1, List.append_assoc]; rfl
theorem jn_scan (l : List Tok) (hg : ∀ t ∈ l, GoodTok t) (h : (jn l).size ≤ 400) : ∃ l', scan (jn l) = (l', 0, 0) ∧ l'.map kt = l.map kt := by
  unfold scan
  rw [if_neg (by omega)]
  cases l with
  | nil => exact ⟨[], by show scanN _ 0 _ _ = _; rfl, rfl⟩
  | cons t r =>
    have hd : (bl (jn (t :: r))).drop 0 = bl t.text ++ jnT r := rfl
    have hrest : jnT r = [] ∨ ∃ q, jnT r = 32 :: q := by
      cases r with
      | nil => exact .inl rfl
      | cons u v => exact .inr ⟨bl u.text ++ jnT v, by simp [jnT]⟩
    obtain ⟨n1, n2, n3⟩ := next_is (jn (t :: r)) 0 t _ (by omega) (hg t (by simp)) hd hrest
    have hp := (hg t (by simp)).pos
    obtain ⟨f1, hf1⟩ : ∃ f1, (jn (t :: r)).size = f1 + 1 := ⟨(jn (t :: r)).size - 1, by omega⟩
    have hd3 : (bl (jn (t :: r))).drop (0 + t.text.size) = jnT r := by
      rw [← List.drop_drop, hd, List.drop_append_of_le_length (by rw [bl_len]; exact Nat.le_refl _), List.drop_of_length_le (by rw [bl_len]; exact Nat.le_refl _), List.nil_append]
    obtain ⟨l', e1, e2⟩ := jn_scanN (jn (t :: r)) r f1 (0 + t.text.size) ([] ++ [⟨t.kind, t.text, 0⟩]) n3 (by omega) (fun u hu => hg u (by simp [hu])) hd3
    refine ⟨⟨t.kind, t.text, 0⟩ :: l', ?_, by rw [List.map_cons, e2]; rfl⟩
    rw [hf1, scanN, if_pos (by omega), if_neg n2, n1]
    show scanN _ f1 (0 + t.text.size) ([] ++ [⟨t.kind, t.text, 0⟩]) = _
    rw [e1]; rfl
end
end Go.Proofs.YtodmkmoglchoeaaDoor
