/- Layer 7, pure: the text of a tree is parsed into the tree. -/
import Derived.Test.YtmdifoclojogpaaGreatDoorYBack1
namespace Go.Proofs.YtmdifoclojogpaaGreatDoor
open Go.RowKit

/-- a leaf's tokens -/
def lfK (n : Nd) : List It :=
  if n.op = 1 then [some (1, dtx n.val)]
  else if n.op = 2 then [some (2, if n.val = 1 then syTrue else syFalse)]
  else if n.attr.size = 0 then [some (2, n.name)] else [some (2, n.name), some (3, syOf), some (2, n.attr)]
def emK : Tr → List It
  | .leaf n => lfK n
  | .un o t => some (3, sy o) :: some (3, syOpen) :: (emK t ++ [some (3, syClose)])
  | .bin o t u => some (3, syOpen) :: (emK t ++ (some (3, syClose) :: none :: some (3, sy o) :: none :: some (3, syOpen) :: (emK u ++ [some (3, syClose)])))
def emT (t : Tr) : List (Nat × ByteArray) := (emK t).filterMap id
def Tail (tail : List UInt8) : Prop := tail = [] ∨ ∃ q, tail = 41 :: q
theorem word_tail (k : Nat) (t : ByteArray) (hk : k ≠ 3) {tail : List UInt8} (h : Tail tail) : FolT (k, t) tail := by
  rcases h with h | ⟨q, h⟩
  · exact .inl h
  · exact .inr ⟨41, q, h, by unfold folB; rw [if_neg hk]; rfl⟩
theorem close_good : GoodTok ⟨3, syClose, 0⟩ := ⟨by decide, .inr ⟨rfl, by unfold symL syClose; simp⟩⟩
theorem open_good : GoodTok ⟨3, syOpen, 0⟩ := ⟨by decide, .inr ⟨rfl, by unfold symL syOpen; simp⟩⟩
theorem of_good : GoodTok ⟨3, syOf, 0⟩ := ⟨by decide, .inr ⟨rfl, by unfold symL syOf; simp⟩⟩
theorem sy_good : ∀ o, 4 ≤ o → o ≤ 16 → GoodTok ⟨3, sy o, 0⟩ := by
  intro o h1 h2
  have : o = 4 ∨ o = 5 ∨ o = 6 ∨ o = 7 ∨ o = 8 ∨ o = 9 ∨ o = 10 ∨ o = 11 ∨ o = 12 ∨ o = 13 ∨ o = 14 ∨ o = 15 ∨ o = 16 := by omega
  rcases this with rfl | rfl | rfl | rfl | rfl | rfl | rfl | rfl | rfl | rfl | rfl | rfl | rfl
  all_goals exact ⟨by decide, .inr ⟨rfl, by unfold symL sy syL; simp⟩⟩
set_option maxRecDepth 100000 in
theorem close_41 : folB 3 syClose 41 = true := by kernel_rfl
set_option maxRecDepth 100000 in
theorem close_32 : folB 3 syClose 32 = true := by kernel_rfl
set_option maxRecDepth 100000 in
theorem un_40 : folB 3 (sy 4) 40 = true ∧ folB 3 (sy 5) 40 = true := ⟨by kernel_rfl, by kernel_rfl⟩
set_option maxRecDepth 100000 in
theorem sy_32 : ((List.range 17).all fun o => decide (o < 4) || folB 3 (sy o) 32) = true := by kernel_rfl
theorem open_any (d : UInt8) : folB 3 syOpen d = true := by
  have h3 := of_decide_eq_true (List.all_eq_true.1 sym40 d.toNat (List.mem_range.2 d.toNat_lt))
  rw [UInt8.ofNat_toNat] at h3
  unfold folB
  rw [if_pos rfl, decide_eq_true_iff]
  exact h3
set_option maxRecDepth 100000 in
theorem of_58 : ((List.range 256).all fun b => decide ((symL.find? fun y => hpB (syOf ++ ⟨#[UInt8.ofNat b]⟩) y) = some syOf)) = true := by kernel_rfl
theorem of_any58 (d : UInt8) : folB 3 syOf d = true := by
  have h3 := of_decide_eq_true (List.all_eq_true.1 of_58 d.toNat (List.mem_range.2 d.toNat_lt))
  rw [UInt8.ofNat_toNat] at h3
  unfold folB
  rw [if_pos rfl, decide_eq_true_iff]
  exact h3
theorem any_tail {x : Nat × ByteArray} (h : ∀ d, folB x.1 x.2 d = true) (rest : List UInt8) : FolT x rest := by
  cases rest with
  | nil => exact .inl rfl
  | cons d q => exact .inr ⟨d, q, rfl, h d⟩
theorem name_good {t : ByteArray} (h : kindN t = 2) (hw : ∀ i, i < t.size → isWd (bt t i) = true) : GoodTok ⟨2, t, 0⟩ := by
  refine ⟨?_, .inl ⟨h.symm, (show 2 ≠ 0 by decide), hw⟩⟩
  show 1 ≤ t.size
  rcases Nat.eq_zero_or_pos t.size with h0 | h0
  · exfalso
    have hb : bt t 0 = 0 := by unfold bt; simp [h0]
    unfold kindN at h
    rw [hb, if_neg (by decide)] at h
    split at h <;> cases h
  · exact h0
theorem size0 {t : ByteArray} (h : t.size = 0) : t = ⟨#[]⟩ := by
  apply ba_ext
  have := bl_len t
  rw [h] at this
  exact List.eq_nil_of_length_eq_zero this
theorem lf_GI {n : Nd} (h : LeafOk n) {tail : List UInt8} (ht : Tail tail) : GI (lfK n) tail := by
  unfold lfK
  rcases h.is with ⟨e, _, _, hv⟩ | ⟨e, _, _, hv⟩ | ⟨e, _, hk, n1, n2, ha, hw, hwa⟩
  · rw [if_pos e]
    exact ⟨dtx_good _ hv, word_tail 1 _ (by decide) ht, trivial⟩
  · rw [if_neg (by omega), if_pos e]
    by_cases h1 : n.val = 1
    · rw [if_pos h1]; exact ⟨name_good (by decide) (by decide), word_tail 2 _ (by decide) ht, trivial⟩
    · rw [if_neg h1]; exact ⟨name_good (by decide) (by decide), word_tail 2 _ (by decide) ht, trivial⟩
  · rw [if_neg (by omega), if_neg (by omega)]
    by_cases h0 : n.attr.size = 0
    · rw [if_pos h0]; exact ⟨name_good hk hw, word_tail 2 _ (by decide) ht, trivial⟩
    · rw [if_neg h0]
      have hk2 : kindN n.attr = 2 := by
        rcases ha with ha | ha
        · rw [ha] at h0; exact absurd rfl h0
        · exact ha
      exact ⟨name_good hk hw, .inr ⟨58, 58 :: (itx [some (2, n.attr)] ++ tail), rfl, rfl⟩, of_good, any_tail of_any58 _, name_good hk2 hwa, word_tail 2 _ (by decide) ht, trivial⟩
theorem close_tail {tail : List UInt8} (h : Tail tail) : FolT (3, syClose) tail := by
  rcases h with h | ⟨q, h⟩
  · exact .inl h
  · exact .inr ⟨41, q, h, close_41⟩
theorem em_GI (t : Tr) : ∀ tail, t.Ok → Tail tail → GI (emK t) tail := by
  induction t with
  | leaf n => intro tail h ht; exact lf_GI h ht
  | un o t ih =>
    intro tail h ht
    obtain ⟨h1, h2⟩ := h
    have hc : GI [some (3, syClose)] tail := ⟨close_good, close_tail ht, trivial⟩
    refine ⟨sy_good o (by omega) (by omega), .inr ⟨40, _, rfl, ?_⟩, open_good, any_tail open_any _, GI_app _ _ _ (ih _ h2 (.inr ⟨_, rfl⟩)) hc⟩
    rcases h1 with rfl | rfl
    · exact un_40.1
    · exact un_40.2
  | bin o t u ih1 ih2 =>
    intro tail h ht
    obtain ⟨h1, h2, h3, h4⟩ := h
    have hc : GI [some (3, syClose)] tail := ⟨close_good, close_tail ht, trivial⟩
    have h32 : folB 3 (sy o) 32 = true := by
      have := List.all_eq_true.1 sy_32 o (List.mem_range.2 (by omega))
      rw [Bool.or_eq_true, decide_eq_true_iff] at this
      exact this.resolve_left (by omega)
    exact ⟨open_good, any_tail open_any _, GI_app _ _ _ (ih1 _ h3 (.inr ⟨_, rfl⟩)) ⟨close_good, .inr ⟨32, _, rfl, close_32⟩, sy_good o (by omega) h2, .inr ⟨32, _, rfl, h32⟩, open_good, any_tail open_any _, GI_app _ _ _ (ih2 _ h4 (.inr ⟨_, rfl⟩)) hc⟩⟩
/-- it comes to this, with fuel enough -/
def Ev (l : List Tok) (R : Ru) (p : PS) (r : Nat × PS) : Prop := ∃ N, pR l N R p = some r
/-- the tokens from here on -/
def Kn (l : List Tok) (p : PS) (K : List (Nat × ByteArray)) : Prop := p.bad = false ∧ (l.drop p.at_).map kt = K
theorem kn_get {l : List Tok} {p : PS} {x : Nat × ByteArray} {K : List (Nat × ByteArray)} (h : Kn l p (x :: K)) : ∃ t, l[p.at_]? = some t ∧ t.kind = x.1 ∧ t.text = x.2 := by
  have e := congrArg (fun q => q[0]?) h.2
  simp only [List.getElem?_map, List.getElem?_drop, Nat.add_zero, List.getElem?_cons_zero] at e
  cases ht : l[p.at_]? with
  | none => rw [ht] at e; cases e
  | some t =>
    rw [ht] at e
    injection e with e
    exact ⟨t, rfl, by rw [← e]; rfl, by rw [← e]; rfl⟩
theorem kn_adv {l : List Tok} {p : PS} {x : Nat × ByteArray} {K : List (Nat × ByteArray)} (h : Kn l p (x :: K)) : Kn l p.adv K := by
  refine ⟨h.1, ?_⟩
  show (l.drop (p.at_ + 1)).map kt = K
  rw [← List.drop_drop, List.map_drop, h.2]; rfl
theorem kn_see {l : List Tok} {p : PS} {x : Nat × ByteArray} {K : List (Nat × ByteArray)} (h : Kn l p (x :: K)) (y : ByteArray) : see l p y = (decide (x.1 = 3) && decide (x.2 = y)) := by
  obtain ⟨t, h1, h2, h3⟩ := kn_get h
  unfold see
  rw [h.1, h1]
  simp only [h2, h3]
  rfl
theorem kn_nil {l : List Tok} {p : PS} (h : Kn l p []) (y : ByteArray) : see l p y = false := by
  have e := congrArg List.length h.2
  rw [List.length_map, List.length_drop] at e
  exact see_end (by simp at e; omega) y
def Stop (K : List (Nat × ByteArray)) : Prop := K = [] ∨ ∃ q, K = (3, syClose) :: q
theorem stop_see {l : List Tok} {p : PS} {K : List (Nat × ByteArray)} (h : Kn l p K) (hs : Stop K) (y : ByteArray) (hy : y ≠ syClose) : see l p y = false := by
  rcases hs with rfl | ⟨q, rfl⟩
  · exact kn_nil h y
  · rw [kn_see h, decide_eq_false (fun e : syClose = y => hy e.symm), Bool.and_false]
theorem stop_op {l : List Tok} {p : PS} {K : List (Nat × ByteArray)} (h : Kn l p K) (hs : Stop K) (os : List Nat) (ho : (os.all fun o => decide (sy o ≠ syClose)) = true) : opAt l p os = 0 :=
  opAt_no fun o hm => stop_see h hs _ (of_decide_eq_true (List.all_eq_true.1 ho o hm))
def opS (x : ByteArray) : List Nat → Nat
  | [] => 0
  | o :: r => if x = sy o then o else opS x r
theorem kn_op {l : List Tok} {p : PS} {x : ByteArray} {K : List (Nat × ByteArray)} (h : Kn l p ((3, x) :: K)) (os : List Nat) : opAt l p os = opS x os := by
  induction os with
  | nil => rfl
  | cons o r ih =>
    rw [opAt, opS, kn_see h, ih]
    by_cases e : x = sy o
    · rw [if_pos e]; simp [e]
    · rw [if_neg e]; simp [e]
section
variable {l : List Tok} {p : PS} {r : Nat × PS}
theorem ev_una (h : Ev l .atm p r) (h4 : see l p (sy 4) = false) : Ev l .una p r := by
  obtain ⟨N, h⟩ := h
  exact ⟨N + 1, by rw [pR, if_pos (by rw [opAt, h4, if_neg (by decide)]; rfl)]; exact h⟩
theorem ev_grp (k : Nat) (h : Ev l (prt k) p r) (ho : opAt l r.2 (gops k) = 0) : Ev l (.grp k) p r := by
  obtain ⟨N, h⟩ := h
  exact ⟨N + 2, by rw [pR, pR_mono1 l _ _ _ _ h, Option.bind_some, pR, if_pos ho]⟩
theorem ev_cmp (h : Ev l (.grp 2) p r) (ho : opAt l r.2 [8, 9, 10, 11, 12, 13] = 0) : Ev l .cmp p r := by
  obtain ⟨N, h⟩ := h
  exact ⟨N + 1, by rw [pR, h, Option.bind_some, if_pos ho]⟩
theorem ev_not (h : Ev l .cmp p r) (h5 : see l p (sy 5) = false) : Ev l .not p r := by
  obtain ⟨N, h⟩ := h
  exact ⟨N + 1, by rw [pR, if_pos (by rw [opAt, h5, if_neg (by decide)]; rfl)]; exact h⟩
theorem ev_imp (h : Ev l (.grp 0) p r) (ho : opAt l r.2 [16] = 0) : Ev l .imp p r := by
  obtain ⟨N, h⟩ := h
  exact ⟨N + 1, by rw [pR, h, Option.bind_some, if_pos ho]⟩
/-- two with fuel enough for both -/
theorem ev_two {R R' : Ru} {p p' : PS} {r r' : Nat × PS} (h : Ev l R p r) (h' : Ev l R' p' r') : ∃ N, pR l N R p = some r ∧ pR l N R' p' = some r' := by
  obtain ⟨N, h⟩ := h
  obtain ⟨M, h'⟩ := h'
  exact ⟨N + M, pR_mono l R p r N M h, by rw [Nat.add_comm]; exact pR_mono l R' p' r' M N h'⟩
theorem ev_par {q : Nat × PS} (h : Ev l .imp p.adv q) (ho : ∀ y, see l p y = decide (syOpen = y)) (hb : p.bad = false) (ht : ∃ t, l[p.at_]? = some t ∧ t.kind = 3) (hc : see l q.2 syClose = true) : Ev l .atm p (q.1, q.2.adv) := by
  obtain ⟨N, h⟩ := h
  obtain ⟨t, ht, hk⟩ := ht
  refine ⟨N + 1, ?_⟩
  rw [pR, if_neg (by rw [hb]; decide), ht]
  simp only [hk]
  rw [if_neg (by decide), if_neg (by decide), if_pos (by rw [ho]; exact decide_eq_true rfl), h, Option.bind_some, if_pos hc]
theorem ev_grp_op (k : Nat) {x y : Nat × PS} {o : Nat} (h : Ev l (prt k) p x) (ho : opAt l x.2 (gops k) = o) (ho0 : o ≠ 0) (h' : Ev l (prt k) x.2.adv y) (hs : opAt l (y.2.nod (nd o x.1 y.1)).2 (gops k) = 0) : Ev l (.grp k) p (y.2.nod (nd o x.1 y.1)) := by
  obtain ⟨N, h1, h2⟩ := ev_two h h'
  refine ⟨N + 1 + 1 + 1, ?_⟩
  rw [pR, pR_mono1 l _ _ _ _ (pR_mono1 l _ _ _ _ h1), Option.bind_some, pR, ho, if_neg ho0, pR_mono1 l _ _ _ _ h2, Option.bind_some, pR, if_pos hs]
theorem ev_cmp_op {x y : Nat × PS} {o : Nat} (h : Ev l (.grp 2) p x) (ho : opAt l x.2 [8, 9, 10, 11, 12, 13] = o) (ho0 : o ≠ 0) (h' : Ev l (.grp 2) x.2.adv y) : Ev l .cmp p (y.2.nod (nd o x.1 y.1)) := by
  obtain ⟨N, h1, h2⟩ := ev_two h h'
  exact ⟨N + 1, by rw [pR, h1, Option.bind_some, ho, if_neg ho0, h2]; rfl⟩
theorem ev_imp_op {x y : Nat × PS} (h : Ev l (.grp 0) p x) (ho : opAt l x.2 [16] = 16) (h' : Ev l .imp x.2.adv y) : Ev l .imp p (y.2.nod (nd 16 x.1 y.1)) := by
  obtain ⟨N, h1, h2⟩ := ev_two h h'
  exact ⟨N + 1, by rw [pR, h1, Option.bind_some, ho, if_neg (by decide), h2]; rfl⟩
theorem ev_neg {x : Nat × PS} (h4 : opAt l p [4] = 4) (h : Ev l .una p.adv x) : Ev l .una p (x.2.nod (nd 4 x.1 0)) := by
  obtain ⟨N, h⟩ := h
  exact ⟨N + 1, by rw [pR, h4, if_neg (by decide), h]; rfl⟩
theorem ev_nt {x : Nat × PS} (h5 : opAt l p [5] = 5) (h : Ev l .not p.adv x) : Ev l .not p (x.2.nod (nd 5 x.1 0)) := by
  obtain ⟨N, h⟩ := h
  exact ⟨N + 1, by rw [pR, h5, if_neg (by decide), h]; rfl⟩
end
end Go.Proofs.YtmdifoclojogpaaGreatDoor
