/- Layer 7, pure: the text of a tree is parsed into the tree: the rules; the whole. -/
import Derived.Test.YtmdifoclojogpaaGreatDoorYBack2
namespace Go.Proofs.YtmdifoclojogpaaGreatDoor
open Go.RowKit

def resT (p : PS) (t : Tr) : Nat × PS := (p.out.length + t.size - 1, ⟨p.at_ + (emT t).length, false, p.out ++ t.flat p.out.length⟩)
theorem kn_skip {l : List Tok} {p : PS} {A K : List (Nat × ByteArray)} (h : Kn l p (A ++ K)) (o : List Nd) : Kn l ⟨p.at_ + A.length, false, o⟩ K := by
  refine ⟨rfl, ?_⟩
  show (l.drop (p.at_ + A.length)).map kt = K
  rw [← List.drop_drop, List.map_drop, h.2, List.drop_left]
theorem ev_up {l : List Tok} {p : PS} {r : Nat × PS} {K : List (Nat × ByteArray)} (h : Ev l .atm p r) (h4 : see l p (sy 4) = false) (h5 : see l p (sy 5) = false) (hk : Kn l r.2 K) (hs : Stop K) : Ev l .imp p r :=
  ev_imp (ev_grp 0 (ev_grp 1 (ev_not (ev_cmp (ev_grp 2 (ev_una h h4) (stop_op hk hs _ (gops_ne 2))) (stop_op hk hs _ (by decide))) h5) (stop_op hk hs _ (gops_ne 1))) (stop_op hk hs _ (gops_ne 0))) (stop_op hk hs _ (by decide))
theorem emT_un (o : Nat) (t : Tr) : emT (.un o t) = (3, sy o) :: (3, syOpen) :: (emT t ++ [(3, syClose)]) := by
  unfold emT; simp [emK, List.filterMap_append]
theorem emT_bin (o : Nat) (t u : Tr) : emT (.bin o t u) = (3, syOpen) :: (emT t ++ ((3, syClose) :: (3, sy o) :: (3, syOpen) :: (emT u ++ [(3, syClose)]))) := by
  unfold emT; simp [emK, List.filterMap_append]
theorem ev_leaf {l : List Tok} {p : PS} {n : Nd} {K : List (Nat × ByteArray)} (h : LeafOk n) (hk : Kn l p (emT (.leaf n) ++ K)) (hs : Stop K) : Ev l .imp p (resT p (.leaf n)) := by
  obtain ⟨op, a, b, nm, at_, v⟩ := n
  have hend := kn_skip hk (p.out ++ [⟨op, a, b, nm, at_, v⟩])
  obtain ⟨ha, hb, his⟩ := h
  simp only at ha hb his
  subst ha hb
  rcases his with ⟨rfl, rfl, rfl, hv⟩ | ⟨rfl, rfl, rfl, hv⟩ | ⟨rfl, rfl, hkn, n1, n2, hat, hw, hwa⟩
  · have e : emT (.leaf ⟨1, 0, 0, ⟨#[]⟩, ⟨#[]⟩, v⟩) = [(1, dtx v)] := rfl
    rw [e] at hk hend
    obtain ⟨t, ht, hk1, hk2⟩ := kn_get hk
    have hsee : ∀ y, see l p y = false := fun y => by rw [kn_see hk]; rfl
    refine ev_up (r := resT p _) ⟨1, ?_⟩ (hsee _) (hsee _) hend hs
    rw [pR, if_neg (by rw [hk.1]; decide), ht]
    simp only [hk1, hk2, dtx_lit v hv, if_true]
    rw [show resT p (.leaf ⟨1, 0, 0, ⟨#[]⟩, ⟨#[]⟩, v⟩) = p.adv.nod ⟨1, 0, 0, ⟨#[]⟩, ⟨#[]⟩, v⟩ by unfold resT PS.nod PS.adv; rw [hk.1]; rfl]
    rfl
  · have e : emT (.leaf ⟨2, 0, 0, ⟨#[]⟩, ⟨#[]⟩, v⟩) = [(2, if v = 1 then syTrue else syFalse)] := rfl
    rw [e] at hk hend
    obtain ⟨t, ht, hk1, hk2⟩ := kn_get hk
    have hsee : ∀ y, see l p y = false := fun y => by rw [kn_see hk]; rfl
    refine ev_up (r := resT p _) ⟨1, ?_⟩ (hsee _) (hsee _) hend hs
    rw [pR, if_neg (by rw [hk.1]; decide), ht]
    simp only [hk1, hk2, if_true]
    rw [if_neg (by decide)]
    by_cases h1 : v = 1
    · subst h1; rw [if_pos rfl, if_pos rfl]; rw [show resT p (.leaf ⟨2, 0, 0, ⟨#[]⟩, ⟨#[]⟩, 1⟩) = p.adv.nod ⟨2, 0, 0, ⟨#[]⟩, ⟨#[]⟩, 1⟩ by unfold resT PS.nod PS.adv; rw [hk.1]; rfl]
    · obtain rfl : v = 0 := by omega
      rw [if_neg (show ¬ (if (0 : Nat) = 1 then syTrue else syFalse) = syTrue by decide), if_pos (show (if (0 : Nat) = 1 then syTrue else syFalse) = syFalse by decide)]; rw [show resT p (.leaf ⟨2, 0, 0, ⟨#[]⟩, ⟨#[]⟩, 0⟩) = p.adv.nod ⟨2, 0, 0, ⟨#[]⟩, ⟨#[]⟩, 0⟩ by unfold resT PS.nod PS.adv; rw [hk.1]; rfl]
  · by_cases h0 : at_.size = 0
    · have hate := size0 h0
      subst hate
      have e : emT (.leaf ⟨3, 0, 0, nm, ⟨#[]⟩, 0⟩) = [(2, nm)] := rfl
      rw [e] at hk hend
      obtain ⟨t, ht, hk1, hk2⟩ := kn_get hk
      have hsee : ∀ y, see l p y = false := fun y => by rw [kn_see hk]; rfl
      have hof : see l p.adv syOf = false := stop_see (kn_adv hk) hs _ (by decide)
      refine ev_up (r := resT p _) ⟨1, ?_⟩ (hsee _) (hsee _) hend hs
      rw [pR, if_neg (by rw [hk.1]; decide), ht]
      simp only [hk1, hk2, if_true]
      rw [if_neg (by decide), if_neg n1, if_neg n2]
      unfold pVar
      rw [if_neg (by rw [hof]; decide)]
      rw [show resT p (.leaf ⟨3, 0, 0, nm, ⟨#[]⟩, 0⟩) = p.adv.nod ⟨3, 0, 0, nm, ⟨#[]⟩, 0⟩ by unfold resT PS.nod PS.adv; rw [hk.1]; rfl]
    · have e : emT (.leaf ⟨3, 0, 0, nm, at_, 0⟩) = [(2, nm), (3, syOf), (2, at_)] := by
        unfold emT emK lfK
        rw [if_neg (show ¬ (3 : Nat) = 1 by decide), if_neg (show ¬ (3 : Nat) = 2 by decide), if_neg h0]; rfl
      have hel : (emT (.leaf ⟨3, 0, 0, nm, at_, 0⟩)).length = 3 := by rw [e]; rfl
      rw [e] at hk hend
      obtain ⟨t, ht, hk1, hk2⟩ := kn_get hk
      have hsee : ∀ y, see l p y = false := fun y => by rw [kn_see hk]; rfl
      have hof : see l p.adv syOf = true := by rw [kn_see (kn_adv hk)]; simp
      obtain ⟨u, hu, hu1, hu2⟩ := kn_get (kn_adv (kn_adv hk))
      have hu' : l[p.adv.at_ + 1]? = some u := hu
      refine ev_up (r := resT p (.leaf ⟨3, 0, 0, nm, at_, 0⟩)) ⟨1, ?_⟩ (hsee _) (hsee _) (by unfold resT; rw [hel]; exact hend) hs
      rw [pR, if_neg (by rw [hk.1]; decide), ht]
      simp only [hk1, hk2, if_true]
      rw [if_neg (by decide), if_neg n1, if_neg n2]
      unfold pVar
      rw [if_pos hof, hu']
      simp only [hu1, hu2, if_true]
      rw [show resT p (.leaf ⟨3, 0, 0, nm, at_, 0⟩) = p.adv.adv.adv.nod ⟨3, 0, 0, nm, at_, 0⟩ by unfold resT PS.nod PS.adv; rw [hel, hk.1]; rfl]
def resP (p : PS) (t : Tr) : Nat × PS := (p.out.length + t.size - 1, ⟨p.at_ + ((emT t).length + 2), false, p.out ++ t.flat p.out.length⟩)
theorem ev_brk {l : List Tok} {p : PS} {t : Tr} {K : List (Nat × ByteArray)} (h : ∀ (p : PS) (K : List (Nat × ByteArray)), Kn l p (emT t ++ K) → Stop K → Ev l .imp p (resT p t)) (hk : Kn l p ((3, syOpen) :: (emT t ++ ((3, syClose) :: K)))) : Ev l .atm p (resP p t) ∧ Kn l (resP p t).2 K := by
  have h1 := h p.adv ((3, syClose) :: K) (kn_adv hk) (.inr ⟨K, rfl⟩)
  have h2 : Kn l (resT p.adv t).2 ((3, syClose) :: K) := kn_skip (kn_adv hk) _
  obtain ⟨tk, ht, hk1, hk2⟩ := kn_get hk
  have h3 := ev_par h1 (fun y => by rw [kn_see hk]; simp) hk.1 ⟨tk, ht, hk1⟩ (by rw [kn_see h2]; simp)
  have e : ((resT p.adv t).1, (resT p.adv t).2.adv) = resP p t := by
    unfold resT resP PS.adv
    simp only [Prod.mk.injEq, PS.mk.injEq, and_true, true_and]
    omega
  rw [e] at h3
  refine ⟨h3, ?_⟩
  have := kn_adv h2
  rw [show (resT p.adv t).2.adv = (resP p t).2 from congrArg Prod.snd e] at this
  exact this
theorem nod_kn {l : List Tok} {q : PS} {K : List (Nat × ByteArray)} (h : Kn l q K) (n : Nd) : Kn l (q.nod n).2 K := h
theorem opS_all : ((List.range 17).all fun o => decide (o < 6) || (if o ≤ 7 then decide (opS (sy o) [6, 7] = o) else decide (opS (sy o) [6, 7] = 0)) && (if 8 ≤ o ∧ o ≤ 13 then decide (opS (sy o) [8, 9, 10, 11, 12, 13] = o) else o ≤ 7 || decide (opS (sy o) [8, 9, 10, 11, 12, 13] = 0)) && (if o = 14 then decide (opS (sy o) [14] = 14) else o < 14 || decide (opS (sy o) [14] = 0)) && (if o = 15 then decide (opS (sy o) [15] = 15) else o < 15 || decide (opS (sy o) [15] = 0)) && (o ≠ 16 || decide (opS (sy o) [16] = 16))) = true := by decide
theorem em_parse {l : List Tok} (t : Tr) : t.Ok → ∀ (p : PS) (K : List (Nat × ByteArray)), Kn l p (emT t ++ K) → Stop K → Ev l .imp p (resT p t) := by
  induction t with
  | leaf n => intro h p K hk hs; exact ev_leaf h hk hs
  | un o t ih =>
    intro h p K hk hs
    obtain ⟨h1, h2⟩ := h
    rw [emT_un] at hk
    have hk' : Kn l p ((3, sy o) :: (3, syOpen) :: (emT t ++ ((3, syClose) :: K))) := by
      simpa [List.append_assoc] using hk
    obtain ⟨e1, k1⟩ := ev_brk (ih h2) (kn_adv hk')
    have hopen : ∀ y, y ≠ syOpen → see l p.adv y = false := fun y hy => by
      rw [kn_see (kn_adv hk'), decide_eq_false (fun e : syOpen = y => hy e.symm), Bool.and_false]
    have eun := ev_una e1 (hopen _ (by decide))
    have hp := t.pos
    have eR : ∀ o, (resP p.adv t).2.nod (nd o (resP p.adv t).1 0) = resT p (.un o t) := fun o => by
      unfold resP resT PS.nod PS.adv
      rw [emT_un]
      simp only [Prod.mk.injEq, PS.mk.injEq, List.length_append, Tr.flat_len, Tr.size, Tr.flat, List.append_assoc, List.length_cons, List.length_nil, and_true]
      omega
    have kR : Kn l (resT p (.un o t)).2 K := by rw [← eR o]; exact nod_kn k1 _
    rcases h1 with rfl | rfl
    · have e2 := ev_neg (by rw [kn_op hk']; decide) eun
      rw [eR 4] at e2
      exact ev_imp (ev_grp 0 (ev_grp 1 (ev_not (ev_cmp (ev_grp 2 e2 (stop_op kR hs _ (gops_ne 2))) (stop_op kR hs _ (by decide))) (by rw [kn_see hk']; decide)) (stop_op kR hs _ (gops_ne 1))) (stop_op kR hs _ (gops_ne 0))) (stop_op kR hs _ (by decide))
    · have e2 := ev_nt (by rw [kn_op hk']; decide) (ev_not (ev_cmp (ev_grp 2 eun (stop_op k1 hs _ (gops_ne 2))) (stop_op k1 hs _ (by decide))) (hopen _ (by decide)))
      rw [eR 5] at e2
      exact ev_imp (ev_grp 0 (ev_grp 1 e2 (stop_op kR hs _ (gops_ne 1))) (stop_op kR hs _ (gops_ne 0))) (stop_op kR hs _ (by decide))
  | bin o t u ih1 ih2 =>
    intro h p K hk hs
    obtain ⟨h6, h16, h3, h4⟩ := h
    rw [emT_bin] at hk
    have hk' : Kn l p ((3, syOpen) :: (emT t ++ ((3, syClose) :: (3, sy o) :: (3, syOpen) :: (emT u ++ ((3, syClose) :: K))))) := by
      simpa [List.append_assoc] using hk
    obtain ⟨e1, k1⟩ := ev_brk (ih1 h3) hk'
    obtain ⟨e2, k2⟩ := ev_brk (ih2 h4) (kn_adv k1)
    have hopen : ∀ y, y ≠ syOpen → see l p y = false := fun y hy => by
      rw [kn_see hk', decide_eq_false (fun e : syOpen = y => hy e.symm), Bool.and_false]
    have hopen2 : ∀ y, y ≠ syOpen → see l (resP p t).2.adv y = false := fun y hy => by
      rw [kn_see (kn_adv k1), decide_eq_false (fun e : syOpen = y => hy e.symm), Bool.and_false]
    have u1 := ev_una e1 (hopen _ (by decide))
    have u2 := ev_una e2 (hopen2 _ (by decide))
    have hop : ∀ os, opAt l (resP p t).2 os = opS (sy o) os := fun os => kn_op k1 os
    have hall := List.all_eq_true.1 opS_all o (List.mem_range.2 (by omega))
    have hp := t.pos
    have hq := u.pos
    have eR : (resP (resP p t).2.adv u).2.nod (nd o (resP p t).1 (resP (resP p t).2.adv u).1) = resT p (.bin o t u) := by
      unfold resP resT PS.nod PS.adv
      rw [emT_bin]
      simp only [Prod.mk.injEq, PS.mk.injEq, true_and, List.length_append, Tr.flat_len, Tr.size, Tr.flat, List.append_assoc, List.length_cons, List.length_nil]
      exact ⟨by omega, by omega, trivial⟩
    have kR : Kn l (resT p (.bin o t u)).2 K := by rw [← eR]; exact nod_kn k2 _
    have up1 : Ev l (.grp 2) p (resT p (.bin o t u)) → Ev l .imp p (resT p (.bin o t u)) := fun e =>
      ev_imp (ev_grp 0 (ev_grp 1 (ev_not (ev_cmp e (stop_op kR hs _ (by decide))) (hopen _ (by decide))) (stop_op kR hs _ (gops_ne 1))) (stop_op kR hs _ (gops_ne 0))) (stop_op kR hs _ (by decide))
    have hcase : (o = 6 ∨ o = 7) ∨ (8 ≤ o ∧ o ≤ 13) ∨ o = 14 ∨ o = 15 ∨ o = 16 := by omega
    rcases hcase with h7 | h13 | rfl | rfl | rfl
    · have hS : opS (sy o) [6, 7] = o := by rcases h7 with rfl | rfl <;> decide
      have e := ev_grp_op 2 u1 (o := o) (by rw [hop]; exact hS) (by omega) u2 (stop_op (nod_kn k2 _) hs _ (gops_ne 2))
      rw [eR] at e
      exact up1 e
    · have hS0 : opS (sy o) [6, 7] = 0 := by
        have : o = 8 ∨ o = 9 ∨ o = 10 ∨ o = 11 ∨ o = 12 ∨ o = 13 := by omega
        rcases this with rfl | rfl | rfl | rfl | rfl | rfl <;> decide
      have hS : opS (sy o) [8, 9, 10, 11, 12, 13] = o := by
        have : o = 8 ∨ o = 9 ∨ o = 10 ∨ o = 11 ∨ o = 12 ∨ o = 13 := by omega
        rcases this with rfl | rfl | rfl | rfl | rfl | rfl <;> decide
      have e := ev_cmp_op (o := o) (ev_grp 2 u1 (by rw [hop]; exact hS0)) (by rw [hop]; exact hS) (by omega) (ev_grp 2 u2 (stop_op k2 hs _ (gops_ne 2)))
      rw [eR] at e
      exact ev_imp (ev_grp 0 (ev_grp 1 (ev_not e (hopen _ (by decide))) (stop_op kR hs _ (gops_ne 1))) (stop_op kR hs _ (gops_ne 0))) (stop_op kR hs _ (by decide))
    · have n1 := ev_not (ev_cmp (ev_grp 2 u1 (by rw [hop]; decide)) (by rw [hop]; decide)) (hopen _ (by decide))
      have n2 := ev_not (ev_cmp (ev_grp 2 u2 (stop_op k2 hs _ (gops_ne 2))) (stop_op k2 hs _ (by decide))) (hopen2 _ (by decide))
      have e := ev_grp_op 1 n1 (o := 14) (by rw [hop]; decide) (by decide) n2 (stop_op (nod_kn k2 _) hs _ (gops_ne 1))
      rw [eR] at e
      exact ev_imp (ev_grp 0 e (stop_op kR hs _ (gops_ne 0))) (stop_op kR hs _ (by decide))
    · have n1 := ev_grp 1 (ev_not (ev_cmp (ev_grp 2 u1 (by rw [hop]; decide)) (by rw [hop]; decide)) (hopen _ (by decide))) (by rw [hop]; decide)
      have n2 := ev_grp 1 (ev_not (ev_cmp (ev_grp 2 u2 (stop_op k2 hs _ (gops_ne 2))) (stop_op k2 hs _ (by decide))) (hopen2 _ (by decide))) (stop_op k2 hs _ (gops_ne 1))
      have e := ev_grp_op 0 n1 (o := 15) (by rw [hop]; decide) (by decide) n2 (stop_op (nod_kn k2 _) hs _ (gops_ne 0))
      rw [eR] at e
      exact ev_imp e (stop_op kR hs _ (by decide))
    · have n1 := ev_grp 0 (ev_grp 1 (ev_not (ev_cmp (ev_grp 2 u1 (by rw [hop]; decide)) (by rw [hop]; decide)) (hopen _ (by decide))) (by rw [hop]; decide)) (by rw [hop]; decide)
      have n2 := ev_up e2 (hopen2 _ (by decide)) (hopen2 _ (by decide)) k2 hs
      have e := ev_imp_op n1 (by rw [hop]; decide) n2
      rw [eR] at e
      exact e
/-- a tree's text, its tokens parsed -/
theorem em_whole {l : List Tok} {t : Tr} (h : t.Ok) (hl : l.map kt = emT t) (h120 : (t.flat 0).length ≤ 120) (h12 : depth (t.flat 0) ≤ 12) : parse l = (t.flat 0, 0, 0) := by
  obtain ⟨N, hN⟩ := em_parse t h p0 [] ⟨rfl, by show (l.drop 0).map kt = emT t ++ []; rw [List.drop_zero, List.append_nil, hl]⟩ (.inl rfl)
  have h1 := pRun_some l
  have h2 := pR_mono l _ _ _ _ N h1
  have h3 := pR_mono l _ _ _ _ (fuel l) hN
  rw [Nat.add_comm N] at h3
  rw [h3] at h2
  injection h2 with h2
  have hlen : l.length = (emT t).length := by rw [← hl, List.length_map]
  have hat : (pRun l).2.at_ = l.length := by rw [← h2, hlen]; show 0 + (emT t).length = _; omega
  have hbad : (pRun l).2.bad = false := by rw [← h2]; rfl
  have hout : (pRun l).2.out = t.flat 0 := by rw [← h2]; rfl
  unfold parse
  rw [if_neg (by rw [hbad, hat]; simp), hout, if_neg (by omega)]
/-- the text of a tree that a text gave -/
def fmtT (t : Tr) : ByteArray := itT (emK t)
theorem fmt_back {t : Tr} (h : t.Ok) (h120 : (t.flat 0).length ≤ 120) (h12 : depth (t.flat 0) ≤ 12) (h4 : (fmtT t).size ≤ 400) : pOk (fmtT t) = true ∧ pTree (fmtT t) = t.flat 0 := by
  obtain ⟨l, e1, e2⟩ := it_scan (emK t) (em_GI t [] h (.inl rfl)) h4
  have e3 := em_whole h e2 h120 h12
  unfold pOk pTree fmtT
  rw [e1]
  simp only
  rw [e3]
  exact ⟨rfl, rfl⟩
theorem parse_lim {l : List Tok} (h : (parse l).2.2 = 0) : (parse l).1.length ≤ 120 ∧ depth (parse l).1 ≤ 12 := by
  unfold parse at h ⊢
  split at h
  · cases h
  · rename_i h1
    rw [if_neg h1]
    split at h
    · cases h
    · rename_i h2
      rw [if_neg h2]
      simp only
      omega
theorem pTree_lim (s : ByteArray) (h : pOk s = true) : (pTree s).length ≤ 120 ∧ depth (pTree s) ≤ 12 := by
  unfold pOk at h
  rw [Bool.and_eq_true, decide_eq_true_iff, decide_eq_true_iff] at h
  unfold pTree
  rw [if_pos h.1]
  exact parse_lim h.2
end Go.Proofs.YtmdifoclojogpaaGreatDoor
