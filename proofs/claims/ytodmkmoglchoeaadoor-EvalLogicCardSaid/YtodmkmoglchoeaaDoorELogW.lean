/- Contracts, joined: ELogP, ELogQ, ELogW. -/
import Derived.Test.YtodmkmoglchoeaaDoorYBack3
import Derived.Test.YtodmkmoglchoeaaDoorYSenG
import Derived.Test.YtodmkmoglchoeaaDoorERefP
import Derived.Test.YtodmkmoglchoeaaDoorEBeg
import Derived.Test.YtodmkmoglchoeaaDoorERefT
import Derived.Test.YtodmkmoglchoeaaDoorEOrdW
import Derived.Test.YtodmkmoglchoeaaDoorYNew
namespace Go.Proofs.YtodmkmoglchoeaaDoor
/- EvalLogic, pure: the texts of sentences, of whatever parts, are parsed into their trees; the laws of logic. -/
section
open Go.RowKit

def fmI (I : List It) : List (Nat × ByteArray) := I.filterMap id
def resK (p : PS) (K : List (Nat × ByteArray)) (t : Tr) : Nat × PS := (p.out.length + t.size - 1, ⟨p.at_ + K.length, false, p.out ++ t.flat p.out.length⟩)
theorem kn_res {l : List Tok} {p : PS} {K T : List (Nat × ByteArray)} {t : Tr} (h : Kn l p (K ++ T)) : Kn l (resK p K t).2 T := kn_skip h _
def NoO (os : List Nat) (T : List (Nat × ByteArray)) : Prop := ∀ (l : List Tok) (p : PS), Kn l p T → opAt l p os = 0
def NoF (T : List (Nat × ByteArray)) : Prop := ∀ (l : List Tok) (p : PS), Kn l p T → see l p syOf = false
def cmp6 : List Nat := [8, 9, 10, 11, 12, 13]
def CG (T : List (Nat × ByteArray)) : Prop := NoF T ∧ NoO [6, 7] T
def CN (T : List (Nat × ByteArray)) : Prop := CG T ∧ NoO cmp6 T
/-- these tokens are parsed by this rule into this tree, where what follows is fit -/
def Pz (R : Ru) (C : List (Nat × ByteArray) → Prop) (K : List (Nat × ByteArray)) (t : Tr) : Prop := ∀ (l : List Tok) (p : PS) (T : List (Nat × ByteArray)), Kn l p (K ++ T) → C T → Ev l R p (resK p K t)
def Hd (o : Nat) (K : List (Nat × ByteArray)) : Prop := ∀ (l : List Tok) (p : PS) (T : List (Nat × ByteArray)), Kn l p (K ++ T) → see l p (sy o) = false
theorem stop_noF {T : List (Nat × ByteArray)} (h : Stop T) : NoF T := fun _ _ hk => stop_see hk h _ (by decide)
theorem stop_noO {T : List (Nat × ByteArray)} (h : Stop T) (os : List Nat) (ho : (os.all fun o => decide (sy o ≠ syClose)) = true) : NoO os T := fun _ _ hk => stop_op hk h os ho
theorem stop_CN {T : List (Nat × ByteArray)} (h : Stop T) : CN T := ⟨⟨stop_noF h, stop_noO h _ (gops_ne 2)⟩, stop_noO h _ (by decide)⟩
theorem op_noO {o : Nat} {T : List (Nat × ByteArray)} {os : List Nat} (h : opS (sy o) os = 0) : NoO os ((3, sy o) :: T) := fun _ _ hk => by rw [kn_op hk]; exact h
theorem op_noF {o : Nat} {T : List (Nat × ByteArray)} (h : sy o ≠ syOf) : NoF ((3, sy o) :: T) := fun _ _ hk => by rw [kn_see hk, decide_eq_false h, Bool.and_false]
theorem pz_G {K : List (Nat × ByteArray)} {t : Tr} (h : Pz .atm NoF K t) (h4 : Hd 4 K) : Pz (.grp 2) CG K t := fun l p T hk hc => ev_grp 2 (ev_una (h l p T hk hc.1) (h4 l p T hk)) (hc.2 l _ (kn_res hk))
theorem pz_N {K : List (Nat × ByteArray)} {t : Tr} (h : Pz (.grp 2) CG K t) (h5 : Hd 5 K) : Pz .not CN K t := fun l p T hk hc => ev_not (ev_cmp (h l p T hk hc.1) (hc.2 l _ (kn_res hk))) (h5 l p T hk)
theorem pz_I {K : List (Nat × ByteArray)} {t : Tr} (h : Pz .not CN K t) : Pz .imp Stop K t := fun l p T hk hs => by
  have hk2 : Kn l (resK p K t).2 T := kn_res hk
  exact ev_imp (ev_grp 0 (ev_grp 1 (h l p T hk (stop_CN hs)) (stop_op hk2 hs _ (gops_ne 1))) (stop_op hk2 hs _ (gops_ne 0))) (stop_op hk2 hs _ (by decide))
theorem pz_nt {K : List (Nat × ByteArray)} {t : Tr} (h : Pz .not CN K t) : Pz .not CN ((3, sy 5) :: K) (.un 5 t) := fun l p T hk hc => by
  have hk' : Kn l p ((3, sy 5) :: (K ++ T)) := hk
  have e := ev_nt (by rw [kn_op hk']; decide) (h l p.adv T (kn_adv hk') hc)
  have hp := t.pos
  have eR : (resK p.adv K t).2.nod (nd 5 (resK p.adv K t).1 0) = resK p ((3, sy 5) :: K) (.un 5 t) := by
    unfold resK PS.nod PS.adv
    simp only [Prod.mk.injEq, PS.mk.injEq, List.length_append, Tr.flat_len, Tr.size, Tr.flat, List.append_assoc, List.length_cons, and_true]
    omega
  rw [eR] at e
  exact e
theorem pz_neg {K : List (Nat × ByteArray)} {t : Tr} (h : Pz .atm NoF K t) (h4 : Hd 4 K) : Pz (.grp 2) CG ((3, sy 4) :: K) (.un 4 t) := fun l p T hk hc => by
  have hk' : Kn l p ((3, sy 4) :: (K ++ T)) := hk
  have e := ev_neg (by rw [kn_op hk']; decide) (ev_una (h l p.adv T (kn_adv hk') hc.1) (h4 l p.adv T (kn_adv hk')))
  have hp := t.pos
  have eR : (resK p.adv K t).2.nod (nd 4 (resK p.adv K t).1 0) = resK p ((3, sy 4) :: K) (.un 4 t) := by
    unfold resK PS.nod PS.adv
    simp only [Prod.mk.injEq, PS.mk.injEq, List.length_append, Tr.flat_len, Tr.size, Tr.flat, List.append_assoc, List.length_cons, and_true]
    omega
  rw [eR] at e
  exact ev_grp 2 e (hc.2 l _ (kn_res hk))
theorem res_bin (p : PS) (K1 K2 : List (Nat × ByteArray)) (t u : Tr) (o : Nat) : (resK (resK p K1 t).2.adv K2 u).2.nod (nd o (resK p K1 t).1 (resK (resK p K1 t).2.adv K2 u).1) = resK p (K1 ++ (3, sy o) :: K2) (.bin o t u) := by
  have hp := t.pos
  have hq := u.pos
  unfold resK PS.nod PS.adv
  simp only [Prod.mk.injEq, PS.mk.injEq, true_and, List.length_append, Tr.flat_len, Tr.size, Tr.flat, List.append_assoc, List.length_cons]
  exact ⟨by omega, by omega, trivial⟩
theorem kn_bin {l : List Tok} {p : PS} {K1 K2 T : List (Nat × ByteArray)} {o : Nat} (h : Kn l p ((K1 ++ (3, sy o) :: K2) ++ T)) : Kn l p (K1 ++ ((3, sy o) :: (K2 ++ T))) := by simpa [List.append_assoc] using h
theorem pz_sum {K1 K2 : List (Nat × ByteArray)} {t u : Tr} {o : Nat} (ho : o = 6 ∨ o = 7) (h1 : Pz .atm NoF K1 t) (a1 : Hd 4 K1) (h2 : Pz .atm NoF K2 u) (a2 : Hd 4 K2) : Pz (.grp 2) CG (K1 ++ (3, sy o) :: K2) (.bin o t u) := fun l p T hk hc => by
  have hk' := kn_bin hk
  have hnf : NoF ((3, sy o) :: (K2 ++ T)) := op_noF (by rcases ho with rfl | rfl <;> decide)
  have u1 := ev_una (h1 l p _ hk' hnf) (a1 l p _ hk')
  have k1 : Kn l (resK p K1 t).2 ((3, sy o) :: (K2 ++ T)) := kn_res hk'
  have u2 := ev_una (h2 l _ T (kn_adv k1) hc.1) (a2 l _ T (kn_adv k1))
  have k2 : Kn l (resK (resK p K1 t).2.adv K2 u).2 T := kn_res (kn_adv k1)
  have hS : opS (sy o) [6, 7] = o := by rcases ho with rfl | rfl <;> decide
  have e := ev_grp_op 2 u1 (o := o) ((kn_op k1 _).trans hS) (by omega) u2 (hc.2 l _ (nod_kn k2 _))
  rw [res_bin] at e
  exact e
theorem pz_cmp {K1 K2 : List (Nat × ByteArray)} {t u : Tr} {o : Nat} (h8 : 8 ≤ o) (h13 : o ≤ 13) (h1 : Pz (.grp 2) CG K1 t) (a1 : Hd 5 K1) (h2 : Pz (.grp 2) CG K2 u) : Pz .imp Stop (K1 ++ (3, sy o) :: K2) (.bin o t u) := fun l p T hk hs => by
  have hk' := kn_bin hk
  have hc : o = 8 ∨ o = 9 ∨ o = 10 ∨ o = 11 ∨ o = 12 ∨ o = 13 := by omega
  have hcg : CG ((3, sy o) :: (K2 ++ T)) := ⟨op_noF (by rcases hc with rfl | rfl | rfl | rfl | rfl | rfl <;> decide), op_noO (by rcases hc with rfl | rfl | rfl | rfl | rfl | rfl <;> decide)⟩
  have e1 := h1 l p _ hk' hcg
  have k1 : Kn l (resK p K1 t).2 ((3, sy o) :: (K2 ++ T)) := kn_res hk'
  have e2 := h2 l _ T (kn_adv k1) (stop_CN hs).1
  have k2 : Kn l (resK (resK p K1 t).2.adv K2 u).2 T := kn_res (kn_adv k1)
  have hS : opS (sy o) [8, 9, 10, 11, 12, 13] = o := by rcases hc with rfl | rfl | rfl | rfl | rfl | rfl <;> decide
  have e := ev_cmp_op (o := o) e1 ((kn_op k1 _).trans hS) (by omega) e2
  rw [res_bin] at e
  have kR : Kn l (resK p (K1 ++ (3, sy o) :: K2) (.bin o t u)).2 T := by rw [← res_bin]; exact nod_kn k2 _
  exact ev_imp (ev_grp 0 (ev_grp 1 (ev_not e (a1 l p _ hk')) (stop_op kR hs _ (gops_ne 1))) (stop_op kR hs _ (gops_ne 0))) (stop_op kR hs _ (by decide))
theorem pz_log {K1 K2 : List (Nat × ByteArray)} {t u : Tr} {o : Nat} (ho : o = 14 ∨ o = 15 ∨ o = 16) (h1 : Pz .not CN K1 t) (h2 : Pz .not CN K2 u) : Pz .imp Stop (K1 ++ (3, sy o) :: K2) (.bin o t u) := fun l p T hk hs => by
  have hk' := kn_bin hk
  have hcn : CN ((3, sy o) :: (K2 ++ T)) := ⟨⟨op_noF (by rcases ho with rfl | rfl | rfl <;> decide), op_noO (by rcases ho with rfl | rfl | rfl <;> decide)⟩, op_noO (by rcases ho with rfl | rfl | rfl <;> decide)⟩
  have e1 := h1 l p _ hk' hcn
  have k1 : Kn l (resK p K1 t).2 ((3, sy o) :: (K2 ++ T)) := kn_res hk'
  have e2 := h2 l _ T (kn_adv k1) (stop_CN hs)
  have k2 : Kn l (resK (resK p K1 t).2.adv K2 u).2 T := kn_res (kn_adv k1)
  have kR : Kn l (resK p (K1 ++ (3, sy o) :: K2) (.bin o t u)).2 T := by rw [← res_bin]; exact nod_kn k2 _
  rcases ho with rfl | rfl | rfl
  · have e := ev_grp_op 1 e1 (o := 14) (by rw [kn_op k1]; decide) (by decide) e2 (stop_op (nod_kn k2 _) hs _ (gops_ne 1))
    rw [res_bin] at e
    exact ev_imp (ev_grp 0 e (stop_op kR hs _ (gops_ne 0))) (stop_op kR hs _ (by decide))
  · have n1 := ev_grp 1 e1 (by rw [kn_op k1]; decide)
    have n2 := ev_grp 1 e2 (stop_op k2 hs _ (gops_ne 1))
    have e := ev_grp_op 0 n1 (o := 15) (by rw [kn_op k1]; decide) (by decide) n2 (stop_op (nod_kn k2 _) hs _ (gops_ne 0))
    rw [res_bin] at e
    exact ev_imp e (stop_op kR hs _ (by decide))
  · have n1 := ev_grp 0 (ev_grp 1 e1 (by rw [kn_op k1]; decide)) (by rw [kn_op k1]; decide)
    have n2 := ev_imp (ev_grp 0 (ev_grp 1 e2 (stop_op k2 hs _ (gops_ne 1))) (stop_op k2 hs _ (gops_ne 0))) (stop_op k2 hs _ (by decide))
    have e := ev_imp_op n1 (by rw [kn_op k1]; decide) n2
    rw [res_bin] at e
    exact e
theorem pz_par {K : List (Nat × ByteArray)} {t : Tr} (h : Pz .imp Stop K t) : Pz .atm NoF ((3, syOpen) :: (K ++ [(3, syClose)])) t := fun l p T hk _ => by
  have hk' : Kn l p ((3, syOpen) :: (K ++ ((3, syClose) :: T))) := by simpa [List.append_assoc] using hk
  have h1 := h l p.adv ((3, syClose) :: T) (kn_adv hk') (.inr ⟨T, rfl⟩)
  have h2 : Kn l (resK p.adv K t).2 ((3, syClose) :: T) := kn_res (kn_adv hk')
  obtain ⟨tk, ht, hk1, hk2⟩ := kn_get hk'
  have h3 := ev_par h1 (fun y => by rw [kn_see hk']; simp) hk'.1 ⟨tk, ht, hk1⟩ (by rw [kn_see h2]; simp)
  have e : ((resK p.adv K t).1, (resK p.adv K t).2.adv) = resK p ((3, syOpen) :: (K ++ [(3, syClose)])) t := by
    unfold resK PS.adv
    simp only [Prod.mk.injEq, PS.mk.injEq, and_true, true_and, List.length_cons, List.length_append, List.length_nil]
    omega
  rw [e] at h3
  exact h3
theorem hd_open (o : Nat) (h : sy o ≠ syOpen) (K : List (Nat × ByteArray)) : Hd o ((3, syOpen) :: K) := fun l p T hk => by
  have hk' : Kn l p ((3, syOpen) :: (K ++ T)) := hk
  rw [kn_see hk', decide_eq_false (fun e : syOpen = sy o => h e.symm), Bool.and_false]
theorem hd_word (o k : Nat) (x : ByteArray) (hk0 : k ≠ 3) (K : List (Nat × ByteArray)) : Hd o ((k, x) :: K) := fun l p T hk => by
  have hk' : Kn l p ((k, x) :: (K ++ T)) := hk
  rw [kn_see hk', decide_eq_false hk0, Bool.false_and]
theorem pz_num (x : ByteArray) (v : Nat) (hx : litV x = some v) : Pz .atm NoF [(1, x)] (.leaf ⟨1, 0, 0, ⟨#[]⟩, ⟨#[]⟩, v⟩) := fun l p T hk _ => by
  have hk' : Kn l p ((1, x) :: T) := hk
  obtain ⟨t, ht, hk1, hk2⟩ := kn_get hk'
  refine ⟨1, ?_⟩
  rw [pR, if_neg (by rw [hk'.1]; decide), ht]
  simp only [hk1, hk2, hx, if_true]
  rw [show resK p [(1, x)] (.leaf ⟨1, 0, 0, ⟨#[]⟩, ⟨#[]⟩, v⟩) = p.adv.nod ⟨1, 0, 0, ⟨#[]⟩, ⟨#[]⟩, v⟩ by unfold resK PS.nod PS.adv; rw [hk'.1]; rfl]
  rfl
theorem pz_tf (b : Bool) : Pz .atm NoF [(2, if b then syTrue else syFalse)] (.leaf ⟨2, 0, 0, ⟨#[]⟩, ⟨#[]⟩, if b then 1 else 0⟩) := fun l p T hk _ => by
  have hk' : Kn l p ((2, if b then syTrue else syFalse) :: T) := hk
  obtain ⟨t, ht, hk1, hk2⟩ := kn_get hk'
  refine ⟨1, ?_⟩
  rw [pR, if_neg (by rw [hk'.1]; decide), ht]
  simp only [hk1, hk2, if_true]
  rw [if_neg (by decide)]
  cases b
  · rw [if_neg (show ¬ (if false = true then syTrue else syFalse) = syTrue by decide), if_pos (show (if false = true then syTrue else syFalse) = syFalse by decide)]
    rw [show resK p [(2, if false = true then syTrue else syFalse)] (.leaf ⟨2, 0, 0, ⟨#[]⟩, ⟨#[]⟩, if false = true then 1 else 0⟩) = p.adv.nod ⟨2, 0, 0, ⟨#[]⟩, ⟨#[]⟩, 0⟩ by unfold resK PS.nod PS.adv; rw [hk'.1]; rfl]
  · rw [if_pos (show (if true = true then syTrue else syFalse) = syTrue by decide)]
    rw [show resK p [(2, if true = true then syTrue else syFalse)] (.leaf ⟨2, 0, 0, ⟨#[]⟩, ⟨#[]⟩, if true = true then 1 else 0⟩) = p.adv.nod ⟨2, 0, 0, ⟨#[]⟩, ⟨#[]⟩, 1⟩ by unfold resK PS.nod PS.adv; rw [hk'.1]; rfl]
theorem pz_var (nm : ByteArray) (n1 : nm ≠ syTrue) (n2 : nm ≠ syFalse) : Pz .atm NoF [(2, nm)] (.leaf ⟨3, 0, 0, nm, ⟨#[]⟩, 0⟩) := fun l p T hk hc => by
  have hk' : Kn l p ((2, nm) :: T) := hk
  obtain ⟨t, ht, hk1, hk2⟩ := kn_get hk'
  have hof : see l p.adv syOf = false := hc l _ (kn_adv hk')
  refine ⟨1, ?_⟩
  rw [pR, if_neg (by rw [hk'.1]; decide), ht]
  simp only [hk1, hk2, if_true]
  rw [if_neg (by decide), if_neg n1, if_neg n2]
  unfold pVar
  rw [if_neg (by rw [hof]; decide)]
  rw [show resK p [(2, nm)] (.leaf ⟨3, 0, 0, nm, ⟨#[]⟩, 0⟩) = p.adv.nod ⟨3, 0, 0, nm, ⟨#[]⟩, 0⟩ by unfold resK PS.nod PS.adv; rw [hk'.1]; rfl]
theorem pz_att (nm at_ : ByteArray) (n1 : nm ≠ syTrue) (n2 : nm ≠ syFalse) : Pz .atm NoF [(2, nm), (3, syOf), (2, at_)] (.leaf ⟨3, 0, 0, nm, at_, 0⟩) := fun l p T hk _ => by
  have hk' : Kn l p ((2, nm) :: (3, syOf) :: (2, at_) :: T) := hk
  obtain ⟨t, ht, hk1, hk2⟩ := kn_get hk'
  have hof : see l p.adv syOf = true := by rw [kn_see (kn_adv hk')]; simp
  obtain ⟨u, hu, hu1, hu2⟩ := kn_get (kn_adv (kn_adv hk'))
  have hu' : l[p.adv.at_ + 1]? = some u := hu
  refine ⟨1, ?_⟩
  rw [pR, if_neg (by rw [hk'.1]; decide), ht]
  simp only [hk1, hk2, if_true]
  rw [if_neg (by decide), if_neg n1, if_neg n2]
  unfold pVar
  rw [if_pos hof, hu']
  simp only [hu1, hu2, if_true]
  rw [show resK p [(2, nm), (3, syOf), (2, at_)] (.leaf ⟨3, 0, 0, nm, at_, 0⟩) = p.adv.adv.adv.nod ⟨3, 0, 0, nm, at_, 0⟩ by unfold resK PS.nod PS.adv; rw [hk'.1]; rfl]
/-- a text's items, whatever follows a word fitly -/
def WT (tail : List UInt8) : Prop := tail = [] ∨ ∃ d q, tail = d :: q ∧ isWd d.toNat = false
def H1 (L : List UInt8) : Prop := ∃ d q, L = d :: q ∧ d ≠ 61 ∧ d ≠ 62
structure Tx (s : ByteArray) (I : List It) : Prop where
  b : bl s = itx I
  gi : ∀ tail, WT tail → GI I tail
  hd : H1 (itx I)
theorem Tx.of {s r : ByteArray} {I : List It} (h : Tx s I) (e : bl r = bl s) : Tx r I := ⟨e.trans h.b, h.gi, h.hd⟩
theorem H1.app {L R : List UInt8} (h : H1 L) : H1 (L ++ R) := by
  obtain ⟨d, q, rfl, h1, h2⟩ := h
  exact ⟨d, q ++ R, rfl, h1, h2⟩
set_option maxRecDepth 100000 in
theorem close_256 : ((List.range 256).all fun b => decide ((symL.find? fun y => hpB (syClose ++ ⟨#[UInt8.ofNat b]⟩) y) = some syClose)) = true := by kernel_rfl
theorem close_any (d : UInt8) : folB 3 syClose d = true := by
  have h3 := of_decide_eq_true (List.all_eq_true.1 close_256 d.toNat (List.mem_range.2 d.toNat_lt))
  rw [UInt8.ofNat_toNat] at h3
  unfold folB
  rw [if_pos rfl, decide_eq_true_iff]
  exact h3
def syA (o : Nat) : Bool := (List.range 256).all fun b => decide (b = 61) || (decide (b = 62) || decide ((symL.find? fun y => hpB (sy o ++ ⟨#[UInt8.ofNat b]⟩) y) = some (sy o)))
set_option maxRecDepth 100000 in
theorem sy_256_4 : syA 4 = true := by kernel_rfl
set_option maxRecDepth 100000 in
theorem sy_256_5 : syA 5 = true := by kernel_rfl
set_option maxRecDepth 100000 in
theorem sy_256_6 : syA 6 = true := by kernel_rfl
set_option maxRecDepth 100000 in
theorem sy_256_7 : syA 7 = true := by kernel_rfl
set_option maxRecDepth 100000 in
theorem sy_256_8 : syA 8 = true := by kernel_rfl
set_option maxRecDepth 100000 in
theorem sy_256_9 : syA 9 = true := by kernel_rfl
set_option maxRecDepth 100000 in
theorem sy_256_10 : syA 10 = true := by kernel_rfl
set_option maxRecDepth 100000 in
theorem sy_256_11 : syA 11 = true := by kernel_rfl
set_option maxRecDepth 100000 in
theorem sy_256_12 : syA 12 = true := by kernel_rfl
set_option maxRecDepth 100000 in
theorem sy_256_13 : syA 13 = true := by kernel_rfl
set_option maxRecDepth 100000 in
theorem sy_256_14 : syA 14 = true := by kernel_rfl
set_option maxRecDepth 100000 in
theorem sy_256_15 : syA 15 = true := by kernel_rfl
set_option maxRecDepth 100000 in
theorem sy_256_16 : syA 16 = true := by kernel_rfl
theorem sy_256 (o : Nat) (h4 : 4 ≤ o) (h16 : o ≤ 16) : syA o = true := by
  have : o = 4 ∨ o = 5 ∨ o = 6 ∨ o = 7 ∨ o = 8 ∨ o = 9 ∨ o = 10 ∨ o = 11 ∨ o = 12 ∨ o = 13 ∨ o = 14 ∨ o = 15 ∨ o = 16 := by omega
  rcases this with rfl | rfl | rfl | rfl | rfl | rfl | rfl | rfl | rfl | rfl | rfl | rfl | rfl
  · exact sy_256_4
  · exact sy_256_5
  · exact sy_256_6
  · exact sy_256_7
  · exact sy_256_8
  · exact sy_256_9
  · exact sy_256_10
  · exact sy_256_11
  · exact sy_256_12
  · exact sy_256_13
  · exact sy_256_14
  · exact sy_256_15
  · exact sy_256_16
theorem sy_fol {o : Nat} (h4 : 4 ≤ o) (h16 : o ≤ 16) {L : List UInt8} (h : H1 L) : FolT (3, sy o) L := by
  obtain ⟨d, q, rfl, n1, n2⟩ := h
  refine .inr ⟨d, q, rfl, ?_⟩
  have h2 := List.all_eq_true.1 (sy_256 o h4 h16) d.toNat (List.mem_range.2 d.toNat_lt)
  rw [Bool.or_eq_true, Bool.or_eq_true, decide_eq_true_iff, decide_eq_true_iff, decide_eq_true_iff, UInt8.ofNat_toNat] at h2
  rcases h2 with h2 | h2 | h2
  · exact absurd (UInt8.toNat_inj.1 (h2.trans (by rfl : (61 : Nat) = (61 : UInt8).toNat))) n1
  · exact absurd (UInt8.toNat_inj.1 (h2.trans (by rfl : (62 : Nat) = (62 : UInt8).toNat))) n2
  · show folB 3 (sy o) d = true
    unfold folB
    rw [if_pos rfl]
    exact decide_eq_true h2
theorem sy_sp {o : Nat} (h4 : 4 ≤ o) (h16 : o ≤ 16) (q : List UInt8) : FolT (3, sy o) (32 :: q) := sy_fol h4 h16 ⟨32, q, rfl, by decide, by decide⟩
theorem itx_one (x : Nat × ByteArray) (r : List It) : itx (some x :: r) = bl x.2 ++ itx r := rfl
theorem itx_sp (r : List It) : itx (none :: r) = 32 :: itx r := rfl
theorem tx_par {s : ByteArray} {I : List It} (h : Tx s I) : Tx (⟨#[40]⟩ ++ s ++ ⟨#[41]⟩) (some (3, syOpen) :: (I ++ [some (3, syClose)])) := by
  refine ⟨?_, fun tail _ => ⟨open_good, any_tail open_any _, GI_app _ _ _ (h.gi _ (.inr ⟨41, tail, rfl, by decide⟩)) ⟨close_good, any_tail close_any _, trivial⟩⟩, ⟨40, itx (I ++ [some (3, syClose)]), rfl, by decide, by decide⟩⟩
  rw [bl_app, bl_app, h.b, itx_one, itx_app]
  rfl
theorem tx_un {s : ByteArray} {I : List It} (h : Tx s I) {o : Nat} (ho : o = 4 ∨ o = 5) (x : ByteArray) (hx : x = sy o) : Tx (x ++ s) (some (3, sy o) :: I) := by
  subst hx
  refine ⟨by rw [bl_app, h.b]; rfl, fun tail ht => ⟨sy_good o (by omega) (by omega), sy_fol (by omega) (by omega) h.hd.app, h.gi _ ht⟩, ?_⟩
  rcases ho with rfl | rfl
  · exact ⟨45, itx I, rfl, by decide, by decide⟩
  · exact ⟨33, itx I, rfl, by decide, by decide⟩
def opI (sp : Bool) (o : Nat) : List It := if sp then [none, some (3, sy o), none] else [some (3, sy o)]
theorem fm_op (sp : Bool) (o : Nat) : fmI (opI sp o) = [(3, sy o)] := by cases sp <;> rfl
theorem sy_first : ((List.range 17).all fun o => decide (o < 4) || (match bl (sy o) with
  | d :: _ => !isWd d.toNat
  | [] => false)) = true := by kernel_rfl
theorem tx_bin {s r : ByteArray} {I J : List It} (h : Tx s I) (k : Tx r J) {o : Nat} (h4 : 4 ≤ o) (h16 : o ≤ 16) (sp : Bool) (X : ByteArray) (hX : bl X = itx (opI sp o)) : Tx (s ++ X ++ r) (I ++ (opI sp o ++ J)) := by
  refine ⟨by rw [bl_app, bl_app, h.b, k.b, hX, itx_app, itx_app, List.append_assoc], fun tail ht => ?_, ?_⟩
  · have kg := k.gi tail ht
    cases sp
    · have hf := List.all_eq_true.1 sy_first o (List.mem_range.2 (by omega))
      rw [Bool.or_eq_true, decide_eq_true_iff] at hf
      have hf := hf.resolve_left (by omega)
      have hw : WT (itx (opI false o ++ J) ++ tail) := by
        have e : itx (opI false o ++ J) ++ tail = bl (sy o) ++ (itx J ++ tail) := by
          show (bl (sy o) ++ itx J) ++ tail = _
          rw [List.append_assoc]
        rw [e]
        cases hb : bl (sy o) with
        | nil => rw [hb] at hf; cases hf
        | cons d q =>
          rw [hb] at hf
          simp only [Bool.not_eq_true'] at hf
          exact .inr ⟨d, q ++ (itx J ++ tail), rfl, hf⟩
      exact GI_app _ _ _ (h.gi _ hw) ⟨sy_good o h4 h16, sy_fol h4 h16 k.hd.app, kg⟩
    · have hw : WT (itx (opI true o ++ J) ++ tail) := .inr ⟨32, _, rfl, by decide⟩
      exact GI_app _ _ _ (h.gi _ hw) ⟨sy_good o h4 h16, sy_sp h4 h16 _, kg⟩
  · rw [itx_app]; exact h.hd.app
theorem fm_bin (I J : List It) (sp : Bool) (o : Nat) : fmI (I ++ (opI sp o ++ J)) = fmI I ++ (3, sy o) :: fmI J := by
  have h := fm_op sp o
  unfold fmI at h ⊢
  rw [List.filterMap_append, List.filterMap_append, h]; rfl
theorem fm_par (I : List It) : fmI (some (3, syOpen) :: (I ++ [some (3, syClose)])) = (3, syOpen) :: (fmI I ++ [(3, syClose)]) := by
  unfold fmI
  rw [List.filterMap_cons, List.filterMap_append]; rfl
def LitS (s : ByteArray) (t : Tr) : Prop := ∃ I, Tx s I ∧ Pz .atm NoF (fmI I) t ∧ Hd 4 (fmI I) ∧ Hd 5 (fmI I) ∧ t.Ok
def NumS (s : ByteArray) (t : Tr) : Prop := ∃ I, Tx s I ∧ Pz (.grp 2) CG (fmI I) t ∧ Hd 5 (fmI I) ∧ t.Ok
def OprS (s : ByteArray) (t : Tr) : Prop := ∃ I, Tx s I ∧ Pz .not CN (fmI I) t ∧ t.Ok ∧ t.ty = 2
def SenS (s : ByteArray) (t : Tr) : Prop := ∃ I, Tx s I ∧ Pz .imp Stop (fmI I) t ∧ t.Ok ∧ t.ty = 2
def ParS (s : ByteArray) (t : Tr) : Prop := LitS s t ∧ t.ty = 2
theorem LitS.num {s : ByteArray} {t : Tr} (h : LitS s t) : NumS s t := by
  obtain ⟨I, h1, h2, h3, h4, h5⟩ := h
  exact ⟨I, h1, pz_G h2 h3, h4, h5⟩
theorem NumS.par {s : ByteArray} {t : Tr} (h : NumS s t) : LitS (⟨#[40]⟩ ++ s ++ ⟨#[41]⟩) t := by
  obtain ⟨I, h1, h2, h3, h4⟩ := h
  refine ⟨_, tx_par h1, ?_, ?_, ?_, h4⟩ <;> rw [fm_par]
  · exact pz_par (pz_I (pz_N h2 h3))
  · exact hd_open 4 (by decide) _
  · exact hd_open 5 (by decide) _
theorem SenS.par {s : ByteArray} {t : Tr} (h : SenS s t) : ParS (⟨#[40]⟩ ++ s ++ ⟨#[41]⟩) t := by
  obtain ⟨I, h1, h2, h3, h4⟩ := h
  refine ⟨⟨_, tx_par h1, ?_, ?_, ?_, h3⟩, h4⟩ <;> rw [fm_par]
  · exact pz_par h2
  · exact hd_open 4 (by decide) _
  · exact hd_open 5 (by decide) _
theorem ParS.opr {s : ByteArray} {t : Tr} (h : ParS s t) : OprS s t := by
  obtain ⟨⟨I, h1, h2, h3, h4, h5⟩, h6⟩ := h
  exact ⟨I, h1, pz_N (pz_G h2 h3) h4, h5, h6⟩
theorem OprS.sen {s : ByteArray} {t : Tr} (h : OprS s t) : SenS s t := by
  obtain ⟨I, h1, h2, h3, h4⟩ := h
  exact ⟨I, h1, pz_I h2, h3, h4⟩
theorem OprS.not {s : ByteArray} {t : Tr} (h : OprS s t) : OprS (⟨#[33]⟩ ++ s) (.un 5 t) := by
  obtain ⟨I, h1, h2, h3, h4⟩ := h
  exact ⟨_, tx_un h1 (.inr rfl) _ rfl, pz_nt h2, ⟨.inr rfl, h3⟩, rfl⟩
theorem LitS.neg {s : ByteArray} {t : Tr} (h : LitS s t) : NumS (⟨#[45]⟩ ++ s) (.un 4 t) := by
  obtain ⟨I, h1, h2, h3, h4, h5⟩ := h
  refine ⟨_, tx_un h1 (.inl rfl) _ rfl, pz_neg h2 h3, fun l p T hk => ?_, ⟨.inl rfl, h5⟩⟩
  have hk' : Kn l p ((3, sy 4) :: (fmI I ++ T)) := hk
  rw [kn_see hk']; decide
theorem LitS.sum {s r : ByteArray} {t u : Tr} (h : LitS s t) (k : LitS r u) {o : Nat} (ho : o = 6 ∨ o = 7) (X : ByteArray) (hX : bl X = itx (opI true o)) : NumS (s ++ X ++ r) (.bin o t u) := by
  obtain ⟨I, h1, h2, h3, h4, h5⟩ := h
  obtain ⟨J, k1, k2, k3, k4, k5⟩ := k
  refine ⟨_, tx_bin h1 k1 (by omega) (by omega) true X hX, ?_, ?_, ⟨by omega, by omega, h5, k5⟩⟩
  · rw [fm_bin]; exact pz_sum ho h2 h3 k2 k3
  · intro l p T hk
    rw [fm_bin] at hk
    exact h4 l p _ (kn_bin hk)
theorem NumS.cmp {s r : ByteArray} {t u : Tr} (h : NumS s t) (k : NumS r u) {o : Nat} (h8 : 8 ≤ o) (h13 : o ≤ 13) (sp : Bool) (X : ByteArray) (hX : bl X = itx (opI sp o)) : SenS (s ++ X ++ r) (.bin o t u) := by
  obtain ⟨I, h1, h2, h3, h4⟩ := h
  obtain ⟨J, k1, k2, k3, k4⟩ := k
  refine ⟨_, tx_bin h1 k1 (by omega) (by omega) sp X hX, ?_, ⟨by omega, by omega, h4, k4⟩, ?_⟩
  · rw [fm_bin]; exact pz_cmp h8 h13 h2 h3 k2
  · have : o = 8 ∨ o = 9 ∨ o = 10 ∨ o = 11 ∨ o = 12 ∨ o = 13 := by omega
    rcases this with rfl | rfl | rfl | rfl | rfl | rfl <;> rfl
theorem OprS.log {s r : ByteArray} {t u : Tr} (h : OprS s t) (k : OprS r u) {o : Nat} (ho : o = 14 ∨ o = 15 ∨ o = 16) (sp : Bool) (X : ByteArray) (hX : bl X = itx (opI sp o)) : SenS (s ++ X ++ r) (.bin o t u) := by
  obtain ⟨I, h1, h2, h3, h4⟩ := h
  obtain ⟨J, k1, k2, k3, k4⟩ := k
  refine ⟨_, tx_bin h1 k1 (by omega) (by omega) sp X hX, ?_, ⟨by omega, by omega, h3, k3⟩, ?_⟩
  · rw [fm_bin]; exact pz_log ho h2 k2
  · rcases ho with rfl | rfl | rfl <;> rfl
theorem ParS.eql {s r : ByteArray} {t u : Tr} (h : ParS s t) (k : ParS r u) {o : Nat} (ho : o = 8 ∨ o = 9) (sp : Bool) (X : ByteArray) (hX : bl X = itx (opI sp o)) : SenS (s ++ X ++ r) (.bin o t u) := h.1.num.cmp k.1.num (by omega) (by omega) sp X hX
theorem SenS.of {s r : ByteArray} {t : Tr} (h : SenS s t) (e : bl r = bl s) : SenS r t := by
  obtain ⟨I, h1, h2⟩ := h
  exact ⟨I, h1.of e, h2⟩
theorem NumS.of {s r : ByteArray} {t : Tr} (h : NumS s t) (e : bl r = bl s) : NumS r t := by
  obtain ⟨I, h1, h2⟩ := h
  exact ⟨I, h1.of e, h2⟩
end
/- EvalLogic, pure: the drawn sentences are texts of trees; what they hold; the laws. -/
section
open Go.RowKit

theorem word_WT (k : Nat) (t : ByteArray) (hk : k ≠ 3) {tail : List UInt8} (h : WT tail) : FolT (k, t) tail := by
  rcases h with h | ⟨d, q, h, hd⟩
  · exact .inl h
  · exact .inr ⟨d, q, h, by unfold folB; rw [if_neg hk, hd]; rfl⟩
theorem lit_var (nm : ByteArray) (hk : kindN nm = 2) (hw : ∀ i, i < nm.size → isWd (bt nm i) = true) (n1 : nm ≠ syTrue) (n2 : nm ≠ syFalse) (hd : H1 (bl nm)) : ∃ t, LitS nm t :=
  ⟨.leaf ⟨3, 0, 0, nm, ⟨#[]⟩, 0⟩, [some (2, nm)], ⟨(List.append_nil _).symm, fun tail ht => ⟨name_good hk hw, word_WT 2 _ (by decide) ht, trivial⟩, by rw [itx_one]; exact hd.app⟩, pz_var nm n1 n2, hd_word 4 2 nm (by decide) [], hd_word 5 2 nm (by decide) [], ⟨rfl, rfl, .inr (.inr ⟨rfl, rfl, hk, n1, n2, .inl rfl, hw, fun i hi => absurd hi (Nat.not_lt_zero i)⟩)⟩⟩
theorem lit_att (s nm at_ : ByteArray) (hs : bl s = bl nm ++ (bl syOf ++ (bl at_ ++ []))) (hk : kindN nm = 2) (hw : ∀ i, i < nm.size → isWd (bt nm i) = true) (n1 : nm ≠ syTrue) (n2 : nm ≠ syFalse) (hk2 : kindN at_ = 2) (hw2 : ∀ i, i < at_.size → isWd (bt at_ i) = true) (hd : H1 (bl nm)) : ∃ t, LitS s t :=
  ⟨.leaf ⟨3, 0, 0, nm, at_, 0⟩, [some (2, nm), some (3, syOf), some (2, at_)], ⟨hs, fun tail ht => ⟨name_good hk hw, .inr ⟨58, 58 :: (itx [some (2, at_)] ++ tail), rfl, rfl⟩, of_good, any_tail of_any58 _, name_good hk2 hw2, word_WT 2 _ (by decide) ht, trivial⟩, by rw [itx_one]; exact hd.app⟩, pz_att nm at_ n1 n2, hd_word 4 2 nm (by decide) _, hd_word 5 2 nm (by decide) _, ⟨rfl, rfl, .inr (.inr ⟨rfl, rfl, hk, n1, n2, .inr hk2, hw, hw2⟩)⟩⟩
theorem lit_num (x : ByteArray) (v : Nat) (hv : v < 340282366920938463463374607431768211456) (hx : litV x = some v) (hk : kindN x = 1) (hw : ∀ i, i < x.size → isWd (bt x i) = true) (hp : 1 ≤ x.size) (hd : H1 (bl x)) : ∃ t, LitS x t :=
  ⟨.leaf ⟨1, 0, 0, ⟨#[]⟩, ⟨#[]⟩, v⟩, [some (1, x)], ⟨(List.append_nil _).symm, fun tail ht => ⟨⟨hp, .inl ⟨hk.symm, (show 1 ≠ 0 by decide), hw⟩⟩, word_WT 1 _ (by decide) ht, trivial⟩, by rw [itx_one]; exact hd.app⟩, pz_num x v hx, hd_word 4 1 x (by decide) [], hd_word 5 1 x (by decide) [], ⟨rfl, rfl, .inl ⟨rfl, rfl, rfl, hv⟩⟩⟩
set_option maxRecDepth 100000 in
theorem lit_S : ∀ i, i < 12 → ∃ t, LitS (nuK i) t := by
  intro i hi
  have : i = 0 ∨ i = 1 ∨ i = 2 ∨ i = 3 ∨ i = 4 ∨ i = 5 ∨ i = 6 ∨ i = 7 ∨ i = 8 ∨ i = 9 ∨ i = 10 ∨ i = 11 := by omega
  rcases this with rfl | rfl | rfl | rfl | rfl | rfl | rfl | rfl | rfl | rfl | rfl | rfl
  · exact lit_var ⟨#[97]⟩ (by decide) (by decide) (by decide) (by decide) ⟨97, _, rfl, by decide, by decide⟩
  · exact lit_var ⟨#[98]⟩ (by decide) (by decide) (by decide) (by decide) ⟨98, _, rfl, by decide, by decide⟩
  · exact lit_att _ ⟨#[100]⟩ sPrefix rfl (by decide) (by decide) (by decide) (by decide) (by decide) (by decide) ⟨100, _, rfl, by decide, by decide⟩
  · exact lit_att _ ⟨#[101]⟩ sMask rfl (by decide) (by decide) (by decide) (by decide) (by decide) (by decide) ⟨101, _, rfl, by decide, by decide⟩
  · exact lit_att _ ⟨#[102]⟩ sHigh rfl (by decide) (by decide) (by decide) (by decide) (by decide) (by decide) ⟨102, _, rfl, by decide, by decide⟩
  · exact lit_var sPrio (by decide) (by decide) (by decide) (by decide) ⟨112, _, rfl, by decide, by decide⟩
  · exact lit_num ⟨#[48]⟩ 0 (by decide) (by kernel_rfl) (by kernel_rfl) (by decide) (by decide) ⟨48, _, rfl, by decide, by decide⟩
  · exact lit_num ⟨#[49]⟩ 1 (by decide) (by kernel_rfl) (by kernel_rfl) (by decide) (by decide) ⟨49, _, rfl, by decide, by decide⟩
  · exact lit_num ⟨#[49, 53]⟩ 15 (by decide) (by kernel_rfl) (by kernel_rfl) (by decide) (by decide) ⟨49, _, rfl, by decide, by decide⟩
  · exact lit_num ⟨#[48, 120, 102, 102]⟩ 255 (by decide) (by kernel_rfl) (by kernel_rfl) (by decide) (by decide) ⟨48, _, rfl, by decide, by decide⟩
  · exact lit_num ⟨#[51, 52, 48, 50, 56, 50, 51, 54, 54, 57, 50, 48, 57, 51, 56, 52, 54, 51, 52, 54, 51, 51, 55, 52, 54, 48, 55, 52, 51, 49, 55, 54, 56, 50, 49, 49, 52, 53, 53]⟩ 340282366920938463463374607431768211455 (by decide) (by kernel_rfl) (by kernel_rfl) (by decide) (by decide) ⟨51, _, rfl, by decide, by decide⟩
  · exact lit_var ⟨#[120]⟩ (by decide) (by decide) (by decide) (by decide) ⟨120, _, rfl, by decide, by decide⟩
def GNx : Nat → ByteArray → Prop
  | 0, s => ∃ t, LitS s t
  | 1, s => ∃ t, NumS s t
  | _, _ => True
def GSx (_ : Nat) (s : ByteArray) : Prop := ∃ t, SenS s t
theorem tf_S (b : Bool) : SenS (if b then syTrue else syFalse) (.leaf ⟨2, 0, 0, ⟨#[]⟩, ⟨#[]⟩, if b then 1 else 0⟩) := by
  refine ⟨[some (2, if b then syTrue else syFalse)], ⟨(List.append_nil _).symm, fun tail ht => ⟨?_, word_WT 2 _ (by decide) ht, trivial⟩, ?_⟩, pz_I (pz_N (pz_G (pz_tf b) (hd_word 4 2 _ (by decide) [])) (hd_word 5 2 _ (by decide) [])), ⟨rfl, rfl, .inr (.inl ⟨rfl, rfl, rfl, ?_⟩)⟩, rfl⟩
  · cases b <;> exact name_good (by decide) (by decide)
  · cases b
    · exact ⟨102, _, rfl, by decide, by decide⟩
    · exact ⟨116, _, rfl, by decide, by decide⟩
  · cases b <;> decide
theorem gram_ok : GramOk GNx GSx := by
  refine ⟨?_, ?_, ?_, ?_, ?_, ?_, ?_, ?_, ?_, ?_, ?_, ?_, ?_⟩
  · rintro (_ | _ | d) i hi
    · exact lit_S i hi
    · obtain ⟨t, h⟩ := lit_S i hi
      exact ⟨t, h.num⟩
    · trivial
  · rintro (_ | d) s h
    · obtain ⟨t, h⟩ := h
      exact ⟨_, h.neg⟩
    · trivial
  · rintro (_ | d) s h
    · obtain ⟨t, h⟩ := h
      exact ⟨_, h.num.par.num⟩
    · trivial
  · rintro (_ | d) s r h k
    · obtain ⟨t, h⟩ := h
      obtain ⟨u, k⟩ := k
      exact ⟨_, h.sum k (.inl rfl) _ rfl⟩
    · trivial
  · rintro (_ | d) s r h k
    · obtain ⟨t, h⟩ := h
      obtain ⟨u, k⟩ := k
      exact ⟨_, (h.sum k.num.par (.inr rfl) ⟨#[32, 45, 32]⟩ rfl).of (by simp only [bl_app, List.append_assoc])⟩
    · trivial
  · intro d i hi
    have : i = 0 ∨ i = 1 := by omega
    rcases this with rfl | rfl
    · exact ⟨_, tf_S true⟩
    · exact ⟨_, tf_S false⟩
  · intro d i s r hi h k
    obtain ⟨t, h⟩ := h
    obtain ⟨u, k⟩ := k
    have : i = 0 ∨ i = 1 ∨ i = 2 ∨ i = 3 ∨ i = 4 ∨ i = 5 := by omega
    rcases this with rfl | rfl | rfl | rfl | rfl | rfl
    · exact ⟨_, h.cmp k (o := 8) (by decide) (by decide) true _ rfl⟩
    · exact ⟨_, h.cmp k (o := 9) (by decide) (by decide) true _ rfl⟩
    · exact ⟨_, h.cmp k (o := 10) (by decide) (by decide) true _ rfl⟩
    · exact ⟨_, h.cmp k (o := 11) (by decide) (by decide) false _ rfl⟩
    · exact ⟨_, h.cmp k (o := 12) (by decide) (by decide) true _ rfl⟩
    · exact ⟨_, h.cmp k (o := 13) (by decide) (by decide) false _ rfl⟩
  · rintro d s ⟨t, h⟩
    exact ⟨_, h.par.opr.not.sen.of (by simp only [bl_app, List.append_assoc]; rfl)⟩
  · rintro d s r ⟨t, h⟩ ⟨u, k⟩
    exact ⟨_, (h.par.opr.log k.par.opr (o := 14) (by decide) true ⟨#[32, 38, 38, 32]⟩ rfl).of (by simp only [bl_app, List.append_assoc]; rfl)⟩
  · rintro d s r ⟨t, h⟩ ⟨u, k⟩
    exact ⟨_, (h.par.opr.log k.par.opr (o := 15) (by decide) true ⟨#[32, 124, 124, 32]⟩ rfl).of (by simp only [bl_app, List.append_assoc]; rfl)⟩
  · rintro d s r ⟨t, h⟩ ⟨u, k⟩
    exact ⟨_, (h.par.opr.log k.par.opr (o := 16) (by decide) true ⟨#[32, 45, 62, 32]⟩ rfl).of (by simp only [bl_app, List.append_assoc]; rfl)⟩
  · rintro d s r ⟨t, h⟩ ⟨u, k⟩
    exact ⟨_, (h.par.eql k.par (o := 8) (by decide) true ⟨#[32, 61, 61, 32]⟩ rfl).of (by simp only [bl_app, List.append_assoc]; rfl)⟩
  · rintro d s ⟨t, h⟩
    exact ⟨_, h.par.opr.sen⟩
/-- a sentence that Compile accepts has its tree's nodes, their types right -/
theorem sen_cmpl {s : ByteArray} {t : Tr} (h : SenS s t) (vs : List (ByteArray × ByteArray)) (hz : (cmpl s vs).2 = 0) : (cmpl s vs).1 = t.flat 0 ∧ t.Wt := by
  obtain ⟨I, hT, hP, hO, hy⟩ := h
  have hpos : ¬ s.size = 0 := by
    obtain ⟨d, q, e, _⟩ := hT.hd
    rw [← hT.b] at e
    have := bl_len s
    rw [e] at this
    simp at this
    omega
  have hck := cmpl_chk s vs hz
  have key : (cmpl s vs).1 = t.flat 0 := by
    unfold cmpl at hz ⊢
    rw [if_neg hpos] at hz ⊢
    by_cases h1 : (scan s).2.2 ≠ 0
    · rw [if_pos h1] at hz; exact absurd hz h1
    · rw [if_neg h1] at hz ⊢
      have hle : s.size ≤ 400 := by
        rcases Nat.lt_or_ge 400 s.size with h4 | h4
        · exfalso
          apply h1
          unfold scan
          rw [if_pos h4]
          decide
        · exact h4
      have es : s = itT I := ba_ext (hT.b.trans (bl_itT I).symm)
      obtain ⟨l, e1, e2⟩ := it_scan I (hT.gi [] (.inl rfl)) (by rw [← es]; exact hle)
      rw [← es] at e1
      rw [e1] at hz ⊢
      simp only at hz ⊢
      by_cases h2 : (parse l).2.2 ≠ 0
      · rw [if_pos h2] at hz; exact absurd hz h2
      · rw [if_neg h2] at hz ⊢
        have hpl : (parse l).1 = t.flat 0 := by
          obtain ⟨N, hN⟩ := hP l p0 [] ⟨rfl, by show (l.drop 0).map kt = fmI I ++ []; rw [List.drop_zero, List.append_nil, e2]; rfl⟩ (.inl rfl)
          have q1 := pRun_some l
          have q2 := pR_mono l _ _ _ _ N q1
          have q3 := pR_mono l _ _ _ _ (fuel l) hN
          rw [Nat.add_comm N] at q3
          rw [q3] at q2
          injection q2 with q2
          have hout : (pRun l).2.out = t.flat 0 := by rw [← q2]; rfl
          unfold parse at h2 ⊢
          split
          · rename_i h3; rw [if_pos h3] at h2; exact absurd (show (10 : Nat) ≠ 0 by decide) h2
          · rename_i h3
            rw [if_neg h3] at h2
            split
            · rename_i h4; rw [if_pos h4] at h2; exact absurd (show (11 : Nat) ≠ 0 by decide) h2
            · exact hout
        by_cases h3 : (chk (parse l).1 vs).2 ≠ 0
        · rw [if_pos h3] at hz; exact absurd hz h3
        · rw [if_neg h3]; exact hpl
  refine ⟨key, ?_⟩
  rw [key] at hck
  exact wt_of (chk_zero2 _ vs hck).1 t 0 hO ⟨[], [], by simp, rfl⟩
theorem sen_hl {s : ByteArray} {t : Tr} (h : SenS s t) (g : Nat → Nat) (hz : (cmpl s vars7).2 = 0) : hlS g s = (t.mn (envB (bnds g 7))).bool := by
  unfold hlS
  rw [if_pos hz, (sen_cmpl h vars7 hz).1]
  exact (mns_tree (envB_rg _) t h.choose_spec.2.2.1).1
/-- the law's sentences -/
def lgS (p q : ByteArray) : Nat → ByteArray
  | 0 => p ++ ⟨#[45, 62]⟩ ++ q
  | 1 => ⟨#[33]⟩ ++ p ++ ⟨#[124, 124]⟩ ++ q
  | 2 => ⟨#[33, 40]⟩ ++ p ++ ⟨#[38, 38]⟩ ++ q ++ ⟨#[41]⟩
  | 3 => ⟨#[33]⟩ ++ p ++ ⟨#[124, 124, 33]⟩ ++ q
  | 4 => p ++ ⟨#[61, 61]⟩ ++ q
  | 5 => ⟨#[40]⟩ ++ p ++ ⟨#[45, 62]⟩ ++ q ++ ⟨#[41, 38, 38, 40]⟩ ++ q ++ ⟨#[45, 62]⟩ ++ p ++ ⟨#[41]⟩
  | 6 => p ++ ⟨#[33, 61]⟩ ++ q
  | 7 => ⟨#[33, 40]⟩ ++ p ++ ⟨#[61, 61]⟩ ++ q ++ ⟨#[41]⟩
  | 8 => ⟨#[33, 33]⟩ ++ p
  | 9 => p
  | 10 => p ++ ⟨#[38, 38]⟩ ++ q
  | 11 => q ++ ⟨#[38, 38]⟩ ++ p
  | _ => p ++ ⟨#[124, 124, 33]⟩ ++ p
def lgT (P Q : Tr) : Nat → Tr
  | 0 => .bin 16 P Q
  | 1 => .bin 15 (.un 5 P) Q
  | 2 => .un 5 (.bin 14 P Q)
  | 3 => .bin 15 (.un 5 P) (.un 5 Q)
  | 4 => .bin 8 P Q
  | 5 => .bin 14 (.bin 16 P Q) (.bin 16 Q P)
  | 6 => .bin 9 P Q
  | 7 => .un 5 (.bin 8 P Q)
  | 8 => .un 5 (.un 5 P)
  | 9 => P
  | 10 => .bin 14 P Q
  | 11 => .bin 14 Q P
  | _ => .bin 15 P (.un 5 P)
theorem lg_sen {p q : ByteArray} {P Q : Tr} (hp : ParS p P) (hq : ParS q Q) (j : Nat) (hj : j < 13) : SenS (lgS p q j) (lgT P Q j) := by
  have : j = 0 ∨ j = 1 ∨ j = 2 ∨ j = 3 ∨ j = 4 ∨ j = 5 ∨ j = 6 ∨ j = 7 ∨ j = 8 ∨ j = 9 ∨ j = 10 ∨ j = 11 ∨ j = 12 := by omega
  have hp1 := hp.opr
  have hq1 := hq.opr
  rcases this with rfl | rfl | rfl | rfl | rfl | rfl | rfl | rfl | rfl | rfl | rfl | rfl | rfl
  · exact hp1.log hq1 (o := 16) (by decide) false _ rfl
  · exact hp1.not.log hq1 (o := 15) (by decide) false _ rfl
  · exact (hp1.log hq1 (o := 14) (by decide) false ⟨#[38, 38]⟩ rfl).par.opr.not.sen.of (by simp only [lgS, bl_app, List.append_assoc]; rfl)
  · exact (hp1.not.log hq1.not (o := 15) (by decide) false ⟨#[124, 124]⟩ rfl).of (by simp only [lgS, bl_app, List.append_assoc]; rfl)
  · exact hp.eql hq (o := 8) (by decide) false _ rfl
  · exact ((hp1.log hq1 (o := 16) (by decide) false ⟨#[45, 62]⟩ rfl).par.opr.log (hq1.log hp1 (o := 16) (by decide) false ⟨#[45, 62]⟩ rfl).par.opr (o := 14) (by decide) false ⟨#[38, 38]⟩ rfl).of (by simp only [lgS, bl_app, List.append_assoc]; rfl)
  · exact hp.eql hq (o := 9) (by decide) false _ rfl
  · exact (hp.eql hq (o := 8) (by decide) false ⟨#[61, 61]⟩ rfl).par.opr.not.sen.of (by simp only [lgS, bl_app, List.append_assoc]; rfl)
  · exact hp1.not.not.sen.of (by simp only [lgS, bl_app]; rfl)
  · exact hp1.sen
  · exact hp1.log hq1 (o := 14) (by decide) false _ rfl
  · exact hq1.log hp1 (o := 14) (by decide) false _ rfl
  · exact (hp1.log hp1.not (o := 15) (by decide) false ⟨#[124, 124]⟩ rfl).of (by simp only [lgS, bl_app, List.append_assoc]; rfl)
theorem lg_pair {p q : ByteArray} {P Q : Tr} (hp : ParS p P) (hq : ParS q Q) (g : Nat → Nat) (i : Nat) (hi : i < 6) (h0 : (cmpl (lgS p q (2 * i)) vars7).2 = 0) (h1 : (cmpl (lgS p q (2 * i + 1)) vars7).2 = 0) : hlS g (lgS p q (2 * i)) = hlS g (lgS p q (2 * i + 1)) := by
  have s0 := lg_sen hp hq (2 * i) (by omega)
  have s1 := lg_sen hp hq (2 * i + 1) (by omega)
  rw [sen_hl s0 g h0, sen_hl s1 g h1]
  have w0 := (sen_cmpl s0 vars7 h0).2
  clear s0 s1 h0 h1
  have oP := hp.1.choose_spec.2.2.2.2
  have oQ := hq.1.choose_spec.2.2.2.2
  have tP := hp.2
  have tQ := hq.2
  have mP := fun w => (ty_mn (env := envB (bnds g 7)) P oP w).2 tP
  have mQ := fun w => (ty_mn (env := envB (bnds g 7)) Q oQ w).2 tQ
  have : i = 0 ∨ i = 1 ∨ i = 2 ∨ i = 3 ∨ i = 4 ∨ i = 5 := by omega
  rcases this with rfl | rfl | rfl | rfl | rfl | rfl
  · have a := mP w0.1
    have b := mQ w0.2.1
    show (opMn 16 (P.mn _) (Q.mn _)).bool = (opMn 15 (opMn 5 (P.mn _) (.tru false)) (Q.mn _)).bool
    rw [a, b]
    generalize (P.mn (envB (bnds g 7))).bool = x
    generalize (Q.mn (envB (bnds g 7))).bool = y
    cases x <;> cases y <;> rfl
  · have a := mP w0.1.1
    have b := mQ w0.1.2.1
    show (opMn 5 (opMn 14 (P.mn _) (Q.mn _)) (.tru false)).bool = (opMn 15 (opMn 5 (P.mn _) (.tru false)) (opMn 5 (Q.mn _) (.tru false))).bool
    rw [a, b]
    generalize (P.mn (envB (bnds g 7))).bool = x
    generalize (Q.mn (envB (bnds g 7))).bool = y
    cases x <;> cases y <;> rfl
  · have a := mP w0.1
    have b := mQ w0.2.1
    show (opMn 8 (P.mn _) (Q.mn _)).bool = (opMn 14 (opMn 16 (P.mn _) (Q.mn _)) (opMn 16 (Q.mn _) (P.mn _))).bool
    rw [a, b]
    generalize (P.mn (envB (bnds g 7))).bool = x
    generalize (Q.mn (envB (bnds g 7))).bool = y
    cases x <;> cases y <;> rfl
  · have a := mP w0.1
    have b := mQ w0.2.1
    show (opMn 9 (P.mn _) (Q.mn _)).bool = (opMn 5 (opMn 8 (P.mn _) (Q.mn _)) (.tru false)).bool
    rw [a, b]
    generalize (P.mn (envB (bnds g 7))).bool = x
    generalize (Q.mn (envB (bnds g 7))).bool = y
    cases x <;> cases y <;> rfl
  · have a := mP w0.1.1
    show (opMn 5 (opMn 5 (P.mn _) (.tru false)) (.tru false)).bool = (P.mn _).bool
    rw [a]
    generalize (P.mn (envB (bnds g 7))).bool = x
    cases x <;> rfl
  · have a := mP w0.1
    have b := mQ w0.2.1
    show (opMn 14 (P.mn _) (Q.mn _)).bool = (opMn 14 (Q.mn _) (P.mn _)).bool
    rw [a, b]
    generalize (P.mn (envB (bnds g 7))).bool = x
    generalize (Q.mn (envB (bnds g 7))).bool = y
    cases x <;> cases y <;> rfl
theorem lg_last {p q : ByteArray} {P Q : Tr} (hp : ParS p P) (hq : ParS q Q) (g : Nat → Nat) (h0 : (cmpl (lgS p q 12) vars7).2 = 0) : hlS g (lgS p q 12) = true := by
  have s0 := lg_sen hp hq 12 (by omega)
  rw [sen_hl s0 g h0]
  have w0 := (sen_cmpl s0 vars7 h0).2
  have a := (ty_mn (env := envB (bnds g 7)) P hp.1.choose_spec.2.2.2.2 w0.1).2 hp.2
  show (opMn 15 (P.mn _) (opMn 5 (P.mn _) (.tru false))).bool = true
  rw [a]
  generalize (P.mn (envB (bnds g 7))).bool = x
  cases x <;> rfl
end
/- EvalLogic, its walk. -/
section
open Go.RowKit

theorem sz4 (a b c d : UInt8) : (⟨#[a, b, c, d]⟩ : ByteArray).size = 4 := rfl
theorem lgS_sz {p q : ByteArray} (hp : p.size ≤ 6100) (hq : q.size ≤ 6100) (j : Nat) : (lgS p q j).size ≤ 100000 := by
  unfold lgS
  split <;> first | (simp only [ByteArray.size_append, sz1, sz2, sz3, sz4]; omega) | omega
theorem wp_at1 {P : Program} {Q : Exit → Act → World → Prop} {a : Act} {c : Code} {w0 : World} {o1 : Obj} (T : World → Prop) (h1 : T (w0.alloc o1)) (h2 : ∀ W, T W → c.wp P Q a W) : c.wp P Q a (w0.alloc o1) := h2 _ h1
theorem tws_new1 {w : World} {cs : Array Value} {T : TypeId} {S : Nat → ByteArray} (h : ∀ j, j < 12 → cs[j]? = some (.string (S j))) : TwS (w.alloc (.cells cs T)) w.heap.size S := by
  refine ⟨by simp, fun j hj => ?_⟩
  rw [World.cell?_alloc_new]
  exact h j hj
set_option maxRecDepth 100000 in
set_option maxHeartbeats 16000000 in
theorem elog_any (w : World) (A : Option Addr) (D n0 cap : Nat) (l0 : List Nat) (B : Option Addr) (D1 n1 cap1 : Nat) (l1 : List Nat) (C : Option Addr) (n cc : Nat) (f : Nat → Nat) (hr : ReadsL w D A l0) (hD : l0 ≠ [] → D < w.heap.size) (hl : l0.length = n0) (hn : n0 ≤ cap) (hcap : cap ≤ maxLen) (hs : Small l0) (hr1 : ReadsL w D1 B l1) (hD1 : l1 ≠ [] → D1 < w.heap.size) (hl1 : l1.length = n1) (hn1 : n1 ≤ cap1) (hcap1 : cap1 ≤ maxLen) (hs1 : Small l1) (hc : n ≤ cc) (hf : ∀ i, f i < 2 ^ 128) (hA : ValsB w C n f) (hy : Syms w) (hy2 : SymY w) (hy3 : TypY w) :
    Calls Tryd.prog 4 #[.slice A n0 cap, .slice B n1 cap1, .slice C n cc] w (RetX (.bool true) w) := by
  have KN1 : Hid (∀ W, Below w.heap.size w W → Calls Tryd.prog 12 #[.slice A n0 cap, .int .i64 12] W (RetNw W)) := Lib.hid fun W hW => nw_lim 12 (by decide) hr hD hl hn hcap hs W hW
  have KN2 : Hid (∀ W, Below w.heap.size w W → Calls Tryd.prog 12 #[.slice B n1 cap1, .int .i64 12] W (RetNw W)) := Lib.hid fun W hW => nw_lim 12 (by decide) hr1 hD1 hl1 hn1 hcap1 hs1 W hW
  have KH : Hid (∀ W, Below w.heap.size w W → ∀ s : ByteArray, s.size ≤ 100000 → Calls Tryd.prog 15 #[.string s, .slice C n cc] W (RetX (.tuple #[.bool (hlS (fun i => if i < n then f i else 0) s), .bool (decide ((cmpl s vars7).2 = 0))]) W)) := Lib.hid fun W hW s hs =>
    lb_holds W s (by omega) C n cc f hc hf (hA.below hW) (hy.below hW hy.lt) (hy2.below hW hy2.lt) (hy3.below hW hy3.lt)
  obtain ⟨g, hg⟩ : ∃ g : Nat → Nat, g = fun i => if i < n then f i else 0 := ⟨_, rfl⟩
  rw [← hg] at KH
  have KBg : Hid (∀ W, Below w.heap.size w W → Calls Tryd.prog 16 #[] W (RetX (.bool true) W)) := Lib.hid fun W hW => eb_begun W (hy.below hW hy.lt) (hy2.below hW hy2.lt) (hy3.below hW hy3.lt)
  clear hr hD hl hn hcap hs hr1 hD1 hl1 hn1 hcap1 hs1 hc hf hA hy hy2 hy3 hg
  go_enter Tryd.func4, Tryd.ntmps4
  go_wp2_with fail
  go_at_call 12
  refine (KN1.out w (Below.refl _ _)).mono ?_
  rintro e w1 ⟨Da, la, rfl, hb1, hc1⟩
  have HB1 := Lib.hid hb1
  have HC1 := Lib.hid hc1
  clear hb1 hc1 KN1
  go_wp2_with fail
  go_at_call 14
  refine (cs_sentenceG gram_ok (B := w.heap.size) (K := w.heap.size) (Nat.le_refl _) 2 (by decide) _ w1 HC1.out).mono ?_
  rintro e w2 ⟨s, hps, HPs, rfl, hb2, _, _⟩
  have HB2 := Lib.hid (HB1.out.trans hb2)
  have hz : s.size ≤ 6030 := hps
  have hsz2 := HB2.out.size
  have k1 : ¬ 9223372036854775807 < 1 + s.size := by omega
  have k2 : ¬ 9223372036854775807 < 1 + s.size + 1 := by omega
  clear hb2 hps HC1 HB1
  go_wp2_with fail
  go_at_call 12
  refine (KN2.out w2 HB2.out).mono ?_
  rintro e w3 ⟨Db, lb, rfl, hb3, hc3⟩
  have HB3 := Lib.hid hb3
  have HC3 := Lib.hid hc3
  clear hb3 hc3 KN2
  go_wp2_with fail
  go_at_call 14
  refine (cs_sentenceG gram_ok (B := w2.heap.size) (K := w2.heap.size) (Nat.le_refl _) 2 (by decide) _ w3 HC3.out).mono ?_
  rintro e w4 ⟨r, hpr, HPr, rfl, hb4, _, _⟩
  have HB4 := Lib.hid (HB2.out.trans ((HB3.out.trans hb4).mono hsz2))
  have hzr : r.size ≤ 6030 := hpr
  have hsz4 := HB4.out.size
  have k3 : ¬ 9223372036854775807 < 1 + r.size := by omega
  have k4 : ¬ 9223372036854775807 < 1 + r.size + 1 := by omega
  clear hb4 hpr HC3 HB3 HB2
  go_upto_region 2 with fail
  obtain ⟨p, hp⟩ : ∃ p : ByteArray, p = ⟨#[40]⟩ ++ s ++ ⟨#[41]⟩ := ⟨_, rfl⟩
  obtain ⟨q, hq⟩ : ∃ q : ByteArray, q = ⟨#[40]⟩ ++ r ++ ⟨#[41]⟩ := ⟨_, rfl⟩
  have hpz : p.size ≤ 6100 := by rw [hp]; simp only [ByteArray.size_append, sz1]; omega
  have hqz : q.size ≤ 6100 := by rw [hq]; simp only [ByteArray.size_append, sz1]; omega
  obtain ⟨P, HPP⟩ : ∃ P, Hid (ParS p P) := by
    obtain ⟨t, h⟩ := HPs.out
    exact ⟨t, Lib.hid (by rw [hp]; exact h.par)⟩
  obtain ⟨Q, HQQ⟩ : ∃ Q, Hid (ParS q Q) := by
    obtain ⟨t, h⟩ := HPr.out
    exact ⟨t, Lib.hid (by rw [hq]; exact h.par)⟩
  obtain ⟨V, hV⟩ : ∃ V : Nat → Bool, V = fun j => hlS g (lgS p q j) := ⟨_, rfl⟩
  obtain ⟨O, hO⟩ : ∃ O : Nat → Bool, O = fun j => decide ((cmpl (lgS p q j) vars7).2 = 0) := ⟨_, rfl⟩
  have KJ : Hid (∀ W, Below w.heap.size w W → ∀ j, Calls Tryd.prog 15 #[.string (lgS p q j), .slice C n cc] W (RetX (.tuple #[.bool (V j), .bool (O j)]) W)) := Lib.hid fun W hW j => by
    rw [hV, hO]
    exact KH.out W hW _ (lgS_sz hpz hqz j)
  have HPR : Hid (∀ i, i < 6 → O (2 * i) = true → O (2 * i + 1) = true → V (2 * i) = V (2 * i + 1)) := Lib.hid fun i hi h0 h1 => by
    rw [hO] at h0 h1
    rw [hV]
    exact lg_pair HPP.out HQQ.out g i hi (of_decide_eq_true h0) (of_decide_eq_true h1)
  have HLS : Hid (O 12 = true → V 12 = true) := Lib.hid fun h0 => by
    rw [hO] at h0
    rw [hV]
    exact lg_last HPP.out HQQ.out g (of_decide_eq_true h0)
  clear hV hO HPP HQQ HPs HPr KH
  rw [← hp, ← hq]
  have HPE := Lib.hid hp
  have HQE := Lib.hid hq
  clear hp hq k1 k2 k3 k4 hz hzr
  clear HPE HQE
  have k0 : ¬ 9223372036854775807 < p.size + 2 := by omega
  have k1 : ¬ 9223372036854775807 < p.size + 2 + q.size := by omega
  have k2 : ¬ 9223372036854775807 < 1 + p.size := by omega
  have k3 : ¬ 9223372036854775807 < 1 + p.size + 2 := by omega
  have k4 : ¬ 9223372036854775807 < 1 + p.size + 2 + q.size := by omega
  have k5 : ¬ 9223372036854775807 < 2 + p.size := by omega
  have k6 : ¬ 9223372036854775807 < 2 + p.size + 2 := by omega
  have k7 : ¬ 9223372036854775807 < 2 + p.size + 2 + q.size := by omega
  have k8 : ¬ 9223372036854775807 < 2 + p.size + 2 + q.size + 1 := by omega
  have k9 : ¬ 9223372036854775807 < 1 + p.size + 3 := by omega
  have k10 : ¬ 9223372036854775807 < 1 + p.size + 3 + q.size := by omega
  have k11 : ¬ 9223372036854775807 < 1 + p.size + 2 + q.size + 4 := by omega
  have k12 : ¬ 9223372036854775807 < 1 + p.size + 2 + q.size + 4 + q.size := by omega
  have k13 : ¬ 9223372036854775807 < 1 + p.size + 2 + q.size + 4 + q.size + 2 := by omega
  have k14 : ¬ 9223372036854775807 < 1 + p.size + 2 + q.size + 4 + q.size + 2 + p.size := by omega
  have k15 : ¬ 9223372036854775807 < 1 + p.size + 2 + q.size + 4 + q.size + 2 + p.size + 1 := by omega
  have k16 : ¬ 9223372036854775807 < q.size + 2 := by omega
  have k17 : ¬ 9223372036854775807 < q.size + 2 + p.size := by omega
  go_upto_region 3 with fail
  clear k0 k1 k2 k3 k4 k5 k6 k7 k8 k9 k10 k11 k12 k13 k14 k15 k16 k17
  refine wp_at1 (fun W => TwS W w4.heap.size (lgS p q) ∧ Below w.heap.size w W) ⟨tws_new1 (fun j hj => ?_), HB4.out.alloc hsz4 _⟩ ?_
  · have hjc : j = 0 ∨ j = 1 ∨ j = 2 ∨ j = 3 ∨ j = 4 ∨ j = 5 ∨ j = 6 ∨ j = 7 ∨ j = 8 ∨ j = 9 ∨ j = 10 ∨ j = 11 := by omega
    rcases hjc with rfl | rfl | rfl | rfl | rfl | rfl | rfl | rfl | rfl | rfl | rfl | rfl <;> rfl
  · rintro W ⟨hT, hB⟩
    have HT := Lib.hid hT
    have HB := Lib.hid hB
    have hg1 : ¬ 9223372036854775807 < p.size + 3 := by omega
    have hg2 : ¬ 9223372036854775807 < p.size + 3 + p.size := by omega
    clear hT hB HB4 hsz4 hpz hqz hsz2
    generalize w4.heap.size = b3 at HT ⊢
    have KE : Hid (∀ W, Below w.heap.size w W → Calls Tryd.prog 15 #[.string (p ++ ⟨#[124, 124, 33]⟩ ++ p), .slice C n cc] W (RetX (.tuple #[.bool (V 12), .bool (O 12)]) W)) := Lib.hid fun W hW => KJ.out W hW 12
    obtain ⟨Sx, hSx⟩ : ∃ Sx, Sx = lgS p q := ⟨_, rfl⟩
    rw [← hSx] at KJ HT
    clear hSx
    go_loopw [92] (fun i w' => ∃ x : Nat, x ≤ 6 ∧ i = .int .i64 x ∧ Below w.heap.size w w' ∧ TwS w' b3 Sx) (fun i _ => 6 - (intOf i).toNat)
    case atStart => exact ⟨0, by omega, rfl, HB.out, HT.out⟩
    case round =>
      clear HB HT
      obtain ⟨x, hx, rfl, hB, hT⟩ := hrel
      have HB := Lib.hid hB
      have HT := Lib.hid hT
      have hsz := hB.size
      by_cases hlt : x < 6
      · have hqI : (x : Int) < 6 := by omega
        have hq0 : 0 ≤ (x : Int) := by omega
        have t0 := hT.at_ (x * 2) (by omega)
        have t1 := hT.at_ (x * 2 + 1) (by omega)
        have hpair := HPR.out x hlt
        rw [show 2 * x = x * 2 by omega] at hpair
        have K0 : Hid (∀ W, Below w.heap.size w W → Calls Tryd.prog 15 #[.string (Sx (x * 2)), .slice C n cc] W (RetX (.tuple #[.bool (V (x * 2)), .bool (O (x * 2))]) W)) := Lib.hid fun W hW => KJ.out W hW (x * 2)
        have K1 : Hid (∀ W, Below w.heap.size w W → Calls Tryd.prog 15 #[.string (Sx (x * 2 + 1)), .slice C n cc] W (RetX (.tuple #[.bool (V (x * 2 + 1)), .bool (O (x * 2 + 1))]) W)) := Lib.hid fun W hW => KJ.out W hW (x * 2 + 1)
        generalize Sx (x * 2) = s0 at t0 K0
        generalize Sx (x * 2 + 1) = s1 at t1 K1
        generalize V (x * 2) = v0 at K0 hpair
        generalize V (x * 2 + 1) = v1 at K1 hpair
        generalize O (x * 2) = o0 at K0 hpair
        generalize O (x * 2 + 1) = o1 at K1 hpair
        have HPP := Lib.hid hpair
        clear hB hT hpair
        have HBn : Hid (Below w.heap.size w (wr.alloc (.cells #[.string s0, .string s1] 55))) := Lib.hid (HB.out.alloc hsz _)
        have HTn : Hid (TwS (wr.alloc (.cells #[.string s0, .string s1] 55)) b3 Sx) := Lib.hid (HT.out.call ((Below.refl _ _).alloc (Nat.le_refl _) _))
        have d0 : (wr.alloc (.cells #[.string s0, .string s1] 55)).cell? ⟨wr.heap.size, 0, none⟩ = some (.string s0) := by rw [World.cell?_alloc_new]; rfl
        have d1 : (wr.alloc (.cells #[.string s0, .string s1] 55)).cell? ⟨wr.heap.size, 1, none⟩ = some (.string s1) := by rw [World.cell?_alloc_new]; rfl
        have hxl : wr.heap.size < (wr.alloc (.cells #[.string s0, .string s1] 55)).heap.size := by simp
        go_upto_region 5 with fail
        generalize wr.alloc (.cells #[.string s0, .string s1] 55) = Wn at HBn HTn d0 d1 hxl ⊢
        generalize wr.heap.size = bx at d0 d1 hxl ⊢
        clear t0 t1 HB HT
        go_wp2_with fail
        go_at_call 15
        refine (K0.out Wn HBn.out).mono ?_
        rintro e w2 ⟨rfl, hb2⟩
        have d2 : w2.cell? ⟨bx, 1, none⟩ = some (.string s1) := (hb2.cell (p := ⟨bx, 1, none⟩) hxl).trans d1
        have HB2 := Lib.hid (HBn.out.trans (hb2.mono HBn.out.size))
        have HT2 := Lib.hid (HTn.out.call hb2)
        clear hb2 d0 d1 hxl
        go_wp2_with fail
        go_at_call 15
        refine (K1.out w2 HB2.out).mono ?_
        rintro e w3 ⟨rfl, hb3⟩
        have HB3 := Lib.hid (HB2.out.trans (hb3.mono HB2.out.size))
        have HT3 := Lib.hid (HT2.out.call hb3)
        clear hb3 d2 K0 K1
        have hcase : (o0 = false) ∨ (o0 = true ∧ o1 = false) ∨ (o0 = true ∧ o1 = true ∧ v0 = v1) := by
          have := HPP.out
          cases o0
          · exact .inl rfl
          · cases o1
            · exact .inr (.inl ⟨rfl, rfl⟩)
            · exact .inr (.inr ⟨rfl, rfl, this rfl rfl⟩)
        clear HPP
        rcases hcase with rfl | ⟨rfl, rfl⟩ | ⟨rfl, rfl, rfl⟩
        · go_wp2_with fail
          go_roundw
          case rel => (go_light; exact ⟨x + 1, by omega, by simp, HB3.out, HT3.out⟩)
          case measure => simp [intOf]; omega
        · go_wp2_with fail
          go_roundw
          case rel => (go_light; exact ⟨x + 1, by omega, by simp, HB3.out, HT3.out⟩)
          case measure => simp [intOf]; omega
        · cases v0
          all_goals
            go_wp2_with fail
            go_roundw
            case rel => (go_light; exact ⟨x + 1, by omega, by simp, HB3.out, HT3.out⟩)
            case measure => simp [intOf]; omega
      · obtain rfl : x = 6 := by omega
        have hqI : ¬ ((6 : Nat) : Int) < 6 := by omega
        have hls := HLS.out
        generalize V 12 = v at KE hls
        generalize O 12 = o at KE hls
        have HLL := Lib.hid hls
        clear hls HLS
        go_wp2_with fail
        go_at_call 15
        refine (KE.out wr HB.out).mono ?_
        rintro e w5 ⟨rfl, hb5⟩
        have HB5 := Lib.hid (HB.out.trans (hb5.mono HB.out.size))
        clear hb5 KE
        have hcase : (o = false) ∨ (o = true ∧ v = true) := by
          have := HLL.out
          cases o
          · exact .inl rfl
          · exact .inr ⟨rfl, this rfl⟩
        clear HLL
        rcases hcase with rfl | ⟨rfl, rfl⟩
        · cases v
          all_goals
            go_wp2_with fail
            go_at_call 16
            refine (KBg.out w5 HB5.out).mono ?_
            rintro e w6 ⟨rfl, hb6⟩
            have HB6 := Lib.hid (HB5.out.trans (hb6.mono HB5.out.size))
            clear hb6
            go_wp2_with fail
            go_ret
            exact ⟨rfl, HB6.out⟩
        · go_wp2_with fail
          go_at_call 16
          refine (KBg.out w5 HB5.out).mono ?_
          rintro e w6 ⟨rfl, hb6⟩
          have HB6 := Lib.hid (HB5.out.trans (hb6.mono HB5.out.size))
          clear hb6
          go_wp2_with fail
          go_ret
          exact ⟨rfl, HB6.out⟩
end
end Go.Proofs.YtodmkmoglchoeaaDoor
