/- Element functions of the codec that writes. -/
import Derived.Test.YtljmiickhkkceaaSElem1
import Derived.Test.YtljmiickhkkceaaSList2
import Derived.Test.YtljmiickhkkceaaSList3
import Derived.Test.YtljmiickhkkceaaSList4
namespace Go.Proofs.Ytljmiickhkkceaa
open Go.RowKit

section
variable {C K Y X B : Nat} {w : World} {s : WS} {b o : Nat}
theorem adds_state : Adds (eState wayP) 226 := fun x s => by
  have a0 := adds_num 2 x.id (s)
  have a1 := adds_num 2 x.header (wNum 2 x.id (s))
  have a2 := adds_num 2 x.select (wNum 2 x.header (wNum 2 x.id (s)))
  have a3 := adds_list adds_case 6 x.cases (wNum 2 x.select (wNum 2 x.header (wNum 2 x.id (s))))
  have a4 := adds_num 2 x.dflt (pList 6 eCase x.cases (wNum 2 x.select (wNum 2 x.header (wNum 2 x.id (s)))))
  show (wNum 2 x.dflt (pList 6 eCase x.cases (wNum 2 x.select (wNum 2 x.header (wNum 2 x.id (s)))))).l.length ≤ _
  omega
set_option maxRecDepth 100000 in
set_option maxHeartbeats 1000000 in
theorem estate_any (x : StateD) (h : Set3 StateV C K Y X B w s b o x) (hl : s.l.length + 226 ≤ 2000000) :
    Calls Try.prog 51 #[.pointer (some ⟨K, 0, none⟩), .pointer (some ⟨b, o, none⟩)] w (Wrote X B (eState wayP x s) w) := by
  have a0 := adds_num 2 x.id (s)
  have a1 := adds_num 2 x.header (wNum 2 x.id (s))
  have a2 := adds_num 2 x.select (wNum 2 x.header (wNum 2 x.id (s)))
  have a3 := adds_list adds_case 6 x.cases (wNum 2 x.select (wNum 2 x.header (wNum 2 x.id (s))))
  have a4 := adds_num 2 x.dflt (pList 6 eCase x.cases (wNum 2 x.select (wNum 2 x.header (wNum 2 x.id (s)))))
  have L1 := Lib.hid (show (wNum 2 x.id (s)).l.length + 224 ≤ 2000000 from by omega)
  have L2 := Lib.hid (show (wNum 2 x.header (wNum 2 x.id (s))).l.length + 222 ≤ 2000000 from by omega)
  have L3 := Lib.hid (show (wNum 2 x.select (wNum 2 x.header (wNum 2 x.id (s)))).l.length + 220 ≤ 2000000 from by omega)
  have L4 := Lib.hid (show (pList 6 eCase x.cases (wNum 2 x.select (wNum 2 x.header (wNum 2 x.id (s))))).l.length + 2 ≤ 2000000 from by omega)
  have L5 := Lib.hid (show (wNum 2 x.dflt (pList 6 eCase x.cases (wNum 2 x.select (wNum 2 x.header (wNum 2 x.id (s)))))).l.length + 0 ≤ 2000000 from by omega)
  have L0 := Lib.hid hl
  have HS0 := Lib.hid h
  have HF0 := Lib.hid (Fr.refl X B w)
  clear h hl a0 a1 a2 a3 a4
  go_enter Try.func51, Try.ntmps51
  go_wp2
  have kk := HS0.out.cod.k0
  go_still_tail 7, (by kernel_rfl)
  change wpList _ _ _ _ _ w.drew
  clear kk
  go_wp2_with (go_at_call 35; refine (cnum2_any x.id (part_state_id (HS0.out.drew kept_state))).mono ?_; rintro e w1 ⟨rfl, hv, hf⟩; have HS1 := Lib.hid ((HS0.out.drew kept_state).next kept_state hv hf (by have := L1.out; omega)); have HF1 := Lib.hid (HF0.out.drew.trans hf); clear hv hf)
  have kk := HS1.out.cod.k0
  go_still_tail 7, (by kernel_rfl)
  change wpList _ _ _ _ _ w1.drew
  clear kk
  go_wp2_with (go_at_call 35; refine (cnum2_any x.header (part_state_header (HS1.out.drew kept_state))).mono ?_; rintro e w2 ⟨rfl, hv, hf⟩; have HS2 := Lib.hid ((HS1.out.drew kept_state).next kept_state hv hf (by have := L2.out; omega)); have HF2 := Lib.hid (HF1.out.drew.trans hf); clear hv hf)
  have kk := HS2.out.cod.k0
  go_still_tail 7, (by kernel_rfl)
  change wpList _ _ _ _ _ w2.drew
  clear kk
  go_wp2_with (first
    | (go_at_call 35; refine (cnum2_any x.select (part_state_select (HS2.out.drew kept_state))).mono ?_; rintro e w3 ⟨rfl, hv, hf⟩; have HS3 := Lib.hid ((HS2.out.drew kept_state).next kept_state hv hf (by have := L3.out; omega)); have HF3 := Lib.hid (HF2.out.drew.trans hf); clear hv hf)
    | (go_at_call 88; refine (lcase_any eCase 36 adds_case (fun _ _ _ _ x h hl => ecase_any x h hl) x.cases 6 (by decide) (part_state_cases HS3.out) (by have := L3.out; omega)).mono ?_; rintro e w4 ⟨rfl, hv, hf⟩; have HS4 := Lib.hid (HS3.out.next kept_state hv hf (by have := L4.out; omega)); have HF4 := Lib.hid (HF3.out.trans hf); clear hv hf))
  have kk := HS4.out.cod.k0
  go_still_tail 7, (by kernel_rfl)
  change wpList _ _ _ _ _ w4.drew
  clear kk
  go_wp2_with (go_at_call 35; refine (cnum2_any x.dflt (part_state_dflt (HS4.out.drew kept_state))).mono ?_; rintro e w5 ⟨rfl, hv, hf⟩; have HS5 := Lib.hid ((HS4.out.drew kept_state).next kept_state hv hf (by have := L5.out; omega)); have HF5 := Lib.hid (HF4.out.drew.trans hf); clear hv hf)
  go_end0
  exact ⟨rfl, HS5.out.wr, HF5.out⟩
theorem adds_action : Adds (eAction wayP) 818 := fun x s => by
  have a0 := adds_num 2 x.id (s)
  have a1 := adds_text 24 x.name (wNum 2 x.id (s))
  have a2 := adds_list adds_param 4 x.params (pText 24 x.name (wNum 2 x.id (s)))
  have a3 := adds_list adds_prim 12 x.body (pList 4 (eParam wayP) x.params (pText 24 x.name (wNum 2 x.id (s))))
  have a4 := adds_text 400 x.restr (pList 12 ePrim x.body (pList 4 (eParam wayP) x.params (pText 24 x.name (wNum 2 x.id (s)))))
  show (pText 400 x.restr (pList 12 ePrim x.body (pList 4 (eParam wayP) x.params (pText 24 x.name (wNum 2 x.id (s)))))).l.length ≤ _
  omega
set_option maxRecDepth 100000 in
set_option maxHeartbeats 1000000 in
theorem eaction_any (x : ActionD) (h : Set3 ActionV C K Y X B w s b o x) (hl : s.l.length + 818 ≤ 2000000) :
    Calls Try.prog 53 #[.pointer (some ⟨K, 0, none⟩), .pointer (some ⟨b, o, none⟩)] w (Wrote X B (eAction wayP x s) w) := by
  have a0 := adds_num 2 x.id (s)
  have a1 := adds_text 24 x.name (wNum 2 x.id (s))
  have a2 := adds_list adds_param 4 x.params (pText 24 x.name (wNum 2 x.id (s)))
  have a3 := adds_list adds_prim 12 x.body (pList 4 (eParam wayP) x.params (pText 24 x.name (wNum 2 x.id (s))))
  have a4 := adds_text 400 x.restr (pList 12 ePrim x.body (pList 4 (eParam wayP) x.params (pText 24 x.name (wNum 2 x.id (s)))))
  have L1 := Lib.hid (show (wNum 2 x.id (s)).l.length + 816 ≤ 2000000 from by omega)
  have L2 := Lib.hid (show (pText 24 x.name (wNum 2 x.id (s))).l.length + 790 ≤ 2000000 from by omega)
  have L3 := Lib.hid (show (pList 4 (eParam wayP) x.params (pText 24 x.name (wNum 2 x.id (s)))).l.length + 680 ≤ 2000000 from by omega)
  have L4 := Lib.hid (show (pList 12 ePrim x.body (pList 4 (eParam wayP) x.params (pText 24 x.name (wNum 2 x.id (s))))).l.length + 402 ≤ 2000000 from by omega)
  have L5 := Lib.hid (show (pText 400 x.restr (pList 12 ePrim x.body (pList 4 (eParam wayP) x.params (pText 24 x.name (wNum 2 x.id (s)))))).l.length + 0 ≤ 2000000 from by omega)
  have L0 := Lib.hid hl
  have HS0 := Lib.hid h
  have HF0 := Lib.hid (Fr.refl X B w)
  clear h hl a0 a1 a2 a3 a4
  go_enter Try.func53, Try.ntmps53
  go_wp2
  have kk := HS0.out.cod.k0
  go_still_tail 7, (by kernel_rfl)
  change wpList _ _ _ _ _ w.drew
  clear kk
  go_wp2_with (first
    | (go_at_call 35; refine (cnum2_any x.id (part_action_id (HS0.out.drew kept_action))).mono ?_; rintro e w1 ⟨rfl, hv, hf⟩; have HS1 := Lib.hid ((HS0.out.drew kept_action).next kept_action hv hf (by have := L1.out; omega)); have HF1 := Lib.hid (HF0.out.drew.trans hf); clear hv hf)
    | (go_at_call 86; refine (cname_any x.name (part_action_name HS1.out)).mono ?_; rintro e w2 ⟨rfl, hv, hf⟩; have HS2 := Lib.hid (HS1.out.next kept_action hv hf (by have := L2.out; omega)); have HF2 := Lib.hid (HF1.out.trans hf); clear hv hf)
    | (go_at_call 90; refine (lparam_any (eParam wayP) 27 adds_param (fun _ _ _ _ x h hl => eparam_any x h hl) x.params 4 (by decide) (part_action_params HS2.out) (by have := L2.out; omega)).mono ?_; rintro e w3 ⟨rfl, hv, hf⟩; have HS3 := Lib.hid (HS2.out.next kept_action hv hf (by have := L3.out; omega)); have HF3 := Lib.hid (HF2.out.trans hf); clear hv hf)
    | (go_at_call 92; refine (lprim_any ePrim 23 adds_prim (fun _ _ _ _ x h hl => eprim_any x h hl) x.body 12 (by decide) (part_action_body HS3.out) (by have := L3.out; omega)).mono ?_; rintro e w4 ⟨rfl, hv, hf⟩; have HS4 := Lib.hid (HS3.out.next kept_action hv hf (by have := L4.out; omega)); have HF4 := Lib.hid (HF3.out.trans hf); clear hv hf)
    | (go_at_call 94; refine (crestr_any x.restr (part_action_restr HS4.out)).mono ?_; rintro e w5 ⟨rfl, hv, hf⟩; have HS5 := Lib.hid (HS4.out.next kept_action hv hf (by have := L5.out; omega)); have HF5 := Lib.hid (HF4.out.trans hf); clear hv hf))
  go_end0
  exact ⟨rfl, HS5.out.wr, HF5.out⟩
theorem adds_grant : Adds (eGrant wayP) 10 := fun x s => by
  have a0 := adds_num 2 x.table (s)
  have a1 := adds_truth x.read (wNum 2 x.table (s))
  have a2 := adds_truth x.write (wTruth x.read (wNum 2 x.table (s)))
  have a3 := adds_list adds_truth 4 x.keys (wTruth x.write (wTruth x.read (wNum 2 x.table (s))))
  show (pList 4 wTruth x.keys (wTruth x.write (wTruth x.read (wNum 2 x.table (s))))).l.length ≤ _
  omega
set_option maxRecDepth 100000 in
set_option maxHeartbeats 1000000 in
theorem egrant_any (x : GrantD) (h : Set3 GrantV C K Y X B w s b o x) (hl : s.l.length + 10 ≤ 2000000) :
    Calls Try.prog 99 #[.pointer (some ⟨K, 0, none⟩), .pointer (some ⟨b, o, none⟩)] w (Wrote X B (eGrant wayP x s) w) := by
  have a0 := adds_num 2 x.table (s)
  have a1 := adds_truth x.read (wNum 2 x.table (s))
  have a2 := adds_truth x.write (wTruth x.read (wNum 2 x.table (s)))
  have a3 := adds_list adds_truth 4 x.keys (wTruth x.write (wTruth x.read (wNum 2 x.table (s))))
  have L1 := Lib.hid (show (wNum 2 x.table (s)).l.length + 8 ≤ 2000000 from by omega)
  have L2 := Lib.hid (show (wTruth x.read (wNum 2 x.table (s))).l.length + 7 ≤ 2000000 from by omega)
  have L3 := Lib.hid (show (wTruth x.write (wTruth x.read (wNum 2 x.table (s)))).l.length + 6 ≤ 2000000 from by omega)
  have L4 := Lib.hid (show (pList 4 wTruth x.keys (wTruth x.write (wTruth x.read (wNum 2 x.table (s))))).l.length + 0 ≤ 2000000 from by omega)
  have L0 := Lib.hid hl
  have HS0 := Lib.hid h
  have HF0 := Lib.hid (Fr.refl X B w)
  clear h hl a0 a1 a2 a3
  go_enter Try.func99, Try.ntmps99
  go_wp2
  have kk := HS0.out.cod.k0
  go_still_tail 7, (by kernel_rfl)
  change wpList _ _ _ _ _ w.drew
  clear kk
  go_wp2_with (go_at_call 35; refine (cnum2_any x.table (part_grant_table (HS0.out.drew kept_grant))).mono ?_; rintro e w1 ⟨rfl, hv, hf⟩; have HS1 := Lib.hid ((HS0.out.drew kept_grant).next kept_grant hv hf (by have := L1.out; omega)); have HF1 := Lib.hid (HF0.out.drew.trans hf); clear hv hf)
  have kk := HS1.out.cod.k2
  go_still_tail 7, (by kernel_rfl)
  change wpList _ _ _ _ _ w1.drew
  clear kk
  go_wp2_with (go_at_call 38; refine (ctruth_any x.read (part_grant_read (HS1.out.drew kept_grant))).mono ?_; rintro e w2 ⟨rfl, hv, hf⟩; have HS2 := Lib.hid ((HS1.out.drew kept_grant).next kept_grant hv hf (by have := L2.out; omega)); have HF2 := Lib.hid (HF1.out.drew.trans hf); clear hv hf)
  have kk := HS2.out.cod.k2
  go_still_tail 7, (by kernel_rfl)
  change wpList _ _ _ _ _ w2.drew
  clear kk
  go_wp2_with (go_at_call 38; refine (ctruth_any x.write (part_grant_write (HS2.out.drew kept_grant))).mono ?_; rintro e w3 ⟨rfl, hv, hf⟩; have HS3 := Lib.hid ((HS2.out.drew kept_grant).next kept_grant hv hf (by have := L3.out; omega)); have HF3 := Lib.hid (HF2.out.drew.trans hf); clear hv hf)
  have kk := HS3.out.cod.k2
  go_still_tail 8, (by kernel_rfl)
  change wpList _ _ _ _ _ w3.drew
  clear kk
  go_wp2_with (go_at_call 118; refine (lbool_any wTruth 1 adds_truth (fun _ _ _ _ x h _ => ctruth_any x h) x.keys 4 (by decide) (part_grant_keys (HS3.out.drew kept_grant)) (by have := L3.out; omega)).mono ?_; rintro e w4 ⟨rfl, hv, hf⟩; have HS4 := Lib.hid ((HS3.out.drew kept_grant).next kept_grant hv hf (by have := L4.out; omega)); have HF4 := Lib.hid (HF3.out.drew.trans hf); clear hv hf)
  go_end0
  exact ⟨rfl, HS4.out.wr, HF4.out⟩
theorem adds_ref : Adds eRef 9 := fun x s => by
  have a0 := adds_num 2 x.table (s)
  have a1 := adds_num 1 x.key (wNum 2 x.table (s))
  have a2 := adds_num 2 x.action (wNum 1 x.key (wNum 2 x.table (s)))
  have a3 := adds_num 1 x.param (wNum 2 x.action (wNum 1 x.key (wNum 2 x.table (s))))
  have a4 := adds_num 2 x.toTable (wNum 1 x.param (wNum 2 x.action (wNum 1 x.key (wNum 2 x.table (s)))))
  have a5 := adds_num 1 x.toKey (wNum 2 x.toTable (wNum 1 x.param (wNum 2 x.action (wNum 1 x.key (wNum 2 x.table (s))))))
  show (wNum 1 x.toKey (wNum 2 x.toTable (wNum 1 x.param (wNum 2 x.action (wNum 1 x.key (wNum 2 x.table (s))))))).l.length ≤ _
  omega
set_option maxRecDepth 100000 in
set_option maxHeartbeats 1000000 in
theorem eref_any (x : RefD) (h : Set3 RefV C K Y X B w s b o x) (hl : s.l.length + 9 ≤ 2000000) :
    Calls Try.prog 61 #[.pointer (some ⟨K, 0, none⟩), .pointer (some ⟨b, o, none⟩)] w (Wrote X B (eRef x s) w) := by
  have a0 := adds_num 2 x.table (s)
  have a1 := adds_num 1 x.key (wNum 2 x.table (s))
  have a2 := adds_num 2 x.action (wNum 1 x.key (wNum 2 x.table (s)))
  have a3 := adds_num 1 x.param (wNum 2 x.action (wNum 1 x.key (wNum 2 x.table (s))))
  have a4 := adds_num 2 x.toTable (wNum 1 x.param (wNum 2 x.action (wNum 1 x.key (wNum 2 x.table (s)))))
  have a5 := adds_num 1 x.toKey (wNum 2 x.toTable (wNum 1 x.param (wNum 2 x.action (wNum 1 x.key (wNum 2 x.table (s))))))
  have L1 := Lib.hid (show (wNum 2 x.table (s)).l.length + 7 ≤ 2000000 from by omega)
  have L2 := Lib.hid (show (wNum 1 x.key (wNum 2 x.table (s))).l.length + 6 ≤ 2000000 from by omega)
  have L3 := Lib.hid (show (wNum 2 x.action (wNum 1 x.key (wNum 2 x.table (s)))).l.length + 4 ≤ 2000000 from by omega)
  have L4 := Lib.hid (show (wNum 1 x.param (wNum 2 x.action (wNum 1 x.key (wNum 2 x.table (s))))).l.length + 3 ≤ 2000000 from by omega)
  have L5 := Lib.hid (show (wNum 2 x.toTable (wNum 1 x.param (wNum 2 x.action (wNum 1 x.key (wNum 2 x.table (s)))))).l.length + 1 ≤ 2000000 from by omega)
  have L6 := Lib.hid (show (wNum 1 x.toKey (wNum 2 x.toTable (wNum 1 x.param (wNum 2 x.action (wNum 1 x.key (wNum 2 x.table (s))))))).l.length + 0 ≤ 2000000 from by omega)
  have L0 := Lib.hid hl
  have HS0 := Lib.hid h
  have HF0 := Lib.hid (Fr.refl X B w)
  clear h hl a0 a1 a2 a3 a4 a5
  go_enter Try.func61, Try.ntmps61
  go_wp2
  have kk := HS0.out.cod.k0
  go_still_tail 7, (by kernel_rfl)
  change wpList _ _ _ _ _ w.drew
  clear kk
  go_wp2_with (go_at_call 35; refine (cnum2_any x.table (part_ref_table (HS0.out.drew kept_ref))).mono ?_; rintro e w1 ⟨rfl, hv, hf⟩; have HS1 := Lib.hid ((HS0.out.drew kept_ref).next kept_ref hv hf (by have := L1.out; omega)); have HF1 := Lib.hid (HF0.out.drew.trans hf); clear hv hf)
  have kk := HS1.out.cod.k1
  go_still_tail 7, (by kernel_rfl)
  change wpList _ _ _ _ _ w1.drew
  clear kk
  go_wp2_with (go_at_call 37; refine (cnum1_any x.key (part_ref_key (HS1.out.drew kept_ref))).mono ?_; rintro e w2 ⟨rfl, hv, hf⟩; have HS2 := Lib.hid ((HS1.out.drew kept_ref).next kept_ref hv hf (by have := L2.out; omega)); have HF2 := Lib.hid (HF1.out.drew.trans hf); clear hv hf)
  have kk := HS2.out.cod.k0
  go_still_tail 7, (by kernel_rfl)
  change wpList _ _ _ _ _ w2.drew
  clear kk
  go_wp2_with (go_at_call 35; refine (cnum2_any x.action (part_ref_action (HS2.out.drew kept_ref))).mono ?_; rintro e w3 ⟨rfl, hv, hf⟩; have HS3 := Lib.hid ((HS2.out.drew kept_ref).next kept_ref hv hf (by have := L3.out; omega)); have HF3 := Lib.hid (HF2.out.drew.trans hf); clear hv hf)
  have kk := HS3.out.cod.k1
  go_still_tail 7, (by kernel_rfl)
  change wpList _ _ _ _ _ w3.drew
  clear kk
  go_wp2_with (go_at_call 37; refine (cnum1_any x.param (part_ref_param (HS3.out.drew kept_ref))).mono ?_; rintro e w4 ⟨rfl, hv, hf⟩; have HS4 := Lib.hid ((HS3.out.drew kept_ref).next kept_ref hv hf (by have := L4.out; omega)); have HF4 := Lib.hid (HF3.out.drew.trans hf); clear hv hf)
  have kk := HS4.out.cod.k0
  go_still_tail 7, (by kernel_rfl)
  change wpList _ _ _ _ _ w4.drew
  clear kk
  go_wp2_with (go_at_call 35; refine (cnum2_any x.toTable (part_ref_toTable (HS4.out.drew kept_ref))).mono ?_; rintro e w5 ⟨rfl, hv, hf⟩; have HS5 := Lib.hid ((HS4.out.drew kept_ref).next kept_ref hv hf (by have := L5.out; omega)); have HF5 := Lib.hid (HF4.out.drew.trans hf); clear hv hf)
  have kk := HS5.out.cod.k1
  go_still_tail 7, (by kernel_rfl)
  change wpList _ _ _ _ _ w5.drew
  clear kk
  go_wp2_with (go_at_call 37; refine (cnum1_any x.toKey (part_ref_toKey (HS5.out.drew kept_ref))).mono ?_; rintro e w6 ⟨rfl, hv, hf⟩; have HS6 := Lib.hid ((HS5.out.drew kept_ref).next kept_ref hv hf (by have := L6.out; omega)); have HF6 := Lib.hid (HF5.out.drew.trans hf); clear hv hf)
  go_end0
  exact ⟨rfl, HS6.out.wr, HF6.out⟩
end
end Go.Proofs.Ytljmiickhkkceaa
