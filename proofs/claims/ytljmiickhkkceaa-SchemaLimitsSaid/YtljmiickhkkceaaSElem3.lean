/- Element functions of the codec that writes. -/
import Derived.Test.YtljmiickhkkceaaSElem2
namespace Go.Proofs.Ytljmiickhkkceaa
open Go.RowKit

section
variable {C K Y X B : Nat} {w : World} {s : WS} {b o : Nat}
theorem adds_table : Adds (eTable wayP) 648 := fun x s => by
  have a0 := adds_num 2 x.id (s)
  have a1 := adds_text 24 x.name (wNum 2 x.id (s))
  have a2 := adds_list adds_key 4 x.keys (pText 24 x.name (wNum 2 x.id (s)))
  have a3 := adds_list (adds_num 2) 12 x.actions (pList 4 (eKey wayP) x.keys (pText 24 x.name (wNum 2 x.id (s))))
  have a4 := adds_num 2 x.dflt (pList 12 (wNum 2) x.actions (pList 4 (eKey wayP) x.keys (pText 24 x.name (wNum 2 x.id (s)))))
  have a5 := adds_list adds_val 4 x.args (wNum 2 x.dflt (pList 12 (wNum 2) x.actions (pList 4 (eKey wayP) x.keys (pText 24 x.name (wNum 2 x.id (s))))))
  have a6 := adds_num 2 x.size (pList 4 wVal x.args (wNum 2 x.dflt (pList 12 (wNum 2) x.actions (pList 4 (eKey wayP) x.keys (pText 24 x.name (wNum 2 x.id (s)))))))
  have a7 := adds_text 400 x.restr (wNum 2 x.size (pList 4 wVal x.args (wNum 2 x.dflt (pList 12 (wNum 2) x.actions (pList 4 (eKey wayP) x.keys (pText 24 x.name (wNum 2 x.id (s))))))))
  show (pText 400 x.restr (wNum 2 x.size (pList 4 wVal x.args (wNum 2 x.dflt (pList 12 (wNum 2) x.actions (pList 4 (eKey wayP) x.keys (pText 24 x.name (wNum 2 x.id (s))))))))).l.length ≤ _
  omega
set_option maxRecDepth 100000 in
set_option maxHeartbeats 1000000 in
theorem etable_any (x : TableD) (h : Set3 TableV C K Y X B w s b o x) (hl : s.l.length + 648 ≤ 2000000) :
    Calls Try.prog 55 #[.pointer (some ⟨K, 0, none⟩), .pointer (some ⟨b, o, none⟩)] w (Wrote X B (eTable wayP x s) w) := by
  have a0 := adds_num 2 x.id (s)
  have a1 := adds_text 24 x.name (wNum 2 x.id (s))
  have a2 := adds_list adds_key 4 x.keys (pText 24 x.name (wNum 2 x.id (s)))
  have a3 := adds_list (adds_num 2) 12 x.actions (pList 4 (eKey wayP) x.keys (pText 24 x.name (wNum 2 x.id (s))))
  have a4 := adds_num 2 x.dflt (pList 12 (wNum 2) x.actions (pList 4 (eKey wayP) x.keys (pText 24 x.name (wNum 2 x.id (s)))))
  have a5 := adds_list adds_val 4 x.args (wNum 2 x.dflt (pList 12 (wNum 2) x.actions (pList 4 (eKey wayP) x.keys (pText 24 x.name (wNum 2 x.id (s))))))
  have a6 := adds_num 2 x.size (pList 4 wVal x.args (wNum 2 x.dflt (pList 12 (wNum 2) x.actions (pList 4 (eKey wayP) x.keys (pText 24 x.name (wNum 2 x.id (s)))))))
  have a7 := adds_text 400 x.restr (wNum 2 x.size (pList 4 wVal x.args (wNum 2 x.dflt (pList 12 (wNum 2) x.actions (pList 4 (eKey wayP) x.keys (pText 24 x.name (wNum 2 x.id (s))))))))
  have L1 := Lib.hid (show (wNum 2 x.id (s)).l.length + 646 ≤ 2000000 from by omega)
  have L2 := Lib.hid (show (pText 24 x.name (wNum 2 x.id (s))).l.length + 620 ≤ 2000000 from by omega)
  have L3 := Lib.hid (show (pList 4 (eKey wayP) x.keys (pText 24 x.name (wNum 2 x.id (s)))).l.length + 502 ≤ 2000000 from by omega)
  have L4 := Lib.hid (show (pList 12 (wNum 2) x.actions (pList 4 (eKey wayP) x.keys (pText 24 x.name (wNum 2 x.id (s))))).l.length + 476 ≤ 2000000 from by omega)
  have L5 := Lib.hid (show (wNum 2 x.dflt (pList 12 (wNum 2) x.actions (pList 4 (eKey wayP) x.keys (pText 24 x.name (wNum 2 x.id (s)))))).l.length + 474 ≤ 2000000 from by omega)
  have L6 := Lib.hid (show (pList 4 wVal x.args (wNum 2 x.dflt (pList 12 (wNum 2) x.actions (pList 4 (eKey wayP) x.keys (pText 24 x.name (wNum 2 x.id (s))))))).l.length + 404 ≤ 2000000 from by omega)
  have L7 := Lib.hid (show (wNum 2 x.size (pList 4 wVal x.args (wNum 2 x.dflt (pList 12 (wNum 2) x.actions (pList 4 (eKey wayP) x.keys (pText 24 x.name (wNum 2 x.id (s)))))))).l.length + 402 ≤ 2000000 from by omega)
  have L8 := Lib.hid (show (pText 400 x.restr (wNum 2 x.size (pList 4 wVal x.args (wNum 2 x.dflt (pList 12 (wNum 2) x.actions (pList 4 (eKey wayP) x.keys (pText 24 x.name (wNum 2 x.id (s))))))))).l.length + 0 ≤ 2000000 from by omega)
  have L0 := Lib.hid hl
  have HS0 := Lib.hid h
  have HF0 := Lib.hid (Fr.refl X B w)
  clear h hl a0 a1 a2 a3 a4 a5 a6 a7
  go_enter Try.func55, Try.ntmps55
  go_wp2
  have kk := HS0.out.cod.k0
  go_still_tail 7, (by kernel_rfl)
  change wpList _ _ _ _ _ w.drew
  clear kk
  go_wp2_with (first
    | (go_at_call 35; refine (cnum2_any x.id (part_table_id (HS0.out.drew kept_table))).mono ?_; rintro e w1 ⟨rfl, hv, hf⟩; have HS1 := Lib.hid ((HS0.out.drew kept_table).next kept_table hv hf (by have := L1.out; omega)); have HF1 := Lib.hid (HF0.out.drew.trans hf); clear hv hf)
    | (go_at_call 86; refine (cname_any x.name (part_table_name HS1.out)).mono ?_; rintro e w2 ⟨rfl, hv, hf⟩; have HS2 := Lib.hid (HS1.out.next kept_table hv hf (by have := L2.out; omega)); have HF2 := Lib.hid (HF1.out.trans hf); clear hv hf)
    | (go_at_call 95; refine (lkey_any (eKey wayP) 29 adds_key (fun _ _ _ _ x h hl => ekey_any x h hl) x.keys 4 (by decide) (part_table_keys HS2.out) (by have := L2.out; omega)).mono ?_; rintro e w3 ⟨rfl, hv, hf⟩; have HS3 := Lib.hid (HS2.out.next kept_table hv hf (by have := L3.out; omega)); have HF3 := Lib.hid (HF2.out.trans hf); clear hv hf))
  have kk := HS3.out.cod.k0
  go_still_tail 8, (by kernel_rfl)
  change wpList _ _ _ _ _ w3.drew
  clear kk
  go_wp2_with (go_at_call 87; refine (lint_any (wNum 2) 2 (adds_num 2) (fun _ _ _ _ x h _ => cnum2_any x h) x.actions 12 (by decide) (part_table_actions (HS3.out.drew kept_table)) (by have := L3.out; omega)).mono ?_; rintro e w4 ⟨rfl, hv, hf⟩; have HS4 := Lib.hid ((HS3.out.drew kept_table).next kept_table hv hf (by have := L4.out; omega)); have HF4 := Lib.hid (HF3.out.drew.trans hf); clear hv hf)
  have kk := HS4.out.cod.k0
  go_still_tail 7, (by kernel_rfl)
  change wpList _ _ _ _ _ w4.drew
  clear kk
  go_wp2_with (go_at_call 35; refine (cnum2_any x.dflt (part_table_dflt (HS4.out.drew kept_table))).mono ?_; rintro e w5 ⟨rfl, hv, hf⟩; have HS5 := Lib.hid ((HS4.out.drew kept_table).next kept_table hv hf (by have := L5.out; omega)); have HF5 := Lib.hid (HF4.out.drew.trans hf); clear hv hf)
  have kk := HS5.out.cod.k3
  go_still_tail 8, (by kernel_rfl)
  change wpList _ _ _ _ _ w5.drew
  clear kk
  go_wp2_with (go_at_call 97; refine (lval_any wVal 17 adds_val (fun _ _ _ _ x h _ => cval_any x h) x.args 4 (by decide) (part_table_args (HS5.out.drew kept_table)) (by have := L5.out; omega)).mono ?_; rintro e w6 ⟨rfl, hv, hf⟩; have HS6 := Lib.hid ((HS5.out.drew kept_table).next kept_table hv hf (by have := L6.out; omega)); have HF6 := Lib.hid (HF5.out.drew.trans hf); clear hv hf)
  have kk := HS6.out.cod.k0
  go_still_tail 7, (by kernel_rfl)
  change wpList _ _ _ _ _ w6.drew
  clear kk
  go_wp2_with (first
    | (go_at_call 35; refine (cnum2_any x.size (part_table_size (HS6.out.drew kept_table))).mono ?_; rintro e w7 ⟨rfl, hv, hf⟩; have HS7 := Lib.hid ((HS6.out.drew kept_table).next kept_table hv hf (by have := L7.out; omega)); have HF7 := Lib.hid (HF6.out.drew.trans hf); clear hv hf)
    | (go_at_call 94; refine (crestr_any x.restr (part_table_restr HS7.out)).mono ?_; rintro e w8 ⟨rfl, hv, hf⟩; have HS8 := Lib.hid (HS7.out.next kept_table hv hf (by have := L8.out; omega)); have HF8 := Lib.hid (HF7.out.trans hf); clear hv hf))
  go_end0
  exact ⟨rfl, HS8.out.wr, HF8.out⟩
theorem adds_role : Adds (eRole wayP) 139 := fun x s => by
  have a0 := adds_num 2 x.id (s)
  have a1 := adds_text 24 x.name (wNum 2 x.id (s))
  have a2 := adds_list adds_grant 8 x.grants (pText 24 x.name (wNum 2 x.id (s)))
  have a3 := adds_list (adds_num 2) 12 x.actions (pList 8 (eGrant wayP) x.grants (pText 24 x.name (wNum 2 x.id (s))))
  have a4 := adds_num 2 x.quota (pList 12 (wNum 2) x.actions (pList 8 (eGrant wayP) x.grants (pText 24 x.name (wNum 2 x.id (s)))))
  have a5 := adds_truth x.audit (wNum 2 x.quota (pList 12 (wNum 2) x.actions (pList 8 (eGrant wayP) x.grants (pText 24 x.name (wNum 2 x.id (s))))))
  show (wTruth x.audit (wNum 2 x.quota (pList 12 (wNum 2) x.actions (pList 8 (eGrant wayP) x.grants (pText 24 x.name (wNum 2 x.id (s))))))).l.length ≤ _
  omega
set_option maxRecDepth 100000 in
set_option maxHeartbeats 1000000 in
theorem erole_any (x : RoleD) (h : Set3 RoleV C K Y X B w s b o x) (hl : s.l.length + 139 ≤ 2000000) :
    Calls Try.prog 59 #[.pointer (some ⟨K, 0, none⟩), .pointer (some ⟨b, o, none⟩)] w (Wrote X B (eRole wayP x s) w) := by
  have a0 := adds_num 2 x.id (s)
  have a1 := adds_text 24 x.name (wNum 2 x.id (s))
  have a2 := adds_list adds_grant 8 x.grants (pText 24 x.name (wNum 2 x.id (s)))
  have a3 := adds_list (adds_num 2) 12 x.actions (pList 8 (eGrant wayP) x.grants (pText 24 x.name (wNum 2 x.id (s))))
  have a4 := adds_num 2 x.quota (pList 12 (wNum 2) x.actions (pList 8 (eGrant wayP) x.grants (pText 24 x.name (wNum 2 x.id (s)))))
  have a5 := adds_truth x.audit (wNum 2 x.quota (pList 12 (wNum 2) x.actions (pList 8 (eGrant wayP) x.grants (pText 24 x.name (wNum 2 x.id (s))))))
  have L1 := Lib.hid (show (wNum 2 x.id (s)).l.length + 137 ≤ 2000000 from by omega)
  have L2 := Lib.hid (show (pText 24 x.name (wNum 2 x.id (s))).l.length + 111 ≤ 2000000 from by omega)
  have L3 := Lib.hid (show (pList 8 (eGrant wayP) x.grants (pText 24 x.name (wNum 2 x.id (s)))).l.length + 29 ≤ 2000000 from by omega)
  have L4 := Lib.hid (show (pList 12 (wNum 2) x.actions (pList 8 (eGrant wayP) x.grants (pText 24 x.name (wNum 2 x.id (s))))).l.length + 3 ≤ 2000000 from by omega)
  have L5 := Lib.hid (show (wNum 2 x.quota (pList 12 (wNum 2) x.actions (pList 8 (eGrant wayP) x.grants (pText 24 x.name (wNum 2 x.id (s)))))).l.length + 1 ≤ 2000000 from by omega)
  have L6 := Lib.hid (show (wTruth x.audit (wNum 2 x.quota (pList 12 (wNum 2) x.actions (pList 8 (eGrant wayP) x.grants (pText 24 x.name (wNum 2 x.id (s))))))).l.length + 0 ≤ 2000000 from by omega)
  have L0 := Lib.hid hl
  have HS0 := Lib.hid h
  have HF0 := Lib.hid (Fr.refl X B w)
  clear h hl a0 a1 a2 a3 a4 a5
  go_enter Try.func59, Try.ntmps59
  go_wp2
  have kk := HS0.out.cod.k0
  go_still_tail 7, (by kernel_rfl)
  change wpList _ _ _ _ _ w.drew
  clear kk
  go_wp2_with (first
    | (go_at_call 35; refine (cnum2_any x.id (part_role_id (HS0.out.drew kept_role))).mono ?_; rintro e w1 ⟨rfl, hv, hf⟩; have HS1 := Lib.hid ((HS0.out.drew kept_role).next kept_role hv hf (by have := L1.out; omega)); have HF1 := Lib.hid (HF0.out.drew.trans hf); clear hv hf)
    | (go_at_call 86; refine (cname_any x.name (part_role_name HS1.out)).mono ?_; rintro e w2 ⟨rfl, hv, hf⟩; have HS2 := Lib.hid (HS1.out.next kept_role hv hf (by have := L2.out; omega)); have HF2 := Lib.hid (HF1.out.trans hf); clear hv hf)
    | (go_at_call 98; refine (lgrant_any (eGrant wayP) 10 adds_grant (fun _ _ _ _ x h hl => egrant_any x h hl) x.grants 8 (by decide) (part_role_grants HS2.out) (by have := L2.out; omega)).mono ?_; rintro e w3 ⟨rfl, hv, hf⟩; have HS3 := Lib.hid (HS2.out.next kept_role hv hf (by have := L3.out; omega)); have HF3 := Lib.hid (HF2.out.trans hf); clear hv hf))
  have kk := HS3.out.cod.k0
  go_still_tail 8, (by kernel_rfl)
  change wpList _ _ _ _ _ w3.drew
  clear kk
  go_wp2_with (go_at_call 87; refine (lint_any (wNum 2) 2 (adds_num 2) (fun _ _ _ _ x h _ => cnum2_any x h) x.actions 12 (by decide) (part_role_actions (HS3.out.drew kept_role)) (by have := L3.out; omega)).mono ?_; rintro e w4 ⟨rfl, hv, hf⟩; have HS4 := Lib.hid ((HS3.out.drew kept_role).next kept_role hv hf (by have := L4.out; omega)); have HF4 := Lib.hid (HF3.out.drew.trans hf); clear hv hf)
  have kk := HS4.out.cod.k0
  go_still_tail 7, (by kernel_rfl)
  change wpList _ _ _ _ _ w4.drew
  clear kk
  go_wp2_with (go_at_call 35; refine (cnum2_any x.quota (part_role_quota (HS4.out.drew kept_role))).mono ?_; rintro e w5 ⟨rfl, hv, hf⟩; have HS5 := Lib.hid ((HS4.out.drew kept_role).next kept_role hv hf (by have := L5.out; omega)); have HF5 := Lib.hid (HF4.out.drew.trans hf); clear hv hf)
  have kk := HS5.out.cod.k2
  go_still_tail 7, (by kernel_rfl)
  change wpList _ _ _ _ _ w5.drew
  clear kk
  go_wp2_with (go_at_call 38; refine (ctruth_any x.audit (part_role_audit (HS5.out.drew kept_role))).mono ?_; rintro e w6 ⟨rfl, hv, hf⟩; have HS6 := Lib.hid ((HS5.out.drew kept_role).next kept_role hv hf (by have := L6.out; omega)); have HF6 := Lib.hid (HF5.out.drew.trans hf); clear hv hf)
  go_end0
  exact ⟨rfl, HS6.out.wr, HF6.out⟩
end
end Go.Proofs.Ytljmiickhkkceaa
