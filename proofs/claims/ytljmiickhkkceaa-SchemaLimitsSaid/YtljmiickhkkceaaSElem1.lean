/- Element functions of the codec that writes. -/
import Derived.Test.YtljmiickhkkceaaSPart
import Derived.Test.YtljmiickhkkceaaSList1
namespace Go.Proofs.Ytljmiickhkkceaa
open Go.RowKit

section
variable {C K Y X B : Nat} {w : World} {s : WS} {b o : Nat}
theorem adds_field : Adds (eField wayP) 29 := fun x s => by
  have a0 := adds_num 2 x.id (s)
  have a1 := adds_text 24 x.name (wNum 2 x.id (s))
  have a2 := adds_num 1 x.bits (pText 24 x.name (wNum 2 x.id (s)))
  show (wNum 1 x.bits (pText 24 x.name (wNum 2 x.id (s)))).l.length ≤ _
  omega
set_option maxRecDepth 100000 in
set_option maxHeartbeats 1000000 in
theorem efield_any (x : FieldD) (h : Set3 FieldV C K Y X B w s b o x) (hl : s.l.length + 29 ≤ 2000000) :
    Calls Try.prog 47 #[.pointer (some ⟨K, 0, none⟩), .pointer (some ⟨b, o, none⟩)] w (Wrote X B (eField wayP x s) w) := by
  have a0 := adds_num 2 x.id (s)
  have a1 := adds_text 24 x.name (wNum 2 x.id (s))
  have a2 := adds_num 1 x.bits (pText 24 x.name (wNum 2 x.id (s)))
  have L1 := Lib.hid (show (wNum 2 x.id (s)).l.length + 27 ≤ 2000000 from by omega)
  have L2 := Lib.hid (show (pText 24 x.name (wNum 2 x.id (s))).l.length + 1 ≤ 2000000 from by omega)
  have L3 := Lib.hid (show (wNum 1 x.bits (pText 24 x.name (wNum 2 x.id (s)))).l.length + 0 ≤ 2000000 from by omega)
  have L0 := Lib.hid hl
  have HS0 := Lib.hid h
  have HF0 := Lib.hid (Fr.refl X B w)
  clear h hl a0 a1 a2
  go_enter Try.func47, Try.ntmps47
  go_wp2
  have kk := HS0.out.cod.k0
  go_still_tail 7, (by kernel_rfl)
  change wpList _ _ _ _ _ w.drew
  clear kk
  go_wp2_with (first
    | (go_at_call 35; refine (cnum2_any x.id (part_field_id (HS0.out.drew kept_field))).mono ?_; rintro e w1 ⟨rfl, hv, hf⟩; have HS1 := Lib.hid ((HS0.out.drew kept_field).next kept_field hv hf (by have := L1.out; omega)); have HF1 := Lib.hid (HF0.out.drew.trans hf); clear hv hf)
    | (go_at_call 86; refine (cname_any x.name (part_field_name HS1.out)).mono ?_; rintro e w2 ⟨rfl, hv, hf⟩; have HS2 := Lib.hid (HS1.out.next kept_field hv hf (by have := L2.out; omega)); have HF2 := Lib.hid (HF1.out.trans hf); clear hv hf))
  have kk := HS2.out.cod.k1
  go_still_tail 7, (by kernel_rfl)
  change wpList _ _ _ _ _ w2.drew
  clear kk
  go_wp2_with (go_at_call 37; refine (cnum1_any x.bits (part_field_bits (HS2.out.drew kept_field))).mono ?_; rintro e w3 ⟨rfl, hv, hf⟩; have HS3 := Lib.hid ((HS2.out.drew kept_field).next kept_field hv hf (by have := L3.out; omega)); have HF3 := Lib.hid (HF2.out.drew.trans hf); clear hv hf)
  go_end0
  exact ⟨rfl, HS3.out.wr, HF3.out⟩
theorem adds_header : Adds (eHeader wayP) 94 := fun x s => by
  have a0 := adds_num 2 x.id (s)
  have a1 := adds_text 24 x.name (wNum 2 x.id (s))
  have a2 := adds_list (adds_num 2) 32 x.fields (pText 24 x.name (wNum 2 x.id (s)))
  show (pList 32 (wNum 2) x.fields (pText 24 x.name (wNum 2 x.id (s)))).l.length ≤ _
  omega
set_option maxRecDepth 100000 in
set_option maxHeartbeats 1000000 in
theorem eheader_any (x : HeaderD) (h : Set3 HeaderV C K Y X B w s b o x) (hl : s.l.length + 94 ≤ 2000000) :
    Calls Try.prog 49 #[.pointer (some ⟨K, 0, none⟩), .pointer (some ⟨b, o, none⟩)] w (Wrote X B (eHeader wayP x s) w) := by
  have a0 := adds_num 2 x.id (s)
  have a1 := adds_text 24 x.name (wNum 2 x.id (s))
  have a2 := adds_list (adds_num 2) 32 x.fields (pText 24 x.name (wNum 2 x.id (s)))
  have L1 := Lib.hid (show (wNum 2 x.id (s)).l.length + 92 ≤ 2000000 from by omega)
  have L2 := Lib.hid (show (pText 24 x.name (wNum 2 x.id (s))).l.length + 66 ≤ 2000000 from by omega)
  have L3 := Lib.hid (show (pList 32 (wNum 2) x.fields (pText 24 x.name (wNum 2 x.id (s)))).l.length + 0 ≤ 2000000 from by omega)
  have L0 := Lib.hid hl
  have HS0 := Lib.hid h
  have HF0 := Lib.hid (Fr.refl X B w)
  clear h hl a0 a1 a2
  go_enter Try.func49, Try.ntmps49
  go_wp2
  have kk := HS0.out.cod.k0
  go_still_tail 7, (by kernel_rfl)
  change wpList _ _ _ _ _ w.drew
  clear kk
  go_wp2_with (first
    | (go_at_call 35; refine (cnum2_any x.id (part_header_id (HS0.out.drew kept_header))).mono ?_; rintro e w1 ⟨rfl, hv, hf⟩; have HS1 := Lib.hid ((HS0.out.drew kept_header).next kept_header hv hf (by have := L1.out; omega)); have HF1 := Lib.hid (HF0.out.drew.trans hf); clear hv hf)
    | (go_at_call 86; refine (cname_any x.name (part_header_name HS1.out)).mono ?_; rintro e w2 ⟨rfl, hv, hf⟩; have HS2 := Lib.hid (HS1.out.next kept_header hv hf (by have := L2.out; omega)); have HF2 := Lib.hid (HF1.out.trans hf); clear hv hf))
  have kk := HS2.out.cod.k0
  go_still_tail 8, (by kernel_rfl)
  change wpList _ _ _ _ _ w2.drew
  clear kk
  go_wp2_with (go_at_call 87; refine (lint_any (wNum 2) 2 (adds_num 2) (fun _ _ _ _ x h _ => cnum2_any x h) x.fields 32 (by decide) (part_header_fields (HS2.out.drew kept_header)) (by have := L2.out; omega)).mono ?_; rintro e w3 ⟨rfl, hv, hf⟩; have HS3 := Lib.hid ((HS2.out.drew kept_header).next kept_header hv hf (by have := L3.out; omega)); have HF3 := Lib.hid (HF2.out.drew.trans hf); clear hv hf)
  go_end0
  exact ⟨rfl, HS3.out.wr, HF3.out⟩
theorem adds_case : Adds eCase 36 := fun x s => by
  have a0 := adds_val x.val (s)
  have a1 := adds_val x.mask (wVal x.val (s))
  have a2 := adds_num 2 x.next (wVal x.mask (wVal x.val (s)))
  show (wNum 2 x.next (wVal x.mask (wVal x.val (s)))).l.length ≤ _
  omega
set_option maxRecDepth 100000 in
set_option maxHeartbeats 1000000 in
theorem ecase_any (x : CaseD) (h : Set3 CaseV C K Y X B w s b o x) (hl : s.l.length + 36 ≤ 2000000) :
    Calls Try.prog 89 #[.pointer (some ⟨K, 0, none⟩), .pointer (some ⟨b, o, none⟩)] w (Wrote X B (eCase x s) w) := by
  have a0 := adds_val x.val (s)
  have a1 := adds_val x.mask (wVal x.val (s))
  have a2 := adds_num 2 x.next (wVal x.mask (wVal x.val (s)))
  have L1 := Lib.hid (show (wVal x.val (s)).l.length + 19 ≤ 2000000 from by omega)
  have L2 := Lib.hid (show (wVal x.mask (wVal x.val (s))).l.length + 2 ≤ 2000000 from by omega)
  have L3 := Lib.hid (show (wNum 2 x.next (wVal x.mask (wVal x.val (s)))).l.length + 0 ≤ 2000000 from by omega)
  have L0 := Lib.hid hl
  have HS0 := Lib.hid h
  have HF0 := Lib.hid (Fr.refl X B w)
  clear h hl a0 a1 a2
  go_enter Try.func89, Try.ntmps89
  go_wp2
  have kk := HS0.out.cod.k3
  go_still_tail 7, (by kernel_rfl)
  change wpList _ _ _ _ _ w.drew
  clear kk
  go_wp2_with (go_at_call 41; refine (cval_any x.val (part_case_val (HS0.out.drew kept_case))).mono ?_; rintro e w1 ⟨rfl, hv, hf⟩; have HS1 := Lib.hid ((HS0.out.drew kept_case).next kept_case hv hf (by have := L1.out; omega)); have HF1 := Lib.hid (HF0.out.drew.trans hf); clear hv hf)
  have kk := HS1.out.cod.k3
  go_still_tail 7, (by kernel_rfl)
  change wpList _ _ _ _ _ w1.drew
  clear kk
  go_wp2_with (go_at_call 41; refine (cval_any x.mask (part_case_mask (HS1.out.drew kept_case))).mono ?_; rintro e w2 ⟨rfl, hv, hf⟩; have HS2 := Lib.hid ((HS1.out.drew kept_case).next kept_case hv hf (by have := L2.out; omega)); have HF2 := Lib.hid (HF1.out.drew.trans hf); clear hv hf)
  have kk := HS2.out.cod.k0
  go_still_tail 7, (by kernel_rfl)
  change wpList _ _ _ _ _ w2.drew
  clear kk
  go_wp2_with (go_at_call 35; refine (cnum2_any x.next (part_case_next (HS2.out.drew kept_case))).mono ?_; rintro e w3 ⟨rfl, hv, hf⟩; have HS3 := Lib.hid ((HS2.out.drew kept_case).next kept_case hv hf (by have := L3.out; omega)); have HF3 := Lib.hid (HF2.out.drew.trans hf); clear hv hf)
  go_end0
  exact ⟨rfl, HS3.out.wr, HF3.out⟩
theorem adds_param : Adds (eParam wayP) 27 := fun x s => by
  have a0 := adds_text 24 x.name (s)
  have a1 := adds_num 1 x.bits (pText 24 x.name (s))
  show (wNum 1 x.bits (pText 24 x.name (s))).l.length ≤ _
  omega
set_option maxRecDepth 100000 in
set_option maxHeartbeats 1000000 in
theorem eparam_any (x : ParamD) (h : Set3 ParamV C K Y X B w s b o x) (hl : s.l.length + 27 ≤ 2000000) :
    Calls Try.prog 91 #[.pointer (some ⟨K, 0, none⟩), .pointer (some ⟨b, o, none⟩)] w (Wrote X B (eParam wayP x s) w) := by
  have a0 := adds_text 24 x.name (s)
  have a1 := adds_num 1 x.bits (pText 24 x.name (s))
  have L1 := Lib.hid (show (pText 24 x.name (s)).l.length + 1 ≤ 2000000 from by omega)
  have L2 := Lib.hid (show (wNum 1 x.bits (pText 24 x.name (s))).l.length + 0 ≤ 2000000 from by omega)
  have L0 := Lib.hid hl
  have HS0 := Lib.hid h
  have HF0 := Lib.hid (Fr.refl X B w)
  clear h hl a0 a1
  go_enter Try.func91, Try.ntmps91
  go_wp2_with (go_at_call 86; refine (cname_any x.name (part_param_name HS0.out)).mono ?_; rintro e w1 ⟨rfl, hv, hf⟩; have HS1 := Lib.hid (HS0.out.next kept_param hv hf (by have := L1.out; omega)); have HF1 := Lib.hid (HF0.out.trans hf); clear hv hf)
  have kk := HS1.out.cod.k1
  go_still_tail 7, (by kernel_rfl)
  change wpList _ _ _ _ _ w1.drew
  clear kk
  go_wp2_with (go_at_call 37; refine (cnum1_any x.bits (part_param_bits (HS1.out.drew kept_param))).mono ?_; rintro e w2 ⟨rfl, hv, hf⟩; have HS2 := Lib.hid ((HS1.out.drew kept_param).next kept_param hv hf (by have := L2.out; omega)); have HF2 := Lib.hid (HF1.out.drew.trans hf); clear hv hf)
  go_end0
  exact ⟨rfl, HS2.out.wr, HF2.out⟩
theorem adds_prim : Adds ePrim 23 := fun x s => by
  have a0 := adds_num 1 x.op (s)
  have a1 := adds_num 2 x.dst (wNum 1 x.op (s))
  have a2 := adds_num 1 x.kind (wNum 2 x.dst (wNum 1 x.op (s)))
  have a3 := adds_num 2 x.n (wNum 1 x.kind (wNum 2 x.dst (wNum 1 x.op (s))))
  have a4 := adds_val x.val (wNum 2 x.n (wNum 1 x.kind (wNum 2 x.dst (wNum 1 x.op (s)))))
  show (wVal x.val (wNum 2 x.n (wNum 1 x.kind (wNum 2 x.dst (wNum 1 x.op (s)))))).l.length ≤ _
  omega
set_option maxRecDepth 100000 in
set_option maxHeartbeats 1000000 in
theorem eprim_any (x : PrimD) (h : Set3 PrimV C K Y X B w s b o x) (hl : s.l.length + 23 ≤ 2000000) :
    Calls Try.prog 93 #[.pointer (some ⟨K, 0, none⟩), .pointer (some ⟨b, o, none⟩)] w (Wrote X B (ePrim x s) w) := by
  have a0 := adds_num 1 x.op (s)
  have a1 := adds_num 2 x.dst (wNum 1 x.op (s))
  have a2 := adds_num 1 x.kind (wNum 2 x.dst (wNum 1 x.op (s)))
  have a3 := adds_num 2 x.n (wNum 1 x.kind (wNum 2 x.dst (wNum 1 x.op (s))))
  have a4 := adds_val x.val (wNum 2 x.n (wNum 1 x.kind (wNum 2 x.dst (wNum 1 x.op (s)))))
  have L1 := Lib.hid (show (wNum 1 x.op (s)).l.length + 22 ≤ 2000000 from by omega)
  have L2 := Lib.hid (show (wNum 2 x.dst (wNum 1 x.op (s))).l.length + 20 ≤ 2000000 from by omega)
  have L3 := Lib.hid (show (wNum 1 x.kind (wNum 2 x.dst (wNum 1 x.op (s)))).l.length + 19 ≤ 2000000 from by omega)
  have L4 := Lib.hid (show (wNum 2 x.n (wNum 1 x.kind (wNum 2 x.dst (wNum 1 x.op (s))))).l.length + 17 ≤ 2000000 from by omega)
  have L5 := Lib.hid (show (wVal x.val (wNum 2 x.n (wNum 1 x.kind (wNum 2 x.dst (wNum 1 x.op (s)))))).l.length + 0 ≤ 2000000 from by omega)
  have L0 := Lib.hid hl
  have HS0 := Lib.hid h
  have HF0 := Lib.hid (Fr.refl X B w)
  clear h hl a0 a1 a2 a3 a4
  go_enter Try.func93, Try.ntmps93
  go_wp2
  have kk := HS0.out.cod.k1
  go_still_tail 7, (by kernel_rfl)
  change wpList _ _ _ _ _ w.drew
  clear kk
  go_wp2_with (go_at_call 37; refine (cnum1_any x.op (part_prim_op (HS0.out.drew kept_prim))).mono ?_; rintro e w1 ⟨rfl, hv, hf⟩; have HS1 := Lib.hid ((HS0.out.drew kept_prim).next kept_prim hv hf (by have := L1.out; omega)); have HF1 := Lib.hid (HF0.out.drew.trans hf); clear hv hf)
  have kk := HS1.out.cod.k0
  go_still_tail 7, (by kernel_rfl)
  change wpList _ _ _ _ _ w1.drew
  clear kk
  go_wp2_with (go_at_call 35; refine (cnum2_any x.dst (part_prim_dst (HS1.out.drew kept_prim))).mono ?_; rintro e w2 ⟨rfl, hv, hf⟩; have HS2 := Lib.hid ((HS1.out.drew kept_prim).next kept_prim hv hf (by have := L2.out; omega)); have HF2 := Lib.hid (HF1.out.drew.trans hf); clear hv hf)
  have kk := HS2.out.cod.k1
  go_still_tail 8, (by kernel_rfl)
  change wpList _ _ _ _ _ w2.drew
  clear kk
  go_wp2_with (go_at_call 37; refine (cnum1_any x.kind (part_prim_kind (HS2.out.drew kept_prim))).mono ?_; rintro e w3 ⟨rfl, hv, hf⟩; have HS3 := Lib.hid ((HS2.out.drew kept_prim).next kept_prim hv hf (by have := L3.out; omega)); have HF3 := Lib.hid (HF2.out.drew.trans hf); clear hv hf)
  have kk := HS3.out.cod.k0
  go_still_tail 8, (by kernel_rfl)
  change wpList _ _ _ _ _ w3.drew
  clear kk
  go_wp2_with (go_at_call 35; refine (cnum2_any x.n (part_prim_n (HS3.out.drew kept_prim))).mono ?_; rintro e w4 ⟨rfl, hv, hf⟩; have HS4 := Lib.hid ((HS3.out.drew kept_prim).next kept_prim hv hf (by have := L4.out; omega)); have HF4 := Lib.hid (HF3.out.drew.trans hf); clear hv hf)
  have kk := HS4.out.cod.k3
  go_still_tail 8, (by kernel_rfl)
  change wpList _ _ _ _ _ w4.drew
  clear kk
  go_wp2_with (go_at_call 41; refine (cval_any x.val (part_prim_val (HS4.out.drew kept_prim))).mono ?_; rintro e w5 ⟨rfl, hv, hf⟩; have HS5 := Lib.hid ((HS4.out.drew kept_prim).next kept_prim hv hf (by have := L5.out; omega)); have HF5 := Lib.hid (HF4.out.drew.trans hf); clear hv hf)
  go_end0
  exact ⟨rfl, HS5.out.wr, HF5.out⟩
theorem adds_key : Adds (eKey wayP) 29 := fun x s => by
  have a0 := adds_text 24 x.name (s)
  have a1 := adds_num 2 x.field (pText 24 x.name (s))
  have a2 := adds_num 1 x.kind (wNum 2 x.field (pText 24 x.name (s)))
  show (wNum 1 x.kind (wNum 2 x.field (pText 24 x.name (s)))).l.length ≤ _
  omega
set_option maxRecDepth 100000 in
set_option maxHeartbeats 1000000 in
theorem ekey_any (x : KeyD) (h : Set3 KeyV C K Y X B w s b o x) (hl : s.l.length + 29 ≤ 2000000) :
    Calls Try.prog 96 #[.pointer (some ⟨K, 0, none⟩), .pointer (some ⟨b, o, none⟩)] w (Wrote X B (eKey wayP x s) w) := by
  have a0 := adds_text 24 x.name (s)
  have a1 := adds_num 2 x.field (pText 24 x.name (s))
  have a2 := adds_num 1 x.kind (wNum 2 x.field (pText 24 x.name (s)))
  have L1 := Lib.hid (show (pText 24 x.name (s)).l.length + 3 ≤ 2000000 from by omega)
  have L2 := Lib.hid (show (wNum 2 x.field (pText 24 x.name (s))).l.length + 1 ≤ 2000000 from by omega)
  have L3 := Lib.hid (show (wNum 1 x.kind (wNum 2 x.field (pText 24 x.name (s)))).l.length + 0 ≤ 2000000 from by omega)
  have L0 := Lib.hid hl
  have HS0 := Lib.hid h
  have HF0 := Lib.hid (Fr.refl X B w)
  clear h hl a0 a1 a2
  go_enter Try.func96, Try.ntmps96
  go_wp2_with (go_at_call 86; refine (cname_any x.name (part_key_name HS0.out)).mono ?_; rintro e w1 ⟨rfl, hv, hf⟩; have HS1 := Lib.hid (HS0.out.next kept_key hv hf (by have := L1.out; omega)); have HF1 := Lib.hid (HF0.out.trans hf); clear hv hf)
  have kk := HS1.out.cod.k0
  go_still_tail 7, (by kernel_rfl)
  change wpList _ _ _ _ _ w1.drew
  clear kk
  go_wp2_with (go_at_call 35; refine (cnum2_any x.field (part_key_field (HS1.out.drew kept_key))).mono ?_; rintro e w2 ⟨rfl, hv, hf⟩; have HS2 := Lib.hid ((HS1.out.drew kept_key).next kept_key hv hf (by have := L2.out; omega)); have HF2 := Lib.hid (HF1.out.drew.trans hf); clear hv hf)
  have kk := HS2.out.cod.k1
  go_still_tail 7, (by kernel_rfl)
  change wpList _ _ _ _ _ w2.drew
  clear kk
  go_wp2_with (go_at_call 37; refine (cnum1_any x.kind (part_key_kind (HS2.out.drew kept_key))).mono ?_; rintro e w3 ⟨rfl, hv, hf⟩; have HS3 := Lib.hid ((HS2.out.drew kept_key).next kept_key hv hf (by have := L3.out; omega)); have HF3 := Lib.hid (HF2.out.drew.trans hf); clear hv hf)
  go_end0
  exact ⟨rfl, HS3.out.wr, HF3.out⟩
theorem adds_stage : Adds eStage 4 := fun x s => by
  have a0 := adds_num 2 x.table (s)
  have a1 := adds_num 2 x.header (wNum 2 x.table (s))
  show (wNum 2 x.header (wNum 2 x.table (s))).l.length ≤ _
  omega
set_option maxRecDepth 100000 in
set_option maxHeartbeats 1000000 in
theorem estage_any (x : StageD) (h : Set3 StageV C K Y X B w s b o x) (hl : s.l.length + 4 ≤ 2000000) :
    Calls Try.prog 57 #[.pointer (some ⟨K, 0, none⟩), .pointer (some ⟨b, o, none⟩)] w (Wrote X B (eStage x s) w) := by
  have a0 := adds_num 2 x.table (s)
  have a1 := adds_num 2 x.header (wNum 2 x.table (s))
  have L1 := Lib.hid (show (wNum 2 x.table (s)).l.length + 2 ≤ 2000000 from by omega)
  have L2 := Lib.hid (show (wNum 2 x.header (wNum 2 x.table (s))).l.length + 0 ≤ 2000000 from by omega)
  have L0 := Lib.hid hl
  have HS0 := Lib.hid h
  have HF0 := Lib.hid (Fr.refl X B w)
  clear h hl a0 a1
  go_enter Try.func57, Try.ntmps57
  go_wp2
  have kk := HS0.out.cod.k0
  go_still_tail 7, (by kernel_rfl)
  change wpList _ _ _ _ _ w.drew
  clear kk
  go_wp2_with (go_at_call 35; refine (cnum2_any x.table (part_stage_table (HS0.out.drew kept_stage))).mono ?_; rintro e w1 ⟨rfl, hv, hf⟩; have HS1 := Lib.hid ((HS0.out.drew kept_stage).next kept_stage hv hf (by have := L1.out; omega)); have HF1 := Lib.hid (HF0.out.drew.trans hf); clear hv hf)
  have kk := HS1.out.cod.k0
  go_still_tail 7, (by kernel_rfl)
  change wpList _ _ _ _ _ w1.drew
  clear kk
  go_wp2_with (go_at_call 35; refine (cnum2_any x.header (part_stage_header (HS1.out.drew kept_stage))).mono ?_; rintro e w2 ⟨rfl, hv, hf⟩; have HS2 := Lib.hid ((HS1.out.drew kept_stage).next kept_stage hv hf (by have := L2.out; omega)); have HF2 := Lib.hid (HF1.out.drew.trans hf); clear hv hf)
  go_end0
  exact ⟨rfl, HS2.out.wr, HF2.out⟩
end
end Go.Proofs.Ytljmiickhkkceaa
