/- read of the law: an element is read by the program and by the reference. -/
import Derived.Test.YthfimcbjbkbcjaaWOnceWalk
import Derived.Test.YthfimcbjbkbcjaaWRefR5
import Derived.Deep.RegionHeld3
import Derived.Deep.DrawnRows
namespace Go.Proofs.Ythfimcbjbkbcjaa
open Go.RowKit
attribute [local go_sem ↓] Go.wp_at_zero Go.wp_at_succ

/-- The two readers: of the program in block R, of the reference in block X; both have the bytes l before them and the first error e. -/
def Both (R D X E : Nat) (l : List Nat) (e : Int) (w : World) : Prop := (∃ A n cap, RdAt w R D l e A n cap) ∧ ∃ A n cap, RdAt w X E l e A n cap
/-- The call returns true; the two readers are alike again; nothing below block B is changed. -/
def ReadRet (B R D X E : Nat) (w : World) (en : Ending) (w' : World) : Prop := en = .returned (.bool true) ∧ Below B w w' ∧ ∃ l' e', Both R D X E l' e' w'
theorem below_row {B R : Nat} {w w' : World} (hg : w.grownBy w' (some R)) (hR : B ≤ R) (hB : B ≤ w.heap.size) : Below B w w' :=
  (Below.refl B w).grown hg hB fun k hk => by injection hk with hk; omega
theorem below_drew {B : Nat} {w w' : World} (h : Below B w.drew w') : Below B w w' := ⟨h.os, h.tape, h.output, h.size, h.block⟩
theorem RdAt.drew {w : World} {R D n cap : Nat} {l : List Nat} {e : Int} {A : Option Addr} (h : RdAt w R D l e A n cap) : RdAt w.drew R D l e A n cap := h.drewN 1
theorem m_value' (R D : Nat) (l : List Nat) (A : Option Addr) (n cap : Nat) (w : World) (e : Int) (u : Nat) (hu : Hid (pick (vE l) e 0 (pV (vX l)) = u)) (hR : RdAt w R D l e A n cap) :
    Calls Try.prog 24 #[.pointer (some ⟨R, 0, none⟩)] w (Meth R D (.agg #[.int .u64 (hi u), .int .u64 (lo u)]) (stL (vE l) (vK l) l e) (stE (vE l) e) w) := by
  have h := m_value R D l A n cap w e hR
  rw [hu.out] at h
  exact h
theorem x_value' (R D : Nat) (l : List Nat) (A : Option Addr) (n cap : Nat) (w : World) (e : Int) (u : Nat) (hu : Hid (pick (vE l) e 0 (pV (vX l)) = u)) (hR : RdAt w R D l e A n cap) :
    Calls Try.prog 25 #[.pointer (some ⟨R, 0, none⟩)] w (Meth R D (.agg #[.int .u64 (hi u), .int .u64 (lo u)]) (stL (vE l) (vK l) l e) (stE (vE l) e) w) := by
  have h := x_value R D l A n cap w e hR
  rw [hu.out] at h
  exact h
section
variable (B R D X E : Nat) (l : List Nat) (e : Int) (A A' : Option Addr) (n n' cap cap' : Nat) (w : World)
variable (kind nn most : Int) (val : Nat) (sA : Option Addr) (sn sc : Nat)
set_option maxRecDepth 100000 in
set_option maxHeartbeats 2000000 in
theorem both_0 (hand : bits .and .i64 kind 7 = 0) (hn1 : -9223372036854775808 ≤ nn) (hn2 : nn ≤ 9223372036854775807) (hR : RdAt w R D l e A n cap) (hX : RdAt w X E l e A' n' cap') (hRX : R ≠ X) (hRE : R ≠ E) (hXD : X ≠ D) (hBR : B ≤ R) (hBX : B ≤ X) (hB : B ≤ w.heap.size) :
    Calls Try.prog 11 #[.pointer (some ⟨R, 0, none⟩), .pointer (some ⟨X, 0, none⟩), .agg #[.int .i64 kind, .int .i64 nn, .int .i64 most, .int .u64 (hi val), .int .u64 (lo val), .slice sA sn sc]] w (ReadRet B R D X E w) := by
  have HA1 : Hid (-9223372036854775808 ≤ nn) := Lib.hid (by omega)
  have HA2 : Hid (nn ≤ 9223372036854775807) := Lib.hid (by omega)
  have HR0 : Hid (RdAt (w.alloc (.cells #[.int .i64 kind, .int .i64 nn, .int .i64 most, .int .u64 (hi val), .int .u64 (lo val), .slice sA sn sc] 28)).drew R D l e A n cap) := Lib.hid (rd_alloc hR _).drew
  have HX0 : Hid (RdAt (w.alloc (.cells #[.int .i64 kind, .int .i64 nn, .int .i64 most, .int .u64 (hi val), .int .u64 (lo val), .slice sA sn sc] 28)).drew X E l e A' n' cap') := Lib.hid (rd_alloc hX _).drew
  have hR0 : w.heap.size ≠ R := by have := hR.lt; omega
  have hX0 : w.heap.size ≠ X := by have := hX.lt; omega
  have hs0 : w.heap.size < w.heap.size + 1 := by omega
  clear hR hX hn1 hn2
  go_enter Try.func11, Try.ntmps11
  go_wp2
  go_region_held3 (fun w' => w'.cell? ⟨w.heap.size, 1, none⟩ = some (.int .i64 nn)) (go_keep) (first
    | (go_at_call 16; first | (refine (m_uint R D l _ _ _ _ nn HA1.out HA2.out e HR1.out).mono ?_; rintro en wm ⟨rfl, Gm, AAm, NNm, CCm, RRm⟩; have km := keep_row Gm (b := w.heap.size) (by first | exact hs1 | simp) hR0; have HFm := Lib.hid RRm; clear RRm) | (refine (m_uint R D l _ _ _ _ nn HA1.out HA2.out e HR0.out).mono ?_; rintro en wm ⟨rfl, Gm, AAm, NNm, CCm, RRm⟩; have hs1 : w.heap.size < wm.heap.size := (by have := Gm.size; simp at this; omega); have km := keep_row Gm (b := w.heap.size) (by first | exact hs1 | simp) hR0; have HX1 := Lib.hid (HX0.out.kept Gm (by simpa using hRX) (by simpa using hRE)); have HFm := Lib.hid RRm; clear RRm))
    | (go_at_call 17; first | (refine (x_uint X E l _ _ _ _ nn HA1.out HA2.out e HX1.out).mono ?_; rintro en wx ⟨rfl, Gx, AAx, NNx, CCx, RRx⟩; have kx := keep_row Gx (b := w.heap.size) (by first | exact hs1 | simp) hX0; have HFx := Lib.hid RRx; clear RRx) | (refine (x_uint X E l _ _ _ _ nn HA1.out HA2.out e HX0.out).mono ?_; rintro en wx ⟨rfl, Gx, AAx, NNx, CCx, RRx⟩; have hs1 : w.heap.size < wx.heap.size := (by have := Gx.size; simp at this; omega); have kx := keep_row Gx (b := w.heap.size) (by first | exact hs1 | simp) hX0; have HR1 := Lib.hid (HR0.out.kept Gx (by simpa using Ne.symm hRX) (by simpa using hXD)); have HFx := Lib.hid RRx; clear RRx)))
  go_wp2
  go_ret
  have b0 : Below B w (w.alloc (.cells #[.int .i64 kind, .int .i64 nn, .int .i64 most, .int .u64 (hi val), .int .u64 (lo val), .slice sA sn sc] 28)).drew := ((Below.refl B w).alloc hB _).drew
  have b1 := b0.grown Gm (Nat.le_trans hB b0.size) (fun j hj => by injection hj with hj; omega)
  have b2 := b1.grown Gx (Nat.le_trans hB b1.size) (fun j hj => by injection hj with hj; omega)
  exact ⟨rfl, b2, _, _, ⟨_, _, _, HFm.out.kept Gx (by simpa using Ne.symm hRX) (by simpa using hXD)⟩, _, _, _, HFx.out⟩
set_option maxRecDepth 100000 in
set_option maxHeartbeats 2000000 in
theorem both_1 (hand : bits .and .i64 kind 7 = 1) (hR : RdAt w R D l e A n cap) (hX : RdAt w X E l e A' n' cap') (hRX : R ≠ X) (hRE : R ≠ E) (hXD : X ≠ D) (hBR : B ≤ R) (hBX : B ≤ X) (hB : B ≤ w.heap.size) :
    Calls Try.prog 11 #[.pointer (some ⟨R, 0, none⟩), .pointer (some ⟨X, 0, none⟩), .agg #[.int .i64 kind, .int .i64 nn, .int .i64 most, .int .u64 (hi val), .int .u64 (lo val), .slice sA sn sc]] w (ReadRet B R D X E w) := by
  have HA1 : Hid (-9223372036854775808 ≤ (1 + nn % 4)) := Lib.hid (by omega)
  have HA2 : Hid ((1 + nn % 4) ≤ 9223372036854775807) := Lib.hid (by omega)
  have hm : bits .and .i64 nn 3 = nn % 4 := i64_mask nn 2 (by decide)
  have hw : IntKind.i64.wrap (1 + nn % 4) = 1 + nn % 4 := IntWalk.i64_in _ (by omega)
  have HR0 : Hid (RdAt (w.alloc (.cells #[.int .i64 kind, .int .i64 nn, .int .i64 most, .int .u64 (hi val), .int .u64 (lo val), .slice sA sn sc] 28)).drew R D l e A n cap) := Lib.hid (rd_alloc hR _).drew
  have HX0 : Hid (RdAt (w.alloc (.cells #[.int .i64 kind, .int .i64 nn, .int .i64 most, .int .u64 (hi val), .int .u64 (lo val), .slice sA sn sc] 28)).drew X E l e A' n' cap') := Lib.hid (rd_alloc hX _).drew
  have hR0 : w.heap.size ≠ R := by have := hR.lt; omega
  have hX0 : w.heap.size ≠ X := by have := hX.lt; omega
  have hs0 : w.heap.size < w.heap.size + 1 := by omega
  clear hR hX
  go_enter Try.func11, Try.ntmps11
  go_wp2
  go_region_held3 (fun w' => w'.cell? ⟨w.heap.size, 1, none⟩ = some (.int .i64 nn)) (go_keep) (first
    | (go_at_call 16; first | (refine (m_uint R D l _ _ _ _ (1 + nn % 4) HA1.out HA2.out e HR1.out).mono ?_; rintro en wm ⟨rfl, Gm, AAm, NNm, CCm, RRm⟩; have km := keep_row Gm (b := w.heap.size) (by first | exact hs1 | simp) hR0; have HFm := Lib.hid RRm; clear RRm) | (refine (m_uint R D l _ _ _ _ (1 + nn % 4) HA1.out HA2.out e HR0.out).mono ?_; rintro en wm ⟨rfl, Gm, AAm, NNm, CCm, RRm⟩; have hs1 : w.heap.size < wm.heap.size := (by have := Gm.size; simp at this; omega); have km := keep_row Gm (b := w.heap.size) (by first | exact hs1 | simp) hR0; have HX1 := Lib.hid (HX0.out.kept Gm (by simpa using hRX) (by simpa using hRE)); have HFm := Lib.hid RRm; clear RRm))
    | (go_at_call 17; first | (refine (x_uint X E l _ _ _ _ (1 + nn % 4) HA1.out HA2.out e HX1.out).mono ?_; rintro en wx ⟨rfl, Gx, AAx, NNx, CCx, RRx⟩; have kx := keep_row Gx (b := w.heap.size) (by first | exact hs1 | simp) hX0; have HFx := Lib.hid RRx; clear RRx) | (refine (x_uint X E l _ _ _ _ (1 + nn % 4) HA1.out HA2.out e HX0.out).mono ?_; rintro en wx ⟨rfl, Gx, AAx, NNx, CCx, RRx⟩; have hs1 : w.heap.size < wx.heap.size := (by have := Gx.size; simp at this; omega); have kx := keep_row Gx (b := w.heap.size) (by first | exact hs1 | simp) hX0; have HR1 := Lib.hid (HR0.out.kept Gx (by simpa using Ne.symm hRX) (by simpa using hXD)); have HFx := Lib.hid RRx; clear RRx)))
  go_wp2
  go_ret
  have b0 : Below B w (w.alloc (.cells #[.int .i64 kind, .int .i64 nn, .int .i64 most, .int .u64 (hi val), .int .u64 (lo val), .slice sA sn sc] 28)).drew := ((Below.refl B w).alloc hB _).drew
  have b1 := b0.grown Gm (Nat.le_trans hB b0.size) (fun j hj => by injection hj with hj; omega)
  have b2 := b1.grown Gx (Nat.le_trans hB b1.size) (fun j hj => by injection hj with hj; omega)
  exact ⟨rfl, b2, _, _, ⟨_, _, _, HFm.out.kept Gx (by simpa using Ne.symm hRX) (by simpa using hXD)⟩, _, _, _, HFx.out⟩
set_option maxRecDepth 100000 in
set_option maxHeartbeats 2000000 in
theorem both_2 (hand : bits .and .i64 kind 7 = 2) (hR : RdAt w R D l e A n cap) (hX : RdAt w X E l e A' n' cap') (hRX : R ≠ X) (hRE : R ≠ E) (hXD : X ≠ D) (hBR : B ≤ R) (hBX : B ≤ X) (hB : B ≤ w.heap.size) :
    Calls Try.prog 11 #[.pointer (some ⟨R, 0, none⟩), .pointer (some ⟨X, 0, none⟩), .agg #[.int .i64 kind, .int .i64 nn, .int .i64 most, .int .u64 (hi val), .int .u64 (lo val), .slice sA sn sc]] w (ReadRet B R D X E w) := by
  have HR0 : Hid (RdAt (w.alloc (.cells #[.int .i64 kind, .int .i64 nn, .int .i64 most, .int .u64 (hi val), .int .u64 (lo val), .slice sA sn sc] 28)) R D l e A n cap) := Lib.hid (rd_alloc hR _)
  have HX0 : Hid (RdAt (w.alloc (.cells #[.int .i64 kind, .int .i64 nn, .int .i64 most, .int .u64 (hi val), .int .u64 (lo val), .slice sA sn sc] 28)) X E l e A' n' cap') := Lib.hid (rd_alloc hX _)
  have hR0 : w.heap.size ≠ R := by have := hR.lt; omega
  have hX0 : w.heap.size ≠ X := by have := hX.lt; omega
  have hs0 : w.heap.size < w.heap.size + 1 := by omega
  clear hR hX
  go_enter Try.func11, Try.ntmps11
  go_wp2_with (first
    | (go_at_call 18; first | (refine (m_bool R D l _ _ _ _ e HR1.out).mono ?_; rintro en wm ⟨rfl, Gm, AAm, NNm, CCm, RRm⟩; have km := keep_row Gm (b := w.heap.size) (by first | exact hs1 | simp) hR0; have HFm := Lib.hid RRm; clear RRm) | (refine (m_bool R D l _ _ _ _ e HR0.out).mono ?_; rintro en wm ⟨rfl, Gm, AAm, NNm, CCm, RRm⟩; have hs1 : w.heap.size < wm.heap.size := (by have := Gm.size; simp at this; omega); have km := keep_row Gm (b := w.heap.size) (by first | exact hs1 | simp) hR0; have HX1 := Lib.hid (HX0.out.kept Gm (by simpa using hRX) (by simpa using hRE)); have HFm := Lib.hid RRm; clear RRm))
    | (go_at_call 19; first | (refine (x_bool X E l _ _ _ _ e HX1.out).mono ?_; rintro en wx ⟨rfl, Gx, AAx, NNx, CCx, RRx⟩; have kx := keep_row Gx (b := w.heap.size) (by first | exact hs1 | simp) hX0; have HFx := Lib.hid RRx; clear RRx) | (refine (x_bool X E l _ _ _ _ e HX0.out).mono ?_; rintro en wx ⟨rfl, Gx, AAx, NNx, CCx, RRx⟩; have hs1 : w.heap.size < wx.heap.size := (by have := Gx.size; simp at this; omega); have kx := keep_row Gx (b := w.heap.size) (by first | exact hs1 | simp) hX0; have HR1 := Lib.hid (HR0.out.kept Gx (by simpa using Ne.symm hRX) (by simpa using hXD)); have HFx := Lib.hid RRx; clear RRx)))
  go_ret
  have b0 : Below B w (w.alloc (.cells #[.int .i64 kind, .int .i64 nn, .int .i64 most, .int .u64 (hi val), .int .u64 (lo val), .slice sA sn sc] 28)) := ((Below.refl B w).alloc hB _)
  have b1 := b0.grown Gm (Nat.le_trans hB b0.size) (fun j hj => by injection hj with hj; omega)
  have b2 := b1.grown Gx (Nat.le_trans hB b1.size) (fun j hj => by injection hj with hj; omega)
  exact ⟨rfl, b2, _, _, ⟨_, _, _, HFm.out.kept Gx (by simpa using Ne.symm hRX) (by simpa using hXD)⟩, _, _, _, HFx.out⟩
set_option maxRecDepth 100000 in
set_option maxHeartbeats 2000000 in
theorem both_3 (hand : bits .and .i64 kind 7 = 3) (hR : RdAt w R D l e A n cap) (hX : RdAt w X E l e A' n' cap') (hRX : R ≠ X) (hRE : R ≠ E) (hXD : X ≠ D) (hBR : B ≤ R) (hBX : B ≤ X) (hB : B ≤ w.heap.size) :
    Calls Try.prog 11 #[.pointer (some ⟨R, 0, none⟩), .pointer (some ⟨X, 0, none⟩), .agg #[.int .i64 kind, .int .i64 nn, .int .i64 most, .int .u64 (hi val), .int .u64 (lo val), .slice sA sn sc]] w (ReadRet B R D X E w) := by
  have HR0 : Hid (RdAt (w.alloc (.cells #[.int .i64 kind, .int .i64 nn, .int .i64 most, .int .u64 (hi val), .int .u64 (lo val), .slice sA sn sc] 28)).drew R D l e A n cap) := Lib.hid (rd_alloc hR _).drew
  have HX0 : Hid (RdAt (w.alloc (.cells #[.int .i64 kind, .int .i64 nn, .int .i64 most, .int .u64 (hi val), .int .u64 (lo val), .slice sA sn sc] 28)).drew X E l e A' n' cap') := Lib.hid (rd_alloc hX _).drew
  have hR0 : w.heap.size ≠ R := by have := hR.lt; omega
  have hX0 : w.heap.size ≠ X := by have := hX.lt; omega
  have hs0 : w.heap.size < w.heap.size + 1 := by omega
  clear hR hX
  go_enter Try.func11, Try.ntmps11
  go_wp2
  go_region_with (first
    | (go_at_call 20; first | (refine (m_bytes R D l _ _ _ _ most e HR1.out).mono ?_; rintro en wm ⟨Abm, nbm, cbm, gbm, hrbm, hlbm, hnbm, rfl, Gm, AAm, NNm, CCm, RRm⟩; have km := keep_row Gm (b := w.heap.size) (by first | exact hs1 | simp) hR0; have cvm := conv_list cbm hrbm hnbm.out.symm; have HFm := Lib.hid RRm; clear RRm) | (refine (m_bytes R D l _ _ _ _ most e HR0.out).mono ?_; rintro en wm ⟨Abm, nbm, cbm, gbm, hrbm, hlbm, hnbm, rfl, Gm, AAm, NNm, CCm, RRm⟩; have hs1 : w.heap.size < wm.heap.size := (by have := Gm.size; simp at this; omega); have km := keep_row Gm (b := w.heap.size) (by first | exact hs1 | simp) hR0; have HX1 := Lib.hid (HX0.out.kept Gm (by simpa using hRX) (by simpa using hRE)); have cvm := conv_list cbm hrbm hnbm.out.symm; have HFm := Lib.hid RRm; clear RRm))
    | (go_at_call 21; first | (refine (x_bytes X E l _ _ _ _ most e HX1.out).mono ?_; rintro en wx ⟨Abx, nbx, cbx, gbx, hrbx, hlbx, hnbx, rfl, Gx, AAx, NNx, CCx, RRx⟩; have kx := keep_row Gx (b := w.heap.size) (by first | exact hs1 | simp) hX0; have cvx := conv_list cbx hrbx hnbx.out.symm; have cvm2 := conv_list cbm (hrbm.kept Gx (by have := HX0.out.lt; simp; omega)) hnbm.out.symm; have HFx := Lib.hid RRx; clear RRx) | (refine (x_bytes X E l _ _ _ _ most e HX0.out).mono ?_; rintro en wx ⟨Abx, nbx, cbx, gbx, hrbx, hlbx, hnbx, rfl, Gx, AAx, NNx, CCx, RRx⟩; have hs1 : w.heap.size < wx.heap.size := (by have := Gx.size; simp at this; omega); have kx := keep_row Gx (b := w.heap.size) (by first | exact hs1 | simp) hX0; have HR1 := Lib.hid (HR0.out.kept Gx (by simpa using Ne.symm hRX) (by simpa using hXD)); have cvx := conv_list cbx hrbx hnbx.out.symm; have cvm2 := conv_list cbm (hrbm.kept Gx (by have := HX0.out.lt; simp; omega)) hnbm.out.symm; have HFx := Lib.hid RRx; clear RRx)))
  all_goals go_wp2
  all_goals go_ret
  all_goals have b0 : Below B w (w.alloc (.cells #[.int .i64 kind, .int .i64 nn, .int .i64 most, .int .u64 (hi val), .int .u64 (lo val), .slice sA sn sc] 28)).drew := ((Below.refl B w).alloc hB _).drew
  all_goals have b1 := b0.grown Gm (Nat.le_trans hB b0.size) (fun j hj => by injection hj with hj; omega)
  all_goals have b2 := b1.grown Gx (Nat.le_trans hB b1.size) (fun j hj => by injection hj with hj; omega)
  all_goals exact ⟨rfl, b2, _, _, ⟨_, _, _, HFm.out.kept Gx (by simpa using Ne.symm hRX) (by simpa using hXD)⟩, _, _, _, HFx.out⟩
set_option maxRecDepth 100000 in
set_option maxHeartbeats 2000000 in
theorem both_4 (hand : bits .and .i64 kind 7 = 4) (hR : RdAt w R D l e A n cap) (hX : RdAt w X E l e A' n' cap') (hRX : R ≠ X) (hRE : R ≠ E) (hXD : X ≠ D) (hBR : B ≤ R) (hBX : B ≤ X) (hB : B ≤ w.heap.size) :
    Calls Try.prog 11 #[.pointer (some ⟨R, 0, none⟩), .pointer (some ⟨X, 0, none⟩), .agg #[.int .i64 kind, .int .i64 nn, .int .i64 most, .int .u64 (hi val), .int .u64 (lo val), .slice sA sn sc]] w (ReadRet B R D X E w) := by
  have hm : bits .and .i64 most 63 = most % 64 := i64_mask most 6 (by decide)
  have HR0 : Hid (RdAt (w.alloc (.cells #[.int .i64 kind, .int .i64 nn, .int .i64 most, .int .u64 (hi val), .int .u64 (lo val), .slice sA sn sc] 28)).drew R D l e A n cap) := Lib.hid (rd_alloc hR _).drew
  have HX0 : Hid (RdAt (w.alloc (.cells #[.int .i64 kind, .int .i64 nn, .int .i64 most, .int .u64 (hi val), .int .u64 (lo val), .slice sA sn sc] 28)).drew X E l e A' n' cap') := Lib.hid (rd_alloc hX _).drew
  have hR0 : w.heap.size ≠ R := by have := hR.lt; omega
  have hX0 : w.heap.size ≠ X := by have := hX.lt; omega
  have hs0 : w.heap.size < w.heap.size + 1 := by omega
  clear hR hX
  go_enter Try.func11, Try.ntmps11
  go_wp2
  go_region_held3 (fun w' => w'.cell? ⟨w.heap.size, 2, none⟩ = some (.int .i64 most)) (go_keep) (first
    | (go_at_call 22; first | (refine (m_text R D l _ _ _ _ (most % 64) e HR1.out).mono ?_; rintro en wm ⟨rfl, Gm, AAm, NNm, CCm, RRm⟩; have km := keep_row Gm (b := w.heap.size) (by first | exact hs1 | simp) hR0; have HFm := Lib.hid RRm; clear RRm) | (refine (m_text R D l _ _ _ _ (most % 64) e HR0.out).mono ?_; rintro en wm ⟨rfl, Gm, AAm, NNm, CCm, RRm⟩; have hs1 : w.heap.size < wm.heap.size := (by have := Gm.size; simp at this; omega); have km := keep_row Gm (b := w.heap.size) (by first | exact hs1 | simp) hR0; have HX1 := Lib.hid (HX0.out.kept Gm (by simpa using hRX) (by simpa using hRE)); have HFm := Lib.hid RRm; clear RRm))
    | (go_at_call 23; first | (refine (x_text X E l _ _ _ _ (most % 64) e HX1.out).mono ?_; rintro en wx ⟨rfl, Gx, AAx, NNx, CCx, RRx⟩; have kx := keep_row Gx (b := w.heap.size) (by first | exact hs1 | simp) hX0; have HFx := Lib.hid RRx; clear RRx) | (refine (x_text X E l _ _ _ _ (most % 64) e HX0.out).mono ?_; rintro en wx ⟨rfl, Gx, AAx, NNx, CCx, RRx⟩; have hs1 : w.heap.size < wx.heap.size := (by have := Gx.size; simp at this; omega); have kx := keep_row Gx (b := w.heap.size) (by first | exact hs1 | simp) hX0; have HR1 := Lib.hid (HR0.out.kept Gx (by simpa using Ne.symm hRX) (by simpa using hXD)); have HFx := Lib.hid RRx; clear RRx)))
  go_wp2
  go_ret
  have b0 : Below B w (w.alloc (.cells #[.int .i64 kind, .int .i64 nn, .int .i64 most, .int .u64 (hi val), .int .u64 (lo val), .slice sA sn sc] 28)).drew := ((Below.refl B w).alloc hB _).drew
  have b1 := b0.grown Gm (Nat.le_trans hB b0.size) (fun j hj => by injection hj with hj; omega)
  have b2 := b1.grown Gx (Nat.le_trans hB b1.size) (fun j hj => by injection hj with hj; omega)
  exact ⟨rfl, b2, _, _, ⟨_, _, _, HFm.out.kept Gx (by simpa using Ne.symm hRX) (by simpa using hXD)⟩, _, _, _, HFx.out⟩
set_option maxRecDepth 100000 in
set_option maxHeartbeats 2000000 in
theorem both_5 (hand : bits .and .i64 kind 7 = 5) (hR : RdAt w R D l e A n cap) (hX : RdAt w X E l e A' n' cap') (hRX : R ≠ X) (hRE : R ≠ E) (hXD : X ≠ D) (hBR : B ≤ R) (hBX : B ≤ X) (hB : B ≤ w.heap.size) :
    Calls Try.prog 11 #[.pointer (some ⟨R, 0, none⟩), .pointer (some ⟨X, 0, none⟩), .agg #[.int .i64 kind, .int .i64 nn, .int .i64 most, .int .u64 (hi val), .int .u64 (lo val), .slice sA sn sc]] w (ReadRet B R D X E w) := by
  have HR0 : Hid (RdAt (w.alloc (.cells #[.int .i64 kind, .int .i64 nn, .int .i64 most, .int .u64 (hi val), .int .u64 (lo val), .slice sA sn sc] 28)).drew R D l e A n cap) := Lib.hid (rd_alloc hR _).drew
  have HX0 : Hid (RdAt (w.alloc (.cells #[.int .i64 kind, .int .i64 nn, .int .i64 most, .int .u64 (hi val), .int .u64 (lo val), .slice sA sn sc] 28)).drew X E l e A' n' cap') := Lib.hid (rd_alloc hX _).drew
  have hR0 : w.heap.size ≠ R := by have := hR.lt; omega
  have hX0 : w.heap.size ≠ X := by have := hX.lt; omega
  have hs0 : w.heap.size < w.heap.size + 1 := by omega
  clear hR hX
  go_enter Try.func11, Try.ntmps11
  go_wp2
  go_region_held3 (fun w' => w'.cell? ⟨w.heap.size, 2, none⟩ = some (.int .i64 most)) (go_keep) (first
    | (go_at_call 30; first | (refine (m_count R D l _ _ _ _ most e HR1.out).mono ?_; rintro en wm ⟨rfl, Gm, AAm, NNm, CCm, RRm⟩; have km := keep_row Gm (b := w.heap.size) (by first | exact hs1 | simp) hR0; have HFm := Lib.hid RRm; clear RRm) | (refine (m_count R D l _ _ _ _ most e HR0.out).mono ?_; rintro en wm ⟨rfl, Gm, AAm, NNm, CCm, RRm⟩; have hs1 : w.heap.size < wm.heap.size := (by have := Gm.size; simp at this; omega); have km := keep_row Gm (b := w.heap.size) (by first | exact hs1 | simp) hR0; have HX1 := Lib.hid (HX0.out.kept Gm (by simpa using hRX) (by simpa using hRE)); have HFm := Lib.hid RRm; clear RRm))
    | (go_at_call 38; first | (refine (x_count X E l _ _ _ _ most e HX1.out).mono ?_; rintro en wx ⟨rfl, Gx, AAx, NNx, CCx, RRx⟩; have kx := keep_row Gx (b := w.heap.size) (by first | exact hs1 | simp) hX0; have HFx := Lib.hid RRx; clear RRx) | (refine (x_count X E l _ _ _ _ most e HX0.out).mono ?_; rintro en wx ⟨rfl, Gx, AAx, NNx, CCx, RRx⟩; have hs1 : w.heap.size < wx.heap.size := (by have := Gx.size; simp at this; omega); have kx := keep_row Gx (b := w.heap.size) (by first | exact hs1 | simp) hX0; have HR1 := Lib.hid (HR0.out.kept Gx (by simpa using Ne.symm hRX) (by simpa using hXD)); have HFx := Lib.hid RRx; clear RRx)))
  go_wp2
  go_ret
  have b0 : Below B w (w.alloc (.cells #[.int .i64 kind, .int .i64 nn, .int .i64 most, .int .u64 (hi val), .int .u64 (lo val), .slice sA sn sc] 28)).drew := ((Below.refl B w).alloc hB _).drew
  have b1 := b0.grown Gm (Nat.le_trans hB b0.size) (fun j hj => by injection hj with hj; omega)
  have b2 := b1.grown Gx (Nat.le_trans hB b1.size) (fun j hj => by injection hj with hj; omega)
  exact ⟨rfl, b2, _, _, ⟨_, _, _, HFm.out.kept Gx (by simpa using Ne.symm hRX) (by simpa using hXD)⟩, _, _, _, HFx.out⟩
set_option maxRecDepth 100000 in
set_option maxHeartbeats 2000000 in
theorem both_6 (hand : bits .and .i64 kind 7 = 6) (hR : RdAt w R D l e A n cap) (hX : RdAt w X E l e A' n' cap') (hRX : R ≠ X) (hRE : R ≠ E) (hXD : X ≠ D) (hBR : B ≤ R) (hBX : B ≤ X) (hB : B ≤ w.heap.size) :
    Calls Try.prog 11 #[.pointer (some ⟨R, 0, none⟩), .pointer (some ⟨X, 0, none⟩), .agg #[.int .i64 kind, .int .i64 nn, .int .i64 most, .int .u64 (hi val), .int .u64 (lo val), .slice sA sn sc]] w (ReadRet B R D X E w) := by
  have hm : bits .and .i64 most 255 = most % 256 := i64_mask most 8 (by decide)
  have HR0 : Hid (RdAt (w.alloc (.cells #[.int .i64 kind, .int .i64 nn, .int .i64 most, .int .u64 (hi val), .int .u64 (lo val), .slice sA sn sc] 28)).drew R D l e A n cap) := Lib.hid (rd_alloc hR _).drew
  have HX0 : Hid (RdAt (w.alloc (.cells #[.int .i64 kind, .int .i64 nn, .int .i64 most, .int .u64 (hi val), .int .u64 (lo val), .slice sA sn sc] 28)).drew X E l e A' n' cap') := Lib.hid (rd_alloc hX _).drew
  have hR0 : w.heap.size ≠ R := by have := hR.lt; omega
  have hX0 : w.heap.size ≠ X := by have := hX.lt; omega
  have hs0 : w.heap.size < w.heap.size + 1 := by omega
  clear hR hX
  go_enter Try.func11, Try.ntmps11
  go_wp2
  go_region_held3 (fun w' => w'.cell? ⟨w.heap.size, 2, none⟩ = some (.int .i64 most)) (go_keep) (first
    | (go_at_call 30; first | (refine (m_count R D l _ _ _ _ (most % 256) e HR1.out).mono ?_; rintro en wm ⟨rfl, Gm, AAm, NNm, CCm, RRm⟩; have km := keep_row Gm (b := w.heap.size) (by first | exact hs1 | simp) hR0; have HFm := Lib.hid RRm; clear RRm) | (refine (m_count R D l _ _ _ _ (most % 256) e HR0.out).mono ?_; rintro en wm ⟨rfl, Gm, AAm, NNm, CCm, RRm⟩; have hs1 : w.heap.size < wm.heap.size := (by have := Gm.size; simp at this; omega); have km := keep_row Gm (b := w.heap.size) (by first | exact hs1 | simp) hR0; have HX1 := Lib.hid (HX0.out.kept Gm (by simpa using hRX) (by simpa using hRE)); have HFm := Lib.hid RRm; clear RRm))
    | (go_at_call 38; first | (refine (x_count X E l _ _ _ _ (most % 256) e HX1.out).mono ?_; rintro en wx ⟨rfl, Gx, AAx, NNx, CCx, RRx⟩; have kx := keep_row Gx (b := w.heap.size) (by first | exact hs1 | simp) hX0; have HFx := Lib.hid RRx; clear RRx) | (refine (x_count X E l _ _ _ _ (most % 256) e HX0.out).mono ?_; rintro en wx ⟨rfl, Gx, AAx, NNx, CCx, RRx⟩; have hs1 : w.heap.size < wx.heap.size := (by have := Gx.size; simp at this; omega); have kx := keep_row Gx (b := w.heap.size) (by first | exact hs1 | simp) hX0; have HR1 := Lib.hid (HR0.out.kept Gx (by simpa using Ne.symm hRX) (by simpa using hXD)); have HFx := Lib.hid RRx; clear RRx)))
  go_wp2
  go_ret
  have b0 : Below B w (w.alloc (.cells #[.int .i64 kind, .int .i64 nn, .int .i64 most, .int .u64 (hi val), .int .u64 (lo val), .slice sA sn sc] 28)).drew := ((Below.refl B w).alloc hB _).drew
  have b1 := b0.grown Gm (Nat.le_trans hB b0.size) (fun j hj => by injection hj with hj; omega)
  have b2 := b1.grown Gx (Nat.le_trans hB b1.size) (fun j hj => by injection hj with hj; omega)
  exact ⟨rfl, b2, _, _, ⟨_, _, _, HFm.out.kept Gx (by simpa using Ne.symm hRX) (by simpa using hXD)⟩, _, _, _, HFx.out⟩
set_option maxRecDepth 100000 in
set_option maxHeartbeats 2000000 in
theorem both_7 (hand : bits .and .i64 kind 7 = 7) (hR : RdAt w R D l e A n cap) (hX : RdAt w X E l e A' n' cap') (hRX : R ≠ X) (hRE : R ≠ E) (hXD : X ≠ D) (hBR : B ≤ R) (hBX : B ≤ X) (hB : B ≤ w.heap.size) :
    Calls Try.prog 11 #[.pointer (some ⟨R, 0, none⟩), .pointer (some ⟨X, 0, none⟩), .agg #[.int .i64 kind, .int .i64 nn, .int .i64 most, .int .u64 (hi val), .int .u64 (lo val), .slice sA sn sc]] w (ReadRet B R D X E w) := by
  obtain ⟨u, HU⟩ : ∃ u, Hid (pick (vE l) e 0 (pV (vX l)) = u) := ⟨_, Lib.hid rfl⟩
  have HR0 : Hid (RdAt (w.alloc (.cells #[.int .i64 kind, .int .i64 nn, .int .i64 most, .int .u64 (hi val), .int .u64 (lo val), .slice sA sn sc] 28)) R D l e A n cap) := Lib.hid (rd_alloc hR _)
  have HX0 : Hid (RdAt (w.alloc (.cells #[.int .i64 kind, .int .i64 nn, .int .i64 most, .int .u64 (hi val), .int .u64 (lo val), .slice sA sn sc] 28)) X E l e A' n' cap') := Lib.hid (rd_alloc hX _)
  have hR0 : w.heap.size ≠ R := by have := hR.lt; omega
  have hX0 : w.heap.size ≠ X := by have := hX.lt; omega
  have hs0 : w.heap.size < w.heap.size + 1 := by omega
  clear hR hX
  go_enter Try.func11, Try.ntmps11
  go_wp2_with (first
    | (go_at_call 24; first | (refine (m_value' R D l _ _ _ _ e u HU HR1.out).mono ?_; rintro en wm ⟨rfl, Gm, AAm, NNm, CCm, RRm⟩; have km := keep_row Gm (b := w.heap.size) (by first | exact hs1 | simp) hR0; have HFm := Lib.hid RRm; clear RRm) | (refine (m_value' R D l _ _ _ _ e u HU HR0.out).mono ?_; rintro en wm ⟨rfl, Gm, AAm, NNm, CCm, RRm⟩; have hs1 : w.heap.size < wm.heap.size := (by have := Gm.size; simp at this; omega); have km := keep_row Gm (b := w.heap.size) (by first | exact hs1 | simp) hR0; have HX1 := Lib.hid (HX0.out.kept Gm (by simpa using hRX) (by simpa using hRE)); have HFm := Lib.hid RRm; clear RRm))
    | (go_at_call 25; first | (refine (x_value' X E l _ _ _ _ e u HU HX1.out).mono ?_; rintro en wx ⟨rfl, Gx, AAx, NNx, CCx, RRx⟩; have kx := keep_row Gx (b := w.heap.size) (by first | exact hs1 | simp) hX0; have HFx := Lib.hid RRx; clear RRx) | (refine (x_value' X E l _ _ _ _ e u HU HX0.out).mono ?_; rintro en wx ⟨rfl, Gx, AAx, NNx, CCx, RRx⟩; have hs1 : w.heap.size < wx.heap.size := (by have := Gx.size; simp at this; omega); have kx := keep_row Gx (b := w.heap.size) (by first | exact hs1 | simp) hX0; have HR1 := Lib.hid (HR0.out.kept Gx (by simpa using Ne.symm hRX) (by simpa using hXD)); have HFx := Lib.hid RRx; clear RRx)))
  go_ret
  have b0 : Below B w (w.alloc (.cells #[.int .i64 kind, .int .i64 nn, .int .i64 most, .int .u64 (hi val), .int .u64 (lo val), .slice sA sn sc] 28)) := ((Below.refl B w).alloc hB _)
  have b1 := b0.grown Gm (Nat.le_trans hB b0.size) (fun j hj => by injection hj with hj; omega)
  have b2 := b1.grown Gx (Nat.le_trans hB b1.size) (fun j hj => by injection hj with hj; omega)
  exact ⟨rfl, b2, _, _, ⟨_, _, _, HFm.out.kept Gx (by simpa using Ne.symm hRX) (by simpa using hXD)⟩, _, _, _, HFx.out⟩
end
end Go.Proofs.Ythfimcbjbkbcjaa
