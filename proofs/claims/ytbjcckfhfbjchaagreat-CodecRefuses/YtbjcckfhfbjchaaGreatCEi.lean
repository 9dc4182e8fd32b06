import Derived.Test.YtbjcckfhfbjchaaGreatCEg
import Derived.Deep.RegionHeld3
/- Codec: any part of an operation put, taken (written by ceh_gen.py). -/
namespace Go.Proofs.YtbjcckfhfbjchaaGreat
namespace Cd
open Go.RowKit Go.Deep

/-- what a part lays -/
def partW (d : Ov) : Nat → K.WS → K.WS
  | 0 => planW d.pl
  | 1 => textW 40 d.ky
  | 2 => numW 0 15 d.la
  | 3 => numW 0 1099511627776 d.wo
  | 4 => numW 1 1099511627776 d.tk
  | 5 => textW 64 d.ry
  | 6 => numW 1 1099511627776 d.ru
  | 7 => wordW d.lu
  | _ => numW 0 4611686018427387904 d.ti
/-- what a part reads -/
noncomputable def partR : Nat → K.RS → K.RS
  | 0 => chkR may planR planVal
  | 1 => rowR 40
  | 2 => numR 0 15
  | 3 => numR 0 1099511627776
  | 4 => numR 1 1099511627776
  | 5 => rowR 64
  | 6 => numR 1 1099511627776
  | 7 => wordR
  | _ => numR 0 4611686018427387904
def partV (s : K.RS) (d : Ov) : Nat → Ov
  | 0 => { d with pl := planVal s }
  | 1 => { d with ky := rowV 40 s }
  | 2 => { d with la := iV s }
  | 3 => { d with wo := iV s }
  | 4 => { d with tk := iV s }
  | 5 => { d with ry := rowV 64 s }
  | 6 => { d with ru := iV s }
  | 7 => { d with lu := wordV s }
  | _ => { d with ti := iV s }
/-- an operation that came in -/
structure OpD (B0 : Nat) (w : World) (ki : Int) (nm : ByteArray) (dl : Int) (x1 : Option Addr) (x2 x3 : Nat) (ky : ByteArray) (la : Int) (wo : Int) (tk : Int) (y1 : Option Addr) (y2 y3 : Nat) (ru : Int) (lu : Int) (ti : Int) (d : Ov) (xs : List Gr.No) : Prop where
  eki : d.ki = ki
  epl : d.pl = pv nm dl xs
  erdp : Gr.RdP B0 w (x1, x2, x3) xs
  eky : d.ky = sb ky
  ekyn : ky.size ≤ 140737488351232
  ela : d.la = la ∧ la ≤ 9223372036854775807
  ewo : d.wo = wo ∧ wo ≤ 9223372036854775807
  etk : d.tk = tk ∧ tk ≤ 9223372036854775807
  ery : Rd w y1 y2 d.ry
  eryn : y2 ≤ 140737488351232
  ery0 : y1 = none → y3 = 0
  eryD : y2 ≠ 0 → ∀ b off, y1 = some ⟨b, off, none⟩ → b < B0
  eru : d.ru = ru ∧ ru ≤ 9223372036854775807
  elu : lu = (d.lu : Int) ∧ d.lu < 18446744073709551616
  eti : d.ti = ti ∧ ti ≤ 9223372036854775807
theorem rd_low {w w' : World} {a : Option Addr} {n : Nat} {l : List Nat} {S : Nat → Prop} {B0 : Nat} (h : Rd w a n l) (hk : Keep S w w') (hS : ∀ k, k < B0 → ¬ S k) (hD : n ≠ 0 → ∀ b off, a = some ⟨b, off, none⟩ → b < B0) : Rd w' a n l := by
  by_cases h0 : n = 0
  · exact ⟨h.1, h.2.1, h.2.2.1, .inl h0⟩
  · exact h.stay hk fun b off e => hS b (hD h0 b off e)
theorem OpD.keep {B0 : Nat} {w w' : World} {ki : Int} {nm : ByteArray} {dl : Int} {x1 : Option Addr} {x2 x3 : Nat} {ky : ByteArray} {la wo tk : Int} {y1 : Option Addr} {y2 y3 : Nat} {ru lu ti : Int} {d : Ov} {xs : List Gr.No} (h : OpD B0 w ki nm dl x1 x2 x3 ky la wo tk y1 y2 y3 ru lu ti d xs) {S : Nat → Prop} (hk : Keep S w w') (hS : ∀ k, k < B0 → ¬ S k) : OpD B0 w' ki nm dl x1 x2 x3 ky la wo tk y1 y2 y3 ru lu ti d xs :=
  ⟨h.eki, h.epl, h.erdp.keep hk fun i hi => Nat.not_lt.1 fun h2 => hS i h2 hi, h.eky, h.ekyn, h.ela, h.ewo, h.etk, rd_low h.ery hk hS h.eryD, h.eryn, h.ery0, h.eryD, h.eru, h.elu, h.eti⟩
theorem putP_any (ki : Int) (nm : ByteArray) (dl : Int) (x1 : Option Addr) (x2 x3 : Nat) (ky : ByteArray) (la : Int) (wo : Int) (tk : Int) (y1 : Option Addr) (y2 y3 : Nat) (ru : Int) (lu : Int) (ti : Int) (d : Ov) (xs : List Gr.No) (S : Nat → Prop) (w0 W : World) (p B0 : Nat) (s : K.WS) (h : WAt S w0 p s W) (hB : B0 ≤ w0.heap.size) (hS : ∀ k, k < B0 → ¬ S k) (hd : OpD B0 w0 ki nm dl x1 x2 x3 ky la wo tk y1 y2 y3 ru lu ti d xs) (j : Nat) (hj : j < 9) (hok : j = 0 → POk nm dl xs) :
    Calls Tryz.prog (ptF j) #[.agg #[.int .i64 ki, .string nm, .int .i64 dl, .slice x1 x2 x3, .string ky, .int .i64 la, .int .i64 wo, .int .i64 tk, .slice y1 y2 y3, .int .i64 ru, .int .u64 lu, .int .i64 ti], .pointer (some ⟨p, 0, none⟩)] W fun en w' => en = .returned (.tuple #[]) ∧ WAt S w0 p (putW (partW d j) s) w' := by
  have hd' := hd.keep h.keep hS
  have hBW : B0 ≤ W.heap.size := Nat.le_trans hB h.keep.size
  rcases (by omega : j = 0 ∨ j = 1 ∨ j = 2 ∨ j = 3 ∨ j = 4 ∨ j = 5 ∨ j = 6 ∨ j = 7 ∨ j = 8) with rfl | rfl | rfl | rfl | rfl | rfl | rfl | rfl | rfl
  · show Calls Tryz.prog _ _ _ fun en w' => en = .returned (.tuple #[]) ∧ WAt S w0 p (putW (planW d.pl) s) w'
    rw [hd'.epl]
    exact putPlan_any ki nm dl x1 x2 x3 ky la wo tk y1 y2 y3 ru lu ti S w0 W p B0 s h hB hS xs hd'.erdp hBW (hok rfl)
  · show Calls Tryz.prog _ _ _ fun en w' => en = .returned (.tuple #[]) ∧ WAt S w0 p (putW (textW 40 d.ky) s) w'
    rw [hd'.eky]
    exact putKey_any ki nm dl x1 x2 x3 ky la wo tk y1 y2 y3 ru lu ti S w0 W p B0 s h hB hS hd'.ekyn
  · show Calls Tryz.prog _ _ _ fun en w' => en = .returned (.tuple #[]) ∧ WAt S w0 p (putW (numW 0 15 d.la) s) w'
    rw [hd'.ela.1]
    exact putLane_any ki nm dl x1 x2 x3 ky la wo tk y1 y2 y3 ru lu ti S w0 W p B0 s h hB hS hd'.ela.2
  · show Calls Tryz.prog _ _ _ fun en w' => en = .returned (.tuple #[]) ∧ WAt S w0 p (putW (numW 0 1099511627776 d.wo) s) w'
    rw [hd'.ewo.1]
    exact putWorker_any ki nm dl x1 x2 x3 ky la wo tk y1 y2 y3 ru lu ti S w0 W p B0 s h hB hS hd'.ewo.2
  · show Calls Tryz.prog _ _ _ fun en w' => en = .returned (.tuple #[]) ∧ WAt S w0 p (putW (numW 1 1099511627776 d.tk) s) w'
    rw [hd'.etk.1]
    exact putToken_any ki nm dl x1 x2 x3 ky la wo tk y1 y2 y3 ru lu ti S w0 W p B0 s h hB hS hd'.etk.2
  · exact putResult_any ki nm dl x1 x2 x3 ky la wo tk y1 y2 y3 ru lu ti S w0 W p B0 s h hB hS d.ry hd'.ery hd'.eryn hd'.ery0 hd'.eryD hBW
  · show Calls Tryz.prog _ _ _ fun en w' => en = .returned (.tuple #[]) ∧ WAt S w0 p (putW (numW 1 1099511627776 d.ru) s) w'
    rw [hd'.eru.1]
    exact putRun_any ki nm dl x1 x2 x3 ky la wo tk y1 y2 y3 ru lu ti S w0 W p B0 s h hB hS hd'.eru.2
  · exact putLuck_any ki nm dl x1 x2 x3 ky la wo tk y1 y2 y3 ru lu ti S w0 W p B0 s h hB hS d.lu hd'.elu.2 hd'.elu.1
  · show Calls Tryz.prog _ _ _ fun en w' => en = .returned (.tuple #[]) ∧ WAt S w0 p (putW (numW 0 4611686018427387904 d.ti) s) w'
    rw [hd'.eti.1]
    exact putTicks_any ki nm dl x1 x2 x3 ky la wo tk y1 y2 y3 ru lu ti S w0 W p B0 s h hB hS hd'.eti.2
/-- the operation that is being taken, in its block -/
def OpB (w : World) (ob : Nat) (k : Int) (f : Nat) (d : Ov) : Prop :=
  ∃ ki nm dl x1 x2 x3 ky la wo tk y1 y2 y3 ru lu ti, w.heap[ob]? = some (.cells #[.int .i64 ki, .string nm, .int .i64 dl, .slice x1 x2 x3, .string ky, .int .i64 la, .int .i64 wo, .int .i64 tk, .slice y1 y2 y3, .int .i64 ru, .int .u64 lu, .int .i64 ti] 99 (0, 0)) ∧ ki = k ∧ (f = 0 → OvC d w ki nm dl x1 x2 x3 ky la wo tk y1 y2 y3 ru lu ti)
theorem takeP_any (k : Int) (f : Nat) (d : Ov) (W : World) (ob q : Nat) (s : K.RS) (hf : s.fault = 0 → f = 0) (hR : Rr W q s) (hqo : q < ob) (hx : OpB W ob k f d) (j : Nat) (hj : j < 9) :
    Calls Tryz.prog (tkF j) #[.pointer (some ⟨ob, 0, none⟩), .pointer (some ⟨q, 0, none⟩)] W fun en w' => en = .returned (.tuple #[]) ∧ Rr w' q (takeR (partR j) s) ∧ Keep (fun k => k = q ∨ k = ob) W w' ∧ OpB w' ob k (takeR (partR j) s).fault (partV s d j) := by
  obtain ⟨ki, nm, dl, x1, x2, x3, ky, la, wo, tk, y1, y2, y3, ru, lu, ti, hx, rfl, hd⟩ := hx
  have hz : ∀ g, (takeR g s).fault = 0 → OvC d W ki nm dl x1 x2 x3 ky la wo tk y1 y2 y3 ru lu ti := fun g h => hd (hf (tk_ok h))
  rcases (by omega : j = 0 ∨ j = 1 ∨ j = 2 ∨ j = 3 ∨ j = 4 ∨ j = 5 ∨ j = 6 ∨ j = 7 ∨ j = 8) with rfl | rfl | rfl | rfl | rfl | rfl | rfl | rfl | rfl
  · refine (takePlan_any ki nm dl x1 x2 x3 ky la wo tk y1 y2 y3 ru lu ti W ob q s hR hqo hx).mono ?_
    rintro e w' ⟨he, hr, hk, nv, dv, xa, xn, xc, hc, hv⟩
    exact ⟨he, hr, hk, ki, nv, dv, xa, xn, xc, ky, la, wo, tk, y1, y2, y3, ru, lu, ti, hc, rfl, fun h0 => hv d (hz _ h0) h0⟩
  · refine (takeKey_any ki nm dl x1 x2 x3 ky la wo tk y1 y2 y3 ru lu ti W ob q s hR hqo hx).mono ?_
    rintro e w' ⟨he, hr, hk, xv, hc, hv⟩
    exact ⟨he, hr, hk, ki, nm, dl, x1, x2, x3, xv, la, wo, tk, y1, y2, y3, ru, lu, ti, hc, rfl, fun h0 => hv d (hz _ h0) h0⟩
  · refine (takeLane_any ki nm dl x1 x2 x3 ky la wo tk y1 y2 y3 ru lu ti W ob q s hR hqo hx).mono ?_
    rintro e w' ⟨he, hr, hk, xv, hc, hv⟩
    exact ⟨he, hr, hk, ki, nm, dl, x1, x2, x3, ky, xv, wo, tk, y1, y2, y3, ru, lu, ti, hc, rfl, fun h0 => hv d (hz _ h0) h0⟩
  · refine (takeWorker_any ki nm dl x1 x2 x3 ky la wo tk y1 y2 y3 ru lu ti W ob q s hR hqo hx).mono ?_
    rintro e w' ⟨he, hr, hk, xv, hc, hv⟩
    exact ⟨he, hr, hk, ki, nm, dl, x1, x2, x3, ky, la, xv, tk, y1, y2, y3, ru, lu, ti, hc, rfl, fun h0 => hv d (hz _ h0) h0⟩
  · refine (takeToken_any ki nm dl x1 x2 x3 ky la wo tk y1 y2 y3 ru lu ti W ob q s hR hqo hx).mono ?_
    rintro e w' ⟨he, hr, hk, xv, hc, hv⟩
    exact ⟨he, hr, hk, ki, nm, dl, x1, x2, x3, ky, la, wo, xv, y1, y2, y3, ru, lu, ti, hc, rfl, fun h0 => hv d (hz _ h0) h0⟩
  · refine (takeResult_any ki nm dl x1 x2 x3 ky la wo tk y1 y2 y3 ru lu ti W ob q s hR hqo hx).mono ?_
    rintro e w' ⟨he, hr, hk, ya, yn, yc, hc, hv⟩
    exact ⟨he, hr, hk, ki, nm, dl, x1, x2, x3, ky, la, wo, tk, ya, yn, yc, ru, lu, ti, hc, rfl, fun h0 => hv d (hz _ h0) h0⟩
  · refine (takeRun_any ki nm dl x1 x2 x3 ky la wo tk y1 y2 y3 ru lu ti W ob q s hR hqo hx).mono ?_
    rintro e w' ⟨he, hr, hk, xv, hc, hv⟩
    exact ⟨he, hr, hk, ki, nm, dl, x1, x2, x3, ky, la, wo, tk, y1, y2, y3, xv, lu, ti, hc, rfl, fun h0 => hv d (hz _ h0) h0⟩
  · refine (takeLuck_any ki nm dl x1 x2 x3 ky la wo tk y1 y2 y3 ru lu ti W ob q s hR hqo hx).mono ?_
    rintro e w' ⟨he, hr, hk, xv, hc, hv⟩
    exact ⟨he, hr, hk, ki, nm, dl, x1, x2, x3, ky, la, wo, tk, y1, y2, y3, ru, xv, ti, hc, rfl, fun h0 => hv d (hz _ h0) h0⟩
  · refine (takeTicks_any ki nm dl x1 x2 x3 ky la wo tk y1 y2 y3 ru lu ti W ob q s hR hqo hx).mono ?_
    rintro e w' ⟨he, hr, hk, xv, hc, hv⟩
    exact ⟨he, hr, hk, ki, nm, dl, x1, x2, x3, ky, la, wo, tk, y1, y2, y3, ru, lu, xv, hc, rfl, fun h0 => hv d (hz _ h0) h0⟩
end Cd
end Go.Proofs.YtbjcckfhfbjchaaGreat

/- Codec: opFields$1: an operation put (written by cei_gen.py). -/
namespace Go.Proofs.YtbjcckfhfbjchaaGreat
namespace Cd
open Go.RowKit Go.Deep

variable {bf : Nat × Nat}
theorem prts_zero {k : Int} {i : Nat} (h : (prts k)[i]? = some 0) : k = 1 := by
  have h := List.mem_of_getElem? h
  unfold prts at h
  repeat' split at h
  all_goals simp_all
theorem ent_ptF (j : Nat) (hj : j < 9) (args : Array Value) (w : World) : (callFunc (ptF j) args).run Tryz.prog w = .ok (.enter (ptF j) args) w := by
  rcases (by omega : j = 0 ∨ j = 1 ∨ j = 2 ∨ j = 3 ∨ j = 4 ∨ j = 5 ∨ j = 6 ∨ j = 7 ∨ j = 8) with rfl | rfl | rfl | rfl | rfl | rfl | rfl | rfl | rfl
  · exact callFunc_enter Tryz.func84 (by kernel_rfl) (by kernel_rfl) args w
  · exact callFunc_enter Tryz.func86 (by kernel_rfl) (by kernel_rfl) args w
  · exact callFunc_enter Tryz.func88 (by kernel_rfl) (by kernel_rfl) args w
  · exact callFunc_enter Tryz.func90 (by kernel_rfl) (by kernel_rfl) args w
  · exact callFunc_enter Tryz.func92 (by kernel_rfl) (by kernel_rfl) args w
  · exact callFunc_enter Tryz.func94 (by kernel_rfl) (by kernel_rfl) args w
  · exact callFunc_enter Tryz.func96 (by kernel_rfl) (by kernel_rfl) args w
  · exact callFunc_enter Tryz.func98 (by kernel_rfl) (by kernel_rfl) args w
  · exact callFunc_enter Tryz.func100 (by kernel_rfl) (by kernel_rfl) args w
theorem ent_tkF (j : Nat) (hj : j < 9) (args : Array Value) (w : World) : (callFunc (tkF j) args).run Tryz.prog w = .ok (.enter (tkF j) args) w := by
  rcases (by omega : j = 0 ∨ j = 1 ∨ j = 2 ∨ j = 3 ∨ j = 4 ∨ j = 5 ∨ j = 6 ∨ j = 7 ∨ j = 8) with rfl | rfl | rfl | rfl | rfl | rfl | rfl | rfl | rfl
  · exact callFunc_enter Tryz.func85 (by kernel_rfl) (by kernel_rfl) args w
  · exact callFunc_enter Tryz.func87 (by kernel_rfl) (by kernel_rfl) args w
  · exact callFunc_enter Tryz.func89 (by kernel_rfl) (by kernel_rfl) args w
  · exact callFunc_enter Tryz.func91 (by kernel_rfl) (by kernel_rfl) args w
  · exact callFunc_enter Tryz.func93 (by kernel_rfl) (by kernel_rfl) args w
  · exact callFunc_enter Tryz.func95 (by kernel_rfl) (by kernel_rfl) args w
  · exact callFunc_enter Tryz.func97 (by kernel_rfl) (by kernel_rfl) args w
  · exact callFunc_enter Tryz.func99 (by kernel_rfl) (by kernel_rfl) args w
  · exact callFunc_enter Tryz.func101 (by kernel_rfl) (by kernel_rfl) args w
/-- parts put, parts taken, one behind the other -/
def allPW (d : Ov) : List Nat → K.WS → K.WS
  | [], s => s
  | j :: r, s => allPW d r (putW (partW d j) s)
theorem allPW_app (d : Ov) : ∀ (a b : List Nat) (s : K.WS), allPW d (a ++ b) s = allPW d b (allPW d a s)
  | [], _, _ => rfl
  | _ :: r, b, _ => allPW_app d r b _
theorem allPW_succ (d : Ov) {ps : List Nat} {k j : Nat} (h : ps[k]? = some j) (s : K.WS) : allPW d (ps.take (k + 1)) s = putW (partW d j) (allPW d (ps.take k) s) := by
  rw [List.take_add_one, h, allPW_app]
  rfl
def opW (d : Ov) (s : K.WS) : K.WS := allPW d (prts d.ki) (putW (numW 1 9 d.ki) s)
/-- the forms of operations, in memory -/
structure OF (F : Nat) (w : World) (bk bw : Nat) : Prop where
  ex : ∃ l m, FI F w bk l m 1 9
  wy : w.heap[bw]? = some (.cells waysC 96 (0, 0))
  hw : F ≤ bw
theorem OF.keep {F : Nat} {w w' : World} {bk bw : Nat} (h : OF F w bk bw) (kk : Keep (fun _ => False) w w') : OF F w' bk bw := by
  obtain ⟨⟨l, m, h1⟩, h2, h3⟩ := h
  exact ⟨⟨l, m, h1.keep kk⟩, kk.blk h2 (fun f => f), h3⟩
theorem OF.mono {F F' : Nat} {w : World} {bk bw : Nat} (h : OF F w bk bw) (hF : F' ≤ F) : OF F' w bk bw := by
  obtain ⟨⟨l, m, h1⟩, h2, h3⟩ := h
  exact ⟨⟨l, m, h1.mono hF⟩, h2, Nat.le_trans hF h3⟩
theorem rdz_ag2 {wf W : World} (hw : bf.1 ≤ wf.heap.size) (ha : Agree (Lo bf wf) wf W) {s : Option Addr × Nat × Nat} {z : List Int} (h : Gr.RdZ bf.1 wf s z) : Gr.RdZ bf.1 W s z :=
  ⟨h.1, h.2.1, h.2.2.imp id fun ⟨g, off, e, hg, hc⟩ => ⟨g, off, e, hg, fun j x hx => ha.cell (hc j x hx) ⟨Nat.lt_of_lt_of_le hg hw, .inl hg⟩⟩⟩
theorem rdp_ag2 {wf W : World} (hw : bf.1 ≤ wf.heap.size) (ha : Agree (Lo bf wf) wf W) {s : Option Addr × Nat × Nat} {xs : List Gr.No} (h : Gr.RdP bf.1 wf s xs) : Gr.RdP bf.1 W s xs :=
  ⟨h.1, h.2.1, h.2.2.1.imp id fun ⟨g, off, e, hg, hc⟩ => ⟨g, off, e, hg, fun i x hx j u hu => ha.cell (hc i x hx j u hu) ⟨Nat.lt_of_lt_of_le hg hw, .inl hg⟩⟩, fun x hx => ⟨rdz_ag2 hw ha (h.2.2.2 x hx).1, rdz_ag2 hw ha (h.2.2.2 x hx).2⟩⟩
theorem OpD.agree {wf W : World} {ki : Int} {nm : ByteArray} {dl : Int} {x1 : Option Addr} {x2 x3 : Nat} {ky : ByteArray} {la wo tk : Int} {y1 : Option Addr} {y2 y3 : Nat} {ru lu ti : Int} {d : Ov} {xs : List Gr.No} (hw : bf.1 ≤ wf.heap.size) (h : OpD bf.1 wf ki nm dl x1 x2 x3 ky la wo tk y1 y2 y3 ru lu ti d xs) (ha : Agree (Lo bf wf) wf W) : OpD bf.1 W ki nm dl x1 x2 x3 ky la wo tk y1 y2 y3 ru lu ti d xs :=
  ⟨h.eki, h.epl, rdp_ag2 hw ha h.erdp, h.eky, h.ekyn, h.ela, h.ewo, h.etk, h.ery.agreeN ha (fun hn b off e => ⟨Nat.lt_of_lt_of_le (h.eryD hn b off e) hw, .inl (h.eryD hn b off e)⟩), h.eryn, h.ery0, h.eryD, h.eru, h.elu, h.eti⟩
theorem low_of {wf w0 : World} {S : Nat → Prop} (hw : bf.1 ≤ wf.heap.size) (ha : Agree (Lo bf wf) wf w0) (hd : ∀ k, Lo bf wf k → ¬ S k) : bf.1 ≤ w0.heap.size ∧ ∀ k, k < bf.1 → ¬ S k := by
  have hl : ∀ k, k < bf.1 → Lo bf wf k := fun k hk => ⟨Nat.lt_of_lt_of_le hk hw, .inl hk⟩
  refine ⟨?_, fun k hk => hd k (hl k hk)⟩
  by_cases h0 : bf.1 = 0
  · omega
  · have := ha.lt (hl (bf.1 - 1) (by omega))
    omega
/-- any part put; other blocks stay -/
theorem putP2_any (ki : Int) (nm : ByteArray) (dl : Int) (x1 : Option Addr) (x2 x3 : Nat) (ky : ByteArray) (la : Int) (wo : Int) (tk : Int) (y1 : Option Addr) (y2 y3 : Nat) (ru : Int) (lu : Int) (ti : Int) (d : Ov) (xs : List Gr.No) (S : Nat → Prop) (w0 W : World) (p B0 : Nat) (s : K.WS) (h : WAt S w0 p s W) (hB : B0 ≤ w0.heap.size) (hS : ∀ k, k < B0 → ¬ S k) (hd : OpD B0 w0 ki nm dl x1 x2 x3 ky la wo tk y1 y2 y3 ru lu ti d xs) (j : Nat) (hj : j < 9) (hok : j = 0 → POk nm dl xs) :
    Calls Tryz.prog (ptF j) #[.agg #[.int .i64 ki, .string nm, .int .i64 dl, .slice x1 x2 x3, .string ky, .int .i64 la, .int .i64 wo, .int .i64 tk, .slice y1 y2 y3, .int .i64 ru, .int .u64 lu, .int .i64 ti], .pointer (some ⟨p, 0, none⟩)] W fun en w' => en = .returned (.tuple #[]) ∧ WAt S w0 p (putW (partW d j) s) w' ∧ ∀ (b : Nat) (cs : Array Value) (t : TypeId), W.heap[b]? = some (.cells cs t (0, 0)) → t ≠ 128 → t ≠ 5 → w'.heap[b]? = some (.cells cs t (0, 0)) := by
  obtain ⟨v, hv, hw2, hs⟩ := h.rebase
  have hS2 : ∀ k, k < B0 → ¬ Wset p v k := fun k hk hw => (hs k hw).elim (hS k hk) fun h2 => by omega
  refine (putP_any ki nm dl x1 x2 x3 ky la wo tk y1 y2 y3 ru lu ti d xs (Wset p v) W W p B0 s hw2 (Nat.le_trans hB h.keep.size) hS2 (hd.keep h.keep hS) j hj hok).mono ?_
  rintro e w' ⟨rfl, h3⟩
  exact ⟨rfl, h.step hs h3, fun b cs t hb h1 h2 => h3.keep.blk hb (hv.not hb h1 h2)⟩
set_option maxRecDepth 10000 in
set_option maxHeartbeats 4000000 in
theorem putOp (wf w0 : World) (bk bw : Nat) (hF : OF bf.2 wf bk bw) (ki : Int) (nm : ByteArray) (dl : Int) (x1 : Option Addr) (x2 x3 : Nat) (ky : ByteArray) (la : Int) (wo : Int) (tk : Int) (y1 : Option Addr) (y2 y3 : Nat) (ru : Int) (lu : Int) (ti : Int) (d : Ov) (xs : List Gr.No) (hw : bf.1 ≤ wf.heap.size) (hd : OpD bf.1 wf ki nm dl x1 x2 x3 ky la wo tk y1 y2 y3 ru lu ti d xs) (hki : ki ≤ 9223372036854775807) (hok : ki = 1 → POk nm dl xs) (p : Nat) (S : Nat → Prop) (ha : Agree (Lo bf wf) wf w0) (hdj : ∀ k, Lo bf wf k → ¬ S k) (W : World) (s : K.WS) (h : WAt S w0 p s W) :
    Calls Tryz.prog 45 #[.pointer (some ⟨p, 0, none⟩), .agg #[.int .i64 ki, .string nm, .int .i64 dl, .slice x1 x2 x3, .string ky, .int .i64 la, .int .i64 wo, .int .i64 tk, .slice y1 y2 y3, .int .i64 ru, .int .u64 lu, .int .i64 ti], .pointer (some ⟨bk, 0, none⟩), .pointer (some ⟨bw, 0, none⟩)] W fun en w' => en = .returned (.tuple #[]) ∧ WAt S w0 p (opW d s) w' := by
  obtain ⟨l, m, hfi⟩ := hF.ex
  obtain ⟨hB, hS⟩ := low_of hw ha hdj
  have HA := hide ha
  have HD := hide hdj
  have hba := (Below.refl W.heap.size W).alloc (Nat.le_refl _) (.cells #[.int .i64 ki, .string nm, .int .i64 dl, .slice x1 x2 x3, .string ky, .int .i64 la, .int .i64 wo, .int .i64 tk, .slice y1 y2 y3, .int .i64 ru, .int .u64 lu, .int .i64 ti] 32)
  have HW0 := hide (h.below hba)
  have HX0 := hide (heap_alloc_new W (.cells #[.int .i64 ki, .string nm, .int .i64 dl, .slice x1 x2 x3, .string ky, .int .i64 la, .int .i64 wo, .int .i64 tk, .slice y1 y2 y3, .int .i64 ru, .int .u64 lu, .int .i64 ti] 32))
  have HOD := hide (hd.agree hw ha)
  have HB := hide hB
  have HS := hide hS
  have HOK := hide hok
  have HBL : Hid (∀ W, Agree (Lo bf wf) wf W → W.cell? ⟨bk, 0, none⟩ = some (.func (.func 78) #[] #[.pointer (some ⟨l, 0, none⟩), .pointer (some ⟨m, 0, none⟩)]) ∧ W.cell? ⟨bk, 1, none⟩ = some (.func (.func 81) #[] #[.pointer (some ⟨l, 0, none⟩), .pointer (some ⟨m, 0, none⟩)])) := fun W ha => lo_cells ha hfi.blk hfi.hb
  have HWY : Hid (∀ W, Agree (Lo bf wf) wf W → W.heap[bw]? = some (.cells waysC 96 (0, 0))) := fun W ha => (ha bw ⟨blk_lt hF.wy, .inr hF.hw⟩).2.trans hF.wy
  have C0 := hide (fputI (fn2 := 81) (cap2 := #[.pointer (some ⟨l, 0, none⟩), .pointer (some ⟨m, 0, none⟩)]) ha hdj HW0.out (putsNum (Lo bf wf) wf l m 1 9 ki hki hfi.ce0 hfi.cel (clM hfi.ce0 hfi.hl) (clM hfi.cel hfi.hm)) ent_putNum HX0.out (by decide) (by decide))
  have hek : d.ki = ki := hd.eki
  have HE : Hid (opW d s = allPW d (prts ki) (putW (numW 1 9 ki) s)) := by show _ = _; unfold opW; rw [hek]
  generalize opW d s = sE at *
  clear hw h ha hdj hba hd hok hF hfi hB hS hek hki
  go_enter Tryz.func45, Tryz.ntmps45
  go_upto_region 1 with fail
  generalize W.alloc (.cells #[.int .i64 ki, .string nm, .int .i64 dl, .slice x1 x2 x3, .string ky, .int .i64 la, .int .i64 wo, .int .i64 tk, .slice y1 y2 y3, .int .i64 ru, .int .u64 lu, .int .i64 ti] 32) = W0 at *
  generalize W.heap.size = bx at *
  obtain ⟨c0, c1⟩ := HBL.out W0 (HA.out.keep HW0.out.keep HD.out)
  have d0 := cell_blk HX0.out 0 (v := .int .i64 ki) rfl
  go_upto_region 2 with (go_at_call 46; refine C0.out.mono ?_; rintro e W1 ⟨rfl, h1, hx1⟩; have HW1 := hide h1; have HX1 := hide hx1; clear h1 hx1 c0 c1 d0 C0)
  have d0 := cell_blk HX1.out 0 (v := .int .i64 ki) rfl
  clear HX0 HW0
  generalize putW (numW 1 9 ki) s = s1 at *
  obtain ⟨ps, hps⟩ : ∃ ps, prts ki = ps := ⟨_, rfl⟩
  have HPS := hide hps
  have HN := hide (hps ▸ prts_len ki)
  obtain ⟨n, hn⟩ : ∃ n, ps.length = n := ⟨_, rfl⟩
  have HNN := hide hn
  go_upto_region 3 with (go_at_call 30; refine (partsOf_any ki _).mono ?_; unfold Prts; rw [HPS.out, HNN.out]; rintro e W2 ⟨a, rfl, hb2, hcs⟩; have HX2 := hide (blkB HX1.out hb2); have HW2 := hide (HW1.out.below hb2); have HCS := hide hcs; clear hb2 hcs d0 HX1 HW1)
  generalize W1.heap.size = bp at *
  have hn2 : n ≤ 2 := by have := HN.out; have := HNN.out; omega
  clear hps hn
  go_loopw [17] (fun i wx => ∃ k : Nat, k ≤ n ∧ i = .int .i64 (k : Nat) ∧ WAt S w0 p (allPW d (ps.take k) s1) wx ∧ wx.heap[bx]? = some (.cells #[.int .i64 ki, .string nm, .int .i64 dl, .slice x1 x2 x3, .string ky, .int .i64 la, .int .i64 wo, .int .i64 tk, .slice y1 y2 y3, .int .i64 ru, .int .u64 lu, .int .i64 ti] 32 (0, 0)) ∧ (ps ≠ [] → a = some ⟨bp, 0, none⟩ ∧ wx.heap[bp]? = some (.cells (ps.map fun p => Value.int .i64 (p : Nat)).toArray 98 (0, 0)))) (fun i _ => n - (intOf i).toNat)
  case atStart => exact ⟨0, Nat.zero_le _, rfl, HW2.out, HX2.out, HCS.out⟩
  case round =>
    obtain ⟨k, hk, rfl, hw, hbx, hbp⟩ := hrel
    have HW := hide hw
    have HBX := hide hbx
    have HBP := hide hbp
    clear hw hbx hbp
    by_cases hlt : k < n
    · obtain ⟨j, hj⟩ : ∃ j, ps[k]? = some j := ⟨_, List.getElem?_eq_getElem (by have := HNN.out; omega)⟩
      have hj9 : j < 9 := prts_lt (by rw [HPS.out]; exact hj)
      obtain ⟨rfl, hbp⟩ := HBP.out (by intro e; rw [e] at hj; simp at hj)
      have ec := cell_blk hbp k (v := .int .i64 (j : Nat)) (by simp [hj])
      have HAG := hide (HA.out.keep HW.out.keep HD.out)
      have hwb := HWY.out _ HAG.out
      have ew := cell_blk hwb (j * 2) (Nat.mul_comm 2 j ▸ waysPut j hj9)
      have HWP := hide (Nat.mul_comm 2 j ▸ waysPut j hj9 : waysC[j * 2]? = _)
      have hent := ent_ptF j hj9
      have HSC := hide (allPW_succ d hj s1)
      have hj0 : j = 0 → ki = 1 := fun e => by
        subst e
        exact prts_zero (by rw [HPS.out]; exact hj)
      have HPT := hide (putP2_any ki nm dl x1 x2 x3 ky la wo tk y1 y2 y3 ru lu ti d xs S w0 wr.drew p bf.1 _ HW.out.drew HB.out HS.out HOD.out j hj9 fun e => HOK.out (hj0 e))
      have HBP2 := hide hbp
      have d0 := cell_blk HBX.out 0 (v := .int .i64 ki) rfl
      have d1 := cell_blk HBX.out 1 (v := .string nm) rfl
      have d2 := cell_blk HBX.out 2 (v := .int .i64 dl) rfl
      have d3 := cell_blk HBX.out 3 (v := .slice x1 x2 x3) rfl
      have d4 := cell_blk HBX.out 4 (v := .string ky) rfl
      have d5 := cell_blk HBX.out 5 (v := .int .i64 la) rfl
      have d6 := cell_blk HBX.out 6 (v := .int .i64 wo) rfl
      have d7 := cell_blk HBX.out 7 (v := .int .i64 tk) rfl
      have d8 := cell_blk HBX.out 8 (v := .slice y1 y2 y3) rfl
      have d9 := cell_blk HBX.out 9 (v := .int .i64 ru) rfl
      have d10 := cell_blk HBX.out 10 (v := .int .u64 lu) rfl
      have d11 := cell_blk HBX.out 11 (v := .int .i64 ti) rfl
      have HJ9 := hide hj9
      have i0 : (0 : Int) ≤ ((j : Nat) : Int) := by omega
      have i1 : ((j : Nat) : Int) < 9 := by omega
      clear hj hj0 hbp hwb
      go_upto_region 5 with fail
      generalize ptF j = fp at *
      go_region_held3 (fun wx => wx.cell? ⟨bw, j * 2, none⟩ = some (.func (.func fp) #[] #[]) ∧ wx.cell? ⟨bx, 0, none⟩ = some (.int .i64 ki) ∧ wx.cell? ⟨bx, 1, none⟩ = some (.string nm) ∧ wx.cell? ⟨bx, 2, none⟩ = some (.int .i64 dl) ∧ wx.cell? ⟨bx, 3, none⟩ = some (.slice x1 x2 x3) ∧ wx.cell? ⟨bx, 4, none⟩ = some (.string ky) ∧ wx.cell? ⟨bx, 5, none⟩ = some (.int .i64 la) ∧ wx.cell? ⟨bx, 6, none⟩ = some (.int .i64 wo) ∧ wx.cell? ⟨bx, 7, none⟩ = some (.int .i64 tk) ∧ wx.cell? ⟨bx, 8, none⟩ = some (.slice y1 y2 y3) ∧ wx.cell? ⟨bx, 9, none⟩ = some (.int .i64 ru) ∧ wx.cell? ⟨bx, 10, none⟩ = some (.int .u64 lu) ∧ wx.cell? ⟨bx, 11, none⟩ = some (.int .i64 ti)) (first | (exact ⟨ew, d0, d1, d2, d3, d4, d5, d6, d7, d8, d9, d10, d11⟩) | (exact HS3.out) | go_keep) (first
        | (refine HPT.out.mono ?_; rintro e w3 ⟨rfl, h3, hst⟩; have H3 := hide h3; have hx3 := hst bx _ _ HBX.out (by decide) (by decide); have hp3 := hst bp _ _ HBP2.out (by decide) (by decide); have hw3 := HWY.out w3 (HA.out.keep h3.keep HD.out); have HS3 : Hid (w3.cell? ⟨bw, j * 2, none⟩ = some (.func (.func fp) #[] #[]) ∧ w3.cell? ⟨bx, 0, none⟩ = some (.int .i64 ki) ∧ w3.cell? ⟨bx, 1, none⟩ = some (.string nm) ∧ w3.cell? ⟨bx, 2, none⟩ = some (.int .i64 dl) ∧ w3.cell? ⟨bx, 3, none⟩ = some (.slice x1 x2 x3) ∧ w3.cell? ⟨bx, 4, none⟩ = some (.string ky) ∧ w3.cell? ⟨bx, 5, none⟩ = some (.int .i64 la) ∧ w3.cell? ⟨bx, 6, none⟩ = some (.int .i64 wo) ∧ w3.cell? ⟨bx, 7, none⟩ = some (.int .i64 tk) ∧ w3.cell? ⟨bx, 8, none⟩ = some (.slice y1 y2 y3) ∧ w3.cell? ⟨bx, 9, none⟩ = some (.int .i64 ru) ∧ w3.cell? ⟨bx, 10, none⟩ = some (.int .u64 lu) ∧ w3.cell? ⟨bx, 11, none⟩ = some (.int .i64 ti)) := ⟨cell_blk hw3 (j * 2) HWP.out, cell_blk hx3 0 rfl, cell_blk hx3 1 rfl, cell_blk hx3 2 rfl, cell_blk hx3 3 rfl, cell_blk hx3 4 rfl, cell_blk hx3 5 rfl, cell_blk hx3 6 rfl, cell_blk hx3 7 rfl, cell_blk hx3 8 rfl, cell_blk hx3 9 rfl, cell_blk hx3 10 rfl, cell_blk hx3 11 rfl⟩; have HX3 := hide hx3; have HP3 := hide hp3; clear h3 hst hx3 hp3 hw3 HPT))
      all_goals go_wp2
      all_goals refine ⟨⟨k + 1, by omega, by go_num, ?_, HX3.out, fun _ => ⟨by trivial, HP3.out⟩⟩, by simp [intOf]; omega⟩
      all_goals rw [HSC.out]
      all_goals exact H3.out
    · go_wp2
      go_end0
      refine ⟨rfl, ?_⟩
      have := HW.out
      rw [List.take_of_length_le (by have := HNN.out; omega)] at this
      rw [HE.out, HPS.out]
      exact this
theorem ent_putOp (args : Array Value) (w : World) : (callFunc 45 args).run Tryz.prog w = .ok (.enter 45 args) w :=
  callFunc_enter Tryz.func45 (by kernel_rfl) (by kernel_rfl) args w
theorem putsOp (wf : World) (bk bw : Nat) (hF : OF bf.2 wf bk bw) (ki : Int) (nm : ByteArray) (dl : Int) (x1 : Option Addr) (x2 x3 : Nat) (ky : ByteArray) (la : Int) (wo : Int) (tk : Int) (y1 : Option Addr) (y2 y3 : Nat) (ru : Int) (lu : Int) (ti : Int) (d : Ov) (xs : List Gr.No) (hw : bf.1 ≤ wf.heap.size) (hd : OpD bf.1 wf ki nm dl x1 x2 x3 ky la wo tk y1 y2 y3 ru lu ti d xs) (hki : ki ≤ 9223372036854775807) (hok : ki = 1 → POk nm dl xs) :
    PutsG (Lo bf wf) wf 45 #[.pointer (some ⟨bk, 0, none⟩), .pointer (some ⟨bw, 0, none⟩)] (.agg #[.int .i64 ki, .string nm, .int .i64 dl, .slice x1 x2 x3, .string ky, .int .i64 la, .int .i64 wo, .int .i64 tk, .slice y1 y2 y3, .int .i64 ru, .int .u64 lu, .int .i64 ti]) (opW d) :=
  fun p S w1 ha hdj w2 s h _ => putOp wf w1 bk bw hF ki nm dl x1 x2 x3 ky la wo tk y1 y2 y3 ru lu ti d xs hw hd hki hok p S ha hdj w2 s h
end Cd
end Go.Proofs.YtbjcckfhfbjchaaGreat
