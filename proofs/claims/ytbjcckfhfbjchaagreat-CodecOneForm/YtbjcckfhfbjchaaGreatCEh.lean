/- Codec: any part of an operation put, taken (written by ceh_gen.py). -/
import Derived.Test.YtbjcckfhfbjchaaGreatCEg
namespace Go.Proofs.YtbjcckfhfbjchaaGreat
namespace Cd
open Go.RowKit Go.Deep

/-- what a part lays -/
def partW (d : Ov) : Nat → K.WS → K.WS
  | 0 => planW d.pl
  | 1 => textW 40 d.ky
  | 2 => numW 0 15 d.la
  | 3 => numW 0 1099511627776 d.wo
  | 4 => numW 1 1099511627776 d.tk
  | 5 => textW 64 d.ry
  | 6 => numW 1 1099511627776 d.ru
  | 7 => wordW d.lu
  | _ => numW 0 4611686018427387904 d.ti
/-- what a part reads -/
noncomputable def partR : Nat → K.RS → K.RS
  | 0 => chkR may planR planVal
  | 1 => rowR 40
  | 2 => numR 0 15
  | 3 => numR 0 1099511627776
  | 4 => numR 1 1099511627776
  | 5 => rowR 64
  | 6 => numR 1 1099511627776
  | 7 => wordR
  | _ => numR 0 4611686018427387904
def partV (s : K.RS) (d : Ov) : Nat → Ov
  | 0 => { d with pl := planVal s }
  | 1 => { d with ky := rowV 40 s }
  | 2 => { d with la := iV s }
  | 3 => { d with wo := iV s }
  | 4 => { d with tk := iV s }
  | 5 => { d with ry := rowV 64 s }
  | 6 => { d with ru := iV s }
  | 7 => { d with lu := wordV s }
  | _ => { d with ti := iV s }
/-- an operation that came in -/
structure OpD (B0 : Nat) (w : World) (ki : Int) (nm : ByteArray) (dl : Int) (x1 : Option Addr) (x2 x3 : Nat) (ky : ByteArray) (la : Int) (wo : Int) (tk : Int) (y1 : Option Addr) (y2 y3 : Nat) (ru : Int) (lu : Int) (ti : Int) (d : Ov) (xs : List Gr.No) : Prop where
  eki : d.ki = ki
  epl : d.pl = pv nm dl xs
  erdp : Gr.RdP B0 w (x1, x2, x3) xs
  eky : d.ky = sb ky
  ekyn : ky.size ≤ 140737488351232
  ela : d.la = la ∧ la ≤ 9223372036854775807
  ewo : d.wo = wo ∧ wo ≤ 9223372036854775807
  etk : d.tk = tk ∧ tk ≤ 9223372036854775807
  ery : Rd w y1 y2 d.ry
  eryn : y2 ≤ 140737488351232
  ery0 : y1 = none → y3 = 0
  eryD : y2 ≠ 0 → ∀ b off, y1 = some ⟨b, off, none⟩ → b < B0
  eru : d.ru = ru ∧ ru ≤ 9223372036854775807
  elu : lu = (d.lu : Int) ∧ d.lu < 18446744073709551616
  eti : d.ti = ti ∧ ti ≤ 9223372036854775807
theorem rd_low {w w' : World} {a : Option Addr} {n : Nat} {l : List Nat} {S : Nat → Prop} {B0 : Nat} (h : Rd w a n l) (hk : Keep S w w') (hS : ∀ k, k < B0 → ¬ S k) (hD : n ≠ 0 → ∀ b off, a = some ⟨b, off, none⟩ → b < B0) : Rd w' a n l := by
  by_cases h0 : n = 0
  · exact ⟨h.1, h.2.1, h.2.2.1, .inl h0⟩
  · exact h.stay hk fun b off e => hS b (hD h0 b off e)
theorem OpD.keep {B0 : Nat} {w w' : World} {ki : Int} {nm : ByteArray} {dl : Int} {x1 : Option Addr} {x2 x3 : Nat} {ky : ByteArray} {la wo tk : Int} {y1 : Option Addr} {y2 y3 : Nat} {ru lu ti : Int} {d : Ov} {xs : List Gr.No} (h : OpD B0 w ki nm dl x1 x2 x3 ky la wo tk y1 y2 y3 ru lu ti d xs) {S : Nat → Prop} (hk : Keep S w w') (hS : ∀ k, k < B0 → ¬ S k) : OpD B0 w' ki nm dl x1 x2 x3 ky la wo tk y1 y2 y3 ru lu ti d xs :=
  ⟨h.eki, h.epl, h.erdp.keep hk fun i hi => Nat.not_lt.1 fun h2 => hS i h2 hi, h.eky, h.ekyn, h.ela, h.ewo, h.etk, rd_low h.ery hk hS h.eryD, h.eryn, h.ery0, h.eryD, h.eru, h.elu, h.eti⟩
theorem putP_any (ki : Int) (nm : ByteArray) (dl : Int) (x1 : Option Addr) (x2 x3 : Nat) (ky : ByteArray) (la : Int) (wo : Int) (tk : Int) (y1 : Option Addr) (y2 y3 : Nat) (ru : Int) (lu : Int) (ti : Int) (d : Ov) (xs : List Gr.No) (S : Nat → Prop) (w0 W : World) (p B0 : Nat) (s : K.WS) (h : WAt S w0 p s W) (hB : B0 ≤ w0.heap.size) (hS : ∀ k, k < B0 → ¬ S k) (hd : OpD B0 w0 ki nm dl x1 x2 x3 ky la wo tk y1 y2 y3 ru lu ti d xs) (j : Nat) (hj : j < 9) (hok : j = 0 → POk nm dl xs) :
    Calls Tryz.prog (ptF j) #[.agg #[.int .i64 ki, .string nm, .int .i64 dl, .slice x1 x2 x3, .string ky, .int .i64 la, .int .i64 wo, .int .i64 tk, .slice y1 y2 y3, .int .i64 ru, .int .u64 lu, .int .i64 ti], .pointer (some ⟨p, 0, none⟩)] W fun en w' => en = .returned (.tuple #[]) ∧ WAt S w0 p (putW (partW d j) s) w' := by
  have hd' := hd.keep h.keep hS
  have hBW : B0 ≤ W.heap.size := Nat.le_trans hB h.keep.size
  rcases (by omega : j = 0 ∨ j = 1 ∨ j = 2 ∨ j = 3 ∨ j = 4 ∨ j = 5 ∨ j = 6 ∨ j = 7 ∨ j = 8) with rfl | rfl | rfl | rfl | rfl | rfl | rfl | rfl | rfl
  · show Calls Tryz.prog _ _ _ fun en w' => en = .returned (.tuple #[]) ∧ WAt S w0 p (putW (planW d.pl) s) w'
    rw [hd'.epl]
    exact putPlan_any ki nm dl x1 x2 x3 ky la wo tk y1 y2 y3 ru lu ti S w0 W p B0 s h hB hS xs hd'.erdp hBW (hok rfl)
  · show Calls Tryz.prog _ _ _ fun en w' => en = .returned (.tuple #[]) ∧ WAt S w0 p (putW (textW 40 d.ky) s) w'
    rw [hd'.eky]
    exact putKey_any ki nm dl x1 x2 x3 ky la wo tk y1 y2 y3 ru lu ti S w0 W p B0 s h hB hS hd'.ekyn
  · show Calls Tryz.prog _ _ _ fun en w' => en = .returned (.tuple #[]) ∧ WAt S w0 p (putW (numW 0 15 d.la) s) w'
    rw [hd'.ela.1]
    exact putLane_any ki nm dl x1 x2 x3 ky la wo tk y1 y2 y3 ru lu ti S w0 W p B0 s h hB hS hd'.ela.2
  · show Calls Tryz.prog _ _ _ fun en w' => en = .returned (.tuple #[]) ∧ WAt S w0 p (putW (numW 0 1099511627776 d.wo) s) w'
    rw [hd'.ewo.1]
    exact putWorker_any ki nm dl x1 x2 x3 ky la wo tk y1 y2 y3 ru lu ti S w0 W p B0 s h hB hS hd'.ewo.2
  · show Calls Tryz.prog _ _ _ fun en w' => en = .returned (.tuple #[]) ∧ WAt S w0 p (putW (numW 1 1099511627776 d.tk) s) w'
    rw [hd'.etk.1]
    exact putToken_any ki nm dl x1 x2 x3 ky la wo tk y1 y2 y3 ru lu ti S w0 W p B0 s h hB hS hd'.etk.2
  · exact putResult_any ki nm dl x1 x2 x3 ky la wo tk y1 y2 y3 ru lu ti S w0 W p B0 s h hB hS d.ry hd'.ery hd'.eryn hd'.ery0 hd'.eryD hBW
  · show Calls Tryz.prog _ _ _ fun en w' => en = .returned (.tuple #[]) ∧ WAt S w0 p (putW (numW 1 1099511627776 d.ru) s) w'
    rw [hd'.eru.1]
    exact putRun_any ki nm dl x1 x2 x3 ky la wo tk y1 y2 y3 ru lu ti S w0 W p B0 s h hB hS hd'.eru.2
  · exact putLuck_any ki nm dl x1 x2 x3 ky la wo tk y1 y2 y3 ru lu ti S w0 W p B0 s h hB hS d.lu hd'.elu.2 hd'.elu.1
  · show Calls Tryz.prog _ _ _ fun en w' => en = .returned (.tuple #[]) ∧ WAt S w0 p (putW (numW 0 4611686018427387904 d.ti) s) w'
    rw [hd'.eti.1]
    exact putTicks_any ki nm dl x1 x2 x3 ky la wo tk y1 y2 y3 ru lu ti S w0 W p B0 s h hB hS hd'.eti.2
/-- the operation that is being taken, in its block -/
def OpB (w : World) (ob : Nat) (k : Int) (f : Nat) (d : Ov) : Prop :=
  ∃ ki nm dl x1 x2 x3 ky la wo tk y1 y2 y3 ru lu ti, w.heap[ob]? = some (.cells #[.int .i64 ki, .string nm, .int .i64 dl, .slice x1 x2 x3, .string ky, .int .i64 la, .int .i64 wo, .int .i64 tk, .slice y1 y2 y3, .int .i64 ru, .int .u64 lu, .int .i64 ti] 99 (0, 0)) ∧ ki = k ∧ (f = 0 → OvC d w ki nm dl x1 x2 x3 ky la wo tk y1 y2 y3 ru lu ti)
theorem takeP_any (k : Int) (f : Nat) (d : Ov) (W : World) (ob q : Nat) (s : K.RS) (hf : s.fault = 0 → f = 0) (hR : Rr W q s) (hqo : q < ob) (hx : OpB W ob k f d) (j : Nat) (hj : j < 9) :
    Calls Tryz.prog (tkF j) #[.pointer (some ⟨ob, 0, none⟩), .pointer (some ⟨q, 0, none⟩)] W fun en w' => en = .returned (.tuple #[]) ∧ Rr w' q (takeR (partR j) s) ∧ Keep (fun k => k = q ∨ k = ob) W w' ∧ OpB w' ob k (takeR (partR j) s).fault (partV s d j) := by
  obtain ⟨ki, nm, dl, x1, x2, x3, ky, la, wo, tk, y1, y2, y3, ru, lu, ti, hx, rfl, hd⟩ := hx
  have hz : ∀ g, (takeR g s).fault = 0 → OvC d W ki nm dl x1 x2 x3 ky la wo tk y1 y2 y3 ru lu ti := fun g h => hd (hf (tk_ok h))
  rcases (by omega : j = 0 ∨ j = 1 ∨ j = 2 ∨ j = 3 ∨ j = 4 ∨ j = 5 ∨ j = 6 ∨ j = 7 ∨ j = 8) with rfl | rfl | rfl | rfl | rfl | rfl | rfl | rfl | rfl
  · refine (takePlan_any ki nm dl x1 x2 x3 ky la wo tk y1 y2 y3 ru lu ti W ob q s hR hqo hx).mono ?_
    rintro e w' ⟨he, hr, hk, nv, dv, xa, xn, xc, hc, hv⟩
    exact ⟨he, hr, hk, ki, nv, dv, xa, xn, xc, ky, la, wo, tk, y1, y2, y3, ru, lu, ti, hc, rfl, fun h0 => hv d (hz _ h0) h0⟩
  · refine (takeKey_any ki nm dl x1 x2 x3 ky la wo tk y1 y2 y3 ru lu ti W ob q s hR hqo hx).mono ?_
    rintro e w' ⟨he, hr, hk, xv, hc, hv⟩
    exact ⟨he, hr, hk, ki, nm, dl, x1, x2, x3, xv, la, wo, tk, y1, y2, y3, ru, lu, ti, hc, rfl, fun h0 => hv d (hz _ h0) h0⟩
  · refine (takeLane_any ki nm dl x1 x2 x3 ky la wo tk y1 y2 y3 ru lu ti W ob q s hR hqo hx).mono ?_
    rintro e w' ⟨he, hr, hk, xv, hc, hv⟩
    exact ⟨he, hr, hk, ki, nm, dl, x1, x2, x3, ky, xv, wo, tk, y1, y2, y3, ru, lu, ti, hc, rfl, fun h0 => hv d (hz _ h0) h0⟩
  · refine (takeWorker_any ki nm dl x1 x2 x3 ky la wo tk y1 y2 y3 ru lu ti W ob q s hR hqo hx).mono ?_
    rintro e w' ⟨he, hr, hk, xv, hc, hv⟩
    exact ⟨he, hr, hk, ki, nm, dl, x1, x2, x3, ky, la, xv, tk, y1, y2, y3, ru, lu, ti, hc, rfl, fun h0 => hv d (hz _ h0) h0⟩
  · refine (takeToken_any ki nm dl x1 x2 x3 ky la wo tk y1 y2 y3 ru lu ti W ob q s hR hqo hx).mono ?_
    rintro e w' ⟨he, hr, hk, xv, hc, hv⟩
    exact ⟨he, hr, hk, ki, nm, dl, x1, x2, x3, ky, la, wo, xv, y1, y2, y3, ru, lu, ti, hc, rfl, fun h0 => hv d (hz _ h0) h0⟩
  · refine (takeResult_any ki nm dl x1 x2 x3 ky la wo tk y1 y2 y3 ru lu ti W ob q s hR hqo hx).mono ?_
    rintro e w' ⟨he, hr, hk, ya, yn, yc, hc, hv⟩
    exact ⟨he, hr, hk, ki, nm, dl, x1, x2, x3, ky, la, wo, tk, ya, yn, yc, ru, lu, ti, hc, rfl, fun h0 => hv d (hz _ h0) h0⟩
  · refine (takeRun_any ki nm dl x1 x2 x3 ky la wo tk y1 y2 y3 ru lu ti W ob q s hR hqo hx).mono ?_
    rintro e w' ⟨he, hr, hk, xv, hc, hv⟩
    exact ⟨he, hr, hk, ki, nm, dl, x1, x2, x3, ky, la, wo, tk, y1, y2, y3, xv, lu, ti, hc, rfl, fun h0 => hv d (hz _ h0) h0⟩
  · refine (takeLuck_any ki nm dl x1 x2 x3 ky la wo tk y1 y2 y3 ru lu ti W ob q s hR hqo hx).mono ?_
    rintro e w' ⟨he, hr, hk, xv, hc, hv⟩
    exact ⟨he, hr, hk, ki, nm, dl, x1, x2, x3, ky, la, wo, tk, y1, y2, y3, ru, xv, ti, hc, rfl, fun h0 => hv d (hz _ h0) h0⟩
  · refine (takeTicks_any ki nm dl x1 x2 x3 ky la wo tk y1 y2 y3 ru lu ti W ob q s hR hqo hx).mono ?_
    rintro e w' ⟨he, hr, hk, xv, hc, hv⟩
    exact ⟨he, hr, hk, ki, nm, dl, x1, x2, x3, ky, la, wo, tk, y1, y2, y3, ru, lu, xv, hc, rfl, fun h0 => hv d (hz _ h0) h0⟩
end Cd
end Go.Proofs.YtbjcckfhfbjchaaGreat
