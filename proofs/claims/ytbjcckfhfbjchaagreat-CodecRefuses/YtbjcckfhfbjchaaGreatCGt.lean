/- Codec: the laws' like (written by cgt_gen.py). -/
import Derived.Test.YtbjcckfhfbjchaaGreatCGs
import Derived.Test.YtbjcckfhfbjchaaGreatCdB
namespace Go.Proofs.YtbjcckfhfbjchaaGreat
namespace Cd
open Go.RowKit Go.Deep Gr

set_option maxRecDepth 100000 in
set_option maxHeartbeats 20000000 in
theorem like12_any (ki : Int) (nm : ByteArray) (dl : Int) (x1 : Option Addr) (x2 x3 : Nat) (ky : ByteArray) (la wo tk : Int) (y1 : Option Addr) (y2 y3 : Nat) (ru lu ti : Int) (xs : List No) (rl : List Nat) (ki' : Int) (nm' : ByteArray) (dl' : Int) (x1' : Option Addr) (x2' x3' : Nat) (ky' : ByteArray) (la' wo' tk' : Int) (y1' : Option Addr) (y2' y3' : Nat) (ru' lu' ti' : Int) (ys : List No) (rl' : List Nat) (P : Prop) (B C : Nat) (w : World)
    (hP : RdP B w (x1, x2, x3) xs) (hQ : RdP C w (x1', x2', x3') ys) (hR : Rd w y1 y2 rl) (hS : Rd w y1' y2' rl')
    (hL : P ↔ ki = ki' ∧ ky = ky' ∧ la = la' ∧ wo = wo' ∧ tk = tk' ∧ ru = ru' ∧ lu = lu' ∧ ti = ti' ∧ str rl = str rl' ∧ AlkP nm dl xs nm' dl' ys) :
    Calls Tryz.prog 16 #[.agg #[.int .i64 ki, .string nm, .int .i64 dl, .slice x1 x2 x3, .string ky, .int .i64 la, .int .i64 wo, .int .i64 tk, .slice y1 y2 y3, .int .i64 ru, .int .u64 lu, .int .i64 ti], .agg #[.int .i64 ki', .string nm', .int .i64 dl', .slice x1' x2' x3', .string ky', .int .i64 la', .int .i64 wo', .int .i64 tk', .slice y1' y2' y3', .int .i64 ru', .int .u64 lu', .int .i64 ti']] w fun e w' => SmE P e ∧ Keep (fun _ => False) w w' := by
  have K1 := Keep.alloc (fun _ => False) w (.cells #[.int .i64 ki, .string nm, .int .i64 dl, .slice x1 x2 x3, .string ky, .int .i64 la, .int .i64 wo, .int .i64 tk, .slice y1 y2 y3, .int .i64 ru, .int .u64 lu, .int .i64 ti] 32)
  have K2 := Keep.alloc (fun _ => False) (w.alloc (.cells #[.int .i64 ki, .string nm, .int .i64 dl, .slice x1 x2 x3, .string ky, .int .i64 la, .int .i64 wo, .int .i64 tk, .slice y1 y2 y3, .int .i64 ru, .int .u64 lu, .int .i64 ti] 32)) (.cells #[.int .i64 ki', .string nm', .int .i64 dl', .slice x1' x2' x3', .string ky', .int .i64 la', .int .i64 wo', .int .i64 tk', .slice y1' y2' y3', .int .i64 ru', .int .u64 lu', .int .i64 ti'] 32)
  have hs1 : (w.alloc (.cells #[.int .i64 ki, .string nm, .int .i64 dl, .slice x1 x2 x3, .string ky, .int .i64 la, .int .i64 wo, .int .i64 tk, .slice y1 y2 y3, .int .i64 ru, .int .u64 lu, .int .i64 ti] 32)).heap.size = w.heap.size + 1 := by simp
  have hb1 := K2.blk (heap_alloc_new w (.cells #[.int .i64 ki, .string nm, .int .i64 dl, .slice x1 x2 x3, .string ky, .int .i64 la, .int .i64 wo, .int .i64 tk, .slice y1 y2 y3, .int .i64 ru, .int .u64 lu, .int .i64 ti] 32)) (fun f => f)
  have hb2 := heap_alloc_new (w.alloc (.cells #[.int .i64 ki, .string nm, .int .i64 dl, .slice x1 x2 x3, .string ky, .int .i64 la, .int .i64 wo, .int .i64 tk, .slice y1 y2 y3, .int .i64 ru, .int .u64 lu, .int .i64 ti] 32)) (.cells #[.int .i64 ki', .string nm', .int .i64 dl', .slice x1' x2' x3', .string ky', .int .i64 la', .int .i64 wo', .int .i64 tk', .slice y1' y2' y3', .int .i64 ru', .int .u64 lu', .int .i64 ti'] 32)
  rw [hs1] at hb2
  have kb := (K1.more K2).below (Nat.le_refl _) (fun _ f => f.elim)
  have HC := hide (And.intro (conv_rd (hR.keep kb) y3) (conv_rd (hS.keep kb) y3'))
  have HAL := hide (alike12_any nm dl (x1, x2, x3) xs nm' dl' (x1', x2', x3') ys _ _ _ (hP.new (K1.more K2)) (hQ.new (K1.more K2)))
  have KW := hide (K1.more K2)
  have HB1 := hide hb1
  have HB2 := hide hb2
  have HL := hide hL
  clear K1 K2 hb1 hb2 hs1 kb hP hQ hR hS hL
  go_enter Tryz.func16, Tryz.ntmps16
  go_upto_region 1 with fail
  generalize (w.alloc (.cells #[.int .i64 ki, .string nm, .int .i64 dl, .slice x1 x2 x3, .string ky, .int .i64 la, .int .i64 wo, .int .i64 tk, .slice y1 y2 y3, .int .i64 ru, .int .u64 lu, .int .i64 ti] 32)).alloc (.cells #[.int .i64 ki', .string nm', .int .i64 dl', .slice x1' x2' x3', .string ky', .int .i64 la', .int .i64 wo', .int .i64 tk', .slice y1' y2' y3', .int .i64 ru', .int .u64 lu', .int .i64 ti'] 32) = w2 at *
  generalize w.heap.size = N at *
  have p0 := cell_blk HB1.out 0 (v := .int .i64 ki) rfl
  have q0 := cell_blk HB2.out 0 (v := .int .i64 ki') rfl
  have p4 := cell_blk HB1.out 4 (v := .string ky) rfl
  have q4 := cell_blk HB2.out 4 (v := .string ky') rfl
  have p5 := cell_blk HB1.out 5 (v := .int .i64 la) rfl
  have q5 := cell_blk HB2.out 5 (v := .int .i64 la') rfl
  have p6 := cell_blk HB1.out 6 (v := .int .i64 wo) rfl
  have q6 := cell_blk HB2.out 6 (v := .int .i64 wo') rfl
  have p7 := cell_blk HB1.out 7 (v := .int .i64 tk) rfl
  have q7 := cell_blk HB2.out 7 (v := .int .i64 tk') rfl
  have p9 := cell_blk HB1.out 9 (v := .int .i64 ru) rfl
  have q9 := cell_blk HB2.out 9 (v := .int .i64 ru') rfl
  have p10 := cell_blk HB1.out 10 (v := .int .u64 lu) rfl
  have q10 := cell_blk HB2.out 10 (v := .int .u64 lu') rfl
  have p11 := cell_blk HB1.out 11 (v := .int .i64 ti) rfl
  have q11 := cell_blk HB2.out 11 (v := .int .i64 ti') rfl
  by_cases d : ki = ki'
  case neg =>
    have d' := (show (ki != ki') = true by simpa using d)
    have HA0 : Hid (false = true ↔ P) := ⟨fun e => (by cases e), fun e => absurd (HL.out.1 e) fun h => d h.1⟩
    clear d HL
    go_wp2_with fail
    go_ret
    exact ⟨⟨false, rfl, HA0.out⟩, KW.out⟩
  subst d
  by_cases d : ky = ky'
  case neg =>
    have d' := bytes_ne d
    have HA0 : Hid (false = true ↔ P) := ⟨fun e => (by cases e), fun e => absurd (HL.out.1 e) fun h => d h.2.1⟩
    clear d HL
    go_wp2_with fail
    go_ret
    exact ⟨⟨false, rfl, HA0.out⟩, KW.out⟩
  subst d
  by_cases d : la = la'
  case neg =>
    have d' := (show (la != la') = true by simpa using d)
    have HA0 : Hid (false = true ↔ P) := ⟨fun e => (by cases e), fun e => absurd (HL.out.1 e) fun h => d h.2.2.1⟩
    clear d HL
    go_wp2_with fail
    go_ret
    exact ⟨⟨false, rfl, HA0.out⟩, KW.out⟩
  subst d
  by_cases d : wo = wo'
  case neg =>
    have d' := (show (wo != wo') = true by simpa using d)
    have HA0 : Hid (false = true ↔ P) := ⟨fun e => (by cases e), fun e => absurd (HL.out.1 e) fun h => d h.2.2.2.1⟩
    clear d HL
    go_wp2_with fail
    go_ret
    exact ⟨⟨false, rfl, HA0.out⟩, KW.out⟩
  subst d
  by_cases d : tk = tk'
  case neg =>
    have d' := (show (tk != tk') = true by simpa using d)
    have HA0 : Hid (false = true ↔ P) := ⟨fun e => (by cases e), fun e => absurd (HL.out.1 e) fun h => d h.2.2.2.2.1⟩
    clear d HL
    go_wp2_with fail
    go_ret
    exact ⟨⟨false, rfl, HA0.out⟩, KW.out⟩
  subst d
  by_cases d : ru = ru'
  case neg =>
    have d' := (show (ru != ru') = true by simpa using d)
    have HA0 : Hid (false = true ↔ P) := ⟨fun e => (by cases e), fun e => absurd (HL.out.1 e) fun h => d h.2.2.2.2.2.1⟩
    clear d HL
    go_wp2_with fail
    go_ret
    exact ⟨⟨false, rfl, HA0.out⟩, KW.out⟩
  subst d
  by_cases d : lu = lu'
  case neg =>
    have d' := (show (lu != lu') = true by simpa using d)
    have HA0 : Hid (false = true ↔ P) := ⟨fun e => (by cases e), fun e => absurd (HL.out.1 e) fun h => d h.2.2.2.2.2.2.1⟩
    clear d HL
    go_wp2_with fail
    go_ret
    exact ⟨⟨false, rfl, HA0.out⟩, KW.out⟩
  subst d
  by_cases d : ti = ti'
  case neg =>
    have d' := (show (ti != ti') = true by simpa using d)
    have HA0 : Hid (false = true ↔ P) := ⟨fun e => (by cases e), fun e => absurd (HL.out.1 e) fun h => d h.2.2.2.2.2.2.2.1⟩
    clear d HL
    go_wp2_with fail
    go_ret
    exact ⟨⟨false, rfl, HA0.out⟩, KW.out⟩
  subst d
  obtain ⟨k1, k2⟩ := HC.out
  have p8 := cell_blk HB1.out 8 (v := .slice y1 y2 y3) rfl
  have q8 := cell_blk HB2.out 8 (v := .slice y1' y2' y3') rfl
  generalize str rl = s1 at *
  generalize str rl' = s2 at *
  by_cases d : s1 = s2
  case neg =>
    have d' := bytes_ne d
    have HA0 : Hid (false = true ↔ P) := ⟨fun e => (by cases e), fun e => absurd (HL.out.1 e) fun h => d h.2.2.2.2.2.2.2.2.1⟩
    clear d HL
    go_wp2_with fail
    go_ret
    exact ⟨⟨false, rfl, HA0.out⟩, KW.out⟩
  subst d
  have p1 := cell_blk HB1.out 1 (v := .string nm) rfl
  have q1 := cell_blk HB2.out 1 (v := .string nm') rfl
  have p2 := cell_blk HB1.out 2 (v := .int .i64 dl) rfl
  have q2 := cell_blk HB2.out 2 (v := .int .i64 dl') rfl
  have p3 := cell_blk HB1.out 3 (v := .slice x1 x2 x3) rfl
  have q3 := cell_blk HB2.out 3 (v := .slice x1' x2' x3') rfl
  go_wp2_with fail
  go_at_call 17
  refine HAL.out.mono ?_
  rintro e w3 ⟨⟨b, rfl, hb⟩, k3⟩
  have HA0 : Hid (b = true ↔ P) := ⟨fun e => HL.out.2 ⟨by trivial, by trivial, by trivial, by trivial, by trivial, by trivial, by trivial, by trivial, by trivial, hb.1 e⟩, fun e => hb.2 (HL.out.1 e).2.2.2.2.2.2.2.2.2⟩
  have K3 := hide (KW.out.more k3)
  clear HL hb k3 KW HAL HC k1 k2 HB1 HB2 p0 q0 p1 q1 p2 q2 p3 q3 p4 q4 p5 q5 p6 q6 p7 q7 p8 q8 p9 q9 p10 q10 p11 q11
  go_wp2_with fail
  go_ret
  exact ⟨⟨b, rfl, HA0.out⟩, K3.out⟩
theorem str_inj {a b : List Nat} (ha : ∀ x ∈ a, x < 256) (hb : ∀ x ∈ b, x < 256) (h : str a = str b) : a = b := by
  have e := congrArg sb h
  rwa [sb_str _ ha, sb_str _ hb] at e
theorem ov_ext {d e : Ov} (h0 : d.ki = e.ki) (h1 : d.pl = e.pl) (h2 : d.ky = e.ky) (h3 : d.la = e.la) (h4 : d.wo = e.wo) (h5 : d.tk = e.tk) (h6 : d.ry = e.ry) (h7 : d.ru = e.ru) (h8 : d.lu = e.lu) (h9 : d.ti = e.ti) : d = e := by
  obtain ⟨a0, a1, a2, a3, a4, a5, a6, a7, a8, a9⟩ := d
  obtain ⟨b0, b1, b2, b3, b4, b5, b6, b7, b8, b9⟩ := e
  obtain rfl : a0 = b0 := h0
  obtain rfl : a1 = b1 := h1
  obtain rfl : a2 = b2 := h2
  obtain rfl : a3 = b3 := h3
  obtain rfl : a4 = b4 := h4
  obtain rfl : a5 = b5 := h5
  obtain rfl : a6 = b6 := h6
  obtain rfl : a7 = b7 := h7
  obtain rfl : a8 = b8 := h8
  obtain rfl : a9 = b9 := h9
  rfl
theorem like_val {d e : Ov} {w : World} {u v : Value} (h : OvV d w u) (hk : OvK d) (g : OvV e w v) (gk : OvK e) :
    Calls Tryz.prog 16 #[u, v] w fun en w' => SmE (d = e) en ∧ Keep (fun _ => False) w w' := by
  obtain ⟨ki, nm, dl, x1, x2, x3, ky, la, wo, tk, y1, y2, y3, ru, lu, ti, xs, rfl, h1, -, -, -, -, -⟩ := h.inp hk
  obtain ⟨ki', nm', dl', x1', x2', x3', ky', la', wo', tk', y1', y2', y3', ru', lu', ti', xs', rfl, g1, -, -, -, -, -⟩ := g.inp gk
  refine like12_any ki nm dl x1 x2 x3 ky la wo tk y1 y2 y3 ru lu ti xs d.ry ki' nm' dl' x1' x2' x3' ky' la' wo' tk' y1' y2' y3' ru' lu' ti' xs' e.ry (d = e) _ _ w h1.erdp g1.erdp h1.ery g1.ery ?_
  rw [alkp_iff]
  constructor
  · intro e0
    subst e0
    have t4 := congrArg str (h1.eky.symm.trans g1.eky)
    rw [str_sb, str_sb] at t4
    have t10 : (lu : Int) = lu' := h1.elu.1.trans g1.elu.1.symm
    exact ⟨h1.eki.symm.trans g1.eki, t4, h1.ela.1.symm.trans g1.ela.1, h1.ewo.1.symm.trans g1.ewo.1, h1.etk.1.symm.trans g1.etk.1, h1.eru.1.symm.trans g1.eru.1, t10, h1.eti.1.symm.trans g1.eti.1, rfl, h1.epl.symm.trans g1.epl⟩
  · rintro ⟨c0, c4, c5, c6, c7, c9, c10, c11, c8, cp⟩
    refine ov_ext (h1.eki.trans (c0.trans g1.eki.symm)) (h1.epl.trans (cp.trans g1.epl.symm)) (h1.eky.trans ((congrArg sb c4).trans g1.eky.symm)) (h1.ela.1.trans (c5.trans g1.ela.1.symm)) (h1.ewo.1.trans (c6.trans g1.ewo.1.symm)) (h1.etk.1.trans (c7.trans g1.etk.1.symm)) (str_inj hk.ry gk.ry c8) (h1.eru.1.trans (c9.trans g1.eru.1.symm)) ?_ (h1.eti.1.trans (c11.trans g1.eti.1.symm))
    have t := h1.elu.1.symm.trans (c10.trans g1.elu.1)
    omega
end Cd
end Go.Proofs.YtbjcckfhfbjchaaGreat
