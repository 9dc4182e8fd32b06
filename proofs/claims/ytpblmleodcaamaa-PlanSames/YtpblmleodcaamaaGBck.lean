/- back: a lent plan is as it was, and the marks. -/
import Derived.Test.YtpblmleodcaamaaGTnM
import Derived.Test.YtpblmleodcaamaaGRfS
import Derived.Deep.Cut
namespace Go.Proofs.Ytpblmleodcaamaa
namespace Gr
open Go.RowKit

theorem calls_behindK {f : FuncId} {args : Array Value} {W : World} (u : Behind W) {v : Value}
    (h : Calls Try.prog f args u.1 fun e w' => e = .returned v ∧ Keep (fun _ => False) u.1 w') : Calls Try.prog f args u.1 fun e w'' => e = .returned v ∧ ∃ u' : Behind W, w'' = u'.1 :=
  h.mono fun _ w' ⟨he, hb⟩ => ⟨he, ⟨w', (u.keep.more hb).below (Nat.le_refl _) fun _ f => f.elim⟩, rfl⟩
section
variable {b : Nat} {w w' : World} {n : Nat} {xs : List No} {G : Nat} {ys : List No} {v1 v2 : Value}
theorem Ln.new (h : Ln b w n xs G ys v1 v2) (k : Keep (fun _ => False) w w') : Ln b w' n xs G ys v1 v2 :=
  ⟨h.len, h.rows.new k fun f => f, h.lts.new k, ownsRow_new h.o1 k, ownsRow_new h.o2 k, h.fr, h.gb⟩
theorem Ln.alk (h : Ln b w n xs G ys v1 v2) (hl : xs.length = n) (nm : ByteArray) (dl : Int) : AlkP nm dl ys nm dl xs := by
  refine ⟨rfl, rfl, by rw [h.len, hl], fun i y x hy hx => ?_⟩
  have ht := h.lts i x y hx hy
  have e := ht.q
  refine ⟨ht.nl, ht.al, ?_, ?_, ?_, ?_, ?_, ?_, ?_, ?_⟩ <;> rw [e]
/-- one node and its lists -/
theorem Ln.at (h : Ln b w n xs G ys v1 v2) (hl : xs.length = n) {i : Nat} (hi : i < n) : ∃ x h1 c1 h2 c2 g1 g2, xs[i]? = some x ∧ v1 = .slice (some ⟨h1, 0, none⟩) n c1 ∧ v2 = .slice (some ⟨h2, 0, none⟩) n c2 ∧ w.cell? ⟨h1, i, none⟩ = some (.slice (some ⟨g1, 0, none⟩) (x.nl.length + 20) (x.nl.length + 20)) ∧ w.cell? ⟨h2, i, none⟩ = some (.slice (some ⟨g2, 0, none⟩) (x.al.length + 20) (x.al.length + 20)) ∧ Own w g1 (marked x.nl) ∧ Own w g2 (marked x.al) := by
  have hy : ys[i]? = some (ys[i]'(by rw [h.len]; exact hi)) := List.getElem?_eq_getElem _
  have hx : xs[i]? = some (xs[i]'(by rw [hl]; exact hi)) := List.getElem?_eq_getElem _
  obtain ⟨h1, c1, e1⟩ := own_form h.o1 (by omega)
  obtain ⟨h2, c2, e2⟩ := own_form h.o2 (by omega)
  have ht := h.lts i _ _ hx hy
  obtain ⟨g1, f1, w1⟩ := ht.ne
  obtain ⟨g2, f2, w2⟩ := ht.af
  have o1 := h.o1
  have o2 := h.o2
  rw [e1] at o1
  rw [e2] at o2
  refine ⟨_, h1, c1, h2, c2, g1, g2, hx, e1, e2, ?_, ?_, w1, w2⟩
  · rw [o1.cellAt i (by omega)]
    unfold noteN
    rw [List.getElem?_map, hy]
    simp [f1, ht.nl]
  · rw [o2.cellAt i (by omega)]
    unfold noteA
    rw [List.getElem?_map, hy]
    simp [f2, ht.al]
theorem Ln.mark (h : Ln b w n xs G ys v1 v2) {i : Nat} (h1 : n ≤ i) (h2 : i < n + 3) : NodeAt w G (i * 10) mkN := by
  refine h.rows.node i mkN ?_
  rw [List.getElem?_append_right (by rw [List.length_map, h.len]; exact h1), List.length_map, h.len, List.getElem?_replicate, if_pos (by omega)]
end
theorem edges_at {xs : List No} (h : xs.length + edges xs ≤ 20000) : ∀ x ∈ xs, x.nl.length ≤ 20000 ∧ x.al.length ≤ 20000 := fun x hx => by
  have := edges_ge hx
  omega
set_option maxRecDepth 100000 in
set_option maxHeartbeats 20000000 in
theorem back_any (nm : ByteArray) (dl : Int) (s : Option Addr × Nat × Nat) (xs : List No) (B : Nat) (w : World) (b G : Nat) (ys : List No) (v1 v2 : Value) (hP : RdP B w s xs) (hL : Ln b w s.2.1 xs G ys v1 v2) (hes : xs.length + edges xs ≤ 20000) :
    Calls Try.prog 11 #[.agg #[.string nm, .int .i64 dl, .slice (some ⟨G, 0, none⟩) s.2.1 (s.2.1 + 3), .slice (some ⟨G, 0, none⟩) (s.2.1 + 3) (s.2.1 + 3), v1, v2], .agg #[.string nm, .int .i64 dl, .slice s.1 s.2.1 s.2.2]] w fun e w' => e = .returned (.bool true) ∧ Keep (fun _ => False) w w' := by
  obtain ⟨a, n, c⟩ := s
  have hnx : xs.length = n := hP.1.symm
  simp only at hL ⊢
  obtain ⟨a1, d1, hv1⟩ := ownsRow_shape hL.o1
  obtain ⟨a2, d2, hv2⟩ := ownsRow_shape hL.o2
  subst hv1
  subst hv2
  have hn : n ≤ 20000 := by omega
  have K1 := Keep.alloc (fun _ => False) w (.cells #[.string nm, .int .i64 dl, .slice (some ⟨G, 0, none⟩) n (n + 3), .slice (some ⟨G, 0, none⟩) (n + 3) (n + 3), .slice a1 n d1, .slice a2 n d2] 29)
  have K2 := Keep.alloc (fun _ => False) (w.alloc (.cells #[.string nm, .int .i64 dl, .slice (some ⟨G, 0, none⟩) n (n + 3), .slice (some ⟨G, 0, none⟩) (n + 3) (n + 3), .slice a1 n d1, .slice a2 n d2] 29)) (.cells #[.string nm, .int .i64 dl, .slice a n c] 24)
  have hs1 : (w.alloc (.cells #[.string nm, .int .i64 dl, .slice (some ⟨G, 0, none⟩) n (n + 3), .slice (some ⟨G, 0, none⟩) (n + 3) (n + 3), .slice a1 n d1, .slice a2 n d2] 29)).heap.size = w.heap.size + 1 := by simp
  have hb1 := K2.blk (heap_alloc_new w (.cells #[.string nm, .int .i64 dl, .slice (some ⟨G, 0, none⟩) n (n + 3), .slice (some ⟨G, 0, none⟩) (n + 3) (n + 3), .slice a1 n d1, .slice a2 n d2] 29)) (fun f => f)
  have hb2 := heap_alloc_new (w.alloc (.cells #[.string nm, .int .i64 dl, .slice (some ⟨G, 0, none⟩) n (n + 3), .slice (some ⟨G, 0, none⟩) (n + 3) (n + 3), .slice a1 n d1, .slice a2 n d2] 29)) (.cells #[.string nm, .int .i64 dl, .slice a n c] 24)
  rw [hs1] at hb2
  have KW := hide (K1.more K2)
  have HB1 := hide hb1
  have HB2 := hide hb2
  have HP := hide hP
  have HL := hide hL
  have HNX := hide hnx
  have HES := hide (edges_at hes)
  have HRD : Hid (∀ W, Ln b W n xs G ys (.slice a1 n d1) (.slice a2 n d2) → RdP W.heap.size W (some ⟨G, 0, none⟩, n, n + 3) ys) := fun W h => by
    refine ⟨h.len.symm, by show n ≤ _; omega, .inr ⟨G, 0, rfl, h.rows.lt, fun i x hx => ?_⟩, fun y hy => ?_⟩
    · rw [Nat.zero_add]
      refine h.rows.node i x.q ?_
      rw [List.getElem?_append_left (by rw [List.length_map]; exact (List.getElem?_eq_some_iff.1 hx).1), List.getElem?_map, hx]
      rfl
    · obtain ⟨k, hk⟩ := List.getElem?_of_mem hy
      have hkl : k < xs.length := by have := (List.getElem?_eq_some_iff.1 hk).1; rw [h.len] at this; omega
      have hx : xs[k]? = some (xs[k]'hkl) := List.getElem?_eq_getElem _
      have ht := h.lts k _ y hx hk
      have hbd := HES.out _ (List.mem_of_getElem? hx)
      obtain ⟨g1, e1, o1⟩ := ht.ne
      obtain ⟨g2, e2, o2⟩ := ht.af
      have r1 := o1.rd (n := xs[k].nl.length) (by rw [marked_len]; omega) (by rw [marked_len]; omega) (xs[k].nl.length + 20)
      have r2 := o2.rd (n := xs[k].al.length) (by rw [marked_len]; omega) (by rw [marked_len]; omega) (xs[k].al.length + 20)
      rw [marked_take] at r1 r2
      rw [e1, e2, ht.nl, ht.al]
      exact ⟨r1, r2⟩
  clear K1 K2 hb1 hb2 hs1 hP hL hes hnx
  go_enter Try.func11, Try.ntmps11
  go_upto_region 1 with fail
  generalize (w.alloc (.cells #[.string nm, .int .i64 dl, .slice (some ⟨G, 0, none⟩) n (n + 3), .slice (some ⟨G, 0, none⟩) (n + 3) (n + 3), .slice a1 n d1, .slice a2 n d2] 29)).alloc (.cells #[.string nm, .int .i64 dl, .slice a n c] 24) = w2 at *
  generalize w.heap.size = N at *
  have HM : Hid (∀ W, Keep (fun _ => False) w2 W → (W.cell? ⟨N, 0, none⟩ = some (.string nm) ∧ W.cell? ⟨N, 1, none⟩ = some (.int .i64 dl) ∧ W.cell? ⟨N, 2, none⟩ = some (.slice (some ⟨G, 0, none⟩) n (n + 3)) ∧ W.cell? ⟨N, 3, none⟩ = some (.slice (some ⟨G, 0, none⟩) (n + 3) (n + 3)) ∧ W.cell? ⟨N, 4, none⟩ = some (.slice a1 n d1) ∧ W.cell? ⟨N, 5, none⟩ = some (.slice a2 n d2)) ∧ (W.cell? ⟨N + 1, 0, none⟩ = some (.string nm) ∧ W.cell? ⟨N + 1, 1, none⟩ = some (.int .i64 dl) ∧ W.cell? ⟨N + 1, 2, none⟩ = some (.slice a n c)) ∧ RdP B W (a, n, c) xs ∧ Ln b W n xs G ys (.slice a1 n d1) (.slice a2 n d2) ∧ Keep (fun _ => False) w W) := fun W k =>
    ⟨⟨cell_blk (k.blk HB1.out (fun h => h)) 0 rfl, cell_blk (k.blk HB1.out (fun h => h)) 1 rfl, cell_blk (k.blk HB1.out (fun h => h)) 2 rfl, cell_blk (k.blk HB1.out (fun h => h)) 3 rfl, cell_blk (k.blk HB1.out (fun h => h)) 4 rfl, cell_blk (k.blk HB1.out (fun h => h)) 5 rfl⟩, ⟨cell_blk (k.blk HB2.out (fun h => h)) 0 rfl, cell_blk (k.blk HB2.out (fun h => h)) 1 rfl, cell_blk (k.blk HB2.out (fun h => h)) 2 rfl⟩, HP.out.new (KW.out.more k), HL.out.new (KW.out.more k), KW.out.more k⟩
  clear HP HL KW HB1 HB2
  obtain ⟨⟨_, _, _, c3, _, _⟩, ⟨_, _, e2⟩, _, _, _⟩ := HM.out w2 (Keep.refl _ _)
  go_wp2_with fail
  clear c3 e2
  go_loopw [5] (fun iv wr => ∃ i : Nat, iv = .int .i64 (i : Nat) ∧ n ≤ i ∧ i ≤ n + 3 ∧ Hid (Keep (fun _ => False) w2 wr)) (fun iv _ => n + 3 - (intOf iv).toNat)
  case atStart => exact ⟨n, rfl, Nat.le_refl _, by omega, Keep.refl _ _⟩
  case round => as_aux_lemma =>
    obtain ⟨i, rfl, hi1, hi2, HK⟩ := hrel
    obtain ⟨⟨c0, c1, c2, c3, c4, c5⟩, ⟨e0, e1, e2⟩, hp, hL, kf⟩ := HM.out wr HK.out
    by_cases hlt : i < n + 3
    · have hlt' : (i : Int) < (n : Int) + 3 := by omega
      obtain ⟨n0, n1, n2, n3, n4, n5, n6, n7, n8, n9⟩ := (hL.mark hi1 hlt).all
      simp only [mkN] at n0 n8 n9
      clear n1 n2 n3 n4 n5 n6 n7 c0 c1 c2 c4 c5 e0 e1 hp hL kf
      go_wp2_with fail
      go_roundw
      · exact ⟨i + 1, rfl, by omega, by omega, HK.out⟩
      · show n + 3 - ((i : Int) + 1).toNat < n + 3 - (i : Int).toNat
        omega
    · obtain rfl : i = n + 3 := by omega
      have HK1 := hide HK.out
      clear HK c0 c1 c2 c4 c5 e0 e1 hp hL kf hlt
      go_wp2_with fail
      clear c3 e2
      go_loopw [6] (fun iv wx => ∃ i : Nat, iv = .int .i64 (i : Nat) ∧ i ≤ n ∧ Hid (Keep (fun _ => False) w2 wx)) (fun iv _ => n - (intOf iv).toNat)
      case atStart => exact ⟨0, rfl, Nat.zero_le _, HK1.out⟩
      case round => as_aux_lemma =>
        clear HK1
        obtain ⟨i, rfl, hi, HK⟩ := hrel
        obtain ⟨⟨c0, c1, c2, c3, c4, c5⟩, ⟨e0, e1, e2⟩, hp, hL, kf⟩ := HM.out wr HK.out
        by_cases hlt : i < n
        · as_aux_lemma =>
          obtain ⟨g, off, x, ha, hg, hx, hnd, hz1, hz2⟩ := hp.at (i := i) hlt
          obtain ⟨x', h1, k1, h2, k2, g1, g2, hx', ev1, ev2, hc1, hc2, ow1, ow2⟩ := hL.at HNX.out hlt
          obtain rfl : x = x' := by rw [hx] at hx'; exact Option.some.inj hx'
          have ha : a = some ⟨g, off, none⟩ := ha
          subst ha
          obtain ⟨rfl, rfl⟩ : a1 = some ⟨h1, 0, none⟩ ∧ d1 = k1 := by injection ev1 with x y z; exact ⟨x, z⟩
          obtain ⟨rfl, rfl⟩ : a2 = some ⟨h2, 0, none⟩ ∧ d2 = k2 := by injection ev2 with x y z; exact ⟨x, z⟩
          have hbd := HES.out x (List.mem_of_getElem? hx)
          have n8 := hnd.all.2.2.2.2.2.2.2.2.1
          have n9 := hnd.all.2.2.2.2.2.2.2.2.2
          have KP1 : Hid (∀ u : Behind wr, Calls Try.prog 28 #[.slice (some ⟨g1, 0, none⟩) (x.nl.length + 20) (x.nl.length + 20), .slice x.q.ne.1 x.q.ne.2.1 x.q.ne.2.2] u.1 fun e w' => e = .returned (.bool true) ∧ Keep (fun _ => False) u.1 w') := fun u => kept_any g1 _ _ B u.1 (ow1.keep u.keep fun f => f) (hz1.new u.keep) hbd.1
          have KP2 : Hid (∀ W, Keep (fun _ => False) wr W → Calls Try.prog 28 #[.slice (some ⟨g2, 0, none⟩) (x.al.length + 20) (x.al.length + 20), .slice x.q.af.1 x.q.af.2.1 x.q.af.2.2] W fun e w' => e = .returned (.bool true) ∧ Keep (fun _ => False) W w') := fun W k => kept_any g2 _ _ B W (ow2.keep k fun f => f) (hz2.new k) hbd.2
          generalize x.q.ne.1 = y1 at *
          generalize x.q.ne.2.1 = y2 at *
          generalize x.q.ne.2.2 = y3 at *
          generalize x.q.af.1 = u1 at *
          generalize x.q.af.2.1 = u2 at *
          generalize x.q.af.2.2 = u3 at *
          generalize x.nl.length = l1 at *
          generalize x.al.length = l2 at *
          have HS := hide (fun (u : Behind wr) => And.intro (u.cell c5) (And.intro (u.cell e2) (And.intro (u.cell hc2) (u.cell n9))))
          have f1 := fun u : Behind wr => u.cell c4
          have f2 := fun u : Behind wr => u.cell e2
          have f3 := fun u : Behind wr => u.cell hc1
          have f4 := fun u : Behind wr => u.cell n8
          haveI := behindNE wr
          clear ev1 ev2 hx hx' hnd hz1 hz2 ow1 ow2 hp hL kf c0 c1 c2 c3 c5 e0 e1 hc2 n9 hbd ha HRD HES
          go_upto_region 9 with fail
          refine quiet_behind (by kernel_rfl) (by kernel_rfl) ?_
          repeat (go_big_quiet_step ((go_at_call 28; exact calls_behindK _ (KP1.out _))))
          refine wpQuiet_nil ?_
          intro _ hw'
          obtain ⟨u, hw''⟩ := hw'
          subst hw''
          have KU := hide (HK.out.more u.keep)
          obtain ⟨d5, d2', d3, d4⟩ := HS.out u
          have KP3 : Hid (∀ v : Behind u.1, Calls Try.prog 28 #[.slice (some ⟨g2, 0, none⟩) (l2 + 20) (l2 + 20), .slice u1 u2 u3] v.1 fun e w' => e = .returned (.bool true) ∧ Keep (fun _ => False) v.1 w') := fun v => KP2.out v.1 (u.keep.more v.keep)
          clear f1 f2 f3 f4 KP1 KP2 HS c4 e2 hc1 n8 HK
          generalize u.1 = w4 at *
          have f1 := fun u : Behind w4 => u.cell d5
          have f2 := fun u : Behind w4 => u.cell d2'
          have f3 := fun u : Behind w4 => u.cell d3
          have f4 := fun u : Behind w4 => u.cell d4
          haveI := behindNE w4
          go_upto_region 10 with fail
          refine quiet_behind (by kernel_rfl) (by kernel_rfl) ?_
          repeat (go_big_quiet_step ((go_at_call 28; exact calls_behindK _ (KP3.out _))))
          refine wpQuiet_nil ?_
          intro _ hw'
          obtain ⟨v, hw''⟩ := hw'
          subst hw''
          have KV := hide (KU.out.more v.keep)
          clear f1 f2 f3 f4 KP3 d5 d2' d3 d4 KU
          go_wp2_with fail
          go_roundw
          · exact ⟨i + 1, rfl, by omega, KV.out⟩
          · show n - ((i : Int) + 1).toNat < n - (i : Int).toNat
            omega
        · as_aux_lemma =>
          obtain rfl : i = n := by omega
          have SM := hide (refSame_any nm dl _ _ nm dl _ _ _ _ wr (HRD.out wr hL) hp)
          have AL := hide (hL.alk HNX.out nm dl)
          have KF := hide kf
          clear hp hL kf c3 c4 c5 HK hlt HRD HES
          go_wp2_with fail
          go_at_call 22
          refine SM.out.mono ?_
          rintro e w5 ⟨⟨r, rfl, hr⟩, k5⟩
          obtain rfl : r = true := hr.2 AL.out
          have K5 := hide (KF.out.more k5)
          clear hr k5
          go_wp2_with fail
          go_ret
          exact ⟨rfl, K5.out⟩
end Gr
end Go.Proofs.Ytpblmleodcaamaa
