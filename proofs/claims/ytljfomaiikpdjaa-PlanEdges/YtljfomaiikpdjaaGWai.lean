/- waits: the statement's own search. -/
import Derived.Test.YtljfomaiikpdjaaGWaM
namespace Go.Proofs.Ytljfomaiikpdjaa
namespace Gr
open Go.RowKit

set_option maxRecDepth 100000 in
set_option maxHeartbeats 4000000 in
theorem waits_E (E : Nat → List Nat) (nm : ByteArray) (dl : Int) (s : Option Addr × Nat × Nat) (xs : List No) (fr t : Nat) (b : Bool) (B : Nat) (w : World) (hP : RdP B w s xs) (hB : B ≤ w.heap.size) (hv : Val xs) (hc : Caps xs) (hf : fr < xs.length) (hes : edges xs ≤ 20000) (hE0 : ∀ i x, xs[i]? = some x → E i = (zn b x).map Int.toNat) :
    Calls Try.prog 10 #[.agg #[.string nm, .int .i64 dl, .slice s.1 s.2.1 s.2.2], .int .i64 (fr : Int), .int .i64 (t : Int), .bool b] w fun e w' => WaR (Waits E fr t) e ∧ Keep (fun _ => False) w w' := by
  have HEE := hide hE0
  clear hE0
  obtain ⟨a, n, c⟩ := s
  have HN : Hid (n = xs.length) := hP.1
  have hn64 : n ≤ 64 := by have := hv.1; have := HN.out; omega
  have KW := hide (Keep.alloc (fun _ => False) w (.cells #[.string nm, .int .i64 dl, .slice a n c] 24))
  have cell2 : (w.alloc (.cells #[.string nm, .int .i64 dl, .slice a n c] 24)).cell? ⟨w.heap.size, 2, none⟩ = some (.slice a n c) := by rw [World.cell?_alloc_mark]; rfl
  have C2 := hide cell2
  have HSW := hide (show (w.alloc (.cells #[.string nm, .int .i64 dl, .slice a n c] 24)).heap.size = w.heap.size + 1 by simp)
  have hmk := made_bools (w.alloc (.cells #[.string nm, .int .i64 dl, .slice a n c] 24)) n (by omega)
  rw [HSW.out] at hmk
  have HP := hide (hP.new KW.out)
  clear hP cell2
  have KM := hide (Keep.alloc (fun _ => False) (w.alloc (.cells #[.string nm, .int .i64 dl, .slice a n c] 24)) (.cells (madeCells #[.bool false] n) 4))
  have SN := hide (seen_new (w.alloc (.cells #[.string nm, .int .i64 dl, .slice a n c] 24)) n)
  rw [HSW.out] at SN
  obtain ⟨w1, hw1⟩ : ∃ w1, w1 = (w.alloc (.cells #[.string nm, .int .i64 dl, .slice a n c] 24)).alloc (.cells (madeCells #[.bool false] n) 4) := ⟨_, rfl⟩
  rw [← hw1] at KM SN
  have HS1 : Hid (w1.heap.size = w.heap.size + 2) := hide (by rw [hw1]; simp)
  have P1 := hide (HP.out.new KM.out)
  have CA := hide (cell_one w1 (.int .i64 (fr : Int)) 3)
  have kA := Keep.alloc (fun _ => False) w1 (.cells #[.int .i64 (fr : Int)] 3)
  have P2 := hide (P1.out.new kA)
  have SA := hide (SN.out.keep kA fun f => f)
  have C2A := hide (kA.cell (KM.out.cell C2.out fun f => f) fun f => f)
  have KA := hide ((KW.out.more KM.out).more kA)
  have hszA : w.heap.size + 2 ≤ (w1.alloc (.cells #[.int .i64 (fr : Int)] 3)).heap.size := by have := kA.size; have := HS1.out; omega
  rw [HS1.out] at CA
  have HW1 := hide hw1
  rw [hw1] at CA P2 SA C2A KA hszA
  have ON := hide (World.ownsRow_nil (((w.alloc (.cells #[.string nm, .int .i64 dl, .slice a n c] 24)).alloc (.cells (madeCells #[.bool false] n) 4)).alloc (.cells #[.int .i64 (fr : Int)] 3)) (w.heap.size + 2) 3 1)
  clear hw1 kA KM SN P1 C2
  go_enter Try.func10, Try.ntmps10
  go_wp2_with (at_builtin; go_must (refine wp_append1 rfl _ _ rfl (w.heap.size + 2) (.slice none 0 0) 0 [] rfl ON.out ⟨w.heap.size + 2, 0, none⟩ fr rfl CA.out (by omega) hszA ?_); intro v0 w2 o2 k2 b2; have O2 := hide o2; have K2 := hide k2; clear o2 k2 b2)
  have kk : Keep (fun _ => False) _ w2 := K2.out.mono fun k e => by cases e
  have P3 := hide ((P2.out.new kk))
  have S3 := hide (SA.out.keep kk fun f => f)
  have c3 := kk.cell C2A.out fun f => f
  have K3 := hide (KA.out.more kk)
  have hsz3 : w.heap.size + 2 ≤ w2.heap.size := by have := kk.size; omega
  clear kk P2 SA C2A KA K2 CA ON
  go_loopw [10, 11] (fun vv iv' wr => ∃ (i : Nat) (o : List Nat) (v : Value), vv = v ∧ iv' = .int .i64 (i : Nat) ∧ i ≤ 65 ∧ wr.cell? ⟨w.heap.size, 2, none⟩ = some (.slice a n c) ∧ Hid (Bfs E n fr t o i ∧ wr.ownsRow (w.heap.size + 2) 3 1 v o.length (iv o) ∧ SeenAt wr (w.heap.size + 1) n o.tail ∧ w.heap.size + 2 ≤ wr.heap.size ∧ RdP B wr (a, n, c) xs ∧ Keep (fun _ => False) w wr)) (fun _ iv' _ => 66 - (intOf iv').toNat)
  case atStart => exact ⟨0, [fr], v0, rfl, rfl, by omega, c3, Bfs.start _ _ _ _, O2.out, S3.out, hsz3, P3.out, K3.out⟩
  case round =>
    obtain ⟨i, o, v, hvv, rfl, hi, hcc, HD⟩ := hrel
    subst hvv
    obtain ⟨q1, q2, q3, q4, q5, q6⟩ := HD.out
    have hol := q1.len
    have hil := q1.le
    obtain ⟨va, vc, hvs⟩ := ownsRow_shape q2
    subst hvs
    by_cases hlt : i < o.length
    · obtain ⟨x0, hx0⟩ : ∃ x0, o[i]? = some x0 := ⟨_, List.getElem?_eq_getElem hlt⟩
      have hxn := q1.lt (by have := HN.out; omega) hx0
      obtain ⟨va', vc', hvs', rdo⟩ := ownsRow_rd q2 (by omega)
      injection hvs' with e1 e2 e3
      subst e1
      subst e3
      obtain ⟨go, offo, y, hva, hgo, hy, hcy⟩ := rdo.at (i := i) hlt
      have hva : va = some ⟨go, offo, none⟩ := hva
      subst hva
      rw [List.getElem?_map, hx0] at hy
      obtain rfl := Option.some.inj hy
      obtain ⟨g, off, x, ha, hg, hx, hN, hz1, hz2⟩ := q5.at hxn
      have ha : a = some ⟨g, off, none⟩ := ha
      subst ha
      have HX := hide hx
      have HX0 := hide hx0
      have Z1 := hide hz1
      have Z2 := hide hz2
      obtain ⟨⟨nm', la, bu, cl, be, ba, ca, ji, ⟨ne1, ne2, ne3⟩, ⟨af1, af2, af3⟩⟩, nl, al⟩ := x
      obtain ⟨n0, n1, n2, n3, n4, n5, n6, n7, n8, n9⟩ := hN.all
      have Q1 := hide q1
      have Q2 := hide q2
      have Q3 := hide q3
      have Q5 := hide q5
      have Q6 := hide q6
      clear q1 q2 q3 q5 q6 HD rdo hy hx hx0 hN hz1 hz2 e2
      simp only at *
      obtain ⟨W3, hW3⟩ : ∃ W3, W3 = (wr.alloc (.cells #[.string nm', .int .i64 la, .int .i64 bu, .int .i64 cl, .int .i64 be, .int .i64 ba, .int .i64 ca, .int .i64 ji, .slice ne1 ne2 ne3, .slice af1 af2 af3] 45)).drew := ⟨_, rfl⟩
      have k3 : Keep (fun _ => False) wr W3 := by rw [hW3]; exact (Keep.alloc _ _ _).more (Keep.drew _ _)
      have hsz3 : W3.heap.size = wr.heap.size + 1 := by rw [hW3]; show (wr.alloc _).heap.size = _; simp
      have b3 : W3.heap[wr.heap.size]? = some (.cells #[.string nm', .int .i64 la, .int .i64 bu, .int .i64 cl, .int .i64 be, .int .i64 ba, .int .i64 ca, .int .i64 ji, .slice ne1 ne2 ne3, .slice af1 af2 af3] 45 (0, 0)) := by rw [hW3]; exact heap_alloc_new wr _
      have m8 := cell_blk b3 8 (v := .slice ne1 ne2 ne3) rfl
      have m9 := cell_blk b3 9 (v := .slice af1 af2 af3) rfl
      have Z13 := hide (Z1.out.new k3)
      have Z23 := hide (Z2.out.new k3)
      have O3 := hide (ownsRow_new Q2.out k3)
      have S3 := hide (Q3.out.keep k3 fun f => f)
      have P3 := hide (Q5.out.new k3)
      have K3 := hide (Q6.out.more k3)
      have hcc3 := k3.cell hcc fun f => f
      have HW3 := hide hW3
      have hxm := List.mem_of_getElem? HX.out
      have hcp := hc _ hxm
      have HCP1 : Hid (ne1 = none → ne3 = 0) := hcp.1
      have HCP2 : Hid (af1 = none → af3 = 0) := hcp.2
      have hed : nl.length + al.length ≤ 20000 := Nat.le_trans (edges_ge hxm) hes
      have HVE : Hid (∀ e ∈ nl ++ al, 0 ≤ e ∧ e < xs.length) := hv.2 _ hxm
      clear k3 hW3 hxm hcp
      have hg1 : g < wr.heap.size := by omega
      have hg2 : w.heap.size < wr.heap.size := by omega
      have hg3 : go < wr.heap.size := hgo
      go_wp2_with fail
      go_region
      rw [← HW3.out]
      clear HW3 n0 n1 n2 n3 n4 n5 n6 n7 n8 n9 hg1 hg2 hg3 hcc Q2 Q3 Q5 Q6 Z1 Z2 hcy
      have hszL : w.heap.size + 2 ≤ W3.heap.size := by omega
      obtain ⟨L, hL⟩ : ∃ L, L = W3.heap.size := ⟨_, rfl⟩
      have HL := hide hL
      clear hL
      obtain ⟨zl, hzl⟩ : ∃ zl, zl = zn b (⟨⟨nm', la, bu, cl, be, ba, ca, ji, (ne1, ne2, ne3), (af1, af2, af3)⟩, nl, al⟩ : No) := ⟨_, rfl⟩
      have HEN := hide ((HEE.out _ _ HX.out).trans (by rw [← hzl]) : E x0 = zl.map Int.toNat)
      have HZB : Hid (∀ e ∈ zl, 0 ≤ e ∧ e < xs.length) := fun e he => HVE.out e (by
        rw [hzl] at he
        cases b
        · exact he
        · exact List.mem_append.2 (.inl he))
      have hzlen : zl.length ≤ 20000 := by
        rw [hzl]
        cases b
        · simp [zn]; omega
        · simp [zn]; omega
      have HZL := hide hzl
      clear hzl HVE
      cases b
      focus
        go_wp2_with (first
          | (at_builtin; refine wp_appendZ rfl _ _ rfl L B (.slice none 0 0) 0 [] rfl (World.ownsRow_nil _ _ _ _) (ne1, ne2, ne3) nl rfl Z13.out HCP1.out (by omega) (by rw [HL.out]; omega) ?_; intro v4 w4 o4 k4; rw [Nat.zero_add, List.nil_append] at o4; have O4 := hide o4; have kk := k4.mono (T := fun _ => False) (fun k e => by cases e); have K4 := hide kk; have m9 := kk.cell m9 fun f => f; obtain ⟨a4, c4, hv4⟩ := ownsRow_shape o4; subst hv4; clear o4 k4 kk)
          | (at_builtin; go_must (refine wp_appendZ rfl _ _ rfl L B (.slice a4 nl.length c4) nl.length nl rfl O4.out (af1, af2, af3) al rfl (Z23.out.new K4.out) HCP2.out (by omega) (by rw [HL.out]; exact K4.out.size) ?_); intro v5 w5 o5 k5; have O5 := hide o5; have K5 := hide k5; clear o5 k5))
        have OL : Hid (w5.ownsRow L 3 1 v5 zl.length (zl.map (Value.int .i64))) := hide (by rw [HZL.out]; have := O5.out; rw [← List.length_append] at this; exact this)
        have KL : Hid (Keep (fun _ => False) W3 w5) := K4.out.trans K5.out fun k e => .inr (by have := ownsRow_from O4.out e; rw [HL.out] at this; exact this)
        clear O4 K4 O5 K5 m9
      rotate_left
      focus
        go_wp2_with (at_builtin; go_must (refine wp_appendZ rfl _ _ rfl L B (.slice none 0 0) 0 [] rfl (World.ownsRow_nil _ _ _ _) (ne1, ne2, ne3) nl rfl Z13.out HCP1.out (by omega) (by rw [HL.out]; omega) ?_); intro v5 w5 o5 k5; rw [Nat.zero_add, List.nil_append] at o5; have O5 := hide o5; have kk := k5.mono (T := fun _ => False) (fun k e => by cases e); have K5 := hide kk; clear o5 k5 kk)
        have OL : Hid (w5.ownsRow L 3 1 v5 zl.length (zl.map (Value.int .i64))) := hide (by rw [HZL.out]; exact O5.out)
        have KL : Hid (Keep (fun _ => False) W3 w5) := K5.out
        clear O5 K5
      all_goals
        have O5 := hide (ownsRow_new O3.out KL.out)
        have S5 := hide (S3.out.keep KL.out fun f => f)
        have P5 := hide (P3.out.new KL.out)
        have K5 := hide (K3.out.more KL.out)
        have hcc5 := KL.out.cell hcc3 fun f => f
        have hsz5 : w.heap.size + 2 ≤ w5.heap.size := by have := KL.out.size; omega
        obtain ⟨al', cl', hv5⟩ := ownsRow_shape OL.out
        subst hv5
        have FR5 : Hid (∀ kk, (Value.slice al' zl.length cl').ownBlock = some kk → (Value.slice (some ⟨go, offo, none⟩) o.length vc).ownBlock ≠ some kk) := fun kk e1 e2 => by
          have h1 := ownsRow_from OL.out e1
          have h2 : go = kk := by simpa [Value.ownBlock] using e2
          rw [HL.out] at h1
          omega
        clear O3 S3 P3 K3 KL hcc3 Z13 Z23 m8 b3
        try clear m9
        go_loopw [10, 14] (fun vv kv wq => ∃ (k : Nat) (o' : List Nat) (v' : Value), vv = v' ∧ kv = .int .i64 (k : Nat) ∧ k ≤ zl.length ∧ wq.cell? ⟨w.heap.size, 2, none⟩ = some (.slice (some ⟨g, off, none⟩) n c) ∧ Hid (Bfs E n fr t o' i ∧ o'[i]? = some x0 ∧ (∀ j y, j < k → zl[j]? = some y → y.toNat ≠ t ∧ y.toNat ∈ o'.tail) ∧ wq.ownsRow (w.heap.size + 2) 3 1 v' o'.length (iv o') ∧ SeenAt wq (w.heap.size + 1) n o'.tail ∧ wq.ownsRow L 3 1 (.slice al' zl.length cl') zl.length (zl.map (Value.int .i64)) ∧ (∀ kk, (Value.slice al' zl.length cl').ownBlock = some kk → v'.ownBlock ≠ some kk) ∧ w.heap.size + 2 ≤ wq.heap.size ∧ RdP B wq (some ⟨g, off, none⟩, n, c) xs ∧ Keep (fun _ => False) w wq)) (fun _ kv _ => zl.length - (intOf kv).toNat)
        case atStart => exact ⟨0, o, _, rfl, rfl, Nat.zero_le _, hcc5, Q1.out, HX0.out, (fun j y hj => by omega), O5.out, S5.out, OL.out, FR5.out, hsz5, P5.out, K5.out⟩
        case round =>
          obtain ⟨k, o', v', hvv, rfl, hk, hccq, HI⟩ := hrel
          subst hvv
          obtain ⟨r1, r2, r3, r4, r5, r6, r7, r8, r9, r10⟩ := HI.out
          obtain ⟨va2, vc2, hvs2⟩ := ownsRow_shape r4
          subst hvs2
          have hol2 := r1.len
          by_cases hkl : k < zl.length
          · obtain ⟨al2, cl2, hv2, rdl⟩ := ownsRow_rdz r6 (by omega)
            injection hv2 with e1 e2 e3
            subst e1
            subst e3
            obtain ⟨gl, offl, y, hal, hgl, hy, hcl⟩ := rdl.at (i := k) hkl
            have hal : al' = some ⟨gl, offl, none⟩ := hal
            subst hal
            have hyb := HZB.out y (List.mem_of_getElem? hy)
            obtain ⟨e, rfl⟩ : ∃ e : Nat, y = e := ⟨y.toNat, by omega⟩
            have hen : e < n := by have := HN.out; omega
            have HY := hide hy
            have hE : e ∈ E x0 := by rw [HEN.out]; exact List.mem_map.2 ⟨(e : Int), List.mem_of_getElem? hy, by simp⟩
            have HWE := hide (r1.waits r2 hE)
            have HT := hide (tk_iff (l := o'.tail) (i := e))
            have R1 := hide r1
            have R2 := hide r2
            have R3 := hide r3
            have R4 := hide r4
            have R5 := hide r5
            have R6 := hide r6
            have R7 := hide r7
            have R9 := hide r9
            have R10 := hide r10
            clear r1 r2 r3 r4 r5 r6 r7 r9 r10 HI hy hyb hE rdl e2
            have hnn : ¬ ((e : Int) < 0) := by omega
            have hnl : ¬ ((n : Int) ≤ e) := by omega
            have KD : Hid (∀ m, Keep (fun _ => False) wr (wr.drewN m)) := fun m => ⟨rfl, rfl, rfl, Nat.le_refl _, fun _ _ _ => rfl⟩
            go_wp2_with fail
            go_quiet (fail)
            generalize hwd : wr.drewN _ = wd
            have kd : Keep (fun _ => False) wr wd := by rw [← hwd]; exact KD.out _
            have hszd : wr.heap.size ≤ wd.heap.size := kd.size
            have R4 := hide (ownsRow_new R4.out kd)
            have R5 := hide (R5.out.keep kd fun f => f)
            have R6 := hide (ownsRow_new R6.out kd)
            have R9 := hide (R9.out.new kd)
            have R10 := hide (R10.out.more kd)
            have hccd := kd.cell hccq fun f => f
            have hcld := kd.cell hcl fun f => f
            obtain ⟨cs1, cs2⟩ := R5.out.at hen
            have r8d : w.heap.size + 2 ≤ wd.heap.size := by omega
            clear hwd kd KD hccq hcl hszd r8
            by_cases het : (e : Int) = t
            · have het' : e = t := by omega
              have HTW : Hid (Waits E fr t) := hide (by rw [← het']; exact HWE.out)
              clear het'
              go_wp2_with fail
              go_ret
              exact ⟨⟨true, rfl, ⟨fun _ => HTW.out, fun _ => rfl⟩⟩, R10.out⟩
            · generalize hb : tk o'.tail e = sb at *
              cases sb
              · have hnt : e ∉ o'.tail := fun h => Bool.false_ne_true (HT.out.2 h)
                have HM := hide (R1.out.more hen HWE.out hnt)
                obtain ⟨w6, hw6⟩ : ∃ w6, w6 = wd.setCell ⟨w.heap.size + 1, e, none⟩ (.bool true) := ⟨_, rfl⟩
                have kS : Keep (fun j => j = w.heap.size + 1) wd w6 := by rw [hw6]; exact keep_cell _ _ _ _
                have hsz6 : w6.heap.size = wd.heap.size := by rw [hw6]; simp [World.setCell]
                have sS : SeenAt w6 (w.heap.size + 1) n (o'.tail ++ [e]) := by rw [hw6]; exact R5.out.set hen
                have hq4 := fun kk (e1 : (Value.slice va2 o'.length vc2).ownBlock = some kk) => ownsRow_from R4.out e1
                have hq6 := fun kk (e1 : (Value.slice (some ⟨gl, offl, none⟩) zl.length cl').ownBlock = some kk) => ownsRow_from R6.out e1
                have hLL : w.heap.size + 2 ≤ L := by rw [HL.out]; exact hszL
                have o6 := ownsRow_keep R4.out kS fun j e1 e2 => by have := hq4 j e2; omega
                have l6 := ownsRow_keep R6.out kS fun j e1 e2 => by have := hq6 j e2; omega
                have p6 := R9.out.keep kS fun j e1 => by omega
                have hcq6 := kS.cell hccd (show ¬ w.heap.size = w.heap.size + 1 by omega)
                have k6 : Keep (fun _ => False) w w6 := R10.out.trans kS fun j e1 => .inr (by omega)
                have hcl6 := kS.cell hcld (show ¬ gl = w.heap.size + 1 from fun e1 => by have := hq6 gl rfl; omega)
                have kA := Keep.alloc (fun _ => False) w6 (.cells #[.int .i64 (e : Int)] 3)
                have OA := hide (ownsRow_new o6 kA)
                have LA := hide (ownsRow_new l6 kA)
                have PA := hide (p6.new kA)
                have SA := hide (sS.keep kA fun f => f)
                have CQ := hide (kA.cell hcq6 fun f => f)
                have KA := hide (k6.more kA)
                have CA := hide (cell_one w6 (.int .i64 (e : Int)) 3)
                have hszA : w.heap.size + 2 ≤ (w6.alloc (.cells #[.int .i64 (e : Int)] 3)).heap.size := by have := kA.size; omega
                have HLT : Hid (∀ kk, (Value.slice (some ⟨gl, offl, none⟩) zl.length cl').ownBlock = some kk → kk < (w6.alloc (.cells #[.int .i64 (e : Int)] 3)).heap.size) := fun kk e1 => (LA.out.lt kk e1).2
                rw [hsz6] at CA
                rw [hw6] at OA LA PA SA CQ KA CA hszA HLT hcl6
                clear hw6 kS sS o6 l6 p6 hcq6 k6 kA hsz6
                have hn1 : o'.length + 1 ≤ 17592186044416 := by omega
                go_wp2_with (at_builtin; go_must (refine wp_append1 rfl _ _ rfl (w.heap.size + 2) (.slice va2 o'.length vc2) o'.length (iv o') rfl OA.out ⟨wd.heap.size, 0, none⟩ e rfl CA.out hn1 hszA ?_); intro v7 w7 o7 k7 b7; have O7 := hide o7; have K7 := hide k7; have B7 := hide b7; clear o7 k7 b7)
                go_roundw
                · have hne : o' ≠ [] := fun h => by rw [h] at hol2; simp at hol2
                  have htl : (o' ++ [e]).tail = o'.tail ++ [e] := by cases o' with | nil => exact absurd rfl hne | cons a b => rfl
                  refine ⟨k + 1, o' ++ [e], v7, rfl, rfl, by omega, K7.out.cell CQ.out fun e1 => ?_, HM.out, ?_, fun j y hj hy => ?_, ?_, ?_, ownsRow_keep LA.out K7.out fun j e1 e2 => R7.out j e2 e1, fun kk e1 e2 => ?_, ?_, PA.out.keep K7.out fun j e1 => ?_, KA.out.trans K7.out fun j e1 => .inr ?_⟩
                  · have := hq4 _ e1; simp at this; omega
                  · rw [List.getElem?_append_left (by have := (List.getElem?_eq_some_iff.1 R2.out).1; exact this)]; exact R2.out
                  · rw [htl]
                    by_cases ej : j = k
                    · subst ej; rw [HY.out] at hy; injection hy with hy; subst hy
                      rw [Int.toNat_natCast]
                      exact ⟨by omega, List.mem_append.2 (.inr (List.mem_singleton.2 rfl))⟩
                    · obtain ⟨h1, h2⟩ := R3.out j y (by omega) hy
                      exact ⟨h1, List.mem_append.2 (.inl h2)⟩
                  · have h := O7.out
                    rw [iv_snoc, List.length_append]
                    exact h
                  · rw [htl]
                    exact SA.out.keep K7.out fun e1 => by have := hq4 _ e1; omega
                  · rcases B7.out with hb7 | hb7
                    · rw [hb7] at e2; exact R7.out kk e1 e2
                    · have := hb7 kk e2; have := HLT.out kk e1; omega
                  · have := K7.out.size; omega
                  · have := hq4 _ e1; omega
                  · have := hq4 _ e1; omega
                · show zl.length - ((k : Int) + 1).toNat < zl.length - (k : Int).toNat
                  omega
              · have hin := HT.out.1 rfl
                have HIN := hide hin
                clear hin HT
                go_wp2_with fail
                go_roundw
                · refine ⟨k + 1, o', _, rfl, rfl, by omega, hccd, R1.out, R2.out, fun j y hj hy => ?_, R4.out, R5.out, R6.out, R7.out, r8d, R9.out, R10.out⟩
                  by_cases ej : j = k
                  · subst ej; rw [HY.out] at hy; injection hy with hy; subst hy
                    rw [Int.toNat_natCast]
                    exact ⟨by omega, HIN.out⟩
                  · exact R3.out j y (by omega) hy
                · show zl.length - ((k : Int) + 1).toNat < zl.length - (k : Int).toNat
                  omega
          · obtain rfl : k = zl.length := by omega
            have hnx : Bfs E n fr t o' (i + 1) := r1.next r2 fun e he => by
              rw [HEN.out] at he
              obtain ⟨y, hy, rfl⟩ := List.mem_map.1 he
              obtain ⟨j, hj⟩ := List.getElem?_of_mem hy
              exact r3 j y (List.getElem?_eq_some_iff.1 hj).1 hj
            have HNX := hide hnx
            have R4 := hide r4
            have R5 := hide r5
            have R9 := hide r9
            have R10 := hide r10
            have hil2 := hnx.le
            clear r1 r2 r3 r4 r5 r6 r7 r9 r10 HI hnx
            go_wp2_with fail
            go_roundw
            · exact ⟨i + 1, o', _, rfl, rfl, by omega, hccq, HNX.out, R4.out, R5.out, r8, R9.out, R10.out⟩
            · show 66 - ((i : Int) + 1).toNat < 66 - (i : Int).toNat
              omega
    · obtain rfl : i = o.length := by omega
      have hno := q1.no
      have HNO := hide hno
      have Q6 := hide q6
      clear q1 q2 q3 q5 q6 hno HD
      go_wp2_with fail
      go_ret
      exact ⟨⟨false, rfl, ⟨(fun h => by cases h), fun h => absurd h HNO.out⟩⟩, Q6.out⟩
theorem waits_any (nm : ByteArray) (dl : Int) (s : Option Addr × Nat × Nat) (xs : List No) (fr t : Nat) (b : Bool) (B : Nat) (w : World) (hP : RdP B w s xs) (hB : B ≤ w.heap.size) (hv : Val xs) (hc : Caps xs) (hf : fr < xs.length) (hes : edges xs ≤ 20000) :
    Calls Try.prog 10 #[.agg #[.string nm, .int .i64 dl, .slice s.1 s.2.1 s.2.2], .int .i64 (fr : Int), .int .i64 (t : Int), .bool b] w fun e w' => WaR (Waits (en b xs) fr t) e ∧ Keep (fun _ => False) w w' :=
  waits_E (en b xs) nm dl s xs fr t b B w hP hB hv hc hf hes fun _ _ h => en_at b h
end Gr
end Go.Proofs.Ytljfomaiikpdjaa
