/- WheelOrder: the walk. -/
import Derived.Test.YtmbhlhgggmcnoaaWOrM
import Derived.Deep.QuietTactic
import Derived.Laws.MakeOwn
namespace Go.Proofs.Ytmbhlhgggmcnoaa
namespace Wh
open Go.RowKit

theorem info_bool : (Try.prog.info? 4).map (fun i => (i.zero, i.size, i.bytes)) = some (some (.bool false), 1, 1) := by kernel_rfl
theorem made_bools (u : World) (n : Nat) (hn : n ≤ 1048576) : (Instr.makeSlice 88 (.int .i64 (n : Nat)) (.int .i64 (n : Nat))).run Try.prog u = .ok (.slice (some ⟨u.heap.size, 0, none⟩) n n) (u.alloc (.cells (madeCells #[.bool false] n) 4)) := by
  obtain ⟨i0, hi, hz0, hz1, hz2⟩ := info_parts info_bool
  have h := run_make (P := Try.prog) (w := u) 88 4 i0 (.bool false) Try.underlying88 hi hz0 .i64 .i64 (n : Int) (n : Int) (by omega) (Int.le_refl _) (by rw [hz2]; omega) (by omega)
  simpa [hz1, Value.cells] using h
theorem seen_new (w : World) (n : Nat) : SeenAt 4 (w.alloc (.cells (madeCells #[.bool false] n) 4)) w.heap.size n [] :=
  ⟨_, heap_alloc_new _ _, by simp [madeCells], fun j hj => by simp [madeCells, hj, Nat.mod_one]⟩

set_option maxRecDepth 100000 in
set_option maxHeartbeats 16000000 in
theorem ord_walk (x0 : Int) (a1 : Option Addr) (n1 c1 : Nat) (a2 : Option Addr) (n2 c2 : Nat) (z1 z2 : List Int) (w : World) (b1 : -9223372036854775808 ≤ x0) (b2 : x0 ≤ 9223372036854775807) (hz1 : Rz w a1 n1 z1) (hz2 : Rz w a2 n2 z2) :
    Calls Try.prog 5 #[.int .i64 x0, .slice a1 n1 c1, .slice a2 n2 c2] w fun e w' => e = .returned (.bool true) ∧ Below w.heap.size w w' := by
  obtain ⟨now, hnow, hnow2⟩ : ∃ n : Nat, pickV x0 4611686018427387904 = (n : Int) ∧ n < 4611686018427387904 := ⟨(pickV x0 4611686018427387904).toNat, by have := pickV_in x0 4611686018427387904 (by omega); omega, by have := pickV_in x0 4611686018427387904 (by omega); omega⟩
  have P1 : Hid (∀ w, Calls Try.prog 14 #[.int .i64 x0, .int .i64 4611686018427387904] w fun e w' => e = .returned (.int .i64 (now : Nat)) ∧ w' = w) := fun w => by rw [← hnow]; exact pick_any x0 4611686018427387904 b1 b2 (by omega) (by omega) w
  have hnM : now ≤ M := by unfold M; omega
  have hn1 := hz1.2.1
  have hn2 := hz2.2.1
  have hl1 := hide hz1.1
  have hl2 := hide hz2.1
  have HZ1 := hide hz1
  have HZ2 := hide hz2
  clear hnow b1 b2 hz1 hz2
  go_enter Try.func5, Try.ntmps5
  go_wp2_with fail
  go_at_call 9
  refine (awake_any _).mono ?_
  rintro e w1 ⟨rfl, k1⟩
  have K1 := hide k1
  clear k1
  go_wp2_with fail
  go_at_call 14
  refine (P1.out _).mono ?_
  rintro e w2 ⟨rfl, hw2⟩
  rw [hw2]
  clear hw2 w2 P1
  go_wp2_with fail
  go_at_call 30
  refine (fill_any now hnM a1 n1 c1 z1 w1 (HZ1.out.at K1.out fun _ e => e.elim)).mono ?_
  rintro e w3 ⟨P, s0, rfl, hf, h3, k3⟩
  obtain ⟨S1, hx, hSl, hSs⟩ := h3.exact
  have HF := hide hf
  have HX := hide hx
  have HSl := hide hSl
  have HSs : Hid (∀ k, S1 k → w.heap.size ≤ k) := fun k e => Nat.le_trans K1.out.size (hSs k e)
  have K3 := hide (K1.out.more k3)
  clear hf h3 k3 hx hSl hSs
  have hmk := fun u => made_bools u n1 hn1
  go_wp2_with fail
  obtain ⟨W5, hW5⟩ : ∃ W5, W5 = (w3.alloc (.cells (madeCells #[.bool false] n1) 4)).alloc (.cells #[.int .i64 0, .int .i64 (now : Nat), .int .i64 0] 89) := ⟨_, rfl⟩
  rw [← hW5]
  have k5 : Keep (fun _ => False) w3 W5 := by rw [hW5]; exact (Keep.alloc _ _ _).more (Keep.alloc _ _ _)
  have SE : Hid (SeenAt 4 W5 w3.heap.size n1 []) := by rw [hW5]; exact (seen_new w3 n1).keep (Keep.alloc (fun _ => False) _ _) fun f => f
  have LA : Hid (W5.heap[w3.heap.size + 1]? = some (.cells #[.int .i64 ((0 : Nat) : Int), .int .i64 (now : Nat), .int .i64 0] 89 (0, 0))) := by
    rw [hW5]
    have := heap_alloc_new (w3.alloc (.cells (madeCells #[.bool false] n1) 4)) (.cells #[.int .i64 ((0 : Nat) : Int), .int .i64 (now : Nat), .int .i64 0] 89)
    rwa [World.size_alloc] at this
  have H5 := hide (HX.out.new k5)
  have K5 := hide ((K3.out.more k5).mono (T := fun k => w.heap.size ≤ k) fun _ e => e.elim)
  have hlo : w.heap.size ≤ w3.heap.size := K3.out.size
  have hSz : Hid (∀ k, S1 k → k < w3.heap.size) := HSl.out
  have OR := hide (OrdI.start HF.out HX.out.1)
  clear hW5 k5 hmk HX HSl HF K3
  generalize w3.heap.size = SB at *
  go_loopw [11, 12, 13] (fun nv av iv wr => ∃ (i at_ lid ldue : Nat) (lw : Int) (cur : St) (T : List Nat), nv = .int .i64 (T.length : Nat) ∧ av = .int .i64 (at_ : Nat) ∧ iv = .int .i64 (i : Nat) ∧ i ≤ n2 + 1 ∧ at_ ≤ 4611686018427387904 ∧ T.length ≤ n1 ∧ Hid (OrdI now (z1.map (dueOf now)) s0 cur T i lid ldue ∧ cur.now = at_ ∧ (i = n2 + 1 → at_ = M) ∧ WAt 119 121 S1 wr P cur ∧ SeenAt 4 wr SB n1 T ∧ wr.heap[SB + 1]? = some (.cells #[.int .i64 (lid : Nat), .int .i64 (ldue : Nat), .int .i64 lw] 89 (0, 0)) ∧ Keep (fun k => w.heap.size ≤ k) w wr)) (fun _ _ iv _ => n2 + 1 - (intOf iv).toNat)
  case atStart => exact ⟨0, now, 0, now, 0, s0, [], rfl, rfl, rfl, Nat.zero_le _, by omega, Nat.zero_le _, OR.out, OR.out.fil.now_, (fun h => by omega), H5.out, SE.out, LA.out, K5.out⟩
  case round =>
    obtain ⟨i, at_, lid, ldue, lw, cur, T, rfl, rfl, rfl, hi, hat, hTn, HI⟩ := hrel
    rcases Nat.lt_or_ge n2 i with hend | hend
    · obtain rfl : i = n2 + 1 := by omega
      have hfin : T.length = n1 := by
        have h1 := HI.out.1.all HI.out.2.2.2.1.1 (by rw [HI.out.2.1]; exact HI.out.2.2.1 rfl) (by omega)
        rw [h1, List.length_map, hl1.out]
      have hcmp : ¬ (((n2 + 1 : Nat) : Int) ≤ (n2 : Int)) := by omega
      go_wp2_with fail
      go_ret
      refine ⟨?_, HI.out.2.2.2.2.2.2.below (Nat.le_refl _) fun i e => e⟩
      show Ending.returned (.bool _) = _
      congr 2
    · obtain ⟨to, hto1, hto2, hto3⟩ : ∃ to : Nat, at_ ≤ to ∧ to ≤ 4611686018427387904 ∧ (to = if i < n2 then dueOf at_ (z2.getD i 0) else M) := by
        have := dueOf_in (now := at_) hat (z2.getD i 0)
        by_cases hc : i < n2
        · exact ⟨dueOf at_ (z2.getD i 0), this.1, this.2, by rw [if_pos hc]⟩
        · exact ⟨M, hat, Nat.le_refl _, by rw [if_neg hc]⟩
      have AD := hide (adv_any to wr HI.out.2.2.2.1 (by rw [HI.out.2.1]; exact hto1) hto2 (by rw [HI.out.1.last, List.length_map, ← hl1.out]; omega) HI.out.1.typed)
      have HTO := hide hto3
      clear hto3
      rcases Nat.lt_or_ge i n2 with hlt | hge
      focus
        obtain ⟨b, off, hab, hbl, hcell⟩ := HZ2.out.2.2.2.resolve_left (by omega)
        subst hab
        have cz := HI.out.2.2.2.2.2.2.cell (hcell i hlt) (by show ¬ (w.heap.size ≤ b); omega)
        have hbz := HZ2.out.2.2.1 (z2.getD i 0) (by rw [List.getD_eq_getElem?_getD, List.getElem?_eq_getElem (by rw [← hl2.out]; exact hlt)]; simp)
        have HT2 : Hid (to = dueOf at_ (z2.getD i 0)) := by show _ = _; rw [HTO.out, if_pos hlt]
        generalize z2.getD i 0 = x at *
        obtain ⟨pq, hpq⟩ : ∃ pq : Nat, to = at_ + pq := ⟨to - at_, by omega⟩
        have PK : Hid (∀ w, Calls Try.prog 14 #[.int .i64 x, .int .i64 (4611686018427387904 - (at_ : Int) + 1)] w fun e w' => e = .returned (.int .i64 (pq : Nat)) ∧ w' = w) := fun w => by
          have e := pick_due (now := at_) hat x
          rw [← HT2.out, hpq, Nat.add_sub_cancel_left] at e
          rw [← e]
          exact pick_any x _ hbz.1 hbz.2 (by omega) (by omega) w
        subst hpq
        rw [Int.natCast_add] at AD
        go_wp2_with fail
        go_at_call 14
        refine (PK.out _).mono ?_
        rintro e w6 ⟨rfl, hw6⟩
        rw [hw6]
        clear hw6 w6 PK
        go_wp2_with fail
      rotate_left
      focus
        obtain rfl : i = n2 := by omega
        have hto4 : to = 4611686018427387904 := by rw [HTO.out, if_neg (by omega)]; rfl
        subst hto4
        have AD2 : Hid (Calls Try.prog 31 #[.pointer (some ⟨P, 0, none⟩), .int .i64 4611686018427387904] wr (Advs S1 wr P cur 4611686018427387904)) := AD.out
        clear AD HTO
        have AD := AD2
        clear AD2
        go_wp2_with fail
      all_goals
        go_at_call 31
        refine AD.out.mono ?_
        rintro e w6 ⟨xs, v, rfl, hadv, h6, hrow, k6⟩
        have hSB : ¬ S1 SB := fun e => by have := hSz.out _ e; omega
        have hSB1 : ¬ S1 (SB + 1) := fun e => by have := hSz.out _ e; omega
        have hwr1 : SB + 1 < wr.heap.size := (Array.getElem?_eq_some_iff.1 HI.out.2.2.2.2.2.1).1
        have K6 := hide (HI.out.2.2.2.2.2.2.more (k6.mono HSs.out))
        have SE6 := hide (HI.out.2.2.2.2.1.keep k6 hSB)
        have LA6 := hide (k6.blk HI.out.2.2.2.2.2.1 hSB1)
        have H6 := hide h6
        have RW := hide hrow
        have HAD := hide hadv
        obtain ⟨va, vc, rfl⟩ := ownsRow_shape hrow
        have hxl : xs.length + T.length ≤ n1 := by
          have e1 := hadv.len HI.out.2.2.2.1.1
          have e2 := HI.out.1.len
          rw [List.length_map, ← hl1.out] at e2
          omega
        clear hadv h6 hrow k6 AD
        go_wp2_with fail
        go_at_call 32
        obtain ⟨hok, m, att, hw⟩ := H6.out
        refine (nowI _ hw).mono ?_
        rintro e wl ⟨rfl, hwl⟩
        rw [hwl]
        clear hwl wl hw hok
        first
          | rw [show (((cur.adv 4611686018427387904).now : Nat) : Int) = 4611686018427387904 from rfl]
          | rw [show (((cur.adv (at_ + pq)).now : Nat) : Int) = (at_ : Int) + (pq : Int) from Int.natCast_add _ _]
        go_wp2_with fail
        go_loopw [11, 17] (fun nv kv wx => ∃ (k : Nat) (lw' : Int), nv = .int .i64 ((T.length + k : Nat) : Int) ∧ kv = .int .i64 (k : Nat) ∧ k ≤ xs.length ∧ Hid (SeenAt 4 wx SB n1 (T ++ xs.take k) ∧ wx.heap[SB + 1]? = some (.cells #[.int .i64 ((lastOf cur xs k lid ldue).1 : Nat), .int .i64 ((lastOf cur xs k lid ldue).2 : Nat), .int .i64 lw'] 89 (0, 0)) ∧ Keep (fun q => q = SB ∨ q = SB + 1) w6 wx)) (fun _ kv _ => xs.length - (intOf kv).toNat)
        case atStart => exact ⟨0, lw, rfl, rfl, Nat.zero_le _, by simpa using SE6.out, LA6.out, Keep.refl _ _⟩
        case round =>
          obtain ⟨k, lw', rfl, rfl, hk, HJ⟩ := hrel
          have hj6 : w6.heap.size ≤ wr.heap.size := HJ.out.2.2.size
          rcases Nat.lt_or_ge k xs.length with hkl | hkl
          · obtain ⟨j, hj, hjD, hdue, hwhat, hnot, hle, hpos⟩ := HI.out.1.one HAD.out hkl
            have hord := HI.out.1.ord HAD.out hkl
            obtain ⟨g, rfl, hg1, hg2, hgc⟩ := row3_cells RW.out (by omega)
            obtain ⟨q0, q1, q2⟩ := cells3_at cur xs k hkl
            rw [hj] at q0 q1 q2 hord
            rw [hwhat] at q2
            have hgS : ¬ (g = SB ∨ g = SB + 1) := by omega
            have y0 := HJ.out.2.2.cell (hgc _ _ q0) hgS
            have y1 := HJ.out.2.2.cell (hgc _ _ q1) hgS
            have y2 := HJ.out.2.2.cell (hgc _ _ q2) hgS
            rw [Nat.mul_comm 3 k] at y0 y1 y2
            have hjn : j < n1 := by rw [List.length_map, ← hl1.out] at hjD; exact hjD
            obtain ⟨bb, oo, hab, hbl, hcz⟩ := HZ1.out.2.2.2.resolve_left (by omega)
            have cz := HJ.out.2.2.cell (K6.out.cell (hcz j hjn) (by show ¬ (w.heap.size ≤ bb); omega)) (by show ¬ (bb = SB ∨ bb = SB + 1); omega)
            have hbz := HZ1.out.2.2.1 (z1.getD j 0) (by rw [List.getD_eq_getElem?_getD, List.getElem?_eq_getElem (by rw [← hl1.out]; exact hjn)]; simp)
            have hdu : cur.due (j + 1) = dueOf now (z1.getD j 0) := by
              rw [hdue, List.getD_eq_getElem?_getD, List.getElem?_map, List.getD_eq_getElem?_getD, List.getElem?_eq_getElem (by rw [← hl1.out]; exact hjn)]
              rfl
            generalize z1.getD j 0 = x at *
            obtain ⟨pr, hpr⟩ : ∃ pr : Nat, dueOf now x = now + pr := ⟨dueOf now x - now, by have := dueOf_in hnM x; omega⟩
            have hpr2 : now + pr ≤ 4611686018427387904 := by have := (dueOf_in hnM x).2; rw [hpr] at this; exact this
            have PK1 : Hid (∀ w, Calls Try.prog 14 #[.int .i64 x, .int .i64 (4611686018427387904 - (now : Int) + 1)] w fun e w' => e = .returned (.int .i64 (pr : Nat)) ∧ w' = w) := fun w => by
              have e := pick_due hnM x
              rw [hpr, Nat.add_sub_cancel_left] at e
              rw [← e]
              exact pick_any x _ hbz.1 hbz.2 (by omega) (by omega) w
            have hdd : cur.due (j + 1) = now + pr := by rw [hdu, hpr]
            rw [hdd] at y1 hle hpos hord
            rw [HI.out.2.1] at hpos
            obtain ⟨cs, hs1, hs2, hs3⟩ := HJ.out.1
            have sj := cell_blk hs1 j (hs3 j hjn)
            rw [decide_eq_false hnot] at sj
            have fj := frozen_blk hs1 j
            have l0 := cell_blk HJ.out.2.1 0 rfl
            have l1 := cell_blk HJ.out.2.1 1 rfl
            have l2 := cell_blk HJ.out.2.1 2 rfl
            have f0 := frozen_blk HJ.out.2.1 0
            have f1 := frozen_blk HJ.out.2.1 1
            have f2 := frozen_blk HJ.out.2.1 2
            have hSBl : SB < wr.heap.size := (Array.getElem?_eq_some_iff.1 hs1).1
            have hSB1l : SB + 1 < wr.heap.size := (Array.getElem?_eq_some_iff.1 HJ.out.2.1).1
            have w1' : IntKind.i64.wrap ((j : Int) + 1) = (j : Int) + 1 := by rw [IntKind.wrap_i64]; omega
            have w2' : IntKind.i64.wrap ((now : Int) + (pr : Int)) = (now : Int) + (pr : Int) := by rw [IntKind.wrap_i64]; omega
            have w3' : IntKind.i64.wrap (4611686018427387904 - (now : Int)) = 4611686018427387904 - (now : Int) := by rw [IntKind.wrap_i64]; omega
            have w4' : IntKind.i64.wrap (4611686018427387904 - (now : Int) + 1) = 4611686018427387904 - (now : Int) + 1 := by rw [IntKind.wrap_i64]; omega
            have HP := hide (And.intro hj (And.intro hdd hdue))
            have HLO := hide (show lastOf cur xs (k + 1) lid ldue = (j + 1, now + pr) by unfold lastOf; rw [if_neg (by omega), Nat.add_sub_cancel, hj, hdd])
            generalize (lastOf cur xs k lid ldue).1 = li at *
            generalize (lastOf cur xs k lid ldue).2 = ld at *
            subst hab
            have HTK := hide (show xs.take (k + 1) = xs.take k ++ [j + 1] by rw [List.take_add_one, List.getElem?_eq_getElem hkl, Option.toList_some, ← hj, List.getD_eq_getElem?_getD, List.getElem?_eq_getElem hkl]; rfl)
            clear hj hdue hwhat hnot hgc q0 q1 q2 hdu hpr hdd hs1 hs2 hs3 hbz hcz hjD
            go_wp2_with fail
            obtain ⟨Wt, hWt⟩ : ∃ Wt, Wt = wr.alloc (.cells #[.int .i64 ((j : Int) + 1), .int .i64 ((now : Int) + (pr : Int)), .int .i64 (j : Nat)] 89) := ⟨_, rfl⟩
            rw [← hWt]
            have kt : Keep (fun _ => False) wr Wt := by rw [hWt]; exact Keep.alloc _ _ _
            have bt : Wt.heap[wr.heap.size]? = some (.cells #[.int .i64 ((j : Int) + 1), .int .i64 ((now : Int) + (pr : Int)), .int .i64 (j : Nat)] 89 (0, 0)) := by rw [hWt]; exact heap_alloc_new _ _
            have t0 := cell_blk bt 0 rfl
            have t1 := cell_blk bt 1 rfl
            have t2 := cell_blk bt 2 rfl
            have u0 := kt.cell sj fun f => f
            have u1 := kt.cell cz fun f => f
            have u2 := kt.cell l0 fun f => f
            have u3 := kt.cell l1 fun f => f
            have u4 := kt.cell l2 fun f => f
            clear hWt y0 y1 y2 sj cz l0 l1 l2
            go_quiet ((go_at_call 14; exact (PK1.out _).mono (fun _ _ h => ⟨h.1, ⟨_, h.2⟩⟩)))
            have SEt : Hid (SeenAt 4 Wt SB n1 (T ++ xs.take k)) := HJ.out.1.keep kt fun f => f
            have LAt : Hid (Wt.heap[SB + 1]? = some (.cells #[.int .i64 (li : Nat), .int .i64 (ld : Nat), .int .i64 lw'] 89 (0, 0))) := kt.blk HJ.out.2.1 fun f => f
            have KJt := hide (HJ.out.2.2.more (kt.mono fun _ e => e.elim))
            have v0 := frozen_blk (show (Wt.drewN nq).heap[SB + 1]? = _ from LAt.out) 0
            have v1 := frozen_blk (show (Wt.drewN nq).heap[SB + 1]? = _ from LAt.out) 1
            have v2 := frozen_blk (show (Wt.drewN nq).heap[SB + 1]? = _ from LAt.out) 2
            obtain ⟨cs, hs1, hs2, hs3⟩ := SEt.out
            have v3 := frozen_blk (show (Wt.drewN nq).heap[SB]? = _ from hs1) j
            clear hs1 hs2 hs3 cs
            have HEnd : Hid (∀ W9, W9 = ((((Wt.drewN nq).setCell ⟨SB, j, none⟩ (.bool true)).setCell ⟨SB + 1, 0, none⟩ (.int .i64 ((j : Int) + 1))).setCell ⟨SB + 1, 1, none⟩ (.int .i64 ((now : Int) + (pr : Int)))).setCell ⟨SB + 1, 2, none⟩ (.int .i64 (j : Nat)) → SeenAt 4 W9 SB n1 (T ++ xs.take (k + 1)) ∧ W9.heap[SB + 1]? = some (.cells #[.int .i64 ((lastOf cur xs (k + 1) lid ldue).1 : Nat), .int .i64 ((lastOf cur xs (k + 1) lid ldue).2 : Nat), .int .i64 (j : Nat)] 89 (0, 0)) ∧ Keep (fun q => q = SB ∨ q = SB + 1) w6 W9) := by
              rintro W9 rfl
              have kd : Keep (fun _ => False) Wt (Wt.drewN nq) := ⟨rfl, rfl, rfl, Nat.le_refl _, fun _ _ _ => rfl⟩
              have k3 := keep3 ((Wt.drewN nq).setCell ⟨SB, j, none⟩ (.bool true)) (SB + 1) (.int .i64 ((j : Int) + 1)) (.int .i64 ((now : Int) + (pr : Int))) (.int .i64 (j : Nat))
              refine ⟨?_, ?_, ?_⟩
              · rw [HTK.out, ← List.append_assoc]
                exact ((SEt.out.keep kd fun f => f).set hjn).keep k3 (by show ¬ (SB = SB + 1); omega)
              · rw [HLO.out]
                exact set3 ((keep_cell _ SB j _).blk (kd.blk LAt.out fun f => f) (by show ¬ (SB + 1 = SB); omega)) _ _ _
              · exact ((KJt.out.more (kd.mono fun _ e => e.elim)).more (Keep.setCell _ (.inl rfl) _)).more (k3.mono fun _ e => .inr e)
            have g1 : ¬ ((now : Int) + (pr : Int) < (ld : Int)) := by omega
            first
              | (have g4 : ¬ ((at_ : Int) + (pq : Int) < (now : Int) + (pr : Int)) := by omega)
              | (have g4 : ¬ ((4611686018427387904 : Int) < (now : Int) + (pr : Int)) := by omega)
            rcases Nat.eq_zero_or_pos i with hi0 | hi0 <;> rcases hord with hord | ⟨rfl, hord⟩
            all_goals
              first
                | (have g5 : ¬ ((now : Int) + (pr : Int) ≤ (at_ : Int)) := by have := hpos hi0; omega)
                | (have g6 : ¬ (0 < i) := by omega
                   have g7 : ¬ ((0 : Int) < (i : Int)) := by omega)
              first
                | (have g2 : ¬ ((now : Int) + (pr : Int) = (ld : Int)) := by omega)
                | (have g3 : ¬ ((j : Int) + 1 < (li : Int)) := by omega)
              have HI0 := hide hi0
              clear hi0
              go_wp2_with fail
              first
                | refine ⟨⟨k + 1, (j : Int), ?_, ?_, by omega, HEnd.out _ rfl⟩, ?_⟩
                | (have e := HI0.out
                   subst e
                   refine ⟨?_, ?_⟩
                   repeat apply Exists.intro
                   refine And.intro ?_ rfl
                   refine ⟨k + 1, (j : Int), ?_, ?_, by omega, HEnd.out _ rfl⟩)
              all_goals first | (congr 1; omega) | (simp [intOf] <;> omega) | omega | (congr 1; done) | rfl
          · obtain rfl : k = xs.length := by omega
            have HW := hide (H6.out.stay HJ.out.2.2 (fun q _ e1 e2 => by have := hSz.out q e1; omega))
            have HNX := hide (HI.out.1.next HI.out.2.2.2.1.1 (by rw [HI.out.2.1]; omega) HAD.out)
            have hadl := HAD.out.len HI.out.2.2.2.1.1
            have hol := HI.out.1.len
            rw [List.length_map, ← hl1.out] at hol
            obtain ⟨rr, hrr⟩ : ∃ rr : Nat, rr = n1 - (T.length + xs.length) := ⟨_, rfl⟩
            have hE : (n1 : Int) - ((T.length : Int) + (xs.length : Int)) = (rr : Int) := by omega
            go_wp2_with fail
            go_at_call 33
            obtain ⟨hok, m, att, hw⟩ := HW.out
            refine (lenI _ hw hok).mono ?_
            rintro e wl ⟨rfl, hwl⟩
            rw [hwl, show ((cur.adv _).ids.length) = rr by omega]
            clear hwl wl hw hok hadl hol hrr
            go_wp2_with fail
            refine ⟨⟨i + 1, _, (lastOf cur xs xs.length lid ldue).1, (lastOf cur xs xs.length lid ldue).2, lw', cur.adv _, T ++ xs, ?_, ?_, ?_, by omega, ?_, by rw [List.length_append]; omega, HNX.out, rfl, (fun h => by first | omega | rfl), HW.out, by have := HJ.out.1; rwa [List.take_length] at this, HJ.out.2.1, K6.out.more (HJ.out.2.2.mono fun q e => by rcases e with e | e <;> (show w.heap.size ≤ q; omega))⟩, by simp [intOf] <;> omega⟩
            all_goals first | omega | (congr 1; rw [List.length_append]; omega) | (congr 1; omega) | (congr 1; done) | rfl

end Wh
end Go.Proofs.Ytmbhlhgggmcnoaa
