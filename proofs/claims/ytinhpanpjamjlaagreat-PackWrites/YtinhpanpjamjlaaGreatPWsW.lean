/- PackWrites: the walk. -/
import Derived.Test.YtinhpanpjamjlaaGreatPWsM
import Derived.Test.YtinhpanpjamjlaaGreatPWsA
import Derived.Test.YtinhpanpjamjlaaGreatPKnown
import Derived.Deep.MidRow
import Derived.Deep.CutRange
namespace Go.Proofs.YtinhpanpjamjlaaGreat
namespace Wm
open Go.RowKit Go.Deep

set_option maxRecDepth 100000 in
set_option maxHeartbeats 4000000 in
theorem writes_walk (mo : Int) (a : Option Addr) (n c : Nat) (qs : List Sp) (w : World) (h : RdSp w a n qs) :
    Calls Tryz.prog 3 #[.int .i64 mo, .slice a n c] w fun en w' => en = .returned (.bool true) ∧ Below w.heap.size w w' := by
  have hn := h.2.1
  have HQ := hide h
  clear h
  go_enter Tryz.func3, Tryz.ntmps3
  go_wp2_with fail
  refine (known_any _).mono ?_
  rintro e w1 ⟨rfl, hb1⟩
  have HB1 := hide hb1
  clear hb1
  go_wp2_with fail
  refine (NewWriter_any mo _).mono ?_
  rintro e w2 ⟨rfl, h2⟩
  have H2 := hide h2
  clear h2
  go_wp2_with fail
  refine (RNewWriter_any mo _).mono ?_
  rintro e w3 ⟨rfl, h3⟩
  obtain ⟨vW, vV, S3⟩ := St.begin HB1.out H2.out h3
  have HS3 := hide S3
  clear S3 h3
  generalize w1.heap.size = p at *
  generalize w2.heap.size = q at *
  clear HB1 H2
  generalize (⟨[], room mo, 0⟩ : K.WS) = s0 at *
  go_wp2_with fail
  go_loopw [8] (fun iv wr => ∃ i : Nat, iv = .int .i64 (i : Nat) ∧ i ≤ n ∧ Hid (∃ v u, St w wr p v q u (runS (qs.take i) s0) (runS (qs.take i) s0))) (fun iv _ => n - (intOf iv).toNat)
  case atStart => exact ⟨0, rfl, Nat.zero_le _, _, _, HS3.out⟩
  case round =>
    clear HS3
    obtain ⟨i, rfl, hi, HI⟩ := hrel
    obtain ⟨v, u, HS⟩ : ∃ v u, Hid (St w wr p v q u (runS (qs.take i) s0) (runS (qs.take i) s0)) := HI.out
    clear HI
    by_cases hlt : i < n
    · obtain ⟨x, b, off, hx, ea, hok, hrow⟩ := HQ.out.row hlt
      subst ea
      have hlt' : (i : Int) < (n : Int) := by omega
      have HR := hide (run_succ hx s0)
      generalize runS (qs.take i) s0 = s at *
      have HRW := hide hrow
      have HY : Hid (∀ W', Below w.heap.size w W' → W'.cell? ⟨b, off + i * 11, none⟩ = some (.int .i64 x.wh)) := fun W' hb => hrow W' hb 0 _ rfl
      have HP : Hid (∀ (W' : World) (v u : Value) (s s' : K.WS), St w W' p v q u s s' → Calls Tryz.prog 9 #[.pointer (some ⟨p, 0, none⟩), .agg x.row.toArray] W' fun en w' => en = .returned (.tuple #[]) ∧ WAt (Wset p v) W' p (x.eff s) w') := fun W' v u s s' hst => put_any (Wset p v) W' p s x W' hst.atW (hok.keep hst.bl hst.dW)
      have HL : Hid (∀ (W' : World) (v u : Value) (s s' : K.WS), St w W' p v q u s s' → Calls Tryz.prog 10 #[.pointer (some ⟨q, 0, none⟩), .agg x.row.toArray] W' fun en w' => en = .returned (.tuple #[]) ∧ VAt (Wset q u) W' q (x.eff s') w') := fun W' v u s s' hst => laid_any (Wset q u) W' q s' x W' hst.atV (hok.keep hst.bl hst.dV)
      have HI3 := hide (show (Tryz.prog.info? 35).map (·.size) = some x.row.length by rw [info_step]; rfl)
      have hw1 := hok.w1
      have hw2 := hok.w2
      clear hok hx hrow
      generalize x.row = cs at *
      generalize x.wh = wh at *
      go_wp2_with (refine wpList_load_mid rfl 35 _ rfl b (off + i * 11) rfl cs _ (HRW.out _ HS.out.bl) Tryz.underlying35 rfl HI3.out ?_)
      go_at_call 9
      refine (HP.out _ _ _ _ _ HS.out).mono ?_
      rintro e w4 ⟨rfl, h4⟩
      obtain ⟨v4, S4⟩ := HS.out.wput h4
      have HS4 := hide S4
      clear h4 S4 HS
      go_wp2_with (refine wpList_load_mid rfl 35 _ rfl b (off + i * 11) rfl cs _ (HRW.out _ HS4.out.bl) Tryz.underlying35 rfl HI3.out ?_)
      go_at_call 10
      refine (HL.out _ _ _ _ _ HS4.out).mono ?_
      rintro e w5 ⟨rfl, h5⟩
      obtain ⟨uu, S5⟩ := HS4.out.vput h5
      have HS5 := hide S5
      clear h5 S5 HS4 HP HL HRW HI3
      generalize x.eff s = t at *
      have y0 := HY.out w5 HS5.out.bl
      by_cases hk : pk wh = 10
      · go_wp2_with fail
        refine (pick_any wh hw1 hw2 _).mono ?_
        rintro e w6 ⟨rfl, rfl⟩
        rw [hk]
        clear y0
        go_wp2_with fail
        refine (Done_any (Wset p v4) w6 p t w6 HS5.out.atW).mono ?_
        rintro e w7 ⟨vx, rfl, ho7, hb7, hf7⟩
        obtain ⟨ax, cx, hvx⟩ := ownsRow_shape ho7
        subst hvx
        have HS7 := hide (HS5.out.new hb7)
        have HO7 := hide (ownsRow_base ho7 (Nat.zero_le _))
        have HF7 := hide hf7
        clear ho7 hb7 hf7 HS5
        go_wp2_with fail
        refine (RDone_any (Wset q uu) w7 q t w7 HS7.out.atV).mono ?_
        rintro e w8 ⟨vy, rfl, ho8, hb8, _⟩
        obtain ⟨ay, cy, hvy⟩ := ownsRow_shape ho8
        subst hvy
        have HS8 := hide (HS7.out.new hb8)
        have HX := hide (rd_out HO7.out HF7.out.1 (by have := HF7.out.2; omega) hb8)
        have HY8 := hide (rd_out (ownsRow_base ho8 (Nat.zero_le _)) HF7.out.1 (by have := HF7.out.2; omega) (Below.refl _ _))
        clear ho8 hb8 HS7 HO7
        generalize told t = L at *
        go_wp2_with fail
        refine (alike_same ax ay L.length cx L.length cy _ L _ HX.out HY8.out).mono ?_
        rintro e w9 ⟨rfl, rfl⟩
        clear HX HY8
        go_wp2_with fail
        exact ⟨⟨i + 1, by go_num, by omega, by rw [HR.out]; exact ⟨_, _, HS8.out⟩⟩, by simp [intOf]; omega⟩
      · go_wp2_with fail
        refine (pick_any wh hw1 hw2 _).mono ?_
        rintro e w6 ⟨rfl, rfl⟩
        clear y0
        have hkk : (((pk wh : Nat) : Int) == 10) = false := by simp only [beq_eq_false_iff_ne]; omega
        clear hk
        generalize pk wh = kk at *
        go_wp2_with fail
        exact ⟨⟨i + 1, by go_num, by omega, by rw [HR.out]; exact ⟨_, _, HS5.out⟩⟩, by simp [intOf]; omega⟩
    · obtain rfl : i = n := by omega
      generalize runS (qs.take i) s0 = t at *
      go_wp2_with fail
      refine (RDone_any (Wset q u) wr q t wr HS.out.atV).mono ?_
      rintro e w7 ⟨vy, rfl, ho7, hb7, hf7⟩
      obtain ⟨ay, cy, hvy⟩ := ownsRow_shape ho7
      subst hvy
      have HS7 := hide (HS.out.new hb7)
      have HO7 := hide (ownsRow_base ho7 (Nat.zero_le _))
      have HF7 := hide hf7
      clear ho7 hb7 hf7 HS
      go_wp2_with fail
      refine (Done_any (Wset p v) w7 p t w7 HS7.out.atW).mono ?_
      rintro e w8 ⟨vx, rfl, ho8, hb8, _⟩
      obtain ⟨ax, cx, hvx⟩ := ownsRow_shape ho8
      subst hvx
      have HS8 := hide (HS7.out.new hb8)
      have HO8 := hide (ownsRow_base ho8 (Nat.zero_le _))
      have HB8 := hide hb8
      clear ho8 hb8 HS7
      go_wp2_with fail
      refine (Done_any (Wset p v) w8 p t w8 HS8.out.atW).mono ?_
      rintro e w9 ⟨vz, rfl, ho9, hb9, _⟩
      obtain ⟨az, cz, hvz⟩ := ownsRow_shape ho9
      subst hvz
      have HS9 := hide (HS8.out.new hb9)
      have HX := hide (rd_out HO8.out HF7.out.1 (by have := HF7.out.2; omega) hb9)
      have HY := hide (rd_out HO7.out HF7.out.1 (by have := HF7.out.2; omega) (further HB8.out hb9))
      have HZ := hide (rd_out (ownsRow_base ho9 (Nat.zero_le _)) HF7.out.1 (by have := HF7.out.2; omega) (Below.refl _ _))
      clear ho9 hb9 HS8 HO7 HO8 HB8
      generalize told t = L at *
      go_wp2_with fail
      refine (alike_same ax ay L.length cx L.length cy _ L _ HX.out HY.out).mono ?_
      rintro e w10 ⟨rfl, rfl⟩
      go_wp2_with fail
      refine (alike_same az ay L.length cz L.length cy _ L _ HZ.out HY.out).mono ?_
      rintro e w11 ⟨rfl, rfl⟩
      go_wp2_with fail
      go_ret
      exact ⟨by simp, HS9.out.bl⟩
end Wm
end Go.Proofs.YtinhpanpjamjlaaGreat
