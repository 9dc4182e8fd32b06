/- Package run: Stop. -/
import Derived.Test.YtiackejbpcjmeaaRFns
namespace Go.Proofs.Ytiackejbpcjmeaa
namespace Rn
open Go.RowKit Gr

def stopP (p : Pt) : Pt := { p with st := stopS p.st }
def stopAt (ps : List Pt) (i : Nat) : List Pt := (ps.take i).map stopP ++ ps.drop i
theorem stopAt_len (ps : List Pt) (i : Nat) (h : i ≤ ps.length) : (stopAt ps i).length = ps.length := by simp [stopAt]; omega
theorem stopAt_zero (ps : List Pt) : stopAt ps 0 = ps := by simp [stopAt]
theorem stopAt_all (ps : List Pt) : stopAt ps ps.length = ps.map stopP := by simp [stopAt]
theorem stopAt_at {ps : List Pt} {i : Nat} {p : Pt} (h : ps[i]? = some p) : (stopAt ps i)[i]? = some p := by
  have hl := (List.getElem?_eq_some_iff.1 h).1
  unfold stopAt
  rw [List.getElem?_append_right (by simp; omega)]
  have : i - ((ps.take i).map stopP).length = 0 := by simp; omega
  rw [this, List.getElem?_drop]
  simpa using h
theorem stopAt_succ {ps : List Pt} {i : Nat} {p : Pt} (h : ps[i]? = some p) : stopAt ps (i + 1) = (stopAt ps i).set i (stopP p) := by
  have hl := (List.getElem?_eq_some_iff.1 h).1
  have e := (List.getElem?_eq_some_iff.1 h).2
  unfold stopAt
  rw [Gr.take_snoc ps i p h, List.map_append, List.set_append_right _ _ (by simp; omega)]
  have : i - ((ps.take i).map stopP).length = 0 := by simp; omega
  rw [this, List.drop_eq_getElem_cons hl]
  simp [e]
theorem putS_set {ps : List Pt} {k : Nat} {p : Pt} (h : ps[k]? = some p) (v : Int) : putS ps k v = ps.set k { p with st := v } := modify_set h _
theorem set_same {ps : List Pt} {k : Nat} {p : Pt} (h : ps[k]? = some p) : ps.set k p = ps := by
  refine List.ext_getElem? fun i => ?_
  rw [List.getElem?_set]
  by_cases c : k = i
  · subst c; rw [if_pos rfl, if_pos (List.getElem?_eq_some_iff.1 h).1, h]
  · rw [if_neg c]
/-- who is dead, who is skipped, among the first so many -/
def deadI (ps : List Pt) (i : Nat) : List Nat := (List.range i).filter fun j => !setS (sAt (sts ps) (j : Nat)) && !decide (sAt (sts ps) (j : Nat) = 1)
def skipI (ps : List Pt) (i : Nat) : List Nat := (List.range i).filter fun j => decide (sAt (sts ps) (j : Nat) = 1)
theorem deadI_len (ps : List Pt) (i : Nat) : (deadI ps i).length ≤ i := by unfold deadI; exact Nat.le_trans (List.length_filter_le _ _) (by simp)
theorem skipI_len (ps : List Pt) (i : Nat) : (skipI ps i).length ≤ i := by unfold skipI; exact Nat.le_trans (List.length_filter_le _ _) (by simp)
theorem deadI_succ {ps : List Pt} {i : Nat} {p : Pt} (h : ps[i]? = some p) : deadI ps (i + 1) = if !setS p.st && !decide (p.st = 1) then deadI ps i ++ [i] else deadI ps i := by
  unfold deadI
  rw [List.range_succ, List.filter_append]
  simp only [List.filter_cons, List.filter_nil, sAt_sts h]
  split <;> simp
theorem skipI_succ {ps : List Pt} {i : Nat} {p : Pt} (h : ps[i]? = some p) : skipI ps (i + 1) = if p.st = 1 then skipI ps i ++ [i] else skipI ps i := by
  unfold skipI
  rw [List.range_succ, List.filter_append]
  simp only [List.filter_cons, List.filter_nil, sAt_sts h, decide_eq_true_eq]
  split <;> simp
theorem isStopped_any (st : Int) (w : World) : Calls Try.prog 51 #[.int .i64 st] w fun e w' => e = .returned (.bool (decide (st = 4) || decide (st = 5))) ∧ w' = w := by
  by_cases h : st = 4
  · subst h
    go_enter Try.func51, Try.ntmps51
    go_wp2_with fail
    go_ret
    exact ⟨rfl, rfl⟩
  · have h' : (st == 4) = false := by simpa using h
    have HR : Hid ((st == 5) = (decide (st = 4) || decide (st = 5))) := by show _ = _; rw [decide_eq_false h, Bool.false_or, Bool.eq_iff_iff]; simp
    go_enter Try.func51, Try.ntmps51
    go_wp2_with fail
    go_ret
    exact ⟨by rw [← HR.out]; rfl, rfl⟩
/-- what stands between two rounds of Stop's loop -/
def StI (T : Nat → Prop) (w : World) (P G : Nat) (nm : ByteArray) (dl : Int) (s : Option Addr × Nat × Nat) (xs : List No) (ps : List Pt) (st : Int) (i : Nat) (wr : World) : Prop :=
  ∃ (da sa : Option Addr) (dc sc : Nat), wr.heap[w.heap.size + 1]? = some (.cells #[.slice da (deadI ps i).length dc, .slice sa (skipI ps i).length sc, .slice none 0 0, .int .i64 st] 45 (0, 0)) ∧ wr.heap[w.heap.size]? = some (.cells #[.slice none 0 0, .slice none 0 0, .slice none 0 0, .int .i64 0] 45 (0, 0)) ∧
    wr.ownsRow w.heap.size 3 1 (.slice da (deadI ps i).length dc) (deadI ps i).length (iv (deadI ps i)) ∧ wr.ownsRow w.heap.size 3 1 (.slice sa (skipI ps i).length sc) (skipI ps i).length (iv (skipI ps i)) ∧
    (∀ k, (Value.slice da (deadI ps i).length dc).ownBlock = some k → (Value.slice sa (skipI ps i).length sc).ownBlock ≠ some k) ∧
    RunAt (fun k => T k ∨ w.heap.size ≤ k) wr P G nm dl s xs ⟨st, stopAt ps i⟩ ∧ Keep (fun k => k = P ∨ k = G ∨ w.heap.size ≤ k) w wr
set_option maxRecDepth 100000 in
set_option maxHeartbeats 4000000 in
theorem stop_any {T : Nat → Prop} {w : World} {P G : Nat} {nm : ByteArray} {dl : Int} {s : Option Addr × Nat × Nat} {xs : List No} {R : Rs} (h : RunAt T w P G nm dl s xs R) (hT : ∀ k, T k → k < w.heap.size) (st : Int) :
    Calls Try.prog 31 #[.pointer (some ⟨P, 0, none⟩), .int .i64 st] w (Stp T w P G nm dl s xs (stopR R st)) := by
  have HT := hide hT
  have HTP : Hid (T P ∧ T G) := ⟨h.tp, h.tg⟩
  have HPL := hide (hT P h.tp)
  have HGL := hide (hT G h.tg)
  have hl64 : xs.length ≤ 64 := h.val.1
  have HL64 := hide hl64
  have HLN : Hid (R.ps.length = xs.length) := h.len
  have k1 := Keep.alloc (fun _ => False) w (.cells #[.slice none 0 0, .slice none 0 0, .slice none 0 0, .int .i64 0] 45)
  have b1 := heap_alloc_new w (.cells #[.slice none 0 0, .slice none 0 0, .slice none 0 0, .int .i64 0] 45)
  have z1 : (w.alloc (.cells #[.slice none 0 0, .slice none 0 0, .slice none 0 0, .int .i64 0] 45)).heap.size = w.heap.size + 1 := by simp
  have HR1 := hide ((h.wide (U := fun k => T k ∨ w.heap.size ≤ k) (fun _ h => h) (.inl h.tp) (.inl h.tg)).new k1)
  have HA := hide b1
  have K1 := hide k1
  have HZ1 := hide z1
  have IS := hide (fun W => isStopped_any st W)
  have HSR : Hid (stopR R st = if !(decide (st = 4) || decide (st = 5)) then ((Chg.none, 1), R) else if R.stt ≠ 1 then ((Chg.none, 131), R) else ((⟨deadL R.ps, skipL R.ps, [], st⟩, 0), ⟨st, R.ps.map fun p => { p with st := stopS p.st }⟩)) := rfl
  generalize stopR R st = LR at *
  generalize (decide (st = 4) || decide (st = 5)) = qs at *
  clear h hT k1 b1 z1
  go_enter Try.func31, Try.ntmps31
  go_upto_region 1 with fail
  generalize w.alloc (.cells #[.slice none 0 0, .slice none 0 0, .slice none 0 0, .int .i64 0] 45) = w1 at *
  go_wp2_with fail
  go_at_call 51
  refine (IS.out _).mono ?_
  rintro e w1' ⟨rfl, hw1⟩
  subst hw1
  clear IS
  cases qs
  · have HWR : Hid (LR = ((Chg.none, 1), R)) := HSR.out
    have hE := stp_end (d := []) (k := []) (r := []) HT.out HTP.out.1 HTP.out.2 w.heap.size (Nat.le_refl _) HA.out HR1.out 0 (World.ownsRow_nil _ _ _ _) (World.ownsRow_nil _ _ _ _) (World.ownsRow_nil _ _ _ _) (by simp) (by simp) (by simp) (K1.out.mono fun _ f => f.elim)
    have HE := hide hE
    have f0 := frozen_blk HA.out 0
    have f1 := frozen_blk HA.out 1
    have f2 := frozen_blk HA.out 2
    have f3 := frozen_blk HA.out 3
    have y0 := cell_blk HA.out 0 (v := .slice none 0 0) rfl
    have y1 := cell_blk HA.out 1 (v := .slice none 0 0) rfl
    have y2 := cell_blk HA.out 2 (v := .slice none 0 0) rfl
    have y3 := cell_blk HA.out 3 (v := .int .i64 0) rfl
    clear hE HSR
    go_wp2_with fail
    obtain ⟨g1, g2, g3, g4⟩ := HE.out
    obtain rfl := HWR.out
    exact bodyPost_ret (res_chg2 rfl _ _ w.heap.size _ _ _ _ rfl g1) rfl ⟨_, rfl, g2, g3, g4⟩
  by_cases hst : R.stt = 1
  · obtain ⟨c, _, _, _, p3, p4⟩ := HR1.out.cells
    rw [hst] at p3
    have HWR : Hid (LR = ((⟨deadL R.ps, skipL R.ps, [], st⟩, 0), ⟨st, R.ps.map stopP⟩)) := by
      have := HSR.out
      rw [if_neg (by simp), if_neg (by simp [hst])] at this
      exact this
    have fp := (HR1.out.frozen 3).2
    have HR2 := hide (HR1.out.setStt st)
    have kc := keep_cell w1' P 3 (.int .i64 st)
    have K2 := hide ((K1.out.mono (T := fun k => k = P) fun _ f => f.elim).more kc)
    have HA2 := hide (kc.blk HA.out (fun e => by have := HPL.out; omega))
    have HZ2 : Hid ((w1'.setCell ⟨P, 3, none⟩ (.int .i64 st)).heap.size = w.heap.size + 1) := by show _ = _; rw [← HZ1.out]; simp [World.setCell]
    clear kc hst HSR
    go_upto_region 6 with fail
    generalize w1'.setCell ⟨P, 3, none⟩ (.int .i64 st) = w2 at *
    clear p3 p4 fp HR1 K1 HA HZ1
    have k3 := Keep.alloc (fun _ => False) w2 (.cells #[.slice none 0 0, .slice none 0 0, .slice none 0 0, .int .i64 st] 45)
    have b3 := heap_alloc_new w2 (.cells #[.slice none 0 0, .slice none 0 0, .slice none 0 0, .int .i64 st] 45)
    rw [HZ2.out] at b3
    have HI0 : Hid (StI T w P G nm dl s xs R.ps st 0 (w2.alloc (.cells #[.slice none 0 0, .slice none 0 0, .slice none 0 0, .int .i64 st] 45))) :=
      ⟨none, none, 0, 0, b3, k3.blk HA2.out (fun f => f), World.ownsRow_nil _ _ _ _, World.ownsRow_nil _ _ _ _, (fun k hk => by simp [Value.ownBlock] at hk), by rw [stopAt_zero]; exact HR2.out.new k3, (K2.out.mono fun i hi => .inl hi).more (k3.mono fun _ f => f.elim)⟩
    clear k3 b3 HR2 K2 HA2
    go_upto_region 7 with fail
    simp only [HZ2.out]
    generalize w2.alloc (.cells #[.slice none 0 0, .slice none 0 0, .slice none 0 0, .int .i64 st] 45) = w3 at *
    obtain ⟨_, _, _, _, _, _, _, _, _, hr3, _⟩ := HI0.out
    obtain ⟨c, _, _, _, _, p4⟩ := hr3.cells
    clear hr3 HZ2
    generalize hn : xs.length = n at *
    go_wp2_with fail
    go_loopw [32] (fun v32 wr => ∃ i : Nat, v32 = .int .i64 (i : Nat) ∧ i ≤ n ∧ Hid (StI T w P G nm dl s xs R.ps st i wr)) (fun v32 _ => n - (intOf v32).toNat)
    case atStart => exact ⟨0, rfl, Nat.zero_le _, HI0.out⟩
    case round =>
      clear HI0 p4
      obtain ⟨i, rfl, hi, HI⟩ := hrel
      obtain ⟨da, sa, dc, sc, hC, hAz, hod, hos, hdis, hR, hK⟩ := HI.out
      have HC := hide hC
      have HAz := hide hAz
      have HOD := hide hod
      have HOS := hide hos
      have HDI := hide hdis
      have HR := hide hR
      have HK := hide hK
      clear HI hod hos hdis hK hAz hC
      by_cases hlt : i < n
      · have hp : R.ps[i]? = some (R.ps[i]'(by have := HLN.out; omega)) := List.getElem?_eq_getElem _
        generalize R.ps[i]'_ = p at hp
        have HP := hide hp
        obtain ⟨m, hm⟩ := hR.pts i p (stopAt_at hp)
        obtain ⟨a0, a1, a2, a3, a4⟩ := hm.all
        obtain ⟨c', _, _, _, _, p4⟩ := hR.cells
        have SE := hide (settled_any p.st p.tr m wr)
        have HLT := hide hlt
        have hz := HK.out.size
        clear hm hp hR
        go_wp2_with fail
        go_at_call 49
        refine SE.out.mono ?_
        rintro e w4 ⟨rfl, k4⟩
        have HC4 := hide (k4.blk HC.out (fun f => f))
        have HA4 := hide (k4.blk HAz.out (fun f => f))
        have HOD4 := hide (ownsRow_new HOD.out k4)
        have HOS4 := hide (ownsRow_new HOS.out k4)
        have HR4 := hide (HR.out.new k4)
        have HK4 := hide (HK.out.more (k4.mono fun _ f => f.elim))
        clear k4 SE HC HAz HOD HOS HR HK a0 a1 a2 a3 a4 p4
        cases hse : setS p.st with
        | true =>
          have h1 : ¬ p.st = 1 := fun e => by rw [e] at hse; cases hse
          have hSI : Hid (StI T w P G nm dl s xs R.ps st (i + 1) w4) := by
            have e1 : deadI R.ps (i + 1) = deadI R.ps i := by rw [deadI_succ HP.out, hse]; rfl
            have e2 : skipI R.ps (i + 1) = skipI R.ps i := by rw [skipI_succ HP.out, if_neg h1]
            have e3 : stopAt R.ps (i + 1) = stopAt R.ps i := by
              rw [stopAt_succ HP.out]
              have : stopP p = p := by unfold stopP stopS; rw [if_pos hse]
              rw [this]
              exact set_same (stopAt_at HP.out)
            show StI T w P G nm dl s xs R.ps st (i + 1) w4
            unfold StI
            rw [e1, e2, e3]
            exact ⟨da, sa, dc, sc, HC4.out, HA4.out, HOD4.out, HOS4.out, HDI.out, HR4.out, HK4.out⟩
          clear hse h1
          go_wp2_with fail
          go_roundw
          · exact ⟨i + 1, rfl, by have := HLT.out; omega, hSI.out⟩
          · show n - ((i : Int) + 1).toNat < n - (i : Int).toNat
            have := HLT.out; omega
        | false =>
          obtain ⟨m, hm⟩ := HR4.out.pts i p (stopAt_at HP.out)
          have a0 := hm.all.1
          have f0 := (HR4.out.frozen (i * 5)).1
          clear hm
          have hltp : i < (stopAt R.ps i).length := by rw [stopAt_len _ _ (by have := HLN.out; omega)]; have := HLN.out; omega
          by_cases h1 : p.st = 1
          · rw [h1] at a0
            have hS := HR4.out.putS i hltp 7
            have hstp : stopP p = { p with st := 7 } := by unfold stopP stopS; rw [h1]; rfl
            rw [show putS (stopAt R.ps i) i 7 = stopAt R.ps (i + 1) by rw [putS_set (stopAt_at HP.out), stopAt_succ HP.out, hstp]] at hS
            have HR5 := hide hS
            have kc := keep_cell w4 G (i * 5) (.int .i64 7)
            have HC5 := hide (kc.blk HC4.out (fun e => by have := HGL.out; omega))
            have HA5 := hide (kc.blk HA4.out (fun e => by have := HGL.out; omega))
            have HOD5 := hide (ownsRow_keep HOD4.out kc (fun j hj hh => by have := (HOD4.out.lt j hh).1; have := HGL.out; omega))
            have HOS5 := hide (ownsRow_keep HOS4.out kc (fun j hj hh => by have := (HOS4.out.lt j hh).1; have := HGL.out; omega))
            have HK5 := hide (HK4.out.more (kc.mono fun j hj => .inr (.inl hj)))
            have e1 : Hid (deadI R.ps (i + 1) = deadI R.ps i) := by show _ = _; rw [deadI_succ HP.out, h1]; rfl
            have e2 : Hid (skipI R.ps (i + 1) = skipI R.ps i ++ [i]) := by show _ = _; rw [skipI_succ HP.out, if_pos h1]
            clear kc hS hstp hltp hse h1 HR4 HC4 HA4 HOD4 HOS4 HK4
            go_upto_region 16 with fail
            generalize w4.setCell ⟨G, i * 5, none⟩ (.int .i64 7) = w5 at *
            clear a0 f0
            have hl1 := skipI_len R.ps i
            generalize deadI R.ps i = DL at *
            generalize skipI R.ps i = SL at *
            have y1 := cell_blk HC5.out 1 (v := .slice sa SL.length sc) rfl
            have k6 := Keep.alloc (fun _ => False) w5 (.cells #[.int .i64 (i : Int)] 3)
            have y1' := k6.cell y1 (fun f => f)
            have hone := cell_one w5 (.int .i64 (i : Int)) 3
            have HOS6 := hide (ownsRow_new HOS5.out k6)
            have HOD6 := hide (ownsRow_new HOD5.out k6)
            have HC6 := hide (k6.blk HC5.out (fun f => f))
            have HA6 := hide (k6.blk HA5.out (fun f => f))
            have HR6 := hide (HR5.out.new k6)
            have HK6 := hide (HK5.out.more (k6.mono fun _ f => f.elim))
            have hz6 := k6.size
            have fz : Hid (∀ W : World, Keep (fun k => (Value.slice sa SL.length sc).ownBlock = some k) (w5.alloc (.cells #[.int .i64 (i : Int)] 3)) W → W.cell? ⟨w.heap.size + 1, 1, none⟩ = some (.slice sa SL.length sc) ∧ W.frozen? ⟨w.heap.size + 1, 1, none⟩ = false ∧ W.heap[w.heap.size + 1]? = some (.cells #[.slice da DL.length dc, .slice sa SL.length sc, .slice none 0 0, .int .i64 st] 45 (0, 0))) := fun W kW => by
              have hb := kW.blk HC6.out (fun e => row_far HOS6.out HC6.out (by decide) e rfl)
              exact ⟨cell_blk hb 1 rfl, frozen_blk hb 1, hb⟩
            have hzz : w.heap.size ≤ (w5.alloc (.cells #[.int .i64 (i : Int)] 3)).heap.size := HK6.out.size
            clear k6 HOS5 HOD5 HC5 HA5 HR5 HK5
            go_wp2_with (at_builtin; refine wp_append1 rfl _ _ rfl w.heap.size _ SL.length (iv SL) rfl HOS6.out ⟨w5.heap.size, 0, none⟩ (i : Int) rfl hone (by have := HL64.out; omega) hzz ?_; intro v' w7 ho7 hg7 hnb7; obtain ⟨na, nc, hv'⟩ := ownsRow_shape ho7; subst hv'; obtain ⟨y9, f9, hc9⟩ := fz.out w7 hg7; have HO7 := hide ho7; have HG7 := hide hg7; have HN7 := hide hnb7; have HC7 := hide hc9; clear ho7 hg7 hnb7 hc9)
            have HOD7 := hide (ownsRow_keep HOD6.out HG7.out (fun j hj hh => HDI.out j hh hj))
            have HA7 := hide (HG7.out.blk HA6.out (fun e => row_far HOS6.out HA6.out (by decide) e rfl))
            have HR7 := hide (HR6.out.keep HG7.out (fun j hj => .inr ⟨.inr (HOS6.out.lt j hj).1, fun e => by have := (HOS6.out.lt j hj).1; have := HPL.out; omega, fun e => by have := (HOS6.out.lt j hj).1; have := HGL.out; omega⟩))
            have HK7 := hide (HK6.out.more (HG7.out.mono fun j hj => .inr (.inr (HOS6.out.lt j hj).1)))
            have kc := keep_cell w7 (w.heap.size + 1) 1 (.slice na (SL.length + 1) nc)
            have hSI : Hid (StI T w P G nm dl s xs R.ps st (i + 1) (w7.setCell ⟨w.heap.size + 1, 1, none⟩ (.slice na (SL.length + 1) nc))) := by
              show StI T w P G nm dl s xs R.ps st (i + 1) _
              unfold StI
              rw [e1.out, e2.out, List.length_append]
              refine ⟨da, na, dc, nc, set_blk HC7.out 1 _, kc.blk HA7.out (fun e => by omega), ownsRow_keep HOD7.out kc (fun j hj hh => row_far HOD7.out HC7.out (by decide) hh hj), ?_, fun k hk hk2 => ?_, HR7.out.keep kc (fun j hj => .inr ⟨.inr (by omega), fun e => by have := HPL.out; omega, fun e => by have := HGL.out; omega⟩), HK7.out.more (kc.mono fun j hj => .inr (.inr (by omega)))⟩
              · rw [iv_snoc]
                exact ownsRow_keep HO7.out kc (fun j hj hh => row_far HO7.out HC7.out (by decide) hh hj)
              · rcases HN7.out with e | e
                · exact HDI.out k hk ((show (Value.slice na (SL.length + 1) nc).ownBlock = (Value.slice sa SL.length sc).ownBlock from e).symm.trans hk2)
                · have := e k hk2
                  have := (HOD6.out.lt k hk).2
                  omega
            clear kc
            go_wp2_with fail
            go_roundw
            · exact ⟨i + 1, rfl, by have := HLT.out; omega, hSI.out⟩
            · show n - ((i : Int) + 1).toNat < n - (i : Int).toNat
              have := HLT.out; omega
          · have h1' : (p.st == 1) = false := by simpa using h1
            have hS := HR4.out.putS i hltp 6
            have hstp : stopP p = { p with st := 6 } := by unfold stopP stopS; rw [if_neg (by simp [hse]), if_neg h1]
            rw [show putS (stopAt R.ps i) i 6 = stopAt R.ps (i + 1) by rw [putS_set (stopAt_at HP.out), stopAt_succ HP.out, hstp]] at hS
            have HR5 := hide hS
            have kc := keep_cell w4 G (i * 5) (.int .i64 6)
            have HC5 := hide (kc.blk HC4.out (fun e => by have := HGL.out; omega))
            have HA5 := hide (kc.blk HA4.out (fun e => by have := HGL.out; omega))
            have HOD5 := hide (ownsRow_keep HOD4.out kc (fun j hj hh => by have := (HOD4.out.lt j hh).1; have := HGL.out; omega))
            have HOS5 := hide (ownsRow_keep HOS4.out kc (fun j hj hh => by have := (HOS4.out.lt j hh).1; have := HGL.out; omega))
            have HK5 := hide (HK4.out.more (kc.mono fun j hj => .inr (.inl hj)))
            have e1 : Hid (deadI R.ps (i + 1) = deadI R.ps i ++ [i]) := by show _ = _; rw [deadI_succ HP.out, hse, decide_eq_false h1]; rfl
            have e2 : Hid (skipI R.ps (i + 1) = skipI R.ps i) := by show _ = _; rw [skipI_succ HP.out, if_neg h1]
            clear kc hS hstp hltp hse HR4 HC4 HA4 HOD4 HOS4 HK4
            go_upto_region 12 with fail
            generalize w4.setCell ⟨G, i * 5, none⟩ (.int .i64 6) = w5 at *
            clear a0 f0 h1 h1'
            have hl1 := deadI_len R.ps i
            generalize deadI R.ps i = DL at *
            generalize skipI R.ps i = SL at *
            have y1 := cell_blk HC5.out 0 (v := .slice da DL.length dc) rfl
            have k6 := Keep.alloc (fun _ => False) w5 (.cells #[.int .i64 (i : Int)] 3)
            have y1' := k6.cell y1 (fun f => f)
            have hone := cell_one w5 (.int .i64 (i : Int)) 3
            have HOS6 := hide (ownsRow_new HOS5.out k6)
            have HOD6 := hide (ownsRow_new HOD5.out k6)
            have HC6 := hide (k6.blk HC5.out (fun f => f))
            have HA6 := hide (k6.blk HA5.out (fun f => f))
            have HR6 := hide (HR5.out.new k6)
            have HK6 := hide (HK5.out.more (k6.mono fun _ f => f.elim))
            have hz6 := k6.size
            have fz : Hid (∀ W : World, Keep (fun k => (Value.slice da DL.length dc).ownBlock = some k) (w5.alloc (.cells #[.int .i64 (i : Int)] 3)) W → W.cell? ⟨w.heap.size + 1, 0, none⟩ = some (.slice da DL.length dc) ∧ W.frozen? ⟨w.heap.size + 1, 0, none⟩ = false ∧ W.heap[w.heap.size + 1]? = some (.cells #[.slice da DL.length dc, .slice sa SL.length sc, .slice none 0 0, .int .i64 st] 45 (0, 0))) := fun W kW => by
              have hb := kW.blk HC6.out (fun e => row_far HOD6.out HC6.out (by decide) e rfl)
              exact ⟨cell_blk hb 0 rfl, frozen_blk hb 0, hb⟩
            have hzz : w.heap.size ≤ (w5.alloc (.cells #[.int .i64 (i : Int)] 3)).heap.size := HK6.out.size
            clear k6 HOS5 HOD5 HC5 HA5 HR5 HK5
            go_wp2_with (at_builtin; refine wp_append1 rfl _ _ rfl w.heap.size _ DL.length (iv DL) rfl HOD6.out ⟨w5.heap.size, 0, none⟩ (i : Int) rfl hone (by have := HL64.out; omega) hzz ?_; intro v' w7 ho7 hg7 hnb7; obtain ⟨na, nc, hv'⟩ := ownsRow_shape ho7; subst hv'; obtain ⟨y9, f9, hc9⟩ := fz.out w7 hg7; have HO7 := hide ho7; have HG7 := hide hg7; have HN7 := hide hnb7; have HC7 := hide hc9; clear ho7 hg7 hnb7 hc9)
            have HOS7 := hide (ownsRow_keep HOS6.out HG7.out (fun j hj hh => HDI.out j hj hh))
            have HA7 := hide (HG7.out.blk HA6.out (fun e => row_far HOD6.out HA6.out (by decide) e rfl))
            have HR7 := hide (HR6.out.keep HG7.out (fun j hj => .inr ⟨.inr (HOD6.out.lt j hj).1, fun e => by have := (HOD6.out.lt j hj).1; have := HPL.out; omega, fun e => by have := (HOD6.out.lt j hj).1; have := HGL.out; omega⟩))
            have HK7 := hide (HK6.out.more (HG7.out.mono fun j hj => .inr (.inr (HOD6.out.lt j hj).1)))
            have kc := keep_cell w7 (w.heap.size + 1) 0 (.slice na (DL.length + 1) nc)
            have hSI : Hid (StI T w P G nm dl s xs R.ps st (i + 1) (w7.setCell ⟨w.heap.size + 1, 0, none⟩ (.slice na (DL.length + 1) nc))) := by
              show StI T w P G nm dl s xs R.ps st (i + 1) _
              unfold StI
              rw [e1.out, e2.out, List.length_append]
              refine ⟨na, sa, nc, sc, set_blk HC7.out 0 _, kc.blk HA7.out (fun e => by omega), ?_, ownsRow_keep HOS7.out kc (fun j hj hh => row_far HOS7.out HC7.out (by decide) hh hj), fun k hk hk2 => ?_, HR7.out.keep kc (fun j hj => .inr ⟨.inr (by omega), fun e => by have := HPL.out; omega, fun e => by have := HGL.out; omega⟩), HK7.out.more (kc.mono fun j hj => .inr (.inr (by omega)))⟩
              · rw [iv_snoc]
                exact ownsRow_keep HO7.out kc (fun j hj hh => row_far HO7.out HC7.out (by decide) hh hj)
              · rcases HN7.out with e | e
                · exact HDI.out k ((show (Value.slice na (DL.length + 1) nc).ownBlock = (Value.slice da DL.length dc).ownBlock from e).symm.trans hk) hk2
                · have := e k hk
                  have := (HOS6.out.lt k hk2).2
                  omega
            clear kc
            go_wp2_with fail
            go_roundw
            · exact ⟨i + 1, rfl, by have := HLT.out; omega, hSI.out⟩
            · show n - ((i : Int) + 1).toNat < n - (i : Int).toNat
              have := HLT.out; omega
      · obtain rfl : i = n := by omega
        have hal : deadL R.ps = deadI R.ps i := by unfold deadL deadI; rw [HLN.out]
        have hsl : skipL R.ps = skipI R.ps i := by unfold skipL skipI; rw [HLN.out]
        have hst : stopAt R.ps i = R.ps.map stopP := by rw [← HLN.out]; exact stopAt_all _
        have HW2 : Hid (LR = ((⟨deadI R.ps i, skipI R.ps i, [], st⟩, 0), ⟨st, stopAt R.ps i⟩)) := by rw [hst, ← hal, ← hsl]; exact HWR.out
        have hl1 := deadI_len R.ps i
        have hl2 := skipI_len R.ps i
        clear hal hsl hst HWR hR
        have hE := stp_end (r := []) HT.out HTP.out.1 HTP.out.2 w.heap.size (Nat.le_refl _) HAz.out HR.out st HOD.out HOS.out (World.ownsRow_nil _ _ _ _) (by have := HL64.out; omega) (by have := HL64.out; omega) (by simp) HK.out
        have HE := hide hE
        generalize deadI R.ps i = DL at *
        generalize skipI R.ps i = SL at *
        have x0 := cell_blk HC.out 0 (v := .slice da DL.length dc) rfl
        have x1 := cell_blk HC.out 1 (v := .slice sa SL.length sc) rfl
        have x2 := cell_blk HC.out 2 (v := .slice none 0 0) rfl
        have x3 := cell_blk HC.out 3 (v := .int .i64 st) rfl
        have f0 := frozen_blk HAz.out 0
        have f1 := frozen_blk HAz.out 1
        have f2 := frozen_blk HAz.out 2
        have f3 := frozen_blk HAz.out 3
        have y0 := cell_blk HAz.out 0 (v := .slice none 0 0) rfl
        have y1 := cell_blk HAz.out 1 (v := .slice none 0 0) rfl
        have y2 := cell_blk HAz.out 2 (v := .slice none 0 0) rfl
        have y3 := cell_blk HAz.out 3 (v := .int .i64 0) rfl
        clear hE
        go_wp2_with fail
        obtain ⟨g1, g2, g3, g4⟩ := HE.out
        obtain rfl := HW2.out
        exact bodyPost_ret (res_chg2 rfl _ _ w.heap.size _ _ _ _ rfl g1) rfl ⟨_, rfl, g2, g3, g4⟩
  · obtain ⟨c, _, _, _, p3, p4⟩ := HR1.out.cells
    have HWR : Hid (LR = ((Chg.none, 131), R)) := by
      have := HSR.out
      rw [if_neg (by simp), if_pos hst] at this
      exact this
    have hne : (R.stt != 1) = true := by simpa using hst
    have hE := stp_end (d := []) (k := []) (r := []) HT.out HTP.out.1 HTP.out.2 w.heap.size (Nat.le_refl _) HA.out HR1.out 0 (World.ownsRow_nil _ _ _ _) (World.ownsRow_nil _ _ _ _) (World.ownsRow_nil _ _ _ _) (by simp) (by simp) (by simp) (K1.out.mono fun _ f => f.elim)
    have HE := hide hE
    have f0 := frozen_blk HA.out 0
    have f1 := frozen_blk HA.out 1
    have f2 := frozen_blk HA.out 2
    have f3 := frozen_blk HA.out 3
    have y0 := cell_blk HA.out 0 (v := .slice none 0 0) rfl
    have y1 := cell_blk HA.out 1 (v := .slice none 0 0) rfl
    have y2 := cell_blk HA.out 2 (v := .slice none 0 0) rfl
    have y3 := cell_blk HA.out 3 (v := .int .i64 0) rfl
    clear hE HSR hst
    go_wp2_with fail
    obtain ⟨g1, g2, g3, g4⟩ := HE.out
    obtain rfl := HWR.out
    exact bodyPost_ret (res_chg2 rfl _ _ w.heap.size _ _ _ _ rfl g1) rfl ⟨_, rfl, g2, g3, g4⟩
end Rn
end Go.Proofs.Ytiackejbpcjmeaa
