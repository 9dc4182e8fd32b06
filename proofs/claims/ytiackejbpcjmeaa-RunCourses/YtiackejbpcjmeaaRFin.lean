/- Package run: Finish, Wake, Miss. -/
import Derived.Test.YtiackejbpcjmeaaRLse
namespace Go.Proofs.Ytiackejbpcjmeaa
namespace Rn
open Go.RowKit Gr

/-- numbers in memory, outside of T -/
def LsX (T : Nat → Prop) (w : World) (s : Option Addr × Nat × Nat) (l : List Nat) : Prop := RdZ w.heap.size w s (l.map fun x : Nat => (x : Int)) ∧ Off T s
/-- a change in memory -/
def ChgAt (T : Nat → Prop) (w : World) (v : Value) (c : Chg) : Prop := ∃ d s r : Option Addr × Nat × Nat, v = .agg #[.slice d.1 d.2.1 d.2.2, .slice s.1 s.2.1 s.2.2, .slice r.1 r.2.1 r.2.2, .int .i64 c.stt] ∧ LsX T w d c.dead ∧ LsX T w s c.skip ∧ LsX T w r c.rdy
def zChg : Value := .agg #[.slice none 0 0, .slice none 0 0, .slice none 0 0, .int .i64 0]
theorem ls_nil (T : Nat → Prop) (w : World) : LsX T w (none, 0, 0) [] := ⟨⟨rfl, Nat.zero_le _, .inl rfl⟩, .inl rfl⟩
theorem chg_none (T : Nat → Prop) (w : World) : ChgAt T w zChg Chg.none := ⟨(none, 0, 0), (none, 0, 0), (none, 0, 0), rfl, ls_nil _ _, ls_nil _ _, ls_nil _ _⟩
theorem ls_own {T : Nat → Prop} {w : World} {b : Nat} {v : Value} {l : List Nat} (h : w.ownsRow b 3 1 v l.length (iv l)) (hl : l.length ≤ 17592186044416) (hT : ∀ k, T k → k < b) : ∃ s : Option Addr × Nat × Nat, v = .slice s.1 s.2.1 s.2.2 ∧ LsX T w s l := by
  obtain ⟨a, c, rfl, hr⟩ := Gr.ownsRow_rd h hl
  refine ⟨(a, l.length, c), rfl, hr, ?_⟩
  rcases h.2 with ⟨e, h0⟩ | ⟨g, cap, cur, e, hb, _⟩
  · exact .inl h0
  · refine .inr fun g' off e' ht => ?_
    injection e with e _ _
    rw [e] at e'
    injection e' with e'
    injection e' with e1 _
    subst e1
    have := hT g ht
    omega
theorem LsX.keep {T : Nat → Prop} {S : Nat → Prop} {w w' : World} {s : Option Addr × Nat × Nat} {l : List Nat} (h : LsX T w s l) (k : Keep S w w') (hS : ∀ i, S i → w.heap.size ≤ i ∨ T i) : LsX T w' s l := by
  obtain ⟨⟨h1, h2, h3⟩, ho⟩ := h
  refine ⟨⟨h1, h2, ?_⟩, ho⟩
  rcases ho with ho | ho
  · exact .inl ho
  rcases h3 with h3 | ⟨g, off, e, hg, h3⟩
  · exact .inl h3
  · refine .inr ⟨g, off, e, Nat.lt_of_lt_of_le hg k.size, fun j x hj => k.cell (h3 j x hj) fun hs => ?_⟩
    rcases hS _ hs with h | h
    · simp only at h; omega
    · exact ho g off e h
theorem ChgAt.keep {T : Nat → Prop} {S : Nat → Prop} {w w' : World} {v : Value} {c : Chg} (h : ChgAt T w v c) (k : Keep S w w') (hS : ∀ i, S i → w.heap.size ≤ i ∨ T i) : ChgAt T w' v c := by
  obtain ⟨d, s, r, h1, h2, h3, h4⟩ := h
  exact ⟨d, s, r, h1, h2.keep k hS, h3.keep k hS, h4.keep k hS⟩
/-- what a step leaves and tells -/
def Stp (T : Nat → Prop) (w : World) (P G : Nat) (nm : ByteArray) (dl : Int) (s : Option Addr × Nat × Nat) (xs : List No) (out : (Chg × Int) × Rs) (e : Ending) (w' : World) : Prop :=
  ∃ v, e = .returned (.tuple #[v, .int .i64 out.1.2]) ∧ ChgAt T w' v out.1.1 ∧ RunAt T w' P G nm dl s xs out.2 ∧ Keep (fun k => k = P ∨ k = G) w w'
theorem res_chg2 {fn : Func} {p u : Tmp} (h : fn.results = #[.cell p 45, .tmp u]) (tmps : Array Value) (w : World) (g : Nat) (a b c d : Value) (hp : tmps.getD p undef = .pointer (some ⟨g, 0, none⟩)) (hg : w.heap[g]? = some (.cells #[a, b, c, d] 45 (0, 0))) :
    (results fn tmps).run Try.prog w = .ok (.tuple #[.agg #[a, b, c, d], tmps.getD u undef]) w := by
  have hp' : tmps[p]?.getD undef = .pointer (some ⟨g, 0, none⟩) := by simpa using hp
  simp [results, h, hp', asAddr, run_loadVar_row w g 45 45 #[a, b, c, d] (0, 0) _ hg Try.underlying45 rfl (by rw [info_chg]; rfl)]
theorem turnF_len {xs : List Nx} {how st : Int} : ∀ (f : Nat) (ss : List Int), (turnF xs how st f ss).1.length ≤ f
  | 0, ss => Nat.le_refl _
  | f + 1, ss => by
    unfold turnF
    split
    · exact Nat.zero_le _
    · simp only [List.length_cons]
      exact Nat.succ_le_succ (turnF_len f _)
theorem settle_len (xs : List Nx) (R : Rs) : (settleR xs R).1.1.length ≤ xs.length ∧ (settleR xs R).1.2.length ≤ xs.length := ⟨turnF_len _ _, turnF_len _ _⟩

/-- a row of one number -/
theorem row_one (w : World) (x : Nat) : (w.alloc (.cells #[.int .i64 (x : Int)] 3)).ownsRow w.heap.size 3 1 (.slice (some ⟨w.heap.size, 0, none⟩) 1 1) [x].length (iv [x]) :=
  ⟨by simp [iv], .inr ⟨w.heap.size, 1, #[.int .i64 (x : Int)], rfl, Nat.le_refl _, heap_alloc_new w _, Nat.le_refl _, (by unfold maxLen; decide), rfl, by simp [iv]⟩⟩
/-- the change is laid into its cell, and told -/
theorem stp_end {T : Nat → Prop} {w0 w5 : World} {P G : Nat} {nm : ByteArray} {dl : Int} {s : Option Addr × Nat × Nat} {xs : List No} {R : Rs} (hT : ∀ k, T k → k < w0.heap.size) (hP : T P) (hG : T G) (A : Nat) (hA : w0.heap.size ≤ A) {x0 x1 x2 x3 : Value} (hblk : w5.heap[A]? = some (.cells #[x0, x1, x2, x3] 45 (0, 0))) (h : RunAt (fun k => T k ∨ w0.heap.size ≤ k) w5 P G nm dl s xs R)
    {vd va vb : Value} {d k r : List Nat} (st : Int) (hd : w5.ownsRow w0.heap.size 3 1 vd d.length (iv d)) (ha : w5.ownsRow w0.heap.size 3 1 va k.length (iv k)) (hb : w5.ownsRow w0.heap.size 3 1 vb r.length (iv r)) (hld : d.length ≤ 100000) (hlk : k.length ≤ 100000) (hlr : r.length ≤ 100000) (hK : Keep (fun k => k = P ∨ k = G ∨ w0.heap.size ≤ k) w0 w5) :
    (put4 w5 A vd va vb (.int .i64 st)).heap[A]? = some (.cells #[vd, va, vb, .int .i64 st] 45 (0, 0)) ∧ ChgAt T (put4 w5 A vd va vb (.int .i64 st)) (.agg #[vd, va, vb, .int .i64 st]) ⟨d, k, r, st⟩ ∧ RunAt T (put4 w5 A vd va vb (.int .i64 st)) P G nm dl s xs R ∧ Keep (fun k => k = P ∨ k = G) w0 (put4 w5 A vd va vb (.int .i64 st)) := by
  have hPl := hT P hP
  have hGl := hT G hG
  have kk := put4_keep w5 A vd va vb (.int .i64 st)
  obtain ⟨sd, rfl, ld⟩ := ls_own (ownsRow_keep hd kk (fun i hi hh => row_far hd hblk (by decide) hh hi)) (by omega) hT
  obtain ⟨sa, rfl, la⟩ := ls_own (ownsRow_keep ha kk (fun i hi hh => row_far ha hblk (by decide) hh hi)) (by omega) hT
  obtain ⟨sb, rfl, lb⟩ := ls_own (ownsRow_keep hb kk (fun i hi hh => row_far hb hblk (by decide) hh hi)) (by omega) hT
  refine ⟨put4_blk hblk _ _ _ _, ⟨sd, sa, sb, rfl, ld, la, lb⟩, (h.keep kk (fun i hi => .inr ⟨.inr (by omega), fun e => by omega, fun e => by omega⟩)).wide (fun k hk => .inl (.inl hk)) hP hG, ?_⟩
  have k2 := hK.more (kk.mono fun i hi => .inr (.inr (by omega)))
  exact ⟨k2.os, k2.tape, k2.output, k2.size, fun j hj hn => k2.block j hj fun hs => by
    rcases hs with h | h | h
    · exact hn (.inl h)
    · exact hn (.inr h)
    · omega⟩

set_option maxRecDepth 100000 in
set_option maxHeartbeats 4000000 in
theorem wake_any {T : Nat → Prop} {w : World} {P G : Nat} {nm : ByteArray} {dl : Int} {s : Option Addr × Nat × Nat} {xs : List No} {R : Rs} (h : RunAt T w P G nm dl s xs R) (hT : ∀ k, T k → k < w.heap.size) (i : Int) :
    Calls Try.prog 24 #[.pointer (some ⟨P, 0, none⟩), .int .i64 i] w (Stp T w P G nm dl s xs (wakeR (xs.map nx) R i)) := by
  have HT := hide hT
  have HTP : Hid (T P ∧ T G) := ⟨h.tp, h.tg⟩
  have HPL := hide (hT P h.tp)
  have HGL := hide (hT G h.tg)
  have hl64 : xs.length ≤ 64 := h.val.1
  have HL64 := hide hl64
  have k1 := Keep.alloc (fun _ => False) w (.cells #[.slice none 0 0, .slice none 0 0, .slice none 0 0, .int .i64 0] 45)
  have b1 := heap_alloc_new w (.cells #[.slice none 0 0, .slice none 0 0, .slice none 0 0, .int .i64 0] 45)
  have z1 : (w.alloc (.cells #[.slice none 0 0, .slice none 0 0, .slice none 0 0, .int .i64 0] 45)).heap.size = w.heap.size + 1 := by simp
  have hh := (h.wide (U := fun k => T k ∨ w.heap.size ≤ k) (fun _ h => h) (.inl h.tp) (.inl h.tg)).new k1
  have k2 := Keep.alloc (fun _ => False) (w.alloc (.cells #[.slice none 0 0, .slice none 0 0, .slice none 0 0, .int .i64 0] 45)) (.cells #[.int .i64 4] 3)
  have RF := hide (refuses_any (hh.new k2) i (some ⟨(w.alloc (.cells #[.slice none 0 0, .slice none 0 0, .slice none 0 0, .int .i64 0] 45)).heap.size, 0, none⟩, 1, 1) [4] (rdz_one _ 4))
  have HR2 := hide (hh.new k2)
  have K2 := hide (k1.more k2)
  have HA := hide (k2.blk b1 (fun f => f))
  rw [z1] at RF
  by_cases hc : refI R i [4] = 0
  · obtain ⟨hi, hs⟩ := refI_zero hc
    obtain ⟨p, hp, e1, e2, hii⟩ := at_of hi
    have HWR : Hid (wakeR (xs.map nx) R i = ((⟨[], (settleR (xs.map nx) ⟨R.stt, putS R.ps i.toNat 2⟩).1.1, [i.toNat] ++ (settleR (xs.map nx) ⟨R.stt, putS R.ps i.toNat 2⟩).1.2, (settleR (xs.map nx) ⟨R.stt, putS R.ps i.toNat 2⟩).2.stt⟩, 0), (settleR (xs.map nx) ⟨R.stt, putS R.ps i.toNat 2⟩).2)) := by
      show _ = _
      unfold wakeR settled
      rw [if_neg (by simp [hc])]
    rw [hc] at RF
    have hlt : i.toNat < xs.length := by rw [← h.len]; exact (List.getElem?_eq_some_iff.1 hp).1
    have hltp : i.toNat < R.ps.length := (List.getElem?_eq_some_iff.1 hp).1
    generalize wakeR (xs.map nx) R i = LR at *
    obtain ⟨k, rfl⟩ : ∃ k : Nat, i = (k : Int) := ⟨i.toNat, hii.symm⟩
    simp only [Int.toNat_natCast] at *
    clear hc hi hs e1 e2 hii h hh k1 k2 b1
    have HP := hide hp
    clear hp
    go_enter Try.func24, Try.ntmps24
    go_wp2_with fail
    go_at_call 36
    refine RF.out.mono ?_
    rintro e w2 ⟨rfl, hw2⟩
    subst hw2
    clear RF z1
    generalize (w.alloc (.cells #[.slice none 0 0, .slice none 0 0, .slice none 0 0, .int .i64 0] 45)).alloc (.cells #[.int .i64 4] 3) = w2 at *
    obtain ⟨c, _, _, _, _, d4⟩ := HR2.out.cells
    obtain ⟨m, hm⟩ := HR2.out.pts k p HP.out
    have a0 := hm.all.1
    have f0 := (HR2.out.frozen (k * 5)).1
    have HR3 := hide (HR2.out.putS k hltp 2)
    have kc := keep_cell w2 G (k * 5) (.int .i64 2)
    have K3 := hide ((K2.out.mono (T := fun k => k = G) fun _ f => f.elim).more kc)
    have HA3 := hide (kc.blk HA.out (fun e => by have := HGL.out; omega))
    clear hm kc
    go_upto_region 5 with fail
    generalize w2.setCell ⟨G, k * 5, none⟩ (.int .i64 2) = w3 at *
    clear a0 f0 d4 HR2 K2 HA
    have k4 := Keep.alloc (fun _ => False) w3 (.cells #[.int .i64 (k : Int)] 3)
    have hrow := row_one w3 k
    have HS4 : Hid (w.heap.size ≤ w3.heap.size) := K3.out.size
    have SO := hide (settleOn_core (HR3.out.new k4) (fun j hj => .inr (by have := k4.size; have := HS4.out; omega)) none none (some ⟨w3.heap.size, 0, none⟩) 0 0 0 0 1 0 [k] w3.heap.size k4.size hrow (by simp) (fun j hj => by
      obtain rfl : w3.heap.size = j := by simpa [Value.ownBlock] using hj
      exact ⟨.inr HS4.out, fun e => by have := HPL.out; have := HS4.out; omega, fun e => by have := HGL.out; have := HS4.out; omega⟩))
    have K4 := hide (K3.out.more (k4.mono fun _ f => f.elim))
    have HA4 := hide (k4.blk HA3.out (fun f => f))
    have hsl := settle_len (xs.map nx) ⟨R.stt, putS R.ps k 2⟩
    rw [List.length_map] at hsl
    simp only [show [k].length = 1 from rfl] at SO
    generalize settleR (xs.map nx) ⟨R.stt, putS R.ps k 2⟩ = SR at *
    clear k4 hrow HR3 K3 HA3
    go_wp2_with fail
    go_at_call 28
    refine SO.out.mono ?_
    rintro e w5 ⟨va, vb, rfl, hR5, hva, hvb, hk5⟩
    obtain ⟨aa, ac, rfl⟩ := ownsRow_shape hva
    obtain ⟨ba, bc, rfl⟩ := ownsRow_shape hvb
    have hblk := hk5.blk HA4.out (fun e => by
      rcases e with e | e | e
      · have := HPL.out; omega
      · have := HGL.out; omega
      · have : w3.heap.size = w.heap.size := by simpa [Value.ownBlock] using e
        have h9 := (Array.getElem?_eq_some_iff.1 HA4.out).1
        have hz : (w3.alloc (.cells #[.int .i64 (k : Int)] 3)).heap[w3.heap.size]? = some (.cells #[.int .i64 (k : Int)] 3 (0, 0)) := heap_alloc_new _ _
        rw [this, HA4.out] at hz
        injection hz with hz
        injection hz with _ hz
        exact absurd hz (by decide))
    have hE := stp_end (d := []) HT.out HTP.out.1 HTP.out.2 w.heap.size (Nat.le_refl _) hblk hR5 SR.2.stt (World.ownsRow_nil _ _ _ _) (ownsRow_base hva (by simp; have := HS4.out; omega)) (ownsRow_base hvb HS4.out) (by simp) (by omega) (by rw [List.length_append]; simp; omega) ((K4.out.mono fun i hi => .inr (.inl hi)).more (hk5.mono fun i hi => by
      rcases hi with h | h | h
      · exact .inl h
      · exact .inr (.inl h)
      · refine .inr (.inr ?_)
        have : w3.heap.size = i := by simpa [Value.ownBlock] using h
        have := HS4.out
        omega))
    generalize ([k] ++ SR.1.2).length = bn at *
    have HE := hide hE
    have f0 := frozen_blk hblk 0
    have f1 := frozen_blk hblk 1
    have f2 := frozen_blk hblk 2
    have f3 := frozen_blk hblk 3
    have y0 := cell_blk hblk 0 (v := .slice none 0 0) rfl
    have y1 := cell_blk hblk 1 (v := .slice none 0 0) rfl
    have y2 := cell_blk hblk 2 (v := .slice none 0 0) rfl
    have y3 := cell_blk hblk 3 (v := .int .i64 0) rfl
    clear SO hR5 hva hvb hk5 hblk hsl hE HA4 K4
    go_wp2_with fail
    obtain ⟨g1, g2, g3, g4⟩ := HE.out
    obtain rfl := HWR.out
    exact bodyPost_ret (res_chg2 rfl _ _ w.heap.size _ _ _ _ rfl g1) rfl ⟨_, rfl, g2, g3, g4⟩
  · have HWR : Hid (wakeR (xs.map nx) R i = ((Chg.none, refI R i [4]), R)) := by
      show _ = _
      unfold wakeR
      rw [if_pos hc]
    generalize wakeR (xs.map nx) R i = LR at *
    have hne : (refI R i [4] != 0) = true := by simpa using hc
    generalize refI R i [4] = q at *
    clear hc h hh k1 k2 b1
    go_enter Try.func24, Try.ntmps24
    go_wp2_with fail
    go_at_call 36
    refine RF.out.mono ?_
    rintro e w2 ⟨rfl, hw2⟩
    subst hw2
    clear RF z1
    generalize (w.alloc (.cells #[.slice none 0 0, .slice none 0 0, .slice none 0 0, .int .i64 0] 45)).alloc (.cells #[.int .i64 4] 3) = w2 at *
    have hE := stp_end (d := []) (k := []) (r := []) HT.out HTP.out.1 HTP.out.2 w.heap.size (Nat.le_refl _) HA.out HR2.out 0 (World.ownsRow_nil _ _ _ _) (World.ownsRow_nil _ _ _ _) (World.ownsRow_nil _ _ _ _) (by simp) (by simp) (by simp) (K2.out.mono fun _ f => f.elim)
    have HE := hide hE
    have f0 := frozen_blk HA.out 0
    have f1 := frozen_blk HA.out 1
    have f2 := frozen_blk HA.out 2
    have f3 := frozen_blk HA.out 3
    have y0 := cell_blk HA.out 0 (v := .slice none 0 0) rfl
    have y1 := cell_blk HA.out 1 (v := .slice none 0 0) rfl
    have y2 := cell_blk HA.out 2 (v := .slice none 0 0) rfl
    have y3 := cell_blk HA.out 3 (v := .int .i64 0) rfl
    clear hE
    go_wp2_with fail
    obtain ⟨g1, g2, g3, g4⟩ := HE.out
    obtain rfl := HWR.out
    exact bodyPost_ret (res_chg2 rfl _ _ w.heap.size _ _ _ _ rfl g1) rfl ⟨_, rfl, g2, g3, g4⟩
end Rn
end Go.Proofs.Ytiackejbpcjmeaa
