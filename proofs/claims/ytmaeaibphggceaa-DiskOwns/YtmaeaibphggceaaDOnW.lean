/- DiskOwns: the walk (begun). -/
import Derived.Test.YtmaeaibphggceaaDO8
import Derived.Deep.CutRange
import Derived.Test.YtmaeaibphggceaaDBeg
import Derived.Test.YtmaeaibphggceaaDSee
import Derived.Laws.MakeOwn
import Derived.BigQuiet
namespace Go.Proofs.Ytmaeaibphggceaa
open Go.RowKit Go.Lib

theorem slice_hi_runI (a : Option Addr) (n c hi : Nat) (h2 : hi ≤ c) (w : World) :
    (Instr.slice 27 (.slice a n c) none (some (.int .i64 (hi : Int))) none).run Try.prog w = .ok (.slice a hi c) w := by
  have h : (Instr.slice 27 (.slice a n c) none (some (.int .i64 (hi : Int))) none).run Try.prog w = .ok (.slice (if c = 0 then a else a.map (·.add 0)) hi c) w := by go_simp
  rw [h]
  cases a <;> simp [add_zero]
theorem made_room (u : World) (m : Nat) (hm : m ≤ 140737488355328) : ∃ w', (Instr.makeSlice 26 (.int .i64 (m : Int)) (.int .i64 (m : Int))).run Try.prog u = .ok (.slice (some ⟨u.heap.size, 0, none⟩) m m) w' ∧ w'.ownsRow u.heap.size 5 1 (.slice (some ⟨u.heap.size, 0, none⟩) m m) m (B8 (List.replicate m 0)) ∧ Keep (fun _ => False) u w' := by
  obtain ⟨i0, hi, hz0, hz1, hz2⟩ := info_parts info_u8
  obtain ⟨w', h1, h2, h3⟩ := run_make_full (P := Try.prog) u u.heap.size 26 5 i0 (.int .u8 0) 1 Try.underlying26 hi hz0 hz1 .i64 .i64 m (by rw [hz2]; omega) (by unfold maxLen; omega) (Nat.le_refl _)
  refine ⟨w', h1, ?_, Keep.grown (S := fun _ => False) h3 (fun k e => by cases e)⟩
  have e : (madeCells (Value.int .u8 0).cells (m * 1)).toList = B8 (List.replicate m 0) := by
    rw [Nat.mul_one]
    unfold B8
    rw [List.map_replicate]
    exact toList_madeCells_one _ _
  rw [← e]
  exact h2
theorem made_way (u : World) (m : Nat) (hm : m ≤ 17592186044417) : ∃ w', (Instr.makeSlice 27 (.int .i64 (m : Int)) (.int .i64 (m : Int))).run Try.prog u = .ok (.slice (some ⟨u.heap.size, 0, none⟩) m m) w' ∧ w'.ownsRow u.heap.size 3 1 (.slice (some ⟨u.heap.size, 0, none⟩) m m) m (Zv (List.replicate m 0)) ∧ Keep (fun _ => False) u w' := by
  obtain ⟨i0, hi, hz0, hz1, hz2⟩ := info_parts Oi.info_i64N
  obtain ⟨w', h1, h2, h3⟩ := run_make_full (P := Try.prog) u u.heap.size 27 3 i0 (.int .i64 0) 1 Try.underlying27 hi hz0 hz1 .i64 .i64 m (by rw [hz2]; omega) (by unfold maxLen; omega) (Nat.le_refl _)
  refine ⟨w', h1, ?_, Keep.grown (S := fun _ => False) h3 (fun k e => by cases e)⟩
  have e : (madeCells (Value.int .i64 0).cells (m * 1)).toList = Zv (List.replicate m 0) := by
    rw [Nat.mul_one]
    unfold Zv
    rw [List.map_replicate]
    exact toList_madeCells_one _ _
  rw [← e]
  exact h2
theorem row_cellE {w : World} {B f m cap j : Nat} {l : List Int} {x : Int} (h : w.ownsRow B 31 1 (.slice (some ⟨f, 0, none⟩) m cap) m (Zv l)) (hj : l[j]? = some x) : w.cell? ⟨f, j, none⟩ = some (.int .i64 x) := by
  have := h.cells (g := f) rfl j (.int .i64 x) (by simp [Zv, hj])
  rw [Addr.add_lit, Nat.zero_add] at this
  exact this
theorem str_two (l : List Nat) : str l ++ ⟨#[201, 202]⟩ = str (l ++ [201, 202]) := by
  apply ByteArray.ext
  simp [str, strOfNums, ByteArray.data_append]
set_option maxRecDepth 100000 in
set_option maxHeartbeats 16000000 in
theorem owns_walk (a : Option Addr) (n c : Nat) (qs : List Stp) (W : World) (hq : RdQ W a n qs) (hL : ∀ q ∈ qs, q.b.length ≤ 140737488351232 ∧ (q.ba = none → q.bc = 0) ∧ (q.fa = none → q.fc = 0)) :
    Calls Try.prog 3 #[.slice a n c] W fun e w' => e = .returned (.bool true) ∧ Below W.heap.size W w' := by
  have HKn := hide (known_any W)
  have HQ := hide hq
  have HL := hide hL
  have hn41 := hq.2.1
  have HMd := hide fun w => made_any 1048576 w (by decide) (by decide)
  clear hq hL
  go_enter Try.func3, Try.ntmps3
  go_wp2_with fail
  go_at_call 4
  refine HKn.out.mono ?_
  rintro e w1 ⟨rfl, k1⟩
  go_wp2_with fail
  go_at_call 5
  refine (HMd.out _).mono ?_
  rintro e w2 ⟨p, rfl, hd2, k2⟩
  go_wp2_with fail
  go_at_call 5
  refine (HMd.out _).mono ?_
  rintro e w3 ⟨p2, rfl, he3, k3⟩
  have HD3 := hide ((Dk.of hd2).new k3)
  have HE3 := hide (Dk.of he3)
  have hs0 : (pickV 1048576 67108865).toNat = 1048576 := by decide
  rw [hs0] at HD3 HE3
  have HG0 : Hid (Good 0 (St.new 1048576)) := Good.new (by decide)
  have K3 : Hid (Keep (fun _ => False) W w3) := (k1.more k2).more k3
  have H12 : Hid (W.heap.size ≤ w1.heap.size ∧ w1.heap.size ≤ w2.heap.size ∧ w2.heap.size ≤ w3.heap.size) := ⟨k1.size, k2.size, k3.size⟩
  clear hd2 he3 k1 k2 k3 hs0 HKn HMd
  generalize St.new 1048576 = s0 at *
  go_wp2_with fail
  go_loopw [6, 7, 8] (fun mv lv iv wx => ∃ mo lo i : Nat, mv = .int .i64 (mo : Nat) ∧ lv = .int .i64 (lo : Nat) ∧ iv = .int .i64 (i : Nat) ∧ i ≤ n ∧ mo ≤ 140737488351232 ∧ lo ≤ 17592186044416 ∧ wx = w3 ∧ Hid (∀ j (h : j < qs.length), j < i → qs[j].b.length ≤ mo ∧ qs[j].fate.length ≤ lo)) (fun _ _ iv _ => n - (intOf iv).toNat)
  case atStart => exact ⟨0, 0, 0, rfl, rfl, rfl, Nat.zero_le _, Nat.zero_le _, Nat.zero_le _, rfl, fun j _ h => absurd h (Nat.not_lt_zero _)⟩
  case round =>
    obtain ⟨mo, lo, i, rfl, rfl, rfl, hi, hmo, hlo, hw, HD⟩ := hrel
    subst hw
    by_cases hlt : i < n
    · as_aux_lemma =>
      have hlt' : (i : Int) < (n : Int) := by omega
      have hik : i < qs.length := by rw [← HQ.out.1]; exact hlt
      obtain ⟨b, off, rfl, x0, x1, x2, x3, x4, x5, x6, x7⟩ := HQ.out.2.2.2 i hik
      have y6 := K3.out.cell x6 fun f => f
      have y7 := K3.out.cell x7 fun f => f
      have hbl := (HL.out _ (List.getElem_mem hik)).1
      have hfl := (HQ.out.2.2.1 _ (List.getElem_mem hik)).rf.2.1
      obtain ⟨m2, hm2⟩ : ∃ m2, max mo qs[i].b.length = m2 := ⟨_, rfl⟩
      obtain ⟨l2, hl2⟩ : ∃ l2, max lo qs[i].fate.length = l2 := ⟨_, rfl⟩
      have hx1 : max (mo : Int) (qs[i].b.length : Int) = (m2 : Int) := by omega
      have hx2 : max (lo : Int) (qs[i].fate.length : Int) = (l2 : Int) := by omega
      have HN : Hid (∀ j (h : j < qs.length), j < i + 1 → qs[j].b.length ≤ m2 ∧ qs[j].fate.length ≤ l2) := fun j h hj => by
        by_cases e : j = i
        · subst e
          exact ⟨by omega, by omega⟩
        · have := HD.out j h (by omega)
          exact ⟨by omega, by omega⟩
      have hm2b : m2 ≤ 140737488351232 := by omega
      have hl2b : l2 ≤ 17592186044416 := by omega
      clear hm2 hl2 HD x0 x1 x2 x3 x4 x5 x6 x7
      generalize qs[i].b.length = bl at *
      generalize qs[i].fate.length = fl at *
      generalize qs[i].ba = ba at *
      generalize qs[i].bc = bc at *
      generalize qs[i].fa = fa at *
      generalize qs[i].fc = fc at *
      go_wp2_with fail
      go_roundw
      case rel => exact ⟨m2, l2, i + 1, rfl, rfl, by go_num, by omega, hm2b, hl2b, by simp, HN.out⟩
      case measure => simp [intOf]; omega
    · have hlt' : ¬ (i : Int) < (n : Int) := by omega
      have HMx : Hid (∀ j (h : j < qs.length), qs[j].b.length ≤ mo ∧ qs[j].fate.length ≤ lo) := fun j h => HD.out j h (by have := HQ.out.1; omega)
      obtain ⟨m2, hm2⟩ : ∃ m2, m2 = mo + 2 := ⟨_, rfl⟩
      obtain ⟨l1, hl1⟩ : ∃ l1, l1 = lo + 1 := ⟨_, rfl⟩
      have ha1 : (mo : Int) + 2 = (m2 : Int) := by omega
      have ha2 : (lo : Int) + 1 = (l1 : Int) := by omega
      have HM2 := hide hm2
      have HL1 := hide hl1
      obtain ⟨w4, hmk4, ho4, k4⟩ := made_room wr m2 (by omega)
      obtain ⟨w5, hmk5, ho5, k5⟩ := made_way w4 l1 (by omega)
      have HRm := hide (ownsRow_keep ho4 k5 fun _ _ f => f)
      have HRoomlt : Hid (wr.heap.size < w4.heap.size) := (ho4.lt _ rfl).2
      have HWaylt : Hid (w4.heap.size < w5.heap.size) := (ho5.lt _ rfl).2
      have HWy := hide ho5
      have HD5 := hide ((HD3.out.new k4).new k5)
      have HE5 := hide ((HE3.out.new k4).new k5)
      have K5 : Hid (Keep (fun _ => False) W w5) := (K3.out.more k4).more k5
      have H45 : Hid (wr.heap.size ≤ w4.heap.size ∧ w4.heap.size ≤ w5.heap.size) := ⟨k4.size, k5.size⟩
      clear hm2 hl1 HD ho4 ho5 k4 k5 HD3 HE3 K3 hlt hi
      go_wp2_with fail
      obtain ⟨w3, hw3⟩ : ∃ x, x = wr := ⟨_, rfl⟩
      subst hw3
      have HI0 : Hid (∃ cs s, OwI W w1.heap.size w2.heap.size w5 w3.heap.size w4.heap.size m2 l1 p p2 s0 (fun i => w2.heap.size ≤ i ∧ i < w3.heap.size) qs 0 cs s (.slice none 0 0) w5) := ⟨[], s0, ⟨⟨_, HD5.out, fun k e => ⟨e.1, .inl e.2⟩, fun k e => by cases e⟩, HE5.out, HG0.out, rfl, World.ownsRow_nil _ _ _ _, ⟨_, ownsRow_base HRm.out (Nat.zero_le _), fun x hx => by rw [(List.mem_replicate.1 hx).2]; decide⟩, ⟨_, ownsRow_base HWy.out (Nat.zero_le _), fun x hx => by rw [(List.mem_replicate.1 hx).2]; decide⟩, Keep.refl _ _, K5.out.mono fun _ f => f.elim⟩⟩
      have HB : Hid (W.heap.size ≤ w1.heap.size ∧ w1.heap.size ≤ w2.heap.size ∧ w2.heap.size ≤ w3.heap.size ∧ w3.heap.size < w4.heap.size ∧ w4.heap.size < w5.heap.size) := ⟨H12.out.1, H12.out.2.1, H12.out.2.2, HRoomlt.out, HWaylt.out⟩
      clear HD5 HE5 HRm HWy K5 H45 H12 hmk4 hmk5 ha1 ha2
      go_loopw [11, 12, 13, 14, 15, 16, 17, 18] (fun kv iv _ _ _ _ _ _ wx => ∃ (i : Nat) (cv : Value), cv = kv ∧ iv = .int .i64 (i : Nat) ∧ i ≤ n ∧ Hid (∃ cs s, OwI W w1.heap.size w2.heap.size w5 w3.heap.size w4.heap.size m2 l1 p p2 s0 (fun i => w2.heap.size ≤ i ∧ i < w3.heap.size) qs i cs s cv wx)) (fun _ iv _ _ _ _ _ _ _ => n - (intOf iv).toNat)
      case atStart => exact ⟨0, _, rfl, rfl, Nat.zero_le _, HI0.out⟩
      case round =>
        clear HI0
        obtain ⟨i, cv, rfl, rfl, hi, HD⟩ := hrel
        by_cases hlt : i < n
        · as_aux_lemma =>
          have hlt' : (i : Int) < (n : Int) := by omega
          have hik : i < qs.length := by rw [← HQ.out.1]; exact hlt
          obtain ⟨cs, s, hI⟩ := HD.out
          obtain ⟨b, off, rfl, x0, x1, x2, x3, x4, x5, x6, x7⟩ := HQ.out.2.2.2 i hik
          have hbW : ¬ W.heap.size ≤ b := Nat.not_le.2 (block_lt_of_cell x0)
          have y0 := hI.wk.cell x0 hbW
          have y1 := hI.wk.cell x1 hbW
          have y2 := hI.wk.cell x2 hbW
          have y3 := hI.wk.cell x3 hbW
          have y4 := hI.wk.cell x4 hbW
          have y5 := hI.wk.cell x5 hbW
          have y6 := hI.wk.cell x6 hbW
          have y7 := hI.wk.cell x7 hbW
          have HSO : Hid (StpOk W qs[i]) := HQ.out.2.2.1 _ (List.getElem_mem hik)
          have hmx := HMx.out i hik
          have hqi : qs[i]? = some qs[i] := List.getElem?_eq_getElem hik
          obtain ⟨qq, hqq⟩ : ∃ qq, qs[i] = qq := ⟨_, rfl⟩
          rw [hqq] at y0 y1 y2 y3 y4 y5 y6 y7 HSO hmx hqi
          have HQi := hide hqi
          have HI := hide hI
          have hb2 : qq.b.length + 2 ≤ m2 := by have := HM2.out; omega
          have hf1 : qq.fate.length + 1 ≤ l1 := by have := HL1.out; omega
          have HW67 : Hid (W.cell? ⟨b, off + i * 8 + 6, none⟩ = some (.slice qq.ba qq.b.length qq.bc) ∧ W.cell? ⟨b, off + i * 8 + 7, none⟩ = some (.slice qq.fa qq.fate.length qq.fc)) := by rw [← hqq]; exact ⟨x6, x7⟩
          have HbW := hide hbW
          clear x0 x1 x2 x3 x4 x5 x6 x7 hqq hqi hI HD hmx hik hbW
          go_upto_region 22 with fail
          have kA := Keep.alloc (fun _ => False) wr (.cells #[.int .i64 qq.which, .bool qq.copy, .int .i64 qq.what, .int .i64 qq.seg, .int .i64 qq.n, .int .u8 (qq.mask : Nat), .slice qq.ba qq.b.length qq.bc, .slice qq.fa qq.fate.length qq.fc] 29)
          have bA := heap_alloc_new wr (.cells #[.int .i64 qq.which, .bool qq.copy, .int .i64 qq.what, .int .i64 qq.seg, .int .i64 qq.n, .int .u8 (qq.mask : Nat), .slice qq.ba qq.b.length qq.bc, .slice qq.fa qq.fate.length qq.fc] 29)
          have HIA := hide HI.out
          have KA := hide kA
          have BA := hide bA
          clear kA bA y0 y1 y2 y3 y4 y5 y6 y7
          generalize wr.alloc (.cells #[.int .i64 qq.which, .bool qq.copy, .int .i64 qq.what, .int .i64 qq.seg, .int .i64 qq.n, .int .u8 (qq.mask : Nat), .slice qq.ba qq.b.length qq.bc, .slice qq.fa qq.fate.length qq.fc] 29) = w6 at *
          have hDl : wr.heap.size < w6.heap.size := (Array.getElem?_eq_some_iff.1 BA.out).1
          obtain ⟨X, hX, hXb⟩ := HI.out.rm
          obtain ⟨Z, hZ, hZb⟩ := HI.out.wy
          have HX := hide (ownsRow_keep hX KA.out fun _ _ f => f)
          have HZ := hide (ownsRow_keep hZ KA.out fun _ _ f => f)
          have HXb := hide hXb
          have HZb := hide hZb
          have HgD : Hid (w4.heap.size < wr.heap.size ∧ w3.heap.size < wr.heap.size) := ⟨(hZ.lt _ rfl).2, (hX.lt _ rfl).2⟩
          have HRb : Hid (Rd w6 qq.ba qq.b.length qq.b) := ((HSO.out.stay HI.out.wk HSO.out.out_).rb).stay' (S := fun _ => False) KA.out fun _ _ _ _ f => f
          have HRf : Hid (Rz w6 qq.fa qq.fate.length qq.fate) := ((HSO.out.stay HI.out.wk HSO.out.out_).rf).stay (S := fun _ => False) KA.out fun _ _ _ _ f => f
          clear hX hXb hZ hZb
          have d6 := cell_blk BA.out 6 (v := .slice qq.ba qq.b.length qq.bc) rfl
          obtain ⟨bl, hbl⟩ : ∃ bl, qq.b.length = bl := ⟨_, rfl⟩
          obtain ⟨fl, hfl⟩ : ∃ fl, qq.fate.length = fl := ⟨_, rfl⟩
          obtain ⟨x2, hx2⟩ : ∃ x2, x2 = bl + 2 := ⟨_, rfl⟩
          rw [hbl] at d6 hb2
          have HRb' : Hid (Rd w6 qq.ba bl qq.b) := by rw [← hbl]; exact HRb.out
          have hbb : bl ≤ 140737488351232 := by rw [← hbl]; exact (HL.out qq (List.mem_of_getElem? HQi.out)).1
          have ha3 : (bl : Int) + 2 = (x2 : Int) := by omega
          have hsl1 := slice_hi_run' (some ⟨w3.heap.size, 0, none⟩) m2 m2 x2 (by omega)
          have HBl := hide hbl
          have HFl := hide hfl
          have HX2 := hide hx2
          have hx2m : x2 ≤ m2 := by omega
          have hbx : bl < x2 := by omega
          have hbx1 : bl + 1 < x2 := by omega
          clear hbl hfl hx2 HRb
          go_upto_region 24 with (refine wp_copyF rfl _ _ rfl w3.heap.size x2 m2 m2 X hx2m HX.out qq.ba bl qq.bc qq.b HRb'.out rfl rfl ?_; intro w7 x7 hr7 hk7; have HR7 := hide hr7; have HK7 := hide hk7; clear hr7 hk7)
          have hlX : X.length = m2 := by have := HX.out.1; rw [B8_length] at this; omega
          have e7 : mkB qq.b X = ((qq.b.take x2 ++ X.drop (min bl x2)).set bl 201).set (bl + 1) 202 := by rw [HX2.out, ← HBl.out]; rfl
          obtain ⟨L7, hL7⟩ : ∃ L7, qq.b.take x2 ++ X.drop (min bl x2) = L7 := ⟨_, rfl⟩
          rw [hL7] at e7
          have HR7' := HR7.out
          rw [hL7] at HR7'
          have HgE : Hid (wr.heap.size ≠ w3.heap.size ∧ wr.heap.size ≠ w4.heap.size) := ⟨by have := HgD.out.2; omega, by have := HgD.out.1; omega⟩
          have d7 := HK7.out.cell d6 HgE.out.1
          have c7 := row_cellB HR7' bl (by omega)
          have f7 := HR7'.frozenAt bl
          have HR8 := hide (row_setB HR7' bl 201)
          have HK8 := hide (HK7.out.more (Keep.setCell (S := fun i => i = w3.heap.size) w7 (p := ⟨w3.heap.size, bl, none⟩) rfl (.int .u8 201)))
          clear HR7 HR7' hL7
          go_upto_region 25 with fail
          clear c7 f7 d7
          generalize w7.setCell ⟨w3.heap.size, bl, none⟩ (.int .u8 201) = w8 at *
          have d8 := HK8.out.cell d6 HgE.out.1
          have c8 := row_cellB HR8.out (bl + 1) (by omega)
          have f8 := HR8.out.frozenAt (bl + 1)
          have r9 := row_setB HR8.out (bl + 1) 202
          rw [← e7] at r9
          have HR9 := hide r9
          have HK9 := hide (HK8.out.more (Keep.setCell (S := fun i => i = w3.heap.size) w8 (p := ⟨w3.heap.size, bl + 1, none⟩) rfl (.int .u8 202)))
          obtain ⟨y1, hy1⟩ : ∃ y1, y1 = bl + 1 := ⟨_, rfl⟩
          have ha4 : (bl : Int) + 1 = (y1 : Int) := by omega
          rw [← hy1] at c8 f8 HR9 HK9
          have hy1x : y1 < x2 := by omega
          clear hy1 hbx1 r9 e7 HR8 HK8
          go_upto_region 26 with fail
          clear c8 f8 d8 hsl1 ha3
          generalize w8.setCell ⟨w3.heap.size, y1, none⟩ (.int .u8 202) = w9 at *
          have hX9 : X.length = m2 := hlX
          have HX9t : Hid ((mkB qq.b X).take x2 = qq.b ++ [201, 202]) := by rw [HX2.out, ← HBl.out]; exact mkB_take _ _ (by rw [HBl.out, hlX]; exact hb2)
          have HX9b : Hid (∀ d ∈ mkB qq.b X, d < 256) := mkB_lt _ _ HSO.out.rb.2.2.1 HXb.out
          have B9 := hide ((HK9.out.block _ hDl HgE.out.1).trans BA.out)
          have HZ9 := hide (ownsRow_keep HZ.out HK9.out fun k e => by cases e; exact fun (h : w4.heap.size = w3.heap.size) => by have := HB.out; omega)
          have HWK9 : Hid (Keep (fun k => W.heap.size ≤ k) W w9) := (HI.out.wk.more (KA.out.mono fun _ f => f.elim)).more (HK9.out.mono fun k (e : k = w3.heap.size) => by have := HB.out; omega)
          have HRf9 : Hid (Rz w9 qq.fa fl qq.fate) := by
            rw [← HFl.out]
            exact (HSO.out.stay HWK9.out HSO.out.out_).rf
          clear hlX hX9 HX HXb HZ HRf HK7 HRb'
          generalize mkB qq.b X = X9 at *
          have d7 := cell_blk B9.out 7 (v := .slice qq.fa qq.fate.length qq.fc) rfl
          rw [HFl.out] at d7
          have hfb : fl ≤ 17592186044416 := by rw [← HFl.out]; exact HSO.out.rf.2.1
          obtain ⟨z1, hz1⟩ : ∃ z1, z1 = fl + 1 := ⟨_, rfl⟩
          have ha5 : (fl : Int) + 1 = (z1 : Int) := by omega
          have hz1l : z1 ≤ l1 := by rw [HFl.out] at hf1; omega
          have hfz : fl < z1 := by omega
          have hsl2 := slice_hi_runI (some ⟨w4.heap.size, 0, none⟩) l1 l1 z1 hz1l
          have HZ1 := hide hz1
          clear hz1 hf1
          go_upto_region 28 with (refine wp_copyI rfl _ _ rfl w4.heap.size z1 l1 l1 Z hz1l HZ9.out qq.fa fl qq.fc qq.fate HRf9.out rfl rfl ?_; intro w10 x10 hr10 hk10; have HR10 := hide hr10; have HK10 := hide hk10; clear hr10 hk10)
          have hlZ : Z.length = l1 := by have := HZ9.out.1; rw [Zv_len] at this; omega
          have e10 : mkI qq.fate Z = (qq.fate.take z1 ++ Z.drop (min fl z1)).set fl 7 := by rw [HZ1.out, ← HFl.out]; rfl
          obtain ⟨L10, hL10⟩ : ∃ L10, qq.fate.take z1 ++ Z.drop (min fl z1) = L10 := ⟨_, rfl⟩
          rw [hL10] at e10
          have HR10' := HR10.out
          rw [hL10] at HR10'
          have d10 := HK10.out.cell d7 HgE.out.2
          have c10 := row_cellI HR10' fl (by omega)
          have f10 := HR10'.frozenAt fl
          have r11 := row_setI HR10' fl 7
          have k11 := Keep.setCell (S := fun i => i = w4.heap.size) w10 (p := ⟨w4.heap.size, fl, none⟩) rfl (.int .i64 7)
          rw [← e10] at r11
          have HR11 := hide r11
          have HK11 := hide (HK10.out.more k11)
          have HZ11t : Hid ((mkI qq.fate Z).take z1 = qq.fate ++ [7]) := by rw [HZ1.out, ← HFl.out]; exact mkI_take _ _ (by rw [hlZ, HFl.out, ← HZ1.out]; exact hz1l)
          have HZ11b : Hid (∀ x ∈ mkI qq.fate Z, -9223372036854775808 ≤ x ∧ x ≤ 9223372036854775807) := mkI_in _ _ (by decide) HSO.out.rf.2.2.1 HZb.out
          clear r11 k11 HR10 HR10' e10 hL10 hsl2 ha5 d7
          go_upto_region 29 with fail
          clear c10 f10 d10 hlZ HZ9 HZb HRf9 HK10
          generalize w10.setCell ⟨w4.heap.size, fl, none⟩ (.int .i64 7) = w11 at *
          generalize mkI qq.fate Z = Z11 at *
          have hD9 : wr.heap.size < w9.heap.size := Nat.lt_of_lt_of_le hDl HK9.out.size
          have B11 := hide ((HK11.out.block _ hD9 HgE.out.2).trans B9.out)
          have HX11 := hide (ownsRow_keep HR9.out HK11.out fun k e => by cases e; exact fun (h : w3.heap.size = w4.heap.size) => by have := HB.out; omega)
          have d6 := cell_blk B11.out 6 (v := .slice qq.ba qq.b.length qq.bc) rfl
          rw [HBl.out] at d6
          have f6 := frozen_of_row w11 wr.heap.size 6 _ _ B11.out
          have hsl3 := slice_hi_run' (some ⟨w3.heap.size, 0, none⟩) x2 m2 bl (by omega)
          have b12 := heap_setCell_same w11 wr.heap.size 6 _ _ (.slice (some ⟨w3.heap.size, 0, none⟩) bl m2) B11.out
          have k12 := Keep.setCell (S := fun i => i = wr.heap.size) w11 (p := ⟨wr.heap.size, 6, none⟩) rfl (.slice (some ⟨w3.heap.size, 0, none⟩) bl m2)
          have B12 := hide b12
          have K12 := hide k12
          clear b12 k12
          go_upto_region 30 with fail
          clear d6 f6 hsl3
          generalize w11.setCell ⟨wr.heap.size, 6, none⟩ (.slice (some ⟨w3.heap.size, 0, none⟩) bl m2) = w12 at *
          have d7 := cell_blk B12.out 7 (v := .slice qq.fa qq.fate.length qq.fc) rfl
          rw [HFl.out] at d7
          have f7 := frozen_of_row w12 wr.heap.size 7 _ _ B12.out
          have hsl4 := slice_hi_runI (some ⟨w4.heap.size, 0, none⟩) z1 l1 fl (by omega)
          have b13 := heap_setCell_same w12 wr.heap.size 7 _ _ (.slice (some ⟨w4.heap.size, 0, none⟩) fl l1) B12.out
          have k13 := Keep.setCell (S := fun i => i = wr.heap.size) w12 (p := ⟨wr.heap.size, 7, none⟩) rfl (.slice (some ⟨w4.heap.size, 0, none⟩) fl l1)
          have B13 : Hid ((w12.setCell ⟨wr.heap.size, 7, none⟩ (.slice (some ⟨w4.heap.size, 0, none⟩) fl l1)).heap[wr.heap.size]? = some (.cells #[.int .i64 qq.which, .bool qq.copy, .int .i64 qq.what, .int .i64 qq.seg, .int .i64 qq.n, .int .u8 (qq.mask : Nat), .slice (some ⟨w3.heap.size, 0, none⟩) bl m2, .slice (some ⟨w4.heap.size, 0, none⟩) fl l1] 29)) := b13
          have K13 := hide (K12.out.more k13)
          clear b13 k13
          go_upto_region 31 with fail
          clear d7 f7 hsl4
          generalize w12.setCell ⟨wr.heap.size, 7, none⟩ (.slice (some ⟨w4.heap.size, 0, none⟩) fl l1) = w13 at *
          have HK13 : Hid (Keep (fun k => k = w3.heap.size ∨ k = w4.heap.size ∨ k = wr.heap.size) wr w13) := (((KA.out.mono fun _ f => f.elim).more (HK9.out.mono fun k e => .inl e)).more (HK11.out.mono fun k e => .inr (.inl e))).more (K13.out.mono fun k e => .inr (.inr e))
          have HX13 := hide (ownsRow_keep HX11.out K13.out fun k e => by cases e; exact fun (h : w3.heap.size = wr.heap.size) => HgE.out.1 h.symm)
          have HZ13 := hide (ownsRow_keep HR11.out K13.out fun k e => by cases e; exact fun (h : w4.heap.size = wr.heap.size) => HgE.out.2 h.symm)
          obtain ⟨S, hdk, hSr, hScv⟩ := HI.out.d
          have HSr := hide hSr
          have HScv := hide hScv
          have HDk13 : Hid (Dk S w13 p s) := hdk.stay HK13.out fun k hk hT => by
            have h1 := hSr k hk
            have h2 := hdk.lt k hk
            have := HB.out
            rcases hT with e | e | e <;> omega
          have hok : StpOk w13 (qq.moved w3.heap.size m2 w4.heap.size l1) := Stp.moved_ok HSO.out HX13.out HX9b.out HX9t.out (by rw [HX2.out, HBl.out]) hx2m (by have := HM2.out; omega) HZ13.out HZ11b.out HZ11t.out (by rw [HZ1.out, HFl.out]) hz1l
          have HC := hide (HDk13.out.step HI.out.g (by omega) hok (Stp.moved_out _ _ _ _ _ (fun h => by have := hSr _ h; have := HB.out; omega) (fun h => by have := hSr _ h; have := HB.out; omega)))
          have ev : (qq.moved w3.heap.size m2 w4.heap.size l1).val = .agg #[.int .i64 qq.which, .bool qq.copy, .int .i64 qq.what, .int .i64 qq.seg, .int .i64 qq.n, .int .u8 (qq.mask : Nat), .slice (some ⟨w3.heap.size, 0, none⟩) bl m2, .slice (some ⟨w4.heap.size, 0, none⟩) fl l1] := by rw [← HBl.out, ← HFl.out]; rfl
          rw [ev] at HC
          have g0 := cell_blk B13.out 0 (v := .int .i64 qq.which) rfl
          have g1 := cell_blk B13.out 1 (v := .bool qq.copy) rfl
          have g2 := cell_blk B13.out 2 (v := .int .i64 qq.what) rfl
          have g3 := cell_blk B13.out 3 (v := .int .i64 qq.seg) rfl
          have g4 := cell_blk B13.out 4 (v := .int .i64 qq.n) rfl
          have g5 := cell_blk B13.out 5 (v := .int .u8 (qq.mask : Nat)) rfl
          have g6 := cell_blk B13.out 6 (v := .slice (some ⟨w3.heap.size, 0, none⟩) bl m2) rfl
          have g7 := cell_blk B13.out 7 (v := .slice (some ⟨w4.heap.size, 0, none⟩) fl l1) rfl
          clear hdk hSr hScv hok ev HDk13
          go_wp2_with fail
          go_at_call 6
          refine HC.out.mono ?_
          rintro e w14 ⟨c', N', is', vl, vb, t, S', rfl, hst, hdn, ⟨la, ln, lc, rfl⟩, va, vn, vc, rfl⟩
          have HSt := hide (hst.like (qq.moved_like w3.heap.size m2 w4.heap.size l1))
          have HDn := hide hdn
          clear hst hdn HC g0 g1 g2 g3 g4 g5 g6 g7
          have HO5 : Hid (Ord5 W w1.heap.size w2.heap.size w5 w3.heap.size w4.heap.size) := ⟨HB.out.1, HB.out.2.1, HB.out.2.2.1, HB.out.2.2.2.1, HB.out.2.2.2.2⟩
          have hcd14 : w14.ownsRow w5.heap.size 31 1 cv i (Zv cs) := ownsRow_keep (ownsRow_keep HI.out.cd HK13.out fun k e hT => by
            have := HI.out.cd.lt k e
            have := HB.out
            rcases hT with e | e | e <;> omega) HDn.out.k HScv.out
          have HCd14 := hide hcd14
          have KT := hide (Keep.alloc (fun _ => False) w14 (.cells #[.int .i64 c', .int .i64 N', .bool is', .slice la ln lc, .slice va vn vc] 33))
          have tc : (w14.alloc (.cells #[.int .i64 c', .int .i64 N', .bool is', .slice la ln lc, .slice va vn vc] 33)).cell? ⟨w14.heap.size, 0, none⟩ = some (.int .i64 c') := cell_blk (heap_alloc_new w14 _) 0 rfl
          clear hcd14
          go_upto_region 32 with fail
          generalize w14.alloc (.cells #[.int .i64 c', .int .i64 N', .bool is', .slice la ln lc, .slice va vn vc] 33) = w15 at *
          have HCd := hide ((ownsRow_keep HCd14.out KT.out fun _ _ f => f).alloc (.cells #[.int .i64 c'] 31))
          have KA15 := hide (Keep.alloc (fun _ => False) w15 (.cells #[.int .i64 c'] 31))
          have CA := hide (Ob.cell_one w15 (.int .i64 c') 31)
          have hn1 : i + 1 ≤ 17592186044416 := by omega
          have hb5 : w5.heap.size ≤ (w15.alloc (.cells #[.int .i64 c'] 31)).heap.size := by
            have h1 := HI.out.k.size
            have h2 := HK13.out.size
            have h3 := HDn.out.k.size
            have h4 := KT.out.size
            have h5 := KA15.out.size
            omega
          go_upto_region 33 with (at_builtin; go_must (refine wp_appendE rfl _ _ rfl w5.heap.size cv i cs rfl HCd.out ⟨w15.heap.size, 0, none⟩ c' rfl CA.out hn1 hb5 ?_); intro v' w16 ho16 hk16 hnb16; have HR16 := hide ho16; have HK16 := hide hk16; have HN16 := hide hnb16; clear ho16 hk16 hnb16)
          obtain ⟨hI16, hX16, hZ16⟩ := HI.out.next HO5.out HQi.out HSr.out HScv.out HK13.out HDn.out HSt.out (KT.out.more KA15.out) HR16.out HK16.out HN16.out HX13.out HX9b.out HZ13.out HZ11b.out
          have HI16 := hide hI16
          have HX16 := hide hX16
          have HZ16 := hide hZ16
          clear hI16 hX16 hZ16 HCd KA15 CA hb5 HR16 HK16 HN16 HX13 HZ13 HK13 HDn HSt HSr HScv KT HCd14 tc B13 K13 HI HX11 HR11 HK11 HK9 KA B9 B11 B12 BA K12 HR9 HWK9
          have y6 := HI16.out.wk.cell HW67.out.1 HbW.out
          have y7 := HI16.out.wk.cell HW67.out.2 HbW.out
          rw [HBl.out] at y6
          rw [HFl.out] at y7
          have hrR : Rd w16 (some ⟨w3.heap.size, 0, none⟩) x2 (qq.b ++ [201, 202]) := by
            rw [← HX9t.out]
            exact rd_pre HX16.out HX9b.out (by have := HM2.out; omega) hx2m
          have hrB : Rd w16 qq.ba bl qq.b := by
            rw [← HBl.out]
            exact (HSO.out.stay HI16.out.wk HSO.out.out_).rb
          have hrF : Rz w16 qq.fa fl qq.fate := by
            rw [← HFl.out]
            exact (HSO.out.stay HI16.out.wk HSO.out.out_).rf
          have htk : Z11.take fl = qq.fate := by
            have := congrArg (List.take fl) HZ11t.out
            rw [List.take_take, Nat.min_eq_left (by omega), List.take_append_of_le_length (by rw [HFl.out]; exact Nat.le_refl _), ← HFl.out, List.take_length] at this
            rw [← HFl.out]
            exact this
          have hrW : Rz w16 (some ⟨w4.heap.size, 0, none⟩) fl qq.fate := by
            have := rz_pre (n := fl) HZ16.out HZ11b.out (by omega) (by omega)
            rw [htk] at this
            exact this
          have zc1 := fun n => conv_rd (w := w16.drewN n) (hrR.stay (S := fun _ => False) (Keep.drewM w16 n _) fun _ _ _ f => f) m2
          have zc2 := fun n => conv_rd (w := w16.drewN n) (hrB.stay (S := fun _ => False) (Keep.drewM w16 n _) fun _ _ _ f => f) qq.bc
          have HIN : Hid (∀ j, Calls Try.prog 7 #[.slice (some ⟨w4.heap.size, 0, none⟩) fl l1, .slice qq.fa fl qq.fc] (w16.drewN j) fun en w' => en = .returned (.bool true) ∧ ∃ m, w' = (w16.drewN j).drewN m) := fun j => ints_same (w16.drewN j) _ _ fl l1 qq.fc qq.fate (hrW.stay (S := fun _ => False) (Keep.drewM w16 j _) fun _ _ _ _ f => f) (hrF.stay (S := fun _ => False) (Keep.drewM w16 j _) fun _ _ _ _ f => f)
          have c7 := row_cellI HZ16.out fl (by omega)
          have hg7 : Z11.getD fl 0 = 7 := by
            have h1 : (Z11.take z1)[fl]? = some 7 := by rw [HZ11t.out, List.getElem?_append_right (by rw [HFl.out]; exact Nat.le_refl _), HFl.out, Nat.sub_self]; rfl
            rw [List.getElem?_take, if_pos (by omega)] at h1
            rw [List.getD_eq_getElem?_getD, h1]; rfl
          rw [hg7] at c7
          have hsl5 := slice_hi_runI (some ⟨w4.heap.size, 0, none⟩) z1 l1 fl (by omega)
          have hszS : (str qq.b).size ≤ 140737488351232 := by unfold str; rw [strOfNums_size, List.length_map, HBl.out]; exact hbb
          have hadd : ∀ w : World, (Op.stringOp .add (str qq.b) ⟨#[201, 202]⟩).run Try.prog w = .ok (.string (str qq.b ++ ⟨#[201, 202]⟩)) w := fun w => run_string_add_sum w _ _ (by have : (⟨#[201, 202]⟩ : ByteArray).size = 2 := rfl; omega)
          rw [str_two qq.b] at hadd
          generalize str (qq.b ++ [201, 202]) = SBB at *
          generalize str qq.b = SB at *
          clear hrR hrB hrF hrW htk hg7 hszS
          go_quiet ((go_at_call 7; exact (HIN.out _).mono (fun _ _ h => ⟨h.1, h.2.elim fun j e => ⟨_, e.trans (drewN_addO _ _ _)⟩⟩)))
          have HI17 := hide (HI16.out.stay HO5.out (Keep.drewM w16 nq (fun _ => False)))
          clear y6 y7 HIN c7 hsl5 zc1 zc2 hadd HI16 HX16 HZ16 HW67 HX9t HX9b HZ11t HZ11b HSO HQi hbx hfz
          generalize w16.drewN nq = w17 at *
          obtain ⟨w0, hw0⟩ : ∃ x, x = wr := ⟨_, rfl⟩
          subst hw0
          have hx2b : x2 ≤ 140737488351234 := by have := HM2.out; omega
          have hz1b : z1 ≤ 17592186044417 := by have := HL1.out; omega
          go_wp2_with fail
          go_loopw [17] (fun jv wx => ∃ j : Nat, jv = .int .i64 (j : Nat) ∧ j ≤ x2 ∧ Hid (OwI W w1.heap.size w2.heap.size w5 w3.heap.size w4.heap.size m2 l1 p p2 s0 (fun i => w2.heap.size ≤ i ∧ i < w3.heap.size) qs (i + 1) (cs ++ [c']) t v' wx)) (fun jv _ => x2 - (intOf jv).toNat)
          case atStart => exact ⟨0, rfl, Nat.zero_le _, HI17.out⟩
          case round =>
            clear HI17
            obtain ⟨j, rfl, hj, HJ⟩ := hrel
            by_cases hlt3 : j < x2
            · have hlt3' : (j : Int) < (x2 : Int) := by omega
              have HJX := hide hlt3
              obtain ⟨⟨x3, c3⟩, f3, hJ3⟩ := HJ.out.putR HO5.out j (by omega)
              have HJ3 := hide hJ3
              clear hJ3
              go_wp2_with fail
              go_roundw
              case rel => exact ⟨j + 1, by go_num, by have := HJX.out; omega, HJ3.out⟩
              case measure => have := HJX.out; simp [intOf]; omega
            · have hlt3' : ¬ (j : Int) < (x2 : Int) := by omega
              obtain ⟨w18, hw18⟩ : ∃ x, x = wr := ⟨_, rfl⟩
              subst hw18
              go_wp2_with fail
              go_loopw [18] (fun jv wx => ∃ k : Nat, jv = .int .i64 (k : Nat) ∧ k ≤ z1 ∧ Hid (OwI W w1.heap.size w2.heap.size w5 w3.heap.size w4.heap.size m2 l1 p p2 s0 (fun i => w2.heap.size ≤ i ∧ i < w3.heap.size) qs (i + 1) (cs ++ [c']) t v' wx)) (fun jv _ => z1 - (intOf jv).toNat)
              case atStart => exact ⟨0, rfl, Nat.zero_le _, HJ.out⟩
              case round =>
                clear HJ
                obtain ⟨k, rfl, hk, HJ⟩ := hrel
                by_cases hlt4 : k < z1
                · have hlt4' : (k : Int) < (z1 : Int) := by omega
                  have HJX := hide hlt4
                  obtain ⟨⟨x4, c4⟩, f4, hJ4⟩ := HJ.out.putY HO5.out k (by omega)
                  have HJ4 := hide hJ4
                  clear hJ4
                  go_wp2_with fail
                  go_roundw
                  case rel => exact ⟨k + 1, by go_num, by have := HJX.out; omega, HJ4.out⟩
                  case measure => have := HJX.out; simp [intOf]; omega
                · have hlt4' : ¬ (k : Int) < (z1 : Int) := by omega
                  go_wp2_with fail
                  go_roundw
                  case rel => exact ⟨i + 1, _, rfl, by go_num, by omega, _, _, HJ.out⟩
                  case measure => simp [intOf]; omega
        · have hin : n = i := by omega
          subst hin
          have hlt' : ¬ (n : Int) < (n : Int) := by omega
          obtain ⟨cs, s, hI⟩ := HD.out
          obtain ⟨ca, cc, hcv⟩ := ownsRow_shape hI.cd
          subst hcv
          have HI := hide hI
          have HO5 : Hid (Ord5 W w1.heap.size w2.heap.size w5 w3.heap.size w4.heap.size) := ⟨HB.out.1, HB.out.2.1, HB.out.2.2.1, HB.out.2.2.2.1, HB.out.2.2.2.2⟩
          have HI5 : Hid (∃ m, Ow5 wr w2.heap.size w3.heap.size p2 s0 qs cs 0 m wr) := ⟨_, Ow5.begin_ hI HG0.out⟩
          have HRun : Hid (RunTo s0 qs cs s) := by
            have := hI.run
            rw [HQ.out.1, List.take_length] at this
            exact this
          have Hlo : Hid (w2.heap.size ≤ wr.heap.size) := by
            have h1 := HB.out
            have h2 := hI.k.size
            show _ ≤ _
            omega
          clear hI HD
          obtain ⟨w6, hw6⟩ : ∃ x, x = wr := ⟨_, rfl⟩
          subst hw6
          go_wp2_with fail
          go_loopw [19, 20, 21] (fun iv _ _ wx => ∃ j : Nat, iv = .int .i64 (j : Nat) ∧ j ≤ n ∧ Hid (∃ m, Ow5 w6 w2.heap.size w3.heap.size p2 s0 qs cs j m wx)) (fun iv _ _ _ => n - (intOf iv).toNat)
          case atStart => exact ⟨0, rfl, Nat.zero_le _, HI5.out⟩
          case round =>
            clear HI5
            obtain ⟨j, rfl, hj, HD⟩ := hrel
            by_cases hlt : j < n
            · as_aux_lemma =>
              have hlt5 : (j : Int) < (n : Int) := by omega
              have hik : j < qs.length := by rw [← HQ.out.1]; exact hlt
              obtain ⟨m, h5⟩ := HD.out
              obtain ⟨b, off, rfl, x0, x1, x2, x3, x4, x5, x6, x7⟩ := HQ.out.2.2.2 j hik
              have hbW : ¬ W.heap.size ≤ b := Nat.not_le.2 (block_lt_of_cell x0)
              have hwk := h5.wk HI.out HO5.out
              have y0 := hwk.cell x0 hbW
              have y1 := hwk.cell x1 hbW
              have y2 := hwk.cell x2 hbW
              have y3 := hwk.cell x3 hbW
              have y4 := hwk.cell x4 hbW
              have y5 := hwk.cell x5 hbW
              have y6 := hwk.cell x6 hbW
              have y7 := hwk.cell x7 hbW
              have HSO : Hid (StpOk W qs[j]) := HQ.out.2.2.1 _ (List.getElem_mem hik)
              have HLq := hide (HL.out _ (List.getElem_mem hik))
              have hqi : qs[j]? = some qs[j] := List.getElem?_eq_getElem hik
              obtain ⟨qq, hqq⟩ : ∃ qq, qs[j] = qq := ⟨_, rfl⟩
              rw [hqq] at y0 y1 y2 y3 y4 y5 y6 y7 HSO HLq hqi
              have HQi := hide hqi
              have H5 := hide h5
              have HWK := hide hwk
              have HY67 := hide (And.intro y6 y7)
              clear x0 x1 x2 x3 x4 x5 x6 x7 hqq hqi h5 HD hik hbW hwk
              go_upto_region 47 with fail
              have KA := hide (Keep.alloc (fun _ => False) wr (.cells #[.int .i64 qq.which, .bool qq.copy, .int .i64 qq.what, .int .i64 qq.seg, .int .i64 qq.n, .int .u8 (qq.mask : Nat), .slice qq.ba qq.b.length qq.bc, .slice qq.fa qq.fate.length qq.fc] 29))
              have BA := hide (heap_alloc_new wr (.cells #[.int .i64 qq.which, .bool qq.copy, .int .i64 qq.what, .int .i64 qq.seg, .int .i64 qq.n, .int .u8 (qq.mask : Nat), .slice qq.ba qq.b.length qq.bc, .slice qq.fa qq.fate.length qq.fc] 29))
              clear y0 y1 y2 y3 y4 y5 y6 y7
              generalize wr.alloc (.cells #[.int .i64 qq.which, .bool qq.copy, .int .i64 qq.what, .int .i64 qq.seg, .int .i64 qq.n, .int .u8 (qq.mask : Nat), .slice qq.ba qq.b.length qq.bc, .slice qq.fa qq.fate.length qq.fc] 29) = w7 at *
              have hDl : wr.heap.size < w7.heap.size := (Array.getElem?_eq_some_iff.1 BA.out).1
              have yA := KA.out.cell HY67.out.1 fun f => f
              have HRb : Hid (Rd w7 qq.ba qq.b.length qq.b) := (HSO.out.stay (HWK.out.low KA.out fun _ _ f => f.elim) HSO.out.out_).rb
              have hszb : qq.b.length ≤ 140737488355328 := by have := HLq.out.1; omega
              obtain ⟨bl, hbl⟩ : ∃ bl, qq.b.length = bl := ⟨_, rfl⟩
              obtain ⟨fl, hfl⟩ : ∃ fl, qq.fate.length = fl := ⟨_, rfl⟩
              rw [hbl, hfl] at BA
              rw [hbl] at yA HRb hszb
              have yA2 := (Keep.alloc (fun _ => False) w7 (.cells #[] 5)).cell yA fun f => f
              have HBl := hide hbl
              have HFl := hide hfl
              clear hbl hfl
              go_upto_region 48 with (at_builtin; go_must (refine wp_cloneB rfl _ _ rfl rfl qq.ba bl qq.bc qq.b rfl HRb.out HLq.out.2.1 hszb ?_); intro v8 w8 ho8 hk8; rw [HBl.out] at ho8; obtain ⟨va, vc, hv8⟩ := ownsRow_shape ho8; subst hv8; have BX8 := hide ((hk8.block _ hDl fun f => f).trans BA.out); have d6 := cell_blk BX8.out 6 (v := .slice qq.ba bl qq.bc) rfl; have f6 := frozen_of_row w8 wr.heap.size 6 _ _ BX8.out; have HO8 := hide ho8; have HK8 := hide hk8; clear ho8 hk8)
              have b9 := heap_setCell_same w8 wr.heap.size 6 _ _ (.slice va bl vc) BX8.out
              have k9 := Keep.setCell (S := fun i => i = wr.heap.size) w8 (p := ⟨wr.heap.size, 6, none⟩) rfl (.slice va bl vc)
              have BX9 := hide b9
              have K9 := hide k9
              clear b9 k9 d6 f6 yA yA2 hszb
              generalize w8.setCell ⟨wr.heap.size, 6, none⟩ (.slice va bl vc) = w9 at *
              have K79 : Hid (Keep (fun _ => False) wr w9) := (Keep.refl (fun _ => False) wr).low (((KA.out.mono fun _ f => f.elim).more (HK8.out.mono fun _ f => f.elim)).more K9.out) fun b hb (e : b = wr.heap.size) => by omega
              have HO9 := hide (ownsRow_keep HO8.out K9.out fun k e (hT : k = wr.heap.size) => by have := (HO8.out.lt k e).1; omega)
              have yB := K79.out.cell HY67.out.2 fun f => f
              rw [HFl.out] at yB
              have yB2 := (Keep.alloc (fun _ => False) w9 (.cells #[] 3)).cell yB fun f => f
              have HRf : Hid (Rz w9 qq.fa fl qq.fate) := by
                rw [← HFl.out]
                exact (HSO.out.stay (HWK.out.low K79.out fun _ _ f => f.elim) HSO.out.out_).rf
              have hD9 : wr.heap.size < w9.heap.size := (Array.getElem?_eq_some_iff.1 BX9.out).1
              go_upto_region 49 with (at_builtin; go_must (refine wp_cloneI rfl _ _ rfl rfl qq.fa fl qq.fc qq.fate rfl HRf.out HLq.out.2.2 ?_); intro v10 w10 ho10 hk10; rw [HFl.out] at ho10; obtain ⟨ya, yc, hv10⟩ := ownsRow_shape ho10; subst hv10; have BX10 := hide ((hk10.block _ hD9 fun f => f).trans BX9.out); have d7 := cell_blk BX10.out 7 (v := .slice qq.fa fl qq.fc) rfl; have f7 := frozen_of_row w10 wr.heap.size 7 _ _ BX10.out; have HO10 := hide ho10; have HK10 := hide hk10; clear ho10 hk10)
              have b11 := heap_setCell_same w10 wr.heap.size 7 _ _ (.slice ya fl yc) BX10.out
              have k11 := Keep.setCell (S := fun i => i = wr.heap.size) w10 (p := ⟨wr.heap.size, 7, none⟩) rfl (.slice ya fl yc)
              have BX11 : Hid ((w10.setCell ⟨wr.heap.size, 7, none⟩ (.slice ya fl yc)).heap[wr.heap.size]? = some (.cells #[.int .i64 qq.which, .bool qq.copy, .int .i64 qq.what, .int .i64 qq.seg, .int .i64 qq.n, .int .u8 (qq.mask : Nat), .slice va bl vc, .slice ya fl yc] 29)) := b11
              have K11 := hide k11
              clear b11 k11 d7 f7 yB yB2
              generalize w10.setCell ⟨wr.heap.size, 7, none⟩ (.slice ya fl yc) = w11 at *
              have K7B : Hid (Keep (fun _ => False) wr w11) := (Keep.refl (fun _ => False) wr).low (((K79.out.mono fun _ f => f.elim).more (HK10.out.mono fun _ f => f.elim)).more K11.out) fun b hb (e : b = wr.heap.size) => by omega
              have HO8b := hide (ownsRow_keep (ownsRow_keep HO9.out HK10.out fun _ _ f => f) K11.out fun k e (hT : k = wr.heap.size) => by have := (HO8.out.lt k e).1; omega)
              have HO10b := hide (ownsRow_keep HO10.out K11.out fun k e (hT : k = wr.heap.size) => by have := (HO10.out.lt k e).1; omega)
              obtain ⟨S, hdk, hSr⟩ := H5.out.e
              have HSr := hide hSr
              have hrb : Rd w11 va bl qq.b := by
                have h0 := HO8b.out
                rw [← HBl.out] at h0 ⊢
                exact (rd_of (ownsRow_base h0 (Nat.zero_le _)) HSO.out.rb.2.2.1 HSO.out.rb.2.1).1
              have hrf : Rz w11 ya fl qq.fate := by
                have h0 := HO10b.out
                rw [← HFl.out] at h0 ⊢
                obtain ⟨a', c', e, h1, _⟩ := rz_of h0 HSO.out.rf.2.2.1 HSO.out.rf.2.1
                injection e with e1 e2 e3
                subst e1
                exact h1
              have HC := hide ((hdk.new K7B.out).step H5.out.g (by omega) (Stp.cloned_ok (bc := vc) (fc := yc) HSO.out (by rw [HBl.out]; exact hrb) (by rw [HFl.out]; exact hrf)) (Stp.cloned_out (fun g off e hS => by
                subst e
                have h1 := (HO8.out.lt g rfl).1
                have h2 := hdk.lt g hS
                omega) (fun g off e hS => by
                subst e
                have h1 := (HO10.out.lt g rfl).1
                have h2 := hdk.lt g hS
                omega)))
              have ev : (qq.cloned va vc ya yc).val = .agg #[.int .i64 qq.which, .bool qq.copy, .int .i64 qq.what, .int .i64 qq.seg, .int .i64 qq.n, .int .u8 (qq.mask : Nat), .slice va bl vc, .slice ya fl yc] := by rw [← HBl.out, ← HFl.out]; rfl
              rw [ev] at HC
              have g0 := cell_blk BX11.out 0 (v := .int .i64 qq.which) rfl
              have g1 := cell_blk BX11.out 1 (v := .bool qq.copy) rfl
              have g2 := cell_blk BX11.out 2 (v := .int .i64 qq.what) rfl
              have g3 := cell_blk BX11.out 3 (v := .int .i64 qq.seg) rfl
              have g4 := cell_blk BX11.out 4 (v := .int .i64 qq.n) rfl
              have g5 := cell_blk BX11.out 5 (v := .int .u8 (qq.mask : Nat)) rfl
              have g6 := cell_blk BX11.out 6 (v := .slice va bl vc) rfl
              have g7 := cell_blk BX11.out 7 (v := .slice ya fl yc) rfl
              clear hdk hSr hrb hrf ev
              go_wp2_with fail
              go_at_call 6
              refine HC.out.mono ?_
              rintro e w12 ⟨c', N', is', vl, vb, t, S', rfl, hst, hdn, ⟨la, ln, lc, rfl⟩, ua, un, uc, rfl⟩
              have HKT := hide (Keep.alloc (fun _ => False) w12 (.cells #[.int .i64 c', .int .i64 N', .bool is', .slice la ln lc, .slice ua un uc] 33))
              have tc : (w12.alloc (.cells #[.int .i64 c', .int .i64 N', .bool is', .slice la ln lc, .slice ua un uc] 33)).cell? ⟨w12.heap.size, 0, none⟩ = some (.int .i64 c') := cell_blk (heap_alloc_new w12 _) 0 rfl
              have HN5 := hide (H5.out.next Hlo.out HRun.out HQi.out HSr.out K7B.out hdn (hst.like (qq.cloned_like va vc ya yc)) HKT.out)
              clear hst hdn HC g0 g1 g2 g3 g4 g5 g6 g7 HO8 HO9 HO10 HO8b HO10b K11 K7B K79 HK8 HK10 K9 BX8 BX9 BX10 BX11 BA KA HRb HRf HSr H5 HWK HY67 HSO HLq HQi
              go_upto_region 50 with fail
              generalize w12.alloc (.cells #[.int .i64 c', .int .i64 N', .bool is', .slice la ln lc, .slice ua un uc] 33) = w13 at *
              obtain ⟨cg, ccap, hcv⟩ := Ob.own_form HI.out.cd (by omega)
              injection hcv with hca _ hcc
              subst hca
              have cc13 := row_cellE (HN5.out.2.cd HI.out HO5.out) HN5.out.1
              have H5n := hide HN5.out.2
              clear HN5 HKT
              go_quiet (fail)
              go_wp2_with fail
              go_roundw
              case rel => exact ⟨j + 1, by go_num, by omega, _, H5n.out.stay (Keep.drewM _ _ _)⟩
              case measure => simp [intOf]; omega
            · have hjn : n = j := by omega
              subst hjn
              have hlt5 : ¬ (n : Int) < (n : Int) := by omega
              obtain ⟨m, h5⟩ := HD.out
              have h6 := h5.end_ HI.out HO5.out HQ.out.1 HQ.out.1
              obtain ⟨S, E, hd, he, hSE, hSW, hEW⟩ := h6.de
              have HG := hide h6.g
              have HWk := hide h6.wk
              have HD6 := hide hd
              have HE6 := hide he
              have HSE := hide hSE
              have HSW := hide hSW
              have HEW := hide hEW
              have HAl := hide fun w => all_new w n hn41
              clear h5 h6 HD hd he hSE hSW hEW HI HO5 HRun Hlo HMx HG0 HM2 HL1
              go_upto_region 54 with (first
                | (go_at_call 8; refine (down_any _ _ p s HD6.out.d).mono ?_; rintro e wd ⟨rfl, hwd⟩; have hwd := hwd.symm; subst hwd)
                | (go_at_call 8; refine (down_any _ _ p2 s HE6.out.d).mono ?_; rintro e wd ⟨rfl, hwd⟩; have hwd := hwd.symm; subst hwd))
              go_upto_region 55 with (first
                | (go_at_call 10; refine (HAl.out _).mono ?_; rintro e w7 ⟨za, zc, rfl, hz, hk, hzl⟩; have HZ7 := hide hz; have K7 := hide hk; have HZl := hide hzl; clear hz hk hzl
                   have HC7 := hide (crash_any S w7 p s za n zc _ ((HD6.out.new K7.out).d) (HG.out.ok (by omega)) (by rw [tot_away]; exact HG.out.bud.held (by omega)) HZ7.out (fun g off e _ hS => by have h1 := HZl.out g off e; have h2 := HD6.out.lt g hS; omega)))
                | (go_at_call 9; refine HC7.out.mono ?_; rintro e w8 ⟨rfl, t, hc, hd, hk⟩; have HCr := hide hc; have HD8 := hide (Dk.crashed (HD6.out.new K7.out).lt hd hk); have K8 := hide hk; clear hc hd hk HC7))
              have HE8 := hide ((HE6.out.new K7.out).stay K8.out fun i hi hs => HSE.out i hs hi)
              have HWk8 : Hid (Keep (fun k => W.heap.size ≤ k) W w8) := (HWk.out.low K7.out fun _ _ f => f.elim).low K8.out fun b _ hs => HSW.out b hs
              clear HD6 HE6 K7 K8 HZ7 HZl HWk
              go_upto_region 56 with (first
                | (go_at_call 10; refine (HAl.out _).mono ?_; rintro e w9 ⟨za2, zc2, rfl, hz, hk, hzl⟩; have HZ9 := hide hz; have K9 := hide hk; have HZl := hide hzl; clear hz hk hzl
                   have HC9 := hide (crash_any E w9 p2 s za2 n zc2 _ ((HE8.out.new K9.out).d) (HG.out.ok (by omega)) (by rw [tot_away]; exact HG.out.bud.held (by omega)) HZ9.out (fun g off e _ hS => by have h1 := HZl.out g off e; have h2 := HE8.out.lt g hS; omega)))
                | (go_at_call 9; refine HC9.out.mono ?_; rintro e w10 ⟨rfl, t2, hc, hd, hk⟩; have ht := HCr.out.same hc; subst ht; have HE10 := hide (Dk.crashed (HE8.out.new K9.out).lt hd hk); have K10 := hide hk; clear hc hd hk HC9))
              have HD10 := hide ((HD8.out.new K9.out).stay K10.out fun i hi he => HSE.out i hi he)
              have HWk10 : Hid (Keep (fun k => W.heap.size ≤ k) W w10) := (HWk8.out.low K9.out fun _ _ f => f.elim).low K10.out fun b _ hs => HEW.out b hs
              have HOk := hide ((HG.out.crash HCr.out).ok (by omega))
              have HTd := hide HCr.out.down
              clear HD8 HE8 K9 K10 HZ9 HZl HWk8 HSE HSW HEW HAl HG HCr
              go_upto_region 57 with (go_at_call 11; refine (copy_any S w10 p t HD10.out.d HOk.out).mono ?_; rintro e w11 ⟨pc, rfl, hc, hk⟩; have HCp := hide hc; have K11 := hide hk; clear hc hk)
              have HT : Hid (Three w11 p pc p2 t) := ⟨⟨S, HD10.out.new K11.out⟩, ⟨_, Dk.of HCp.out⟩, ⟨E, HE10.out.new K11.out⟩⟩
              have HWk11 : Hid (Keep (fun k => W.heap.size ≤ k) W w11) := HWk10.out.low K11.out fun _ _ f => f.elim
              clear HD10 HE10 HCp K11 HWk10
              go_wp2_with fail
              have HL0 : Hid (∃ c L R, Loo w11 0 (.slice none 0 0) (.slice none 0 0) (.slice none 0 0) (.slice none 0 0) c L R (0 * 1099511627776) w11) := ⟨_, _, _, Loo.begin_ w11⟩
              go_loopw [23, 24, 25, 26, 27, 28, 29, 30, 31, 32, 33, 34, 35, 36, 37] (fun a1 a3 a2 a4 iv _ _ _ _ _ _ _ _ _ _ wx => ∃ (i : Nat) (u1 u2 u3 u4 : Value), u1 = a1 ∧ u2 = a2 ∧ u3 = a3 ∧ u4 = a4 ∧ iv = .int .i64 (i : Nat) ∧ i ≤ 4 ∧ Hid (∃ c L R, Loo w11 i u1 u2 u3 u4 c L R (i * 1099511627776) wx)) (fun _ _ _ _ iv _ _ _ _ _ _ _ _ _ _ _ => 4 - (intOf iv).toNat)
              case atStart => exact ⟨0, _, _, _, _, rfl, rfl, rfl, rfl, rfl, by omega, HL0.out⟩
              case round =>
                clear HL0
                obtain ⟨i, u1, u2, u3, u4, rfl, rfl, rfl, rfl, rfl, hi4, HLo⟩ := hrel
                by_cases hlt6 : i < 4
                · as_aux_lemma =>
                  have hlt6' : (i : Int) < 4 := by omega
                  obtain ⟨c0, L, R, hLo⟩ := HLo.out
                  have HLo1 := hide hLo
                  clear hLo HLo
                  obtain ⟨w12, hw12⟩ : ∃ x, x = wr := ⟨_, rfl⟩
                  subst hw12
                  go_upto_if 273 with fail
                  go_cut [28] from 267 to 353 (fun v wx => ∃ px : Nat, v = .pointer (some ⟨px, 0, none⟩) ∧ Hid (px = p ∨ px = pc) ∧ wx = w12)
                  case first => as_aux_lemma =>
                    by_cases h2 : i = 2
                    · have h2b : ((i : Int) == 2) = true := by rw [h2]; rfl
                      have h2c : (i : Int) = 2 := by omega
                      go_wp2_with fail
                      go_meet
                      case rel => exact ⟨pc, rfl, .inr rfl, rfl⟩
                    · have h2b : ((i : Int) == 2) = false := by simp; omega
                      have h2c : ¬ (i : Int) = 2 := by omega
                      go_wp2_with fail
                      go_meet
                      case rel => exact ⟨p, rfl, .inl rfl, rfl⟩
                  case rest => as_aux_lemma =>
                    obtain ⟨px, rfl, HPx, hw⟩ := hcut
                    have hw := hw.symm
                    subst hw
                    have HAx : Hid (∀ w', Keep (fun b => w11.heap.size ≤ b) w11 w' → ∃ S, Dk S w' px t) := fun w' k => by
                      have h := HT.out.keep (Nat.le_refl _) k
                      rcases HPx.out with e | e
                      · rw [e]; exact h.d
                      · rw [e]; exact h.c
                    have HAe : Hid (∀ w', Keep (fun b => w11.heap.size ≤ b) w11 w' → ∃ S, Dk S w' p2 t) := fun w' k => (HT.out.keep (Nat.le_refl _) k).e
                    obtain ⟨S1, h1⟩ := HAx.out w12 HLo1.out.f.k
                    have HC1 := hide (list_on S1 w12 px t h1.d HOk.out HTd.out)
                    clear h1
                    go_upto_region 70 with (go_at_call 12; refine HC1.out.mono ?_; rintro e w13 ⟨na, nc, ks, rfl, hks, ho, hk⟩; have HKs := hide hks; have HO1 := hide ho; have K13 := hide hk; clear hks ho hk)
                    have HF13 := hide (HLo1.out.f.ext K13.out 20)
                    have HC13 : Hid (Col (ext c0 w12.heap.size 20) (.slice na ks.length nc) 20) := Col.new fun b e => (HO1.out.lt b e).1
                    obtain ⟨S2, h2⟩ := HAe.out w13 HF13.out.k
                    have HC2 := hide (list_on S2 w13 p2 t h2.d HOk.out HTd.out)
                    clear h2 HC1
                    go_upto_region 71 with (go_at_call 12; refine HC2.out.mono ?_; rintro e w14 ⟨wa, wn, ks2, rfl, hks, ho, hk⟩; have hk2 := HKs.out.uniq hks; subst hk2; have HO2 := hide ho; have K14 := hide hk; clear hks ho hk)
                    have HS14 : Hid (Lse w11 w14 (ext (ext c0 w12.heap.size 20) w13.heap.size 21) u1 u2 u3 u4 L L R R (.slice wa ks.length wn) ks) := ⟨HF13.out.ext K14.out 21, Col.new fun b e => (HO2.out.lt b e).1, ownsRow_base HO2.out HF13.out.k.size⟩
                    have HO14 := hide (ownsRow_base (ownsRow_keep HO1.out K14.out fun _ _ f => f) HLo1.out.f.k.size)
                    have HC14 := hide (HC13.out.ext HO1.out (x := 21))
                    clear HC2 HF13 HC13 HO1 HO2 K13 K14
                    generalize ext (ext c0 w12.heap.size 20) w13.heap.size 21 = c2 at *
                    have HIN := hide (ints_same w14 na wa ks.length nc wn ks (rz_val HO14.out HKs.out.wide.2 HKs.out.wide.1).1 (rz_val HS14.out.ow HKs.out.wide.2 HKs.out.wide.1).1)
                    go_upto_region 73 with (go_at_call 7; refine HIN.out.mono ?_; rintro e w15 ⟨rfl, mq, hw⟩; have K15 : Hid (Keep (fun _ => False) w14 w15) := (by rw [hw]; exact Keep.drewM _ _ _); clear hw)
                    have HS15 := hide (HS14.out.stay K15.out)
                    have HO15 := hide (ownsRow_keep HO14.out K15.out fun _ _ f => f)
                    clear HIN HS14 HO14 K15
                    have KA := hide (Keep.alloc (fun _ => False) w15 (.cells #[.slice na ks.length nc] 27))
                    have CA := hide (Ob.cell_one w15 (.slice na ks.length nc) 27)
                    obtain ⟨vs, hr, hf⟩ := (HS15.out.stay KA.out).push1 (x := 20) (by decide) (l := ks) (ownsRow_keep HO15.out KA.out fun _ _ f => f) HC14.out
                    have HR := hide hr
                    have HFn := hide hf
                    have hb1 := (HS15.out.stay KA.out).base
                    have hn1 : L.length + 1 ≤ 5000000000000 := by have := HLo1.out.l; omega
                    clear hr hf
                    go_upto_region 74 with (at_builtin; go_must (refine Oi.wp_appendL rfl _ _ rfl w11.heap.size u1 L.length vs rfl HR.out ⟨w15.heap.size, 0, none⟩ na ks.length nc rfl CA.out hn1 hb1 ?_); intro v5 w16 ho hk hnb; have HS16 := hide (HFn.out v5 w16 ho hk hnb); clear ho hk hnb)
                    clear HR HFn hb1 CA KA HS15 HO15 HC14
                    generalize pus c2 (w15.alloc (.cells #[.slice na ks.length nc] 27)).heap.size 1 2 20 = c3 at *
                    have HZw := hide (rz_val HS16.out.ow HKs.out.wide.2 HKs.out.wide.1)
                    go_upto_region 75 with (first
                      | (at_builtin; refine wp_cloneI rfl _ _ rfl rfl wa ks.length wn ks rfl HZw.out.1 HZw.out.2 ?_; intro v17 w17 ho hk; obtain ⟨ea, ec, he⟩ := ownsRow_shape ho; subst he
                         have HS17 := hide (HS16.out.ext hk 22)
                         have HC17 : Hid (Col (ext c3 w16.heap.size 22) (.slice ea ks.length ec) 22) := Col.new fun b e => (ho.lt b e).1
                         have HO17 := hide (ownsRow_base ho HS16.out.base)
                         have KA2 := hide (Keep.alloc (fun _ => False) w17 (.cells #[.slice ea ks.length ec] 27))
                         have CA2 := hide (Ob.cell_one w17 (.slice ea ks.length ec) 27)
                         obtain ⟨vs2, hr2, hf2⟩ := (HS17.out.stay KA2.out).push2 (x := 22) (by decide) (l := ks) (ownsRow_keep HO17.out KA2.out fun _ _ f => f) HC17.out
                         have HR2 := hide hr2
                         have HFn2 := hide hf2
                         have hb2 := (HS17.out.stay KA2.out).base
                         clear hr2 hf2 ho hk)
                      | (at_builtin; refine Oi.wp_appendL rfl _ _ rfl w11.heap.size u2 L.length vs2 rfl HR2.out ⟨w17.heap.size, 0, none⟩ ea ks.length ec rfl CA2.out hn1 hb2 ?_; intro v6 w18 ho hk hnb; have HS18 := hide (HFn2.out v6 w18 ho hk hnb); clear ho hk hnb))
                    clear HR2 HFn2 hb2 CA2 KA2 HS17 HC17 HO17 HS16 HZw hn1
                    generalize pus (ext c3 w16.heap.size 22) (w17.alloc (.cells #[.slice ea ks.length ec] 27)).heap.size 3 4 22 = c4 at *
                    obtain ⟨NN, hNN⟩ : ∃ NN, i * 1099511627776 = NN := ⟨_, rfl⟩
                    have HNN := hide hNN
                    clear hNN
                    have HIn0 : Hid (Inn w11 v5 v6 u3 u4 (L ++ [ks]) (NN + 0) (.slice wa ks.length wn) ks w18) := Inn.begin_ HS18.out (by have h1 := HLo1.out.r; have h2 := HNN.out; omega) HLo1.out.rb
                    have hkl := HKs.out.wide.1
                    clear HS18
                    go_wp2_with fail
                    go_loopw [24, 26, 33, 34, 35, 36, 37] (fun a3 a4 jv _ _ _ _ wx => ∃ (j : Nat) (y3 y4 : Value), y3 = a3 ∧ y4 = a4 ∧ jv = .int .i64 (j : Nat) ∧ j ≤ ks.length ∧ Hid (Inn w11 v5 v6 y3 y4 (L ++ [ks]) (NN + j) (.slice wa ks.length wn) ks wx)) (fun _ _ jv _ _ _ _ _ => ks.length - (intOf jv).toNat)
                    case atStart => exact ⟨0, _, _, rfl, rfl, rfl, Nat.zero_le _, HIn0.out⟩
                    case round =>
                      clear HIn0
                      obtain ⟨j, y3, y4, rfl, rfl, rfl, hj, HIn⟩ := hrel
                      by_cases hlt7 : j < ks.length
                      · as_aux_lemma =>
                        have hlt7' : (j : Int) < (ks.length : Int) := by omega
                        have HJX := hide hlt7
                        obtain ⟨c5, R5, hS, hRl, hRb⟩ := HIn.out.ex
                        obtain ⟨kk, hkj⟩ : ∃ kk, ks[j]? = some kk := ⟨_, List.getElem?_eq_getElem hlt7⟩
                        have hmem := List.mem_of_getElem? hkj
                        have hthere := (HKs.out.2.1 kk).1 hmem
                        have hbd := HKs.out.2.2.2 kk hmem
                        obtain ⟨gw, cw, hcw⟩ := Ob.own_form hS.ow (by omega)
                        injection hcw with hwa _ hcc
                        subst hwa hcc
                        have zk := row_cellZ hS.ow hkj
                        obtain ⟨S3, h3⟩ := HAx.out wr hS.f.k
                        have HC3 := hide (read_on S3 wr px t kk h3.d HOk.out HTd.out hthere hbd)
                        have HC4 := hide (fun (w' : World) (S4 : Nat → Prop) (h4 : Dk S4 w' p2 t) => read_on S4 w' p2 t kk h4.d HOk.out HTd.out hthere hbd)
                        have HS := hide hS
                        have HRl := hide hRl
                        have HRb := hide hRb
                        have hn5 : R5.length + 1 ≤ 5000000000000 := by have := HNN.out; omega
                        obtain ⟨bb, hbb⟩ : ∃ bb, t.bytes kk = bb := ⟨_, rfl⟩
                        rw [hbb] at HC3 HC4
                        clear hS hRl hRb hkj hmem hthere h3 HIn hbb hbd
                        go_upto_region 79 with (go_at_call 13; refine HC3.out.mono ?_; rintro e w19 ⟨ba, bc, rfl, ho, hb, hl, hk⟩; have HO3 := hide ho; have HBb := hide (And.intro hl hb); have K19 := hide hk; have zk := hk.cell zk fun f => f; clear ho hb hl hk)
                        have HS19 := hide (HS.out.ext K19.out 20)
                        have HC19 : Hid (Col (ext c5 wr.heap.size 20) (.slice ba bb.length bc) 20) := Col.new fun b e => (HO3.out.lt b e).1
                        obtain ⟨S4, h4⟩ := HAe.out w19 HS19.out.f.k
                        have HC4b := hide (HC4.out w19 S4 h4)
                        clear h4 HC3 HC4
                        go_upto_region 80 with (go_at_call 13; refine HC4b.out.mono ?_; rintro e w20 ⟨va, vc, rfl, ho, hb, hl, hk⟩; have HO4 := hide ho; have K20 := hide hk; clear ho hb hl hk)
                        have HS20 := hide (HS19.out.ext K20.out 23)
                        have HO20 := hide (ownsRow_base (ownsRow_keep HO3.out K20.out fun _ _ f => f) HS.out.base)
                        have HV20 := hide (ownsRow_base HO4.out HS19.out.base)
                        have HC20 := hide (HC19.out.ext HO3.out (x := 23))
                        have HCv : Hid (Col (ext (ext c5 wr.heap.size 20) w19.heap.size 23) (.slice va bb.length vc) 23) := Col.new fun b e => (HO4.out.lt b e).1
                        clear HC4b HS19 HC19 HO3 HO4 K19 K20 zk HS
                        generalize ext (ext c5 wr.heap.size 20) w19.heap.size 23 = c6 at *
                        have zc1 := conv_rd (rd_val HO20.out HBb.out.2 HBb.out.1).1 bc
                        have zc2 := conv_rd (rd_val HV20.out HBb.out.2 HBb.out.1).1 vc
                        generalize str bb = SB at zc1 zc2
                        go_upto_region 82 with fail
                        clear zc1 zc2
                        have KA3 := hide (Keep.alloc (fun _ => False) w20 (.cells #[.slice ba bb.length bc] 26))
                        have CA3 := hide (Ob.cell_one w20 (.slice ba bb.length bc) 26)
                        obtain ⟨vs3, hr3, hf3⟩ := (HS20.out.stay KA3.out).push3 (x := 20) (by decide) (l := bb) (ownsRow_keep HO20.out KA3.out fun _ _ f => f) HC20.out
                        have HR3 := hide hr3
                        have HFn3 := hide hf3
                        have hb3 := (HS20.out.stay KA3.out).base
                        have HVA := hide (ownsRow_keep HV20.out KA3.out fun _ _ f => f)
                        obtain ⟨_, hcr⟩ := (HS20.out.stay KA3.out).f.fc
                        have HAp := hide (col_apart hcr.cr HCv.out (by decide))
                        clear hr3 hf3 hcr
                        go_upto_region 83 with (at_builtin; go_must (refine Ob.wp_appendL rfl _ _ rfl w11.heap.size y3 R5.length vs3 rfl HR3.out ⟨w20.heap.size, 0, none⟩ ba bb.length bc rfl CA3.out hn5 hb3 ?_); intro v7 w21 ho hk hnb; have HS21 := hide (HFn3.out v7 w21 ho hk hnb); have HV21 := hide (ownsRow_keep HVA.out hk HAp.out); clear ho hk hnb)
                        clear HR3 HFn3 hb3 CA3 KA3 HS20 HO20 HC20 HVA HAp HV20 HCv
                        generalize pus c6 (w20.alloc (.cells #[.slice ba bb.length bc] 26)).heap.size 5 6 20 = c7 at *
                        have HZv := hide (rd_val HV21.out HBb.out.2 HBb.out.1)
                        have hbz : bb.length ≤ 140737488355328 := by have := HBb.out.1; omega
                        go_wp2_with (first
                          | (at_builtin; refine wp_cloneB rfl _ _ rfl rfl va bb.length vc bb rfl HZv.out.1 HZv.out.2 hbz ?_; intro v22 w22 ho hk; obtain ⟨fa, fc, he⟩ := ownsRow_shape ho; subst he
                             have HS22 := hide (HS21.out.ext hk 22)
                             have HC22 : Hid (Col (ext c7 w21.heap.size 22) (.slice fa bb.length fc) 22) := Col.new fun b e => (ho.lt b e).1
                             have HO22 := hide (ownsRow_base ho HS21.out.base)
                             have KA4 := hide (Keep.alloc (fun _ => False) w22 (.cells #[.slice fa bb.length fc] 26))
                             have CA4 := hide (Ob.cell_one w22 (.slice fa bb.length fc) 26)
                             obtain ⟨vs4, hr4, hf4⟩ := (HS22.out.stay KA4.out).push4 (x := 22) (by decide) (l := bb) (ownsRow_keep HO22.out KA4.out fun _ _ f => f) HC22.out
                             have HR4 := hide hr4
                             have HFn4 := hide hf4
                             have hb4 := (HS22.out.stay KA4.out).base
                             clear hr4 hf4 ho hk)
                          | (at_builtin; refine Ob.wp_appendL rfl _ _ rfl w11.heap.size y4 R5.length vs4 rfl HR4.out ⟨w22.heap.size, 0, none⟩ fa bb.length fc rfl CA4.out hn5 hb4 ?_; intro v8 w23 ho hk hnb; have HS23 := hide (HFn4.out v8 w23 ho hk hnb); clear ho hk hnb))
                        have HIn2 := hide (Inn.more HS23.out HRl.out HRb.out HBb.out)
                        clear HR4 HFn4 hb4 CA4 KA4 HS22 HC22 HO22 HS21 HZv HV21 HS23 hn5 hbz
                        go_roundw
                        case rel => exact ⟨j + 1, _, _, rfl, rfl, by go_num, by have := HJX.out; omega, HIn2.out⟩
                        case measure => have := HJX.out; simp [intOf]; omega
                      · have hlt7' : ¬ (j : Int) < (ks.length : Int) := by omega
                        have HEn := hide (HIn.out.out (i := i) (by have := HNN.out; omega) HLo1.out.l HLo1.out.lb HKs.out.wide)
                        clear HIn
                        go_wp2_with fail
                        go_roundw
                        case rel => exact ⟨i + 1, _, _, _, _, rfl, rfl, rfl, rfl, by go_num, by omega, HEn.out⟩
                        case measure => simp [intOf]; omega
                · as_aux_lemma =>
                  have hlt6' : ¬ (i : Int) < 4 := by omega
                  obtain ⟨c1, L, R, hLo⟩ := HLo.out
                  obtain ⟨⟨vs1, f1⟩, ⟨vs2, f2⟩, ⟨vs3, f3⟩, ⟨vs4, f4⟩, hk⟩ := hLo.f
                  have HF1 := hide f1
                  have HF2 := hide f2
                  have HF3 := hide f3
                  have HF4 := hide f4
                  have HK12 := hide hk
                  have HLb := hide hLo.lb
                  have HRb := hide hLo.rb
                  obtain ⟨nl, hnl⟩ : ∃ nl, L.length = nl := ⟨_, rfl⟩
                  obtain ⟨nr, hnr⟩ : ∃ nr, R.length = nr := ⟨_, rfl⟩
                  have hnl4 : nl ≤ 4398046511104 := by have := hLo.l; omega
                  have hnr4 : nr ≤ 4398046511104 := by have := hLo.r; omega
                  have r1 := f1.row
                  have r2 := f2.row
                  have r3 := f3.row
                  have r4 := f4.row
                  rw [List.length_map, hnl] at r1 r2
                  rw [List.length_map, hnr] at r3 r4
                  obtain ⟨a1, d1, e1⟩ := ownsRow_shape r1
                  obtain ⟨a2, d2, e2⟩ := ownsRow_shape r2
                  obtain ⟨a3, d3, e3⟩ := ownsRow_shape r3
                  obtain ⟨a4, d4, e4⟩ := ownsRow_shape r4
                  subst e1 e2 e3 e4
                  have HNl := hide hnl
                  have HNr := hide hnr
                  clear hLo f1 f2 f3 f4 hk r1 r2 r3 r4 HLo hnl hnr
                  obtain ⟨w12, hw12⟩ : ∃ x, x = wr := ⟨_, rfl⟩
                  subst hw12
                  go_wp2_with fail
                  go_loopw [38] (fun iv wx => ∃ j : Nat, iv = .int .i64 (j : Nat) ∧ j ≤ nl ∧ Hid (Keep (fun _ => False) w12 wx)) (fun iv _ => nl - (intOf iv).toNat)
                  case atStart => exact ⟨0, rfl, Nat.zero_le _, Keep.refl _ _⟩
                  case round =>
                    obtain ⟨j, rfl, hj, HKr⟩ := hrel
                    by_cases hlt8 : j < nl
                    ·
                      have hlt8' : (j : Int) < (nl : Int) := by omega
                      have HJX := hide hlt8
                      have hjl : j < L.length := by rw [HNl.out]; exact hlt8
                      have hl := List.getElem?_eq_getElem hjl
                      obtain ⟨l, hll⟩ : ∃ l, L[j] = l := ⟨_, rfl⟩
                      rw [hll] at hl
                      have hlb := HLb.out l (List.mem_of_getElem? hl)
                      obtain ⟨g1, p1, x1, y1, e1, z1, q1, _⟩ := HF1.out.intAt hl hlb.1 hlb.2
                      obtain ⟨g2, k2, x2, y2, e2, z2, q2, _⟩ := HF2.out.intAt hl hlb.1 hlb.2
                      injection e1 with e1 _ _
                      injection e2 with e2 _ _
                      subst e1 e2
                      have z1 := HKr.out.cell z1 fun f => f
                      have z2 := HKr.out.cell z2 fun f => f
                      have HIN : Hid (∀ n, Calls Try.prog 7 #[.slice x1 l.length y1, .slice x2 l.length y2] (wr.drewN n) fun en w' => en = .returned (.bool true) ∧ ∃ m, w' = (wr.drewN n).drewN m) := fun n => ints_same (wr.drewN n) _ _ l.length y1 y2 l ((q1.stay (S := fun _ => False) HKr.out fun _ _ _ _ f => f).stay (S := fun _ => False) (Keep.drewM wr n _) fun _ _ _ _ f => f) ((q2.stay (S := fun _ => False) HKr.out fun _ _ _ _ f => f).stay (S := fun _ => False) (Keep.drewM wr n _) fun _ _ _ _ f => f)
                      clear q1 q2 hl hll hlb hjl
                      generalize l.length = ll at *
                      go_wp2_with fail
                      go_quiet ((go_at_call 7; exact (HIN.out _).mono (fun _ _ h => ⟨h.1, h.2.elim fun j e => ⟨_, e.trans (drewN_addO _ _ _)⟩⟩)))
                      go_wp2_with fail
                      go_roundw
                      case rel => exact ⟨j + 1, by go_num, by have := HJX.out; omega, HKr.out.more (Keep.drewM _ _ _)⟩
                      case measure => have := HJX.out; simp [intOf]; omega
                    ·
                      have hlt8' : ¬ (j : Int) < (nl : Int) := by omega
                      have HF1 := hide (HF1.out.stay HKr.out)
                      have HF3 := hide (HF3.out.stay HKr.out)
                      have HF4 := hide (HF4.out.stay HKr.out)
                      have HK12 := hide (HK12.out.low HKr.out fun _ _ f => f.elim)
                      obtain ⟨w13, hw13⟩ : ∃ x, x = wr := ⟨_, rfl⟩
                      subst hw13
                      clear HKr
                      go_wp2_with fail
                      go_loopw [39] (fun iv wx => ∃ j : Nat, iv = .int .i64 (j : Nat) ∧ j ≤ nr ∧ Hid (Keep (fun _ => False) w13 wx)) (fun iv _ => nr - (intOf iv).toNat)
                      case atStart => exact ⟨0, rfl, Nat.zero_le _, Keep.refl _ _⟩
                      case round =>
                        obtain ⟨k, rfl, hk, HKr⟩ := hrel
                        by_cases hlt9 : k < nr
                        ·
                          have hlt9' : (k : Int) < (nr : Int) := by omega
                          have HJX := hide hlt9
                          have hjl : k < R.length := by rw [HNr.out]; exact hlt9
                          have hl := List.getElem?_eq_getElem hjl
                          obtain ⟨l, hll⟩ : ∃ l, R[k] = l := ⟨_, rfl⟩
                          rw [hll] at hl
                          have hlb := HRb.out l (List.mem_of_getElem? hl)
                          obtain ⟨g3, p3, x3, y3, e3, z3, q3, _⟩ := HF3.out.byteAt hl hlb.1 hlb.2
                          obtain ⟨g4, p4, x4, y4, e4, z4, q4, _⟩ := HF4.out.byteAt hl hlb.1 hlb.2
                          injection e3 with e3 _ _
                          injection e4 with e4 _ _
                          subst e3 e4
                          have z3 := HKr.out.cell z3 fun f => f
                          have z4 := HKr.out.cell z4 fun f => f
                          have zc3 := fun n => conv_rd (w := wr.drewN n) ((q3.stay (S := fun _ => False) HKr.out fun _ _ _ f => f).stay (S := fun _ => False) (Keep.drewM wr n _) fun _ _ _ f => f) y3
                          have zc4 := fun n => conv_rd (w := wr.drewN n) ((q4.stay (S := fun _ => False) HKr.out fun _ _ _ f => f).stay (S := fun _ => False) (Keep.drewM wr n _) fun _ _ _ f => f) y4
                          clear q3 q4 hl hll hlb hjl
                          generalize str l = SL at *
                          generalize l.length = ll at *
                          go_wp2_with fail
                          go_quiet (fail)
                          go_wp2_with fail
                          go_roundw
                          case rel => exact ⟨k + 1, by go_num, by have := HJX.out; omega, HKr.out.more (Keep.drewM _ _ _)⟩
                          case measure => have := HJX.out; simp [intOf]; omega
                        ·
                          have hlt9' : ¬ (k : Int) < (nr : Int) := by omega
                          have HF1 := hide (HF1.out.stay HKr.out)
                          have HF3 := hide (HF3.out.stay HKr.out)
                          have HK14 := hide (HK12.out.low HKr.out fun _ _ f => f.elim)
                          have HLo1 := hide (HF1.out.intsOwn (fun l hl => (HLb.out l hl).1) (by rw [HNl.out]; exact hnl4))
                          obtain ⟨w14, hw14⟩ : ∃ x, x = wr := ⟨_, rfl⟩
                          subst hw14
                          clear HKr HF4 HF2 HK12
                          go_upto_region 96 with (first
                            | (go_at_call 14; refine HLo1.out.mono ?_; rintro e w15 ⟨rfl, hk⟩; have K15 := hide hk; clear hk
                               have HF3b := hide (HF3.out.keep (c' := c1) K15.out (fun b hb => by rw [(HF1.out.sv hb).1]; decide) fun _ _ => ⟨id, id⟩)
                               have HRo1 := hide (HF3b.out.bytesOwn (fun l hl => by have := (HRb.out l hl).1; omega) (by rw [HNr.out]; exact hnr4)))
                            | (go_at_call 15; refine HRo1.out.mono ?_; rintro e w16 ⟨rfl, hk⟩; have K16 := hide hk; clear hk))
                          have HK16 : Hid (Keep (fun b => w11.heap.size ≤ b) w11 w16) := (HK14.out.low K15.out fun b _ hb => (HF1.out.sv hb).2).low K16.out fun b _ hb => (HF3b.out.sv hb).2
                          have hT16 := HT.out.keep (Nat.le_refl _) HK16.out
                          obtain ⟨⟨S1, hS1⟩, ⟨S2, hS2⟩, ⟨S3, hS3⟩⟩ := hT16
                          have HS1 := hide hS1
                          have HS2 := hide hS2
                          have HS3 := hide hS3
                          have HWk16 : Hid (Keep (fun k => W.heap.size ≤ k) W w16) := HWk11.out.low HK16.out fun b hb (e : w11.heap.size ≤ b) => by have := HWk11.out.size; omega
                          clear HF1 HF3 HF3b HLo1 HRo1 K15 K16 HK14 HK16 hS1 hS2 hS3 HT HWk11 HLb HRb HNl HNr
                          go_upto_region 97 with (go_at_call 16; refine (seen_any S1 w16 p t HS1.out.d HOk.out).mono ?_; rintro e w17 ⟨sa, sc, Ls, rfl, hr, hl, _, hk⟩; rw [HTd.out]; have HR17 := hide hr; have HLs := hide (hl HTd.out); have K17 := hide hk; clear hr hl hk)
                          have HS2b := hide (HS2.out.new K17.out)
                          have HS3b := hide (HS3.out.new K17.out)
                          go_upto_region 98 with (go_at_call 16; refine (seen_any S2 w17 pc t HS2b.out.d HOk.out).mono ?_; rintro e w18 ⟨ta, tc, Ms, rfl, hr, hl, _, hk⟩; rw [HTd.out]; have hMs := (hl HTd.out).uniq HLs.out rfl; subst hMs; have HR18 := hide hr; have K18 := hide hk; clear hr hl hk)
                          have HS3c := hide (HS3b.out.new K18.out)
                          go_upto_region 99 with (go_at_call 16; refine (seen_any S3 w18 p2 t HS3c.out.d HOk.out).mono ?_; rintro e w19 ⟨va, vc, Ns, rfl, hr, hl, _, hk⟩; rw [HTd.out]; have hNs := (hl HTd.out).uniq HLs.out rfl; subst hNs; have HR19 := hide hr; have K19 := hide hk; clear hr hl hk)
                          have HSm := hide (HLs.out.small HOk.out)
                          have HQ17 := hide ((HR17.out.keep K18.out fun _ _ _ f => f).keep K19.out fun _ _ _ f => f)
                          have HQ18 := hide (HR18.out.keep K19.out fun _ _ _ f => f)
                          have HA1 := hide (alike_any w19 _ _ sa va sc vc _ HQ17.out HR19.out HSm.out)
                          clear HS1 HS2 HS3 HS2b HS3b HS3c
                          go_wp2_with (first
                            | (go_at_call 17; refine HA1.out.mono ?_; rintro e w20 ⟨rfl, hk⟩; have K20 := hide hk; clear hk HA1
                               have HA2 := hide (alike_any w20 _ _ ta va tc vc _ (HQ18.out.keep K20.out fun _ _ _ f => f) (HR19.out.keep K20.out fun _ _ _ f => f) HSm.out))
                            | (go_at_call 17; refine HA2.out.mono ?_; rintro e w21 ⟨rfl, hk⟩; have K21 := hide hk; clear hk))
                          go_ret
                          exact ⟨rfl, (HWk16.out.low ((((K17.out.more K18.out).more K19.out).more K20.out).more K21.out) fun _ _ f => f.elim).below (Nat.le_refl _) fun i e => e⟩
end Go.Proofs.Ytmaeaibphggceaa
