/- Package journal: what stands ahead of a payload; a piece. -/
import Derived.Test.YthfnpbkclmkkeaaJBase
namespace Go.Proofs.Ythfnpbkclmkkeaa
open Go.RowKit Go.Lib

theorem info17 {l : List Nat} (h : l.length = 17) : (Try.prog.info? 97).map (·.size) = some (B8 l).toArray.size := by rw [B8_array_size, h]; exact size17
theorem splice_4 (n : Nat) : splice (B8 z17) 0 (B8 (J.le 4 n)) = B8 (J.le 4 n ++ List.replicate 13 0) := splice_mid [] (List.replicate 4 0) (J.le 4 n) (List.replicate 13 0) rfl (by rw [J.le_length]; rfl)
theorem set_4 (n kind : Nat) : (B8 (J.le 4 n ++ List.replicate 13 0)).toArray.setIfInBounds 4 (.int .u8 (kind : Nat)) = (B8 (J.le 4 n ++ [kind] ++ List.replicate 12 0)).toArray := by
  rw [List.setIfInBounds_toArray]
  congr 1
theorem splice_13 (n kind number : Nat) : splice (B8 (J.le 4 n ++ [kind] ++ List.replicate 12 0)) 5 (B8 (J.le 8 number)) = B8 (J.lead13 kind number n ++ List.replicate 4 0) := by
  have := splice_mid (J.le 4 n ++ [kind]) (List.replicate 8 0) (J.le 8 number) (List.replicate 4 0) (off := 5) (by simp [J.le_length]) (by rw [J.le_length]; rfl)
  rw [show List.replicate 8 0 ++ List.replicate 4 0 = List.replicate 12 0 from rfl] at this
  rw [this, J.lead13]
  simp only [List.append_assoc]
theorem splice_17 (kind number : Nat) (l : List Nat) : splice (B8 (J.lead13 kind number l.length ++ List.replicate 4 0)) 13 (B8 (J.le 4 (M.more 0 (J.lead13 kind number l.length ++ l)))) = B8 (J.leadOf kind number l) := by
  have := splice_mid (J.lead13 kind number l.length) (List.replicate 4 0) (J.le 4 (M.more 0 (J.lead13 kind number l.length ++ l))) [] (off := 13) (by rw [J.lead13_length]) (by rw [J.le_length]; rfl)
  rw [List.append_nil, List.append_nil] at this
  exact this

/-- a list of two lists of bytes, just made -/
theorem two_parts {w W : World} {t : TypeId} {v1 v2 : Value} {l1 l2 : List Nat} (hW : W = w.alloc (.cells #[v1, v2] t)) (h1 : RdV w v1 l1) (h2 : RdV w v2 l2) : RdL W (some ⟨w.heap.size, 0, none⟩) 2 [l1, l2] := by
  have hb : W.heap[w.heap.size]? = some (.cells #[v1, v2] t (0, 0)) := by rw [hW]; exact heap_alloc_new w _
  have hk : Keep (fun _ => False) w W := by rw [hW]; exact Keep.alloc _ _ _
  refine ⟨rfl, by decide, .inr ⟨w.heap.size, 0, rfl, fun j hj => ?_⟩⟩
  match j, hj with
  | 0, _ => exact ⟨v1, cell_blk hb 0 rfl, h1.keep hk⟩
  | 1, _ => exact ⟨v2, cell_blk hb 1 rfl, h2.keep hk⟩

theorem Row.rdV' {w w' : World} {v : Value} {l : List Nat} (h : Row w v l) (hs : l.length < 281474976710656) (hk : Keep (fun _ => False) w w') : RdV w' v l := (h.rdV hs).keep hk

set_option maxHeartbeats 1000000 in
set_option maxRecDepth 10000 in
theorem leadOf_any (kind number : Nat) (a : Option Addr) (n c : Nat) (l : List Nat) (w : World) (h : Rd w a n l) (h0 : a = none → c = 0) (hn : n ≤ 35184372088832) (hkd : kind < 256) :
    Calls Try.prog 59 #[.int .u8 (kind : Nat), .int .i64 (number : Nat), .slice a n c] w fun e w' => e = .returned (.agg (B8 (J.leadOf kind number l)).toArray) ∧ Keep (fun _ => False) w w' := by
  obtain ⟨t1, t2, t3⟩ : (((w.alloc (.cells (B8 z17).toArray 97)).alloc (.cells (B8 z17).toArray 97)).heap[w.heap.size + 1]? = some (.cells (B8 z17).toArray 97 (0, 0))) ∧ (((w.alloc (.cells (B8 z17).toArray 97)).alloc (.cells (B8 z17).toArray 97)).heap[w.heap.size]? = some (.cells (B8 z17).toArray 97 (0, 0))) ∧ Keep (fun _ => False) w ((w.alloc (.cells (B8 z17).toArray 97)).alloc (.cells (B8 z17).toArray 97)) := ⟨heap_alloc2_new w _ _, heap_alloc2_old w _ _, (Keep.alloc _ _ _).more (Keep.alloc _ _ _)⟩
  have hz := zero17
  have HS4 := hide (splice_4 n)
  have HNl := hide h.1
  have hlen : 0 + 4 ≤ (B8 z17).length := by rw [B8_length]; decide
  have HZs : Hid ((B8 z17).toArray.size = 17) := by show _ = _; rw [B8_array_size]; rfl
  generalize B8 z17 = z at *
  have HC1 := hide (write_any (w.heap.size + 1) 0 4 17 n z 97 _ t1 hlen (by decide))
  have HT2 := hide t2
  have HT3 := hide t3
  have HZ := hide hz
  have HH := hide h
  have H0 := hide h0
  clear t1 t2 t3 hz hlen h h0
  go_enter Try.func59, Try.ntmps59
  go_upto_region 3 with (first
    | (refine wpList_alloc_row HZ.out rfl rfl ?_)
    | (go_at_call 71
       refine HC1.out.mono ?_
       rintro e w1 ⟨rfl, hb1, hk1⟩
       rw [HS4.out] at hb1
       have HB0 := hide (hk1.blk HT2.out (by omega))
       have HK1 : Hid (Keep (fun _ => False) w w1) := HT3.out.trans hk1 fun i e => .inr (by omega)
       have HB1 := hide hb1
       clear hb1 hk1))
  clear HC1 HT2 HT3 HS4
  obtain ⟨w2, hw2⟩ : ∃ w2, w2 = w1.setCell ⟨w.heap.size + 1, 4, none⟩ (.int .u8 (kind : Nat)) := ⟨_, rfl⟩
  have hb2 : w2.heap[w.heap.size + 1]? = some (.cells (B8 (J.le 4 n ++ [kind] ++ List.replicate 12 0)).toArray 97 (0, 0)) := by rw [hw2, set_blk HB1.out, set_4]
  have hk2 : Keep (fun i => i = w.heap.size + 1) w1 w2 := by rw [hw2]; exact keep_cell _ _ _ _
  have HB02 := hide (hk2.blk HB0.out (by omega))
  have HK2 : Hid (Keep (fun _ => False) w w2) := HK1.out.trans hk2 fun i e => .inr (by omega)
  have c4 := cell_blk HB1.out 4 (v := .int .u8 ((0 : Nat) : Int)) (by simp [B8, J.le_length])
  have f4 := frozen_blk HB1.out 4
  have HC2 := hide (write_any (w.heap.size + 1) 5 8 12 number _ 97 w2 hb2 (by rw [B8_length]; simp [J.le_length]) (by decide))
  have HW2 := hide hw2
  rw [hw2] at HC2
  clear hb2 hk2 hw2
  go_upto_region 5 with (
       go_at_call 71
       refine HC2.out.mono ?_
       rintro e w3 ⟨rfl, hb3, hk3⟩
       rw [← HW2.out] at hk3
       rw [splice_13] at hb3
       have HB03 := hide (hk3.blk HB02.out (by omega))
       have HK3 : Hid (Keep (fun _ => False) w w3) := HK2.out.trans hk3 fun i e => .inr (by omega)
       have HB3 := hide hb3
       clear hb3 hk3)
  clear HC2 HB0 HB1 HK1 HB02 HK2 c4 f4 HW2
  have HRl : Hid (∀ wx, Keep (fun _ => False) w3 wx → RdV wx (.slice (some ⟨w.heap.size + 1, 0, none⟩) 13 17) (J.lead13 kind number n) ∧ RdV wx (.slice a n c) l) := fun wx kx => by
    have hr := blk_rd HB3.out (fun d hd => (List.mem_append.1 hd).elim (J.lead13_lt hkd _ _ d) fun h => by rw [List.eq_of_mem_replicate h]; decide) 0 13 (by simp [J.lead13_length]) (by decide)
    rw [List.drop_zero, List.take_append_of_le_length (by rw [J.lead13_length]; exact Nat.le_refl _), List.take_of_length_le (by rw [J.lead13_length]; exact Nat.le_refl _)] at hr
    exact ⟨⟨_, _, _, rfl, hr.stay (S := fun _ => False) kx fun _ _ _ f => f, fun e => by cases e⟩, ⟨a, n, c, rfl, HH.out.stay (S := fun _ => False) (HK3.out.more kx) fun _ _ _ f => f, H0.out⟩⟩
  have HLy : Hid (Calls Try.prog 43 #[.slice (some ⟨w3.heap.size, 0, none⟩) 2 2] (w3.alloc (.cells #[.slice (some ⟨w.heap.size + 1, 0, none⟩) 13 17, .slice a n c] 32)).drew fun e w' => ∃ a' c', e = .returned (.slice a' (13 + n) c') ∧ Rd w' a' (13 + n) (J.lead13 kind number n ++ l) ∧ Keep (fun _ => False) w3 w') := by
    obtain ⟨W, hW⟩ : ∃ W, W = w3.alloc (.cells #[.slice (some ⟨w.heap.size + 1, 0, none⟩) 13 17, .slice a n c] 32) := ⟨_, rfl⟩
    have hp := HRl.out w3 (Keep.refl _ _)
    have hr := two_parts hW hp.1 hp.2
    have hkW : Keep (fun _ => False) w3 W.drew := by rw [hW]; exact (Keep.alloc _ _ _).more (Keep.drew _ _)
    have hfl : [J.lead13 kind number n, l].flatten = J.lead13 kind number n ++ l := by simp
    have hll : (J.lead13 kind number n ++ l).length = 13 + n := by rw [List.length_append, J.lead13_length, HNl.out]
    rw [← hW]
    have := jlay_any (some ⟨w3.heap.size, 0, none⟩) 2 2 [J.lead13 kind number n, l] W.drew (hr.keep (Keep.drew _ _)) (by rw [hfl, hll]; omega)
    rw [hfl] at this
    refine this.mono fun e w' ⟨v, e1, hrow, hk, _⟩ => ?_
    obtain ⟨a', c', rfl, hrd, _⟩ := hrow.rd (by rw [hll]; omega)
    rw [hll] at e1 hrd
    exact ⟨a', c', e1, hrd, hkW.more hk⟩
  have HS17 := hide (splice_17 kind number l)
  rw [← HNl.out] at HS17
  have hml := M.more_lt 0 (J.lead13 kind number n ++ l)
  have hwr : IntKind.i64.wrap (M.more 0 (J.lead13 kind number n ++ l) : Int) = (M.more 0 (J.lead13 kind number n ++ l) : Int) := wr (by omega) (by omega)
  generalize hsm : M.more 0 (J.lead13 kind number n ++ l) = sm at *
  have HSm := hide hsm
  clear hsm
  go_region_held3 (fun _ => True) (trivial) (first
    | (go_at_call 43
       refine HLy.out.mono ?_
       rintro e w4 ⟨a', c', rfl, hrd, hk4⟩
       have HB04 := hide (hk4.blk HB03.out (fun f => f))
       have HB4 := hide (hk4.blk HB3.out (fun f => f))
       have HK4 : Hid (Keep (fun _ => False) w w4) := HK3.out.more hk4
       have HSu := hide (sum_any a' (13 + n) c' _ w4 hrd)
       rw [HSm.out] at HSu
       clear hrd hk4)
    | (go_at_call 72
       refine HSu.out.mono ?_
       rintro e w5 ⟨rfl, hk5⟩
       have k5 : Keep (fun _ => False) w4 w5 := Keep.ofBelow hk5 (Nat.le_refl _)
       have HB05 := hide (k5.blk HB04.out (fun f => f))
       have HK5 : Hid (Keep (fun _ => False) w w5) := HK4.out.more k5
       have HC3 := hide (write_any (w.heap.size + 1) 13 4 4 sm _ 97 w5 (k5.blk HB4.out (fun f => f)) (by rw [B8_length]; simp [J.lead13_length]) (by decide))
       clear hk5 k5)
    | (go_at_call 71
       refine HC3.out.mono ?_
       rintro e w6 ⟨rfl, hb6, hk6⟩
       rw [HS17.out] at hb6
       have HB06 := hide (hk6.blk HB05.out (by omega))
       have HK6 : Hid (Keep (fun _ => False) w w6) := HK5.out.trans hk6 fun i e => .inr (by omega)
       have HB6 := hide hb6
       clear hb6 hk6))
  have HI4 : Hid ((Try.prog.info? 97).map (·.size) = some (B8 (J.leadOf kind number l)).toArray.size) := info17 (J.leadOf_length _ _ _)
  have HZ4 : Hid (z.toArray.size = (B8 (J.leadOf kind number l)).toArray.size) := by show _ = _; rw [HZs.out, B8_array_size, J.leadOf_length]
  have HA4 := hide (B8_all (J.leadOf kind number l))
  generalize ht : (B8 (J.leadOf kind number l)).toArray = t at *
  have HT := hide ht
  clear ht
  go_wp2_with (first
    | (refine wpList_load_row rfl 97 _ rfl (w.heap.size + 1) rfl 97 t (0, 0) _ HB6.out Try.underlying97 rfl HI4.out ?_)
    | (refine wpList_store_row rfl 97 _ _ rfl w.heap.size t rfl rfl 97 z.toArray HB06.out HI4.out HZ4.out HA4.out ?_))
  have H6 : (w6.setRow w.heap.size t).heap[w.heap.size]? = some (.cells t 97 (0, 0)) := setRow_heap _ _ _ _ _ _ HB06.out
  have K6 : Keep (fun _ => False) w (w6.setRow w.heap.size t) := HK6.out.trans (T := fun k => k = w.heap.size) ⟨rfl, rfl, rfl, by rw [size_setRow]; exact Nat.le_refl _, fun k _ hk => heap_setRow_other _ _ _ _ hk⟩ fun i e => .inr (by omega)
  refine bodyPost_ret (v := .agg t) ?_ rfl ⟨by rw [HT.out], K6⟩
  exact results_cell_row (P := Try.prog) (fn := Try.f59) rfl _ _ w.heap.size 97 t (0, 0) _ rfl H6 Try.underlying97 rfl HI4.out

end Go.Proofs.Ythfnpbkclmkkeaa
