/- Package journal: a segment's head. -/
import Derived.Test.YthfnpbkclmkkeaaJArr
import Derived.Deep.CutRange
namespace Go.Proofs.Ythfnpbkclmkkeaa
open Go.RowKit Go.Lib

def h24 : List Nat := [69, 83, 67, 49] ++ (List.replicate 8 0 ++ List.replicate 12 0)
theorem B8_array_size (l : List Nat) : (B8 l).toArray.size = l.length := by simp [B8]
theorem B8_all (l : List Nat) : (B8 l).toArray.all (·.oneCell') = true := by simp [B8, Value.oneCell']
theorem info24 {l : List Nat} (h : l.length = 24) : (Try.prog.info? 99).map (·.size) = some (B8 l).toArray.size := by rw [B8_array_size, h]; exact size24

theorem splice_mid (p x y q : List Nat) {off : Nat} (ho : off = p.length) (h : y.length = x.length) : splice (B8 (p ++ (x ++ q))) off (B8 y) = B8 (p ++ (y ++ q)) := by
  subst ho
  unfold splice
  rw [B8_length, h]
  simp only [B8, List.map_append]
  rw [List.take_append_of_le_length (by simp), List.take_of_length_le (by simp), List.drop_append, List.drop_of_length_le (by simp)]
  rw [List.length_map, Nat.add_sub_cancel_left, List.nil_append, List.drop_append, List.drop_of_length_le (by simp), List.length_map, Nat.sub_self]
  simp

theorem splice_8 (seg : Nat) : splice (B8 h24) 4 (B8 (J.le 8 seg)) = B8 ([69, 83, 67, 49] ++ (J.le 8 seg ++ List.replicate 12 0)) := splice_mid [69, 83, 67, 49] (List.replicate 8 0) (J.le 8 seg) (List.replicate 12 0) rfl (by rw [J.le_length]; rfl)
theorem splice_20 (seg base : Nat) : splice (B8 ([69, 83, 67, 49] ++ (J.le 8 seg ++ List.replicate 12 0))) 12 (B8 (J.le 8 base)) = B8 (J.head20 seg base ++ List.replicate 4 0) := by
  have := splice_mid ([69, 83, 67, 49] ++ J.le 8 seg) (List.replicate 8 0) (J.le 8 base) (List.replicate 4 0) (off := 12) (by simp [J.le_length]) (by rw [J.le_length]; rfl)
  rw [show List.replicate 8 0 ++ List.replicate 4 0 = List.replicate 12 0 from rfl, List.append_assoc] at this
  rw [this, J.head20]
  simp only [List.append_assoc]
theorem splice_24 (seg base : Nat) : splice (B8 (J.head20 seg base ++ List.replicate 4 0)) 20 (B8 (J.le 4 (M.more 0 (J.head20 seg base)))) = B8 (J.headOf seg base) := by
  have := splice_mid (J.head20 seg base) (List.replicate 4 0) (J.le 4 (M.more 0 (J.head20 seg base))) [] (off := 20) (by rw [J.head20_length]) (by rw [J.le_length]; rfl)
  rw [List.append_nil, List.append_nil] at this
  exact this

/-- bytes in the midst of a block -/
theorem blk_rd {w : World} {g : Nat} {t : TypeId} {L : List Nat} (h : w.heap[g]? = some (.cells (B8 L).toArray t (0, 0))) (hd : ∀ d ∈ L, d < 256) (off n : Nat) (hn : off + n ≤ L.length) (hs : n < 281474976710656) : Rd w (some ⟨g, off, none⟩) n ((L.drop off).take n) := by
  have hl : ((L.drop off).take n).length = n := by rw [List.length_take, List.length_drop]; omega
  refine ⟨hl.symm, hs, fun d h => hd d (List.mem_of_mem_drop (List.mem_of_mem_take h)), .inr ⟨g, off, rfl, fun i hi => cell_blk h (off + i) ?_⟩⟩
  rw [List.getElem?_toArray, B8_at L (off + i) (by omega)]
  simp [List.getD_eq_getElem?_getD, List.getElem?_drop, hi]

/-- two blocks made, the second written -/
theorem two_blks (w : World) (z z' c : Array Value) (t : TypeId) :
    (((w.alloc (.cells z t)).alloc (.cells z' t)).setRow (w.heap.size + 1) c).heap[w.heap.size + 1]? = some (.cells c t (0, 0)) ∧
    (((w.alloc (.cells z t)).alloc (.cells z' t)).setRow (w.heap.size + 1) c).heap[w.heap.size]? = some (.cells z t (0, 0)) ∧
    Keep (fun _ => False) w (((w.alloc (.cells z t)).alloc (.cells z' t)).setRow (w.heap.size + 1) c) := by
  refine ⟨setRow_heap _ _ _ _ _ _ (heap_alloc2_new w _ _), ?_, ?_⟩
  · rw [heap_setRow_other _ _ _ _ (by omega)]
    exact heap_alloc2_old w _ _
  · exact Keep.trans (S := fun _ => False) (T := fun k => k = w.heap.size + 1) ((Keep.alloc _ _ _).more (Keep.alloc _ _ _)) ⟨rfl, rfl, rfl, by rw [size_setRow]; exact Nat.le_refl _, fun k _ hk => heap_setRow_other _ _ _ _ hk⟩ fun i e => .inr (by omega)

theorem lit24 : (#[.int .u8 69, .int .u8 83, .int .u8 67, .int .u8 49, .int .u8 0, .int .u8 0, .int .u8 0, .int .u8 0, .int .u8 0, .int .u8 0, .int .u8 0, .int .u8 0, .int .u8 0, .int .u8 0, .int .u8 0, .int .u8 0, .int .u8 0, .int .u8 0, .int .u8 0, .int .u8 0, .int .u8 0, .int .u8 0, .int .u8 0, .int .u8 0] : Array Value) = (B8 h24).toArray := rfl

set_option maxHeartbeats 400000 in
set_option maxRecDepth 10000 in
theorem headOf_any (seg base : Nat) (w : World) :
    Calls Try.prog 60 #[.int .i64 (seg : Nat), .int .i64 (base : Nat)] w fun e w' => e = .returned (.agg (B8 (J.headOf seg base)).toArray) ∧ Keep (fun _ => False) w w' := by
  obtain ⟨t1, t2, t3⟩ := two_blks w (B8 z24).toArray (B8 z24).toArray (B8 h24).toArray 99
  have hz := zero24
  have hl := lit24
  have hi : (Try.prog.info? 99).map (·.size) = some (B8 h24).toArray.size := info24 rfl
  have hzh : (B8 z24).toArray.size = (B8 h24).toArray.size := rfl
  have hone := B8_all h24
  have HS8 := hide (splice_8 seg)
  have hlen : 4 + 8 ≤ (B8 h24).length := by rw [B8_length]; decide
  generalize (B8 z24).toArray = z at *
  generalize B8 h24 = c0 at *
  have HC1 := hide (write_any (w.heap.size + 1) 4 8 20 seg c0 99 _ t1 hlen (by decide))
  have HT2 := hide t2
  have HT3 := hide t3
  have HZ := hide hz
  have HL := hide hl
  have HI := hide (And.intro hi (And.intro hzh hone))
  clear t1 t2 t3 hz hl hi hzh hone hlen
  go_enter Try.func60, Try.ntmps60
  go_upto_region 3 with (first
    | (refine wpList_alloc_row HZ.out rfl rfl ?_)
    | (refine wpList_store_row rfl 99 _ _ rfl _ c0.toArray rfl (congrArg Value.agg HL.out) 99 z ?s1 HI.out.1 HI.out.2.1 HI.out.2.2 ?_; case s1 => exact heap_alloc_new _ _)
    | (go_at_call 71
       refine HC1.out.mono ?_
       rintro e w1 ⟨rfl, hb1, hk1⟩
       rw [HS8.out] at hb1
       have HB0 := hide (hk1.blk HT2.out (by omega))
       have HK1 : Hid (Keep (fun _ => False) w w1) := HT3.out.trans hk1 fun i e => .inr (by omega)
       have HC2 := hide (write_any (w.heap.size + 1) 12 8 12 base _ 99 w1 hb1 (by rw [B8_length]; simp [J.le_length]) (by decide))
       clear hb1 hk1))
  clear HC1 HT2 HT3 HS8
  go_upto_region 4 with (
       go_at_call 71
       refine HC2.out.mono ?_
       rintro e w2 ⟨rfl, hb2, hk2⟩
       rw [splice_20] at hb2
       have HB02 := hide (hk2.blk HB0.out (by omega))
       have HK2 : Hid (Keep (fun _ => False) w w2) := HK1.out.trans hk2 fun i e => .inr (by omega)
       have HB2 := hide hb2
       clear hb2 hk2)
  clear HC2 HB0 HK1
  have HSu : Hid (∀ wx, Keep (fun _ => False) w2 wx → Calls Try.prog 72 #[.slice (some ⟨w.heap.size + 1, 0, none⟩) 20 24] wx fun e w' => e = .returned (.int .u32 (M.more 0 (J.head20 seg base) : Nat)) ∧ Keep (fun _ => False) w2 w') := fun wx kx => by
    have hr := (blk_rd HB2.out (fun d hd => (List.mem_append.1 hd).elim (J.head20_lt _ _ d) fun h => by rw [List.eq_of_mem_replicate h]; decide) 0 20 (by simp [J.head20_length]) (by decide)).stay (S := fun _ => False) kx fun _ _ _ f => f
    rw [List.drop_zero, List.take_append_of_le_length (by rw [J.head20_length]; exact Nat.le_refl _), List.take_of_length_le (by rw [J.head20_length]; exact Nat.le_refl _)] at hr
    exact (sum_any _ 20 24 _ wx hr).mono fun e w' ⟨h1, h2⟩ => ⟨h1, kx.more (Keep.ofBelow h2 (Nat.le_refl _))⟩
  have hml := M.more_lt 0 (J.head20 seg base)
  have HS24 := hide (splice_24 seg base)
  generalize M.more 0 (J.head20 seg base) = sm at *
  have hwr : IntKind.i64.wrap (sm : Int) = (sm : Int) := wr (by omega) (by omega)
  go_region_held3 (fun _ => True) (trivial) (first
    | (go_at_call 72
       refine (HSu.out _ (Keep.drew _ _)).mono ?_
       rintro e w3 ⟨rfl, hk3⟩
       have HB03 := hide (hk3.blk HB02.out (fun f => f))
       have HK3 : Hid (Keep (fun _ => False) w w3) := HK2.out.more hk3
       have HC3 := hide (write_any (w.heap.size + 1) 20 4 4 sm _ 99 w3 (hk3.blk HB2.out (fun f => f)) (by rw [B8_length]; simp [J.head20_length]) (by decide))
       clear hk3)
    | (go_at_call 71
       refine HC3.out.mono ?_
       rintro e w4 ⟨rfl, hb4, hk4⟩
       rw [HS24.out] at hb4
       have HB04 := hide (hk4.blk HB03.out (by omega))
       have HK4 : Hid (Keep (fun _ => False) w w4) := HK3.out.trans hk4 fun i e => .inr (by omega)
       have HB4 := hide hb4
       clear hb4 hk4))
  have HI4 : Hid ((Try.prog.info? 99).map (·.size) = some (B8 (J.headOf seg base)).toArray.size) := info24 (J.headOf_length _ _)
  have HZ4 : Hid (z.size = (B8 (J.headOf seg base)).toArray.size) := by show _ = _; rw [HI.out.2.1]; have := HI.out.1; rw [HI4.out] at this; injection this with this; exact this.symm
  have HA4 := hide (B8_all (J.headOf seg base))
  generalize ht : (B8 (J.headOf seg base)).toArray = t at *
  have HT := hide ht
  clear ht
  go_wp2_with (first
    | (refine wpList_load_row rfl 99 _ rfl (w.heap.size + 1) rfl 99 t (0, 0) _ HB4.out Try.underlying99 rfl HI4.out ?_)
    | (refine wpList_store_row rfl 99 _ _ rfl w.heap.size t rfl rfl 99 z HB04.out HI4.out HZ4.out HA4.out ?_))
  have H6 : (w4.setRow w.heap.size t).heap[w.heap.size]? = some (.cells t 99 (0, 0)) := setRow_heap _ _ _ _ _ _ HB04.out
  have K6 : Keep (fun _ => False) w (w4.setRow w.heap.size t) := HK4.out.trans (T := fun k => k = w.heap.size) ⟨rfl, rfl, rfl, by rw [size_setRow]; exact Nat.le_refl _, fun k _ hk => heap_setRow_other _ _ _ _ hk⟩ fun i e => .inr (by omega)
  refine bodyPost_ret (v := .agg t) ?_ rfl ⟨by rw [HT.out], K6⟩
  exact results_cell_row (P := Try.prog) (fn := Try.f60) rfl _ _ w.heap.size 99 t (0, 0) _ rfl H6 Try.underlying99 rfl HI4.out

end Go.Proofs.Ythfnpbkclmkkeaa
