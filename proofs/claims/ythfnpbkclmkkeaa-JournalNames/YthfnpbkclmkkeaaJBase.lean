/- Package journal: the base that a head tells. -/
import Derived.Test.YthfnpbkclmkkeaaJCmp
namespace Go.Proofs.Ythfnpbkclmkkeaa
open Go.RowKit Go.Lib

/-- what baseOf answers -/
def baseAns (o : Option Nat) : Ending := match o with | some b => .returned (.tuple #[.int .i64 (b : Nat), .bool true]) | none => .returned (.tuple #[.int .i64 0, .bool false])

set_option maxHeartbeats 1000000 in
set_option maxRecDepth 10000 in
theorem baseOf_any (seg : Nat) (a : Option Addr) (n c : Nat) (l : List Nat) (w : World) (h : Rd w a n l) :
    Calls Try.prog 50 #[.int .i64 (seg : Nat), .slice a n c] w fun e w' => e = baseAns (J.baseOf seg l) ∧ Keep (fun _ => False) w w' := by
  have hn := h.2.1
  have HH := hide h
  have HNl := hide h.1
  clear h
  by_cases hlt : n < 24
  · have HX : Hid (J.baseOf seg l = none) := by show _ = _; unfold J.baseOf; rw [if_neg (by have := HNl.out; omega)]
    go_enter Try.func50, Try.ntmps50
    go_wp2
    go_ret2
    exact ⟨by rw [HX.out]; rfl, Keep.refl _ _⟩
  · have hz := zero24
    have HZs : Hid ((B8 z24).toArray.size = 24) := by show _ = _; rw [B8_array_size]; rfl
    generalize (B8 z24).toArray = z at *
    have hb0 := heap_alloc_new w (.cells z 99)
    obtain ⟨w1, hcp, hb1, hk1⟩ := copy_whole (w.alloc (.cells z 99)) w.heap.size 24 24 c n a l z 99 hb0 HZs.out (HH.out.stay (S := fun _ => False) (Keep.alloc _ _ _) fun _ _ _ f => f) (by omega) (by decide)
    have HK1 : Hid (Keep (fun _ => False) w w1) := (Keep.alloc _ w _).trans hk1 fun i e => .inr (by omega)
    have hll : l.length = n := HNl.out.symm
    have hlt24 : (l.take 24).length = 24 := by rw [List.length_take]; omega
    have hrd := blk_rd hb1 (fun d hd => HH.out.2.2.1 d (List.mem_of_mem_take hd)) 12 8 (by omega) (by decide)
    have e8 : ((l.take 24).drop 12).take 8 = (l.drop 12).take 8 := by
      rw [List.drop_take, List.take_take]; rfl
    rw [e8] at hrd
    have HRd := hide (read_any8 _ 8 12 _ w1 hrd (by decide))
    have hbl := J.rd_lt ((l.drop 12).take 8) hrd.2.2.1
    rw [show ((l.drop 12).take 8).length = 8 by rw [List.length_take, List.length_drop]; omega] at hbl
    have HB1 := hide hb1
    have HX : Hid (J.baseOf seg l = if 1 ≤ J.rd ((l.drop 12).take 8) ∧ J.rd ((l.drop 12).take 8) ≤ 1099511627777 ∧ l.take 24 = J.headOf seg (J.rd ((l.drop 12).take 8)) then some (J.rd ((l.drop 12).take 8)) else none) := by
      show _ = _
      unfold J.baseOf
      have h24 : 24 ≤ l.length := by omega
      simp only [h24, true_and]
    have HHead := hide (fun (b : Nat) wx => headOf_any seg b wx)
    clear hb1 hrd e8 hk1
    generalize J.rd ((l.drop 12).take 8) = r at *
    generalize hl24 : l.take 24 = t at *
    clear hl24
    obtain ⟨b, hb⟩ : ∃ b, b = wrap64 (r : Int) := ⟨_, rfl⟩
    rw [← hb] at HRd
    have HB := hide hb
    clear hb
    go_enter Try.func50, Try.ntmps50
    go_upto_region 6 with (first
      | (refine wpList_alloc_row hz rfl rfl ?_)
      | (go_at_call 66
         refine HRd.out.mono ?_
         rintro e w2 ⟨rfl, rfl⟩))
    by_cases hA : b < 1
    · go_region
      go_wp2
      go_ret2
      refine ⟨?_, HK1.out.more (Keep.drew _ _)⟩
      rw [HX.out, if_neg (by have := HB.out; unfold wrap64 at this; omega)]
      rfl
    · by_cases hB : b > 1099511627777
      · go_region
        go_wp2
        go_ret2
        refine ⟨?_, HK1.out.more (Keep.drew _ _)⟩
        rw [HX.out, if_neg (by have := HB.out; unfold wrap64 at this; omega)]
        rfl
      · obtain rfl : b = (r : Int) := by have := HB.out; unfold wrap64 at this; omega
        have hu := Try.underlying99
        have hm := guard24
        have heq : ∀ w', (Op.equalIn 10000 99 (.agg (B8 t).toArray) (.agg (B8 (J.headOf seg r)).toArray)).run Try.prog w' = .ok (decide (t = J.headOf seg r)) w' := fun w' => eql_bytes 9998 w' _ 24 _ _ hu hlt24 (J.headOf_length _ _)
        have hi0 : (Try.prog.info? 99).map (·.size) = some (B8 t).length := by rw [B8_length, hlt24]; exact size24
        have hr1 : w2.rangeAt w.heap.size 0 (B8 t) := fun j v hv => by rw [Nat.zero_add]; exact cell_blk HB1.out j (by simpa using hv)
        have HHd := hide (HHead.out r)
        have hsz1 := HK1.out.size
        have hlt1 : w.heap.size < w2.heap.size := (Array.getElem?_eq_some_iff.1 HB1.out).1
        generalize hcs : B8 t = cs at *
        generalize hcd : (B8 (J.headOf seg r)).toArray = cd at *
        generalize hdd : decide (t = J.headOf seg r) = dd at *
        have HDD := hide hdd
        clear hdd hcs hcd HHead
        go_region_held3 (fun w' => w'.rangeAt w.heap.size 0 cs) (first | go_keep_ranges | (exact fun j v hv => hk3.cell (w := w2.drew) (hr1 j v hv) fun f => f))
          ((go_at_call 60
            refine (HHd.out _).mono ?_
            rintro e w3 ⟨rfl, hk3⟩))
        cases dd with
        | true =>
          go_wp2
          go_ret2
          refine ⟨?_, HK1.out.more ((Keep.drew _ _).more hk3)⟩
          rw [HX.out, if_pos ⟨by omega, by omega, of_decide_eq_true HDD.out⟩]
          rfl
        | false =>
          go_wp2
          go_ret2
          refine ⟨?_, HK1.out.more ((Keep.drew _ _).more hk3)⟩
          rw [HX.out, if_neg (fun h => of_decide_eq_false HDD.out h.2.2)]
          rfl

end Go.Proofs.Ythfnpbkclmkkeaa
