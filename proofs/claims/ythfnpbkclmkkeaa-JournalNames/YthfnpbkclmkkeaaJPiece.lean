/- Package journal: a piece; the piece that a text begins with. -/
import Derived.Test.YthfnpbkclmkkeaaJLead
import Derived.Test.YthfnpbkclmkkeaaDNew
namespace Go.Proofs.Ythfnpbkclmkkeaa
open Go.RowKit Go.Lib

set_option maxHeartbeats 1000000 in
set_option maxRecDepth 10000 in
theorem pieceOf_any (kind number : Nat) (a : Option Addr) (n c : Nat) (l : List Nat) (w : World) (h : Rd w a n l) (h0 : a = none → c = 0) (hn : n ≤ 35184372088832) (hkd : kind < 256) :
    Calls Try.prog 42 #[.int .u8 (kind : Nat), .int .i64 (number : Nat), .slice a n c] w (LaidJ w (J.pieceOf kind number l)) := by
  have HLd := hide (leadOf_any kind number a n c l w h h0 hn hkd)
  have hz := zero17
  have hzs : (B8 z17).toArray.size = (B8 (J.leadOf kind number l)).toArray.size := by rw [B8_array_size, B8_array_size, J.leadOf_length]; rfl
  have HI4 : Hid ((Try.prog.info? 97).map (·.size) = some (B8 (J.leadOf kind number l)).toArray.size) := info17 (J.leadOf_length _ _ _)
  have HA4 := hide (B8_all (J.leadOf kind number l))
  have HRl : Hid (∀ wx g, wx.heap[g]? = some (.cells (B8 (J.leadOf kind number l)).toArray 97 (0, 0)) → RdV wx (.slice (some ⟨g, 0, none⟩) 17 17) (J.leadOf kind number l)) := fun wx g hb => by
    have hr := blk_rd hb (fun d hd => J.leadOf_lt hkd _ _ d hd) 0 17 (by simp [J.leadOf_length]) (by decide)
    rw [List.drop_zero, List.take_of_length_le (by rw [J.leadOf_length]; exact Nat.le_refl _)] at hr
    exact ⟨_, _, _, rfl, hr, fun e => by cases e⟩
  generalize (B8 z17).toArray = z at *
  generalize (B8 (J.leadOf kind number l)).toArray = t at *
  have HLy : Hid (∀ w1, Keep (fun _ => False) w w1 → Calls Try.prog 43 #[.slice (some ⟨w1.heap.size + 1, 0, none⟩) 2 2] (((w1.alloc (.cells z 97)).setRow w1.heap.size t).alloc (.cells #[.slice (some ⟨w1.heap.size, 0, none⟩) 17 17, .slice a n c] 32)) (LaidJ w (J.pieceOf kind number l))) := fun w1 k1 => by
    obtain ⟨W1, hW1⟩ : ∃ W1, W1 = (w1.alloc (.cells z 97)).setRow w1.heap.size t := ⟨_, rfl⟩
    have hb1 : W1.heap[w1.heap.size]? = some (.cells t 97 (0, 0)) := by rw [hW1]; exact setRow_heap _ _ _ _ _ _ (heap_alloc_new _ _)
    have hs1 : W1.heap.size = w1.heap.size + 1 := by rw [hW1, size_setRow, alloc_size]
    have kW1 : Keep (fun _ => False) w1 W1 := by rw [hW1]; exact (Keep.alloc _ _ _).trans (T := fun k => k = w1.heap.size) ⟨rfl, rfl, rfl, by rw [size_setRow]; exact Nat.le_refl _, fun k _ hk => heap_setRow_other _ _ _ _ hk⟩ fun i e => .inr (by omega)
    obtain ⟨W, hW⟩ : ∃ W, W = W1.alloc (.cells #[.slice (some ⟨w1.heap.size, 0, none⟩) 17 17, .slice a n c] 32) := ⟨_, rfl⟩
    have kw : Keep (fun _ => False) w W1 := k1.more kW1
    have hr := two_parts hW (HRl.out W1 w1.heap.size hb1) ⟨a, n, c, rfl, h.stay (S := fun _ => False) kw fun _ _ _ f => f, h0⟩
    have kW : Keep (fun _ => False) w W := by rw [hW]; exact kw.more (Keep.alloc _ _ _)
    have hfl : [J.leadOf kind number l, l].flatten = J.pieceOf kind number l := by simp [J.pieceOf]
    have hll : (J.pieceOf kind number l).length = 17 + n := by rw [J.pieceOf_length, h.1]
    have := jlay_any (some ⟨W1.heap.size, 0, none⟩) 2 2 _ W hr (by rw [hfl, hll]; omega)
    rw [hfl, hs1] at this
    rw [← hW1, ← hW]
    exact this.mono fun e w' ⟨v, e1, hrow, hk, hg⟩ => ⟨v, e1, hrow, kW.more hk, fun g e => Nat.le_trans kW.size (hg g e)⟩
  clear h h0 HRl
  have HZ := hide hz
  have HZs := hide hzs
  clear hz hzs
  go_enter Try.func42, Try.ntmps42
  go_wp2_with (first
    | (refine wpList_alloc_row HZ.out rfl rfl ?_)
    | (refine wpList_store_row rfl 97 _ _ rfl _ t rfl rfl 97 z ?s1 HI4.out HZs.out HA4.out ?_; case s1 => exact heap_alloc_new _ _)
    | (go_at_call 59
       refine HLd.out.mono ?_
       rintro e w1 ⟨rfl, hk1⟩
       have HK1 := hide hk1
       clear hk1)
    | (go_at_call 43
       refine (HLy.out w1 HK1.out).mono ?_
       rintro e w2 ⟨v, rfl, hr⟩
       have HR := hide hr
       clear hr))
  go_ret
  exact ⟨v, rfl, HR.out⟩

theorem most_any (kind : Nat) (hk : kind < 256) (w : World) : Calls Try.prog 75 #[.int .u8 (kind : Nat)] w fun e w' => e = .returned (.int .i64 (J.most kind)) ∧ w' = w := by
  rcases J.most_cases kind with ⟨e, rfl⟩ | ⟨e, rfl⟩ | ⟨e, h1, h2⟩
  · rw [e]
    go_enter Try.func75, Try.ntmps75
    go_wp2
    go_ret
    exact ⟨rfl, rfl⟩
  · rw [e]
    go_enter Try.func75, Try.ntmps75
    go_wp2
    go_ret
    exact ⟨rfl, rfl⟩
  · rw [e]
    have e1 : ((kind : Int) == 1) = false := by simp; omega
    have e2 : ((kind : Int) == 2) = false := by simp; omega
    clear h1 h2
    go_enter Try.func75, Try.ntmps75
    go_wp2
    go_ret
    exact ⟨rfl, rfl⟩

end Go.Proofs.Ythfnpbkclmkkeaa
