/- Package journal: the piece that a text begins with. -/
import Derived.Test.YthfnpbkclmkkeaaJPiece
namespace Go.Proofs.Ythfnpbkclmkkeaa
open Go.RowKit Go.Lib

/-- a part of a slice -/
theorem slice_cut (b off n c lo hi : Nat) (h : lo ≤ hi) (h2 : hi ≤ n) (hc : n ≤ c) :
    ∃ a', (∀ wx, (Instr.slice 32 (.slice (some ⟨b, off, none⟩) n c) (some (.int .i64 (lo : Int))) (some (.int .i64 (hi : Int))) none).run Try.prog wx = .ok (.slice (some a') (hi - lo) (c - lo)) wx) ∧ (lo < hi → a' = ⟨b, off + lo, none⟩) := by
  refine ⟨if c = lo then ⟨b, off, none⟩ else ⟨b, off + lo, none⟩, fun wx => ?_, fun h' => by rw [if_neg (by omega)]⟩
  by_cases e : c = lo
  · subst e
    obtain rfl : hi = c := by omega
    obtain rfl : n = hi := by omega
    go_simp
  · rw [if_neg e]
    go_simp
    omega
theorem slice_tail (b off n c lo : Nat) (h : lo ≤ n) (hc : n ≤ c) :
    ∃ a', (∀ wx, (Instr.slice 32 (.slice (some ⟨b, off, none⟩) n c) (some (.int .i64 (lo : Int))) none none).run Try.prog wx = .ok (.slice (some a') (n - lo) (c - lo)) wx) ∧ (lo < n → a' = ⟨b, off + lo, none⟩) := by
  refine ⟨if c = lo then ⟨b, off, none⟩ else ⟨b, off + lo, none⟩, fun wx => ?_, fun h' => by rw [if_neg (by omega)]⟩
  by_cases e : c = lo
  · subst e
    obtain rfl : n = c := by omega
    go_simp
  · rw [if_neg e]
    go_simp

theorem Rd.cut {w : World} {b off n : Nat} {l : List Nat} (h : Rd w (some ⟨b, off, none⟩) n l) (lo m : Nat) (hm : lo + m ≤ n) {a' : Addr} (ha : 0 < m → a' = ⟨b, off + lo, none⟩) : Rd w (some a') m ((l.drop lo).take m) := by
  obtain ⟨h1, h2, h3, h4⟩ := h
  refine ⟨by rw [List.length_take, List.length_drop]; omega, by omega, fun d hd => h3 d (List.mem_of_mem_drop (List.mem_of_mem_take hd)), ?_⟩
  rcases Nat.eq_zero_or_pos m with h0 | h0
  · exact .inl h0
  · rcases h4 with h4 | ⟨b', off', e, h4⟩
    · omega
    · injection e with e; injection e with e1 e2; subst e1 e2
      refine .inr ⟨b, off + lo, by rw [ha h0], fun i hi => ?_⟩
      have := h4 (lo + i) (by omega)
      rw [show off + (lo + i) = off + lo + i by omega] at this
      rw [this]
      simp [List.getD_eq_getElem?_getD, List.getElem?_drop, hi]

/-- what firstPiece answers -/
def FirstAs (w : World) (o : Option (Nat × List Nat)) (e : Ending) (w' : World) : Prop :=
  Keep (fun _ => False) w w' ∧ ((o = none ∧ e = .returned (.tuple #[.int .u8 0, .slice none 0 0, .bool false])) ∨
    ∃ k p a' n' c', o = some (k, p) ∧ e = .returned (.tuple #[.int .u8 (k : Nat), .slice (some a') n' c', .bool true]) ∧ Rd w' (some a') n' p)

set_option maxHeartbeats 2000000 in
set_option maxRecDepth 10000 in
theorem firstPiece_any (a : Option Addr) (n c number : Nat) (l : List Nat) (w : World) (h : Rd w a n l) (hc : n ≤ c) (hn : n ≤ 35184372088832) :
    Calls Try.prog 67 #[.slice a n c, .int .i64 (number : Nat)] w (FirstAs w (J.firstPiece l number)) := by
  have HH := hide h
  have HNl := hide h.1
  clear h
  by_cases hlt : n < 17
  · have HX : Hid (J.firstPiece l number = none) := by show _ = _; unfold J.firstPiece; rw [if_neg (by have := HNl.out; omega)]
    go_enter Try.func67, Try.ntmps67
    go_wp2
    go_ret3
    exact ⟨Keep.refl _ _, .inl ⟨HX.out, rfl⟩⟩
  · obtain ⟨b, off, rfl, hrow⟩ := HH.out.2.2.2.resolve_left (by omega)
    clear hrow
    have hz := zero17
    have HZs : Hid ((B8 z17).toArray.size = 17) := by show _ = _; rw [B8_array_size]; rfl
    generalize (B8 z17).toArray = z at *
    have hb0 := heap_alloc_new w (.cells z 97)
    obtain ⟨w1, hcp, hb1, hk1⟩ := copy_whole (w.alloc (.cells z 97)) w.heap.size 17 17 c n _ l z 97 hb0 HZs.out (HH.out.stay (S := fun _ => False) (Keep.alloc _ _ _) fun _ _ _ f => f) (by omega) (by decide)
    have HK1 : Hid (Keep (fun _ => False) w w1) := (Keep.alloc _ w _).trans hk1 fun i e => .inr (by omega)
    have hll : l.length = n := HNl.out.symm
    have hlt17 : (l.take 17).length = 17 := by rw [List.length_take]; omega
    have hlow : ∀ d ∈ l.take 17, d < 256 := fun d hd => HH.out.2.2.1 d (List.mem_of_mem_take hd)
    have hrd := blk_rd hb1 hlow 0 4 (by omega) (by decide)
    have e4 : ((l.take 17).drop 0).take 4 = l.take 4 := by
      rw [List.drop_zero, List.take_take]; rfl
    rw [e4] at hrd
    have HRd := hide (fun wx (k : Keep (fun _ => False) w1 wx) => read_any8 _ 4 17 _ wx (hrd.stay (S := fun _ => False) k fun _ _ _ f => f) (by decide))
    have hbl := J.rd_lt (l.take 4) hrd.2.2.1
    rw [show (l.take 4).length = 4 by rw [List.length_take]; omega] at hbl
    have c4 := cell_blk hb1 4 (v := .int .u8 ((l.getD 4 0 : Nat) : Int)) (by
      rw [List.getElem?_toArray, B8_at _ 4 (by omega)]
      simp [List.getD_eq_getElem?_getD])
    have hkd : l.getD 4 0 < 256 := by
      have : l.getD 4 0 = l[4]'(by omega) := by simp [List.getD_eq_getElem?_getD, show 4 < l.length by omega]
      rw [this]
      exact HH.out.2.2.1 _ (List.getElem_mem _)
    have HB1 := hide hb1
    have HMo := hide (fun wx => most_any (l.getD 4 0) hkd wx)
    have HX : Hid (J.firstPiece l number = if ¬ J.most (l.getD 4 0) < (J.rd (l.take 4) : Nat) ∧ J.rd (l.take 4) ≤ n - 17 ∧ l.take 17 = J.leadOf (l.getD 4 0) number ((l.drop 17).take (J.rd (l.take 4))) then some (l.getD 4 0, (l.drop 17).take (J.rd (l.take 4))) else none) := by
      show _ = _
      unfold J.firstPiece
      have h17 : 17 ≤ n := by omega
      simp only [hll, h17, true_and]
    have hwz : wrap64 ((J.rd (l.take 4) : Nat) : Int) = (J.rd (l.take 4) : Nat) := wrap_id (by omega) (by omega)
    rw [hwz] at HRd
    clear hb1 hrd e4 hk1 hlow hwz
    generalize J.rd (l.take 4) = sz at *
    generalize hl17 : l.take 17 = t at *
    generalize l.getD 4 0 = kind at *
    clear hl17
    go_enter Try.func67, Try.ntmps67
    go_upto_region 5 with (first
      | (refine wpList_alloc_row hz rfl rfl ?_))
    go_region_held3 (fun w' => w'.cell? ⟨w.heap.size, 4, none⟩ = some (.int .u8 (kind : Nat))) (first | exact c4 | go_keep)
      ((go_at_call 66
        refine (HRd.out _ (Keep.drew _ _)).mono ?_
        rintro e w2 ⟨rfl, rfl⟩))
    have HKd : Hid (Keep (fun _ => False) w w1.drew) := HK1.out.more (Keep.drew _ _)
    have hr1 : w1.drew.rangeAt w.heap.size 0 (B8 t) := fun j v hv => by rw [Nat.zero_add]; exact cell_blk (w := w1.drew) HB1.out j (by simpa using hv)
    have HRt := hide (HH.out.stay (S := fun _ => False) HKd.out fun _ _ _ f => f)
    generalize w1.drew = w2 at *
    clear HB1 HK1 HRd c4 hcp
    by_cases hA : J.most kind < (sz : Int)
    · have HA := hide hA
      generalize J.most kind = mk at *
      have hA' : (sz : Int) > mk := hA
      go_wp2_with (go_at_call 75; refine (HMo.out _).mono ?_; rintro e w3 ⟨rfl, rfl⟩)
      go_ret3
      refine ⟨HKd.out, .inl ⟨?_, rfl⟩⟩
      rw [HX.out]
      exact if_neg fun h => by have h1 := h.1; have h2 := HA.out; omega
    · have HA := hide hA
      have hmb : J.most kind ≤ 8388608 := by rcases J.most_cases kind with ⟨e, _⟩ | ⟨e, _⟩ | ⟨e, _⟩ <;> omega
      have HMb := hide hmb
      have hszb : (sz : Int) ≤ 8388608 := by omega
      generalize hmk : J.most kind = mk at *
      have hA' : ¬ (sz : Int) > mk := hA
      have HW17 : Hid (wrap64 ((n : Int) - 17) = ((n - 17 : Nat) : Int)) := by show _ = _; rw [wrap_id (by omega) (by omega)]; omega
      clear hmk hA hmb
      by_cases hB : sz ≤ n - 17
      · have hB' : ¬ (sz : Int) > ((n - 17 : Nat) : Int) := by omega
        have HWs : Hid (wrap64 (17 + (sz : Int)) = ((17 + sz : Nat) : Int)) := by show _ = _; rw [wrap_id (by omega) (by omega)]; omega
        obtain ⟨a', hif, ha'⟩ : ∃ a' : Addr, (if c = 17 then (some ⟨b, off, none⟩ : Option Addr) else some ⟨b, off + 17, none⟩) = some a' ∧ (0 < sz → a' = ⟨b, off + 17, none⟩) := ⟨if c = 17 then ⟨b, off, none⟩ else ⟨b, off + 17, none⟩, by split <;> rfl, fun h => by rw [if_neg (by omega)]⟩
        have h1717 : 17 + sz - 17 = sz := by omega
        have hrp : Rd w2 (some a') sz ((l.drop 17).take sz) := HRt.out.cut 17 sz (by omega) ha'
        have HRp := hide hrp
        have HLd := hide (leadOf_any kind number (some a') sz (c - 17) _ w2.drew (hrp.stay (S := fun _ => False) (Keep.drew _ _) fun _ _ _ f => f) (fun e => by cases e) (by omega) hkd)
        clear hrp ha'
        have hu := Try.underlying97
        have hm := guard17
        generalize (l.drop 17).take sz = p at *
        have heq : ∀ w', (Op.equalIn 10000 97 (.agg (B8 t).toArray) (.agg (B8 (J.leadOf kind number p)).toArray)).run Try.prog w' = .ok (decide (t = J.leadOf kind number p)) w' := fun w' => eql_bytes 9998 w' _ 17 _ _ hu hlt17 (J.leadOf_length _ _ _)
        have hi0 : (Try.prog.info? 97).map (·.size) = some (B8 t).length := by rw [B8_length, hlt17]; exact size17
        generalize hcs : B8 t = cs at *
        generalize hcd : (B8 (J.leadOf kind number p)).toArray = cd at *
        generalize hdd : decide (t = J.leadOf kind number p) = dd at *
        have HDD := hide hdd
        have HB := hide hB
        clear hdd hcs hcd hB
        have hws := HWs.out
        have hw17 := HW17.out
        go_upto_region 9 with (go_at_call 75; refine (HMo.out _).mono ?_; rintro e w3 ⟨rfl, rfl⟩)
        clear hif
        go_region_held3 (fun w' => w'.rangeAt w.heap.size 0 cs) (first | go_keep_ranges | (exact fun j v hv => hk4.cell (w := w3.drew) (hr1 j v hv) fun f => f))
          ((go_at_call 59
            refine HLd.out.mono ?_
            rintro e w4 ⟨rfl, hk4⟩))
        have k4 : Keep (fun _ => False) w3 w4 := (Keep.drew _ _).more hk4
        cases dd with
        | true =>
          go_wp2
          go_ret3
          refine ⟨HKd.out.more k4, .inr ⟨kind, p, a', sz, c - 17, ?_, rfl, HRp.out.stay (S := fun _ => False) k4 fun _ _ _ f => f⟩⟩
          rw [HX.out]
          exact if_pos ⟨HA.out, HB.out, of_decide_eq_true HDD.out⟩
        | false =>
          go_wp2
          go_ret3
          refine ⟨HKd.out.more k4, .inl ⟨?_, rfl⟩⟩
          rw [HX.out]
          exact if_neg fun h => of_decide_eq_false HDD.out h.2.2
      · have HB := hide hB
        have hB' : (sz : Int) > ((n - 17 : Nat) : Int) := by omega
        clear hB
        have hw17 := HW17.out
        go_wp2_with (go_at_call 75; refine (HMo.out _).mono ?_; rintro e w3 ⟨rfl, rfl⟩)
        go_ret3
        refine ⟨HKd.out, .inl ⟨?_, rfl⟩⟩
        rw [HX.out]
        exact if_neg fun h => HB.out h.2.1

end Go.Proofs.Ythfnpbkclmkkeaa
