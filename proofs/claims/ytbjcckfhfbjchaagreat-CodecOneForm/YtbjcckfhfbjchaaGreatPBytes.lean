/- Package pack: numberBytes, bytes.Clone, NewWriter, Done. -/
import Derived.Test.YtbjcckfhfbjchaaGreatPWrite
import Derived.WalkSpells
namespace Go.Proofs.YtbjcckfhfbjchaaGreat
open Go.RowKit

theorem or128 (n d : Nat) (hd : d = n % 128 + 128) : bits .or .u8 ((n : Int) % 256) 128 = (d : Int) := by
  have h := u8_or_nat (n % 256) 128 (by omega) (by decide)
  have e : n % 256 ||| 128 = d := by
    have h1 : n % 256 ||| 128 = (n % 256) % 128 ||| 128 := by
      have h2 : ∀ m : Nat, m < 256 → m ||| 128 = m % 128 ||| 128 := by decide +kernel
      exact h2 _ (by omega)
    have h3 : ∀ m : Nat, m < 128 → m ||| 128 = m + 128 := by decide +kernel
    rw [h1, h3 _ (by omega)]
    omega
  rw [e] at h
  exact h

/-- one byte in a new block -/
theorem rd_one (w : World) (d : Nat) (hd : d < 256) : Rd (w.alloc (.cells #[.int .u8 (d : Int)] 5)) (some ⟨w.heap.size, 0, none⟩) 1 [d] := by
  refine ⟨rfl, by decide, by simpa using hd, .inr ⟨_, _, rfl, fun i hi => ?_⟩⟩
  obtain rfl : i = 0 := by omega
  rw [cell_of_row _ _ _ _ _ _ (heap_alloc_new w _)]
  rfl

theorem below_grown {w wr w1 : World} {row : Option Nat} (hb : Below w.heap.size w wr) (o : Obj) (hg : (wr.alloc o).grownBy w1 row) (hr : ∀ k, row = some k → w.heap.size ≤ k) : Below w.heap.size w w1 :=
  (hb.alloc hb.size o).grown hg (by have := hb.size; simp; omega) hr

set_option maxRecDepth 10000 in
set_option maxHeartbeats 400000 in
theorem numberBytes_any (n0 : Nat) (hn0 : n0 ≤ 9223372036854775807) (w : World) :
    Calls Tryz.prog 80 #[.int .i64 (n0 : Nat)] w fun en w' => ∃ a c, en = .returned (.slice a (K.num n0).length c) ∧ Rd w' a (K.num n0).length (K.num n0) ∧ (a = none → c = 0) ∧ Below w.heap.size w w' := by
  have HN := hide (K.num_len9 hn0)
  go_enter Tryz.func80, Tryz.ntmps80
  go_wp2
  go_loopw [0, 3] (fun i v wx => ∃ (n : Nat) (l : List Nat), i = .int .i64 (n : Nat) ∧ n ≤ 9223372036854775807 ∧ l ++ K.num n = K.num n0 ∧ (∀ d ∈ l, d < 256) ∧ wx.ownsRow w.heap.size 5 1 v l.length (B8 l) ∧ Below w.heap.size w wx) (fun i _ _ => (intOf i).toNat)
  case atStart => exact ⟨n0, [], rfl, hn0, rfl, (fun d hd => by cases hd), World.ownsRow_nil _ _ _ _, Below.refl _ _⟩
  case round =>
    obtain ⟨n, l, rfl, hn, hl, hd, ho, hb⟩ := hrel
    have hll : l.length ≤ 9 := by have := HN.out; have h2 := congrArg List.length hl; rw [List.length_append] at h2; omega
    have HL := hide hl
    have HD := hide hd
    have HO := hide ho
    have HB := hide hb
    have HR := fun d hd => hide (rd_one wr d hd)
    have HS : Hid (w.heap.size ≤ (wr.alloc (.cells #[.int .u8 0] 5)).heap.size) := by show _ ≤ _; have := hb.size; simp; omega
    clear hl hd ho hb
    by_cases hlt : n < 128
    · have hm : (n : Int) % 256 = (n : Int) := by omega
      go_wp2_with (at_builtin; refine wpList_append_rd rfl _ _ rfl _ l w.heap.size rfl (HO.out.alloc _) _ 1 1 [n] rfl (HR n (by omega)).out (fun e => by cases e) (by omega) (by have := HS.out; simp at this ⊢; omega) ?_; intro v' w2 ho2 hg hnb; obtain ⟨a', c', hv'⟩ := ownsRow_shape ho2; subst hv'; have HO2 := hide ho2; have HG := hide hg; clear ho2 hg hnb)
      go_ret
      have hnum : l ++ [n] = K.num n0 := by rw [← HL.out, K.num_small hlt]
      have ho2 := HO2.out
      rw [hnum] at ho2
      obtain ⟨a2, c2, h1, h2, h3, h4, h5⟩ := ownsRow_rd ho2 (K.num_lt n0) (by have := HN.out; omega)
      injection h1 with e1 e2 e3
      subst e1; subst e3
      exact ⟨a', c', by rw [← hnum]; simp, h2, h3, below_grown HB.out _ HG.out fun k hk => (HO.out.lt k hk).1⟩
    · obtain ⟨d, hd⟩ : ∃ d, d = n % 128 + 128 := ⟨_, rfl⟩
      have hor := or128 n d hd
      have HDD := hide hd
      have hd8 : d < 256 := by omega
      clear hd
      go_wp2_with (at_builtin; refine wpList_append_rd rfl _ _ rfl _ l w.heap.size rfl (HO.out.alloc _) _ 1 1 [d] rfl (HR d hd8).out (fun e => by cases e) (by omega) (by have := HS.out; simp at this ⊢; omega) ?_; intro v' w2 ho2 hg hnb; have HO2 := hide ho2; have HG := hide hg; clear ho2 hg hnb)
      go_roundw
      case rel =>
        refine ⟨n / 128, l ++ [d], by go_num, by omega, ?_, ?_, HO2.out, below_grown HB.out _ HG.out fun k hk => (HO.out.lt k hk).1⟩
        · rw [← HL.out, K.num_big (n := n) (by omega), HDD.out, List.append_assoc]; rfl
        · intro x hx
          rcases List.mem_append.1 hx with hx | hx
          · exact HD.out x hx
          · simp at hx; omega
      case measure => simp [intOf]; omega

/-- []byte{} -/
theorem ownsRow_empty (w : World) : (w.alloc (.cells #[] 5)).ownsRow w.heap.size 5 1 (.slice (some ⟨w.heap.size, 0, none⟩) 0 0) 0 (B8 []) :=
  World.ownsRow_made (e := 5) (size := 1) w #[] 0 (Nat.le_refl _) (Nat.zero_le _) rfl

set_option maxRecDepth 10000 in
theorem clone_any (a : Option Addr) (n c : Nat) (l : List Nat) (w : World) (h : Rd w a n l) (h0 : a = none → c = 0) (hn : n ≤ 140737488355328) :
    Calls Tryz.prog 77 #[.slice a n c] w fun en w' => ∃ v, en = .returned v ∧ w'.ownsRow w.heap.size 5 1 v l.length (B8 l) ∧ Below w.heap.size w w' := by
  cases a with
  | none =>
    have hn0 : n = 0 := h.2.2.2.elim id (fun ⟨b, off, e, _⟩ => by cases e)
    subst hn0
    have hl : l = [] := List.eq_nil_of_length_eq_zero h.1.symm
    subst hl
    rw [h0 rfl]
    clear h h0
    have hq := fun w => Lib.run_eql_slice_nil (P := Tryz.prog) w 24 5 none 0 0 0 0 Tryz.underlying24
    go_enter Tryz.func77, Tryz.ntmps77
    go_wp2
    go_ret
    exact ⟨_, rfl, World.ownsRow_nil _ _ _ _, Below.refl _ _⟩
  | some ad =>
    have hb0 := (Below.refl w.heap.size w).alloc (Nat.le_refl _) (.cells #[] 5)
    have HR := hide (h.keep hb0)
    have HO := hide (ownsRow_empty w)
    clear h h0 hb0
    have hq := fun w => Lib.run_eql_slice_nil (P := Tryz.prog) w 24 5 (some ad) n c 0 0 Tryz.underlying24
    go_enter Tryz.func77, Tryz.ntmps77
    go_wp2_with (at_builtin; refine wpList_append_rd rfl _ _ rfl _ [] w.heap.size rfl HO.out (some ad) n c l rfl HR.out (fun e => by cases e) (by simpa using hn) (by simp) ?_; intro v' w2 ho2 hg hnb; rw [List.nil_append] at ho2; obtain ⟨a', c', hv'⟩ := ownsRow_shape ho2; have HO2 := hide ho2; have HG := hide hg; have HV := hide hv'; clear ho2 hg hnb hv')
    go_ret
    exact ⟨v', rfl, HO2.out, below_grown (Below.refl _ _) _ HG.out fun k hk => (HO.out.lt k hk).1⟩

theorem max_run (x y : Int) (q : Int) (h : (if x < y then y else x) = q) : ∀ (ts : Array TypeId) (t : TypeId) (w : World), (Builtin.max_ ts t #[.int .i64 x, .int .i64 y]).run Tryz.prog w = .ok (.int .i64 q) w := fun ts t w => by
  rw [run_max_int2, h]
theorem min_run (x y : Int) (q : Int) (h : (if y < x then y else x) = q) : ∀ (ts : Array TypeId) (t : TypeId) (w : World), (Builtin.min_ ts t #[.int .i64 x, .int .i64 y]).run Tryz.prog w = .ok (.int .i64 q) w := fun ts t w => by
  rw [run_min_int2, h]

/-- how many bytes a writer takes -/
def room (m : Int) : Nat := (min (max m 0) 16777216).toNat

theorem NewWriter_any (m : Int) (w : World) :
    Calls Tryz.prog 40 #[.int .i64 m] w fun en w' => en = .returned (.pointer (some ⟨w.heap.size, 0, none⟩)) ∧ WAt (fun k => w.heap.size ≤ k) w w.heap.size ⟨[], room m, 0⟩ w' := by
  have h1 := max_run m 0 (max m 0) (by omega)
  have h2 := min_run (max m 0) 16777216 ((room m : Nat) : Int) (by unfold room; omega)
  have HT : Hid (room m ≤ 16777216) := by show _ ≤ _; unfold room; omega
  generalize max m 0 = m1 at *
  generalize room m = m2 at *
  go_enter Tryz.func40, Tryz.ntmps40
  go_wp2
  go_ret
  refine ⟨rfl, Keep.alloc _ _ _, .slice none 0 0, ⟨heap_alloc_new w _, World.ownsRow_nil _ _ _ _, (fun d hd => by cases hd), Nat.zero_le _, HT.out⟩, ?_⟩
  rintro k (rfl | h)
  · exact .inl (Nat.le_refl _)
  · cases h

/-- bytes, not too many -/
def Fine (l : List Nat) : Prop := (∀ d ∈ l, d < 256) ∧ l.length ≤ 16777216

/-- all the bytes that Done tells -/
def told (s : K.WS) : List Nat := if s.fault = 0 then s.laid else []

set_option maxRecDepth 10000 in
theorem Done_any (S : Nat → Prop) (w0 : World) (p : Nat) (s : K.WS) (w : World) (h : WAt S w0 p s w) :
    Calls Tryz.prog 42 #[.pointer (some ⟨p, 0, none⟩)] w fun en w' => ∃ v, en = .returned (.tuple #[v, .int .i64 (s.fault : Nat)]) ∧ w'.ownsRow w.heap.size 5 1 v (told s).length (B8 (told s)) ∧ Below w.heap.size w w' ∧ Fine (told s) := by
  obtain ⟨v, hv, hs⟩ := h.wr
  have hlen : s.laid.length ≤ 16777216 := Nat.le_trans hv.len hv.top
  obtain ⟨a, c, rfl, hr, h0, _⟩ := ownsRow_rd hv.row hv.byt (by omega)
  have HFN : Hid (Fine (told s)) := by
    show Fine (told s)
    unfold told
    split
    · exact ⟨hv.byt, hlen⟩
    · exact ⟨fun d hd => (by cases hd), Nat.zero_le _⟩
  have c0 := cell0 hv.blk
  have c2 := cell2 hv.blk
  have HR := hide hr
  have H0 := hide h0
  clear hv hs h hr h0
  unfold told at HFN ⊢
  by_cases hz : s.fault = 0
  · rw [if_pos hz] at HFN ⊢
    rw [hz]
    rw [hz] at c2
    have c2' : w.cell? ⟨p, 2, none⟩ = some (.int .i64 0) := c2
    clear c2
    go_enter Tryz.func42, Tryz.ntmps42
    go_wp2_with fail
    refine (clone_any a s.laid.length c s.laid _ HR.out H0.out (by omega)).mono ?_
    rintro e w1 ⟨v, rfl, ho, hb⟩
    have HO := hide ho
    clear ho
    go_wp2
    go_ret2
    exact ⟨v, rfl, HO.out, hb, HFN.out⟩
  · rw [if_neg hz] at HFN ⊢
    have hz' : ((s.fault : Nat) : Int) ≠ 0 := by omega
    go_enter Tryz.func42, Tryz.ntmps42
    go_wp2
    go_region
    all_goals go_wp2
    all_goals go_ret2
    all_goals exact ⟨_, rfl, World.ownsRow_nil _ _ _ _, (Below.refl _ _).drew, HFN.out⟩

end Go.Proofs.YtbjcckfhfbjchaaGreat
