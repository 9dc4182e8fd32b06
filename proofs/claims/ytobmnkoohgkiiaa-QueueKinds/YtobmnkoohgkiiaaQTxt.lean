/- Chapter 8's laws: a number as a text of eight bytes, and back. -/
import Derived.Test.YtobmnkoohgkiiaaQLaw
import Derived.Laws.BytesArg
import Derived.Handy
namespace Go.Proofs.Ytobmnkoohgkiiaa
namespace Qu
open Go.RowKit

theorem info_u8 : (Try.prog.info? 5).map (fun i => (i.zero, i.size, i.bytes)) = some (some (.int .u8 0), 1, 1) := by kernel_rfl
def z8 : Array Value := #[.int .u8 0, .int .u8 0, .int .u8 0, .int .u8 0, .int .u8 0, .int .u8 0, .int .u8 0, .int .u8 0]
theorem made8 (u : World) : (Instr.makeSlice 102 (.int .i64 8) (.int .i64 8)).run Try.prog u = .ok (.slice (some ⟨u.heap.size, 0, none⟩) 8 8) (u.alloc (.cells z8 5)) := by
  obtain ⟨i0, hi, hz0, hz1, hz2⟩ := info_parts info_u8
  have h := run_make (P := Try.prog) (w := u) 102 5 i0 (.int .u8 0) Try.underlying102 hi hz0 .i64 .i64 8 8 (by omega) (Int.le_refl _) (by rw [hz2]; omega) (by omega)
  rw [hz1, show madeCells (Value.int .u8 0).cells ((8 : Int).toNat * 1) = z8 from by kernel_rfl] at h
  exact h

/-- a number's bytes, the lowest first; its text -/
def by8 (n : Int) : List Int := [n % 256, n / 256 % 256, n / 65536 % 256, n / 16777216 % 256, n / 4294967296 % 256, n / 1099511627776 % 256, n / 281474976710656 % 256, n / 72057594037927936 % 256]
def tx (n : Int) : ByteArray := strOfNums (by8 n)
theorem tx_size (n : Int) : (tx n).size = 8 := strOfNums_size _

set_option maxRecDepth 100000 in
set_option maxHeartbeats 1000000 in
theorem text_any (n : Int) (w : World) :
    Calls Try.prog 30 #[.int .i64 n] w fun e w' => e = .returned (.string (tx n)) ∧ Keep (fun _ => False) w w' := by
  have hm := made8
  unfold z8 at hm
  have hcv : (convert 102 9 (.slice (some ⟨w.heap.size, 0, none⟩) 8 8)).run Try.prog (w.alloc (.cells #[.int .u8 (n % 256), .int .u8 (n / 256 % 256), .int .u8 (n / 65536 % 256), .int .u8 (n / 16777216 % 256), .int .u8 (n / 4294967296 % 256), .int .u8 (n / 1099511627776 % 256), .int .u8 (n / 281474976710656 % 256), .int .u8 (n / 72057594037927936 % 256)] 5)) = .ok (.string (tx n)) (w.alloc (.cells #[.int .u8 (n % 256), .int .u8 (n / 256 % 256), .int .u8 (n / 65536 % 256), .int .u8 (n / 16777216 % 256), .int .u8 (n / 4294967296 % 256), .int .u8 (n / 1099511627776 % 256), .int .u8 (n / 281474976710656 % 256), .int .u8 (n / 72057594037927936 % 256)] 5)) :=
    run_convert_bytes_arg _ 102 5 Try.underlying102 Try.underlying5 w.heap.size 0 8 8 (by8 n) rfl (fun i hi => by
      rw [Nat.zero_add]
      refine cell_blk (heap_alloc_new _ _) i ?_
      have h : i = 0 ∨ i = 1 ∨ i = 2 ∨ i = 3 ∨ i = 4 ∨ i = 5 ∨ i = 6 ∨ i = 7 := by omega
      rcases h with rfl | rfl | rfl | rfl | rfl | rfl | rfl | rfl <;> rfl) 9 Try.underlying9
  go_enter Try.func30, Try.ntmps30
  go_wp2
  go_rounds 9
  go_ret
  exact ⟨rfl, Keep.alloc _ _ _⟩

set_option maxRecDepth 100000 in
theorem or_step (v b k m : Nat) (hm : 2 ^ k = m) (hv : v < m) (hb : b < 256) (hk : m ≤ 72057594037927936) : bits .or .i64 (v : Int) (wrap64 ((b : Int) * (m : Int))) = wrap64 ((v : Int) + (b : Int) * (m : Int)) := by
  subst hm
  have hbm : b * 2 ^ k < 18446744073709551616 := Nat.lt_of_le_of_lt (Nat.mul_le_mul (Nat.le_of_lt_succ (show b < 256 from hb)) hk) (by decide)
  have hcast : ((b : Int) * ((2 ^ k : Nat) : Int)) = ((b * 2 ^ k : Nat) : Int) := by rw [Int.natCast_mul]
  rw [hcast]
  have e1 : (BitVec.ofInt 64 (v : Int)).toNat = v := ofInt_u64 v (by omega)
  have e2 : (BitVec.ofInt 64 (wrap64 ((b * 2 ^ k : Nat) : Int))).toNat = b * 2 ^ k := by
    rw [BitVec.toNat_ofInt]
    generalize b * 2 ^ k = t at hbm
    unfold wrap64
    omega
  have e3 : v ||| b * 2 ^ k = v + b * 2 ^ k := by
    have := Nat.shiftLeft_add_eq_or_of_lt hv b
    rw [Nat.shiftLeft_eq] at this
    rw [Nat.or_comm, ← this, Nat.add_comm]
  show IntKind.i64.wrap ((BitVec.ofInt 64 (v : Int) ||| BitVec.ofInt 64 (wrap64 ((b * 2 ^ k : Nat) : Int))).toNat : Int) = _
  rw [BitVec.toNat_or, e1, e2, e3, IntWalk.i64_left, Int.natCast_add]
theorem w64 {x : Int} (h1 : -9223372036854775808 ≤ x) (h2 : x ≤ 9223372036854775807) : wrap64 x = x := by unfold wrap64; omega

theorem byte_at (n : Int) (i : Nat) (h : i < (tx n).size) : ((tx n)[i]).toNat = ((by8 n).getD i 0).toNat % 256 := by
  have hi : i < 8 := by rw [tx_size] at h; exact h
  have e : i = 0 ∨ i = 1 ∨ i = 2 ∨ i = 3 ∨ i = 4 ∨ i = 5 ∨ i = 6 ∨ i = 7 := by omega
  rcases e with rfl | rfl | rfl | rfl | rfl | rfl | rfl | rfl <;> simp [tx, strOfNums, by8, ByteArray.getElem_eq_getElem_data]

theorem back8 (n : Int) (h1 : -9223372036854775808 ≤ n) (h2 : n ≤ 9223372036854775807) : wrap64 (n % 256 + n / 256 % 256 * 256 + n / 65536 % 256 * 65536 + n / 16777216 % 256 * 16777216 + n / 4294967296 % 256 * 4294967296 + n / 1099511627776 % 256 * 1099511627776 + n / 281474976710656 % 256 * 281474976710656 + n / 72057594037927936 % 256 * 72057594037927936) = n := by
  have e2 : n / 65536 = n / 256 / 256 := by omega
  have e3 : n / 16777216 = n / 65536 / 256 := by omega
  have e4 : n / 4294967296 = n / 16777216 / 256 := by omega
  have e5 : n / 1099511627776 = n / 4294967296 / 256 := by omega
  have e6 : n / 281474976710656 = n / 1099511627776 / 256 := by omega
  have e7 : n / 72057594037927936 = n / 281474976710656 / 256 := by omega
  have f0 := Int.emod_add_mul_ediv n 256
  have f1 := Int.emod_add_mul_ediv (n / 256) 256
  have f2 := Int.emod_add_mul_ediv (n / 65536) 256
  have f3 := Int.emod_add_mul_ediv (n / 16777216) 256
  have f4 := Int.emod_add_mul_ediv (n / 4294967296) 256
  have f5 := Int.emod_add_mul_ediv (n / 1099511627776) 256
  have f6 := Int.emod_add_mul_ediv (n / 281474976710656) 256
  have f7 := Int.emod_add_mul_ediv (n / 72057594037927936) 256
  rw [← e2] at f1
  rw [← e3] at f2
  rw [← e4] at f3
  rw [← e5] at f4
  rw [← e6] at f5
  rw [← e7] at f6
  have hb : n / 72057594037927936 / 256 = 0 ∨ n / 72057594037927936 / 256 = -1 := by omega
  have hs : n % 256 + n / 256 % 256 * 256 + n / 65536 % 256 * 65536 + n / 16777216 % 256 * 16777216 + n / 4294967296 % 256 * 4294967296 + n / 1099511627776 % 256 * 1099511627776 + n / 281474976710656 % 256 * 281474976710656 + n / 72057594037927936 % 256 * 72057594037927936 = n - n / 72057594037927936 / 256 * 18446744073709551616 := by
    generalize n % 256 = a0 at *
    generalize n / 256 % 256 = a1 at *
    generalize n / 65536 % 256 = a2 at *
    generalize n / 16777216 % 256 = a3 at *
    generalize n / 4294967296 % 256 = a4 at *
    generalize n / 1099511627776 % 256 = a5 at *
    generalize n / 281474976710656 % 256 = a6 at *
    generalize n / 72057594037927936 % 256 = a7 at *
    generalize n / 72057594037927936 / 256 = c7 at *
    generalize n / 256 = c0 at *
    generalize n / 65536 = c1 at *
    generalize n / 16777216 = c2 at *
    generalize n / 4294967296 = c3 at *
    generalize n / 1099511627776 = c4 at *
    generalize n / 281474976710656 = c5 at *
    generalize n / 72057594037927936 = c6 at *
    clear e2 e3 e4 e5 e6 e7 hb
    omega
  rw [hs]
  unfold wrap64
  rcases hb with hb | hb <;> rw [hb] <;> omega

theorem ors8 (b0 b1 b2 b3 b4 b5 b6 b7 : Nat) (c0 : b0 < 256) (c1 : b1 < 256) (c2 : b2 < 256) (c3 : b3 < 256) (c4 : b4 < 256) (c5 : b5 < 256) (c6 : b6 < 256) (c7 : b7 < 256) : bits .or .i64 (bits .or .i64 (bits .or .i64 (bits .or .i64 (bits .or .i64 (bits .or .i64 (bits .or .i64 (bits .or .i64 0 (wrap64 (wrap64 (b0 : Int)))) (wrap64 (wrap64 (b1 : Int) * 256))) (wrap64 (wrap64 (b2 : Int) * 65536))) (wrap64 (wrap64 (b3 : Int) * 16777216))) (wrap64 (wrap64 (b4 : Int) * 4294967296))) (wrap64 (wrap64 (b5 : Int) * 1099511627776))) (wrap64 (wrap64 (b6 : Int) * 281474976710656))) (wrap64 (wrap64 (b7 : Int) * 72057594037927936)) = wrap64 ((b0 : Int) + (b1 : Int) * 256 + (b2 : Int) * 65536 + (b3 : Int) * 16777216 + (b4 : Int) * 4294967296 + (b5 : Int) * 1099511627776 + (b6 : Int) * 281474976710656 + (b7 : Int) * 72057594037927936) := by
  rw [show wrap64 (b0 : Int) = (b0 : Int) from w64 (by omega) (by omega)]
  rw [show wrap64 (b1 : Int) = (b1 : Int) from w64 (by omega) (by omega)]
  rw [show wrap64 (b2 : Int) = (b2 : Int) from w64 (by omega) (by omega)]
  rw [show wrap64 (b3 : Int) = (b3 : Int) from w64 (by omega) (by omega)]
  rw [show wrap64 (b4 : Int) = (b4 : Int) from w64 (by omega) (by omega)]
  rw [show wrap64 (b5 : Int) = (b5 : Int) from w64 (by omega) (by omega)]
  rw [show wrap64 (b6 : Int) = (b6 : Int) from w64 (by omega) (by omega)]
  rw [show wrap64 (b7 : Int) = (b7 : Int) from w64 (by omega) (by omega)]
  have s0 : bits .or .i64 0 (wrap64 (b0 : Int)) = ((b0 : Nat) : Int) := by
    have h := or_step 0 b0 0 1 rfl (by decide) c0 (by decide)
    simp only [Int.natCast_zero, Int.natCast_one, Int.mul_one, Int.zero_add] at h
    rw [show wrap64 (b0 : Int) = (b0 : Int) from w64 (by omega) (by omega)] at h ⊢
    exact h
  obtain ⟨v1, hv1⟩ : ∃ v, v = b0 + b1 * 256 := ⟨_, rfl⟩
  have s1 : bits .or .i64 ((b0 : Nat) : Int) (wrap64 ((b1 : Int) * 256)) = ((v1 : Nat) : Int) := by
    have h : _ = wrap64 (((b0 : Nat) : Int) + (b1 : Int) * 256) := or_step b0 b1 8 256 (by decide) (by omega) c1 (by decide)
    refine h.trans ((w64 (by omega) (by omega)).trans ?_)
    omega
  obtain ⟨v2, hv2⟩ : ∃ v, v = v1 + b2 * 65536 := ⟨_, rfl⟩
  have s2 : bits .or .i64 ((v1 : Nat) : Int) (wrap64 ((b2 : Int) * 65536)) = ((v2 : Nat) : Int) := by
    have h : _ = wrap64 (((v1 : Nat) : Int) + (b2 : Int) * 65536) := or_step v1 b2 16 65536 (by decide) (by omega) c2 (by decide)
    refine h.trans ((w64 (by omega) (by omega)).trans ?_)
    omega
  obtain ⟨v3, hv3⟩ : ∃ v, v = v2 + b3 * 16777216 := ⟨_, rfl⟩
  have s3 : bits .or .i64 ((v2 : Nat) : Int) (wrap64 ((b3 : Int) * 16777216)) = ((v3 : Nat) : Int) := by
    have h : _ = wrap64 (((v2 : Nat) : Int) + (b3 : Int) * 16777216) := or_step v2 b3 24 16777216 (by decide) (by omega) c3 (by decide)
    refine h.trans ((w64 (by omega) (by omega)).trans ?_)
    omega
  obtain ⟨v4, hv4⟩ : ∃ v, v = v3 + b4 * 4294967296 := ⟨_, rfl⟩
  have s4 : bits .or .i64 ((v3 : Nat) : Int) (wrap64 ((b4 : Int) * 4294967296)) = ((v4 : Nat) : Int) := by
    have h : _ = wrap64 (((v3 : Nat) : Int) + (b4 : Int) * 4294967296) := or_step v3 b4 32 4294967296 (by decide) (by omega) c4 (by decide)
    refine h.trans ((w64 (by omega) (by omega)).trans ?_)
    omega
  obtain ⟨v5, hv5⟩ : ∃ v, v = v4 + b5 * 1099511627776 := ⟨_, rfl⟩
  have s5 : bits .or .i64 ((v4 : Nat) : Int) (wrap64 ((b5 : Int) * 1099511627776)) = ((v5 : Nat) : Int) := by
    have h : _ = wrap64 (((v4 : Nat) : Int) + (b5 : Int) * 1099511627776) := or_step v4 b5 40 1099511627776 (by decide) (by omega) c5 (by decide)
    refine h.trans ((w64 (by omega) (by omega)).trans ?_)
    omega
  obtain ⟨v6, hv6⟩ : ∃ v, v = v5 + b6 * 281474976710656 := ⟨_, rfl⟩
  have s6 : bits .or .i64 ((v5 : Nat) : Int) (wrap64 ((b6 : Int) * 281474976710656)) = ((v6 : Nat) : Int) := by
    have h : _ = wrap64 (((v5 : Nat) : Int) + (b6 : Int) * 281474976710656) := or_step v5 b6 48 281474976710656 (by decide) (by omega) c6 (by decide)
    refine h.trans ((w64 (by omega) (by omega)).trans ?_)
    omega
  have s7 : bits .or .i64 ((v6 : Nat) : Int) (wrap64 ((b7 : Int) * 72057594037927936)) = wrap64 (((v6 : Nat) : Int) + (b7 : Int) * 72057594037927936) := or_step v6 b7 56 72057594037927936 (by decide) (by omega) c7 (by decide)
  rw [s0, s1, s2, s3, s4, s5, s6, s7]
  clear s0 s1 s2 s3 s4 s5 s6 s7
  congr 1
  omega

set_option maxRecDepth 100000 in
set_option maxHeartbeats 1000000 in
theorem number_any (n : Int) (h1 : -9223372036854775808 ≤ n) (h2 : n ≤ 9223372036854775807) (w : World) :
    Calls Try.prog 31 #[.string (tx n)] w fun e w' => e = .returned (.int .i64 n) ∧ w' = w := by
  have hsz := tx_size n
  have HB := hide (back8 n h1 h2)
  clear h1 h2
  go_enter Try.func31, Try.ntmps31
  go_wp2
  go_rounds 9
  go_ret
  refine ⟨ret_int ?_, rfl⟩
  have hb : ∀ i (h : i < (tx n).size), ((tx n)[i]).toNat < 256 := fun i h => ((tx n)[i]).toNat_lt
  have hv : ∀ i (h : i < (tx n).size), (((tx n)[i]).toNat : Int) = (by8 n).getD i 0 % 256 := fun i h => by
    rw [byte_at]
    have h0 : 0 ≤ (by8 n).getD i 0 := by
      have e : i = 0 ∨ i = 1 ∨ i = 2 ∨ i = 3 ∨ i = 4 ∨ i = 5 ∨ i = 6 ∨ i = 7 := by rw [hsz] at h; omega
      rcases e with rfl | rfl | rfl | rfl | rfl | rfl | rfl | rfl <;> exact Int.emod_nonneg _ (by decide)
    generalize (by8 n).getD i 0 = t at h0
    omega
  refine (ors8 _ _ _ _ _ _ _ _ (hb 0 (by rw [hsz]; decide)) (hb 1 (by rw [hsz]; decide)) (hb 2 (by rw [hsz]; decide)) (hb 3 (by rw [hsz]; decide)) (hb 4 (by rw [hsz]; decide)) (hb 5 (by rw [hsz]; decide)) (hb 6 (by rw [hsz]; decide)) (hb 7 (by rw [hsz]; decide))).trans ?_
  rw [hv 0, hv 1, hv 2, hv 3, hv 4, hv 5, hv 6, hv 7]
  simp only [by8, List.getD_cons_zero, List.getD_cons_succ, Int.emod_emod_of_dvd _ (Int.dvd_refl _)]
  exact HB.out

end Qu
end Go.Proofs.Ytobmnkoohgkiiaa
