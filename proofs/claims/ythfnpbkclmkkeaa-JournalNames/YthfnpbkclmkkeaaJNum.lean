/- Package journal: write, read: a number in bytes. -/
import Derived.Test.YthfnpbkclmkkeaaDOp
import Derived.Test.YthfnpbkclmkkeaaJMod
namespace Go.Proofs.Ythfnpbkclmkkeaa
open Go.RowKit Go.Lib

theorem splice_snoc (cur : List Value) (off : Nat) (xs : List Value) (v : Value) (h : off + xs.length < cur.length) : (splice cur off xs).set (off + xs.length) v = splice cur off (xs ++ [v]) := by
  unfold splice
  have h1 : (cur.take off).length = off := by rw [List.length_take]; omega
  rw [List.set_append_right _ _ (by omega), h1, show off + xs.length - off = xs.length by omega, List.set_append_right _ _ (Nat.le_refl _), Nat.sub_self, List.drop_eq_getElem_cons h, List.set_cons_zero, List.length_append, List.length_singleton]
  simp [Nat.add_assoc]

theorem wrap_zero : (0 : Int) = wrap64 ((0 : Nat) : Int) := by unfold wrap64; omega

theorem or_i64 (a b k : Nat) (ha : a < 2 ^ k) (hb : 2 ^ k * b < 18446744073709551616) (hk : 2 ^ k < 18446744073709551616) :
    bits .or .i64 (wrap64 (a : Int)) (wrap64 ((2 ^ k * b : Nat) : Int)) = wrap64 ((a + 2 ^ k * b : Nat) : Int) := by
  have hw : ∀ x : Nat, x < 18446744073709551616 → (BitVec.ofInt 64 (wrap64 (x : Int))).toNat = x := fun x hx => by
    rw [BitVec.toNat_ofInt]
    unfold wrap64
    omega
  show IntKind.i64.wrap ((BitVec.ofInt 64 (wrap64 (a : Int)) ||| BitVec.ofInt 64 (wrap64 ((2 ^ k * b : Nat) : Int))).toNat : Int) = _
  rw [BitVec.toNat_or, hw a (by omega), hw _ hb, Nat.or_comm, ← Nat.two_pow_add_eq_or_of_lt ha, Nat.add_comm (2 ^ k * b) a]
  generalize a + 2 ^ k * b = x
  rw [IntKind.wrap_i64]
  unfold wrap64
  omega

set_option maxHeartbeats 1000000 in
set_option maxRecDepth 10000 in
theorem write_any (g off k c n : Nat) (cur : List Value) (t : TypeId) (w : World) (hg : w.heap[g]? = some (.cells cur.toArray t (0, 0))) (hk : off + k ≤ cur.length) (hk8 : k ≤ 8) :
    Calls Try.prog 71 #[.slice (some ⟨g, off, none⟩) k c, .int .i64 n] w fun e w' => e = .returned (.tuple #[]) ∧ w'.heap[g]? = some (.cells (splice cur off (B8 (J.le k n))).toArray t (0, 0)) ∧ Keep (fun i => i = g) w w' := by
  have HG := hide hg
  have HK := hide hk
  clear hg hk
  go_enter Try.func71, Try.ntmps71
  go_wp2
  go_loopw [7] (fun iv wr => ∃ q : Nat, q ≤ k ∧ iv = .int .i64 (q : Nat) ∧ Hid (wr.heap[g]? = some (.cells (splice cur off (B8 (J.le q n))).toArray t (0, 0)) ∧ Keep (fun i => i = g) w wr)) (fun iv _ => k - (RowKit.intOf iv).toNat)
  case atStart => exact ⟨0, Nat.zero_le _, rfl, by rw [show splice cur off (B8 (J.le 0 n)) = cur by simp [splice, J.le, B8]]; exact HG.out, Keep.refl _ _⟩
  case round =>
    obtain ⟨q, hq, rfl, HL⟩ := hrel
    by_cases hlt : q < k
    · have hb := HL.out.1
      have hlen : (B8 (J.le q n)).length = q := by rw [B8_length, J.le_length]
      have hsp : (splice cur off (B8 (J.le q n))).length = cur.length := length_splice _ _ _ (by rw [hlen]; have := HK.out; omega)
      have hc := cell_blk hb (off + q) (v := (splice cur off (B8 (J.le q n)))[off + q]'(by rw [hsp]; have := HK.out; omega)) (by simp)
      have hf := frozen_blk hb (off + q)
      have hw : wrap64 (8 * (q : Int)) = ((8 * q : Nat) : Int) := by rw [wrap_id (by omega) (by omega)]; omega
      have HX : Hid (splice cur off (B8 (J.le (q + 1) n)) = (splice cur off (B8 (J.le q n))).set (off + q) (.int .u8 ((n / 256 ^ q % 256 : Nat) : Int))) := by
        show _ = _
        have h9 := splice_snoc cur off (B8 (J.le q n)) (.int .u8 ((n / 256 ^ q % 256 : Nat) : Int)) (by rw [hlen]; have := HK.out; omega)
        rw [hlen] at h9
        rw [J.le_snoc, B8_append, h9]
        rfl
      have HB := hide hb
      generalize (splice cur off (B8 (J.le q n)))[off + q]'(by rw [hsp]; have := HK.out; omega) = old at *
      generalize splice cur off (B8 (J.le q n)) = now at *
      clear hb hsp hlen
      have HV : Hid ((n : Int) / 2 ^ (8 * q) % 256 = ((n / 256 ^ q % 256 : Nat) : Int)) := by
        show _ = _
        rw [show (256 : Nat) ^ q = 2 ^ (8 * q) by rw [Nat.pow_mul]]
        push_cast
        rfl
      go_wp2
      refine ⟨⟨q + 1, by omega, by simp, ?_, HL.out.2.more (keep_cell _ _ _ _)⟩, by simp [RowKit.intOf]; omega⟩
      rw [HV.out, set_blk HB.out, HX.out]
      simp
    · obtain rfl : q = k := by omega
      go_wp2
      go_end0
      exact ⟨rfl, HL.out⟩

set_option maxHeartbeats 1000000 in
set_option maxRecDepth 10000 in
theorem read_any8 (a : Option Addr) (n c : Nat) (l : List Nat) (w : World) (h : Rd w a n l) (h8 : n ≤ 8) :
    Calls Try.prog 66 #[.slice a n c] w fun e w' => e = .returned (.int .i64 (wrap64 (J.rd l : Nat))) ∧ w' = w := by
  have HH := hide h
  clear h
  rcases HH.out.2.2.2 with h0 | ⟨b, off, rfl, hrow⟩
  · subst h0
    have hl : l = [] := List.eq_nil_of_length_eq_zero HH.out.1.symm
    subst hl
    go_enter Try.func66, Try.ntmps66
    go_wp2
    go_loop [3, 8] (fun r i => r = .int .i64 0 ∧ i = .int .i64 0) (fun _ _ => 0)
    case atStart => exact ⟨rfl, rfl⟩
    case round =>
      obtain ⟨rfl, rfl⟩ := hrel
      go_wp2
      go_ret
      exact ⟨ret_int wrap_zero, rfl⟩
  · have HW := hide hrow
    clear hrow
    go_enter Try.func66, Try.ntmps66
    go_wp2
    go_loop [3, 8] (fun r i => ∃ q : Nat, q ≤ n ∧ i = .int .i64 q ∧ r = .int .i64 (wrap64 (J.rd (l.take q) : Nat))) (fun _ i => n - (RowKit.intOf i).toNat)
    case atStart => exact ⟨0, Nat.zero_le _, rfl, congrArg _ wrap_zero⟩
    case round =>
      obtain ⟨q, hq, rfl, rfl⟩ := hrel
      by_cases hlt : q < n
      · have hc := HW.out q hlt
        have hll := HH.out.1
        have hd : l.getD q 0 < 256 := by
          have : l.getD q 0 = l[q]'(by omega) := by simp [List.getD_eq_getElem?_getD, show q < l.length by omega]
          rw [this]
          exact HH.out.2.2.1 _ (List.getElem_mem _)
        have hsn : l.take (q + 1) = l.take q ++ [l.getD q 0] := by
          rw [List.take_succ_eq_append_getElem (show q < l.length by omega)]
          simp [List.getD_eq_getElem?_getD, show q < l.length by omega]
        have hlen : (l.take q).length = q := by rw [List.length_take]; omega
        have HS : Hid (J.rd (l.take (q + 1)) = J.rd (l.take q) + 2 ^ (8 * q) * l.getD q 0) := by
          show _ = _
          rw [hsn, J.rd_snoc, hlen, Nat.pow_mul]
        have hlo : J.rd (l.take q) < 2 ^ (8 * q) := by
          have := J.rd_lt (l.take q) fun d hd => HH.out.2.2.1 d (List.mem_of_mem_take hd)
          rw [hlen] at this
          rw [Nat.pow_mul]
          exact this
        have hw : wrap64 (8 * (q : Int)) = ((8 * q : Nat) : Int) := by rw [wrap_id (by omega) (by omega)]; omega
        have hp : 2 ^ (8 * q) ≤ 2 ^ 56 := Nat.pow_le_pow_right (by omega) (by omega)
        generalize l.getD q 0 = d at *
        have hb : 2 ^ (8 * q) * d < 18446744073709551616 := by
          have : 2 ^ (8 * q) * d ≤ 2 ^ 56 * 255 := Nat.mul_le_mul hp (by omega)
          omega
        have HO := hide (or_i64 (J.rd (l.take q)) d (8 * q) hlo hb (by omega))
        clear hsn hlen hlo hp hb hll
        generalize J.rd (l.take q) = r at *
        go_wp2
        refine ⟨⟨q + 1, by omega, by simp, congrArg _ ?_⟩, by simp [RowKit.intOf]; omega⟩
        rw [HS.out, ← HO.out, Nat.mul_comm (2 ^ (8 * q)) d]
        push_cast
        rfl
      · obtain rfl : q = n := by omega
        go_wp2
        go_ret
        exact ⟨ret_int (by rw [List.take_of_length_le (by have := HH.out.1; omega)]), rfl⟩

end Go.Proofs.Ythfnpbkclmkkeaa
