/- Package pack: the take of Words. -/
import Derived.Test.YtoelgcagahmndaaGreatPWord
import Derived.Test.YtoelgcagahmndaaGreatPListR
namespace Go.Proofs.YtoelgcagahmndaaGreat
open Go.RowKit

def wval (l : List Nat) : Nat → Nat
  | 0 => 0
  | k + 1 => wval l k + l.getD k 0 * 256 ^ k
def wordR (s : K.RS) : K.RS := if 8 ≤ (rest s).length then s.go 8 else s.fail 21
def wordV (s : K.RS) : Nat := wval ((rest s).take 8) 8

theorem wval_lt {l : List Nat} (hd : ∀ i, l.getD i 0 < 256) : ∀ k, wval l k < 256 ^ k
  | 0 => by simp [wval]
  | k + 1 => by
    have ih := wval_lt hd k
    have h := hd k
    have hm : l.getD k 0 * 256 ^ k ≤ 255 * 256 ^ k := Nat.mul_le_mul_right _ (by omega)
    simp only [wval, Nat.pow_succ]
    omega

theorem u64wrap (n : Int) : IntKind.u64.wrap n = n % 18446744073709551616 := by simp [IntKind.wrap, IntKind.bits, IntKind.signed]

theorem ofInt_u64 (a : Nat) (ha : a < 18446744073709551616) : (BitVec.ofInt 64 (a : Int)).toNat = a := by
  rw [BitVec.ofInt_natCast, BitVec.toNat_ofNat]
  exact Nat.mod_eq_of_lt (by omega)

theorem u64_or_nat (a b : Nat) (ha : a < 18446744073709551616) (hb : b < 18446744073709551616) : bits .or .u64 (a : Int) (b : Int) = ((a ||| b : Nat) : Int) := by
  have hx : a ||| b < 2 ^ 64 := Nat.or_lt_two_pow (by omega) (by omega)
  show IntKind.u64.wrap ((BitVec.ofInt 64 (a : Int) ||| BitVec.ofInt 64 (b : Int)).toNat : Int) = _
  rw [BitVec.toNat_or, ofInt_u64 a ha, ofInt_u64 b hb, u64wrap]
  omega

theorem or_add8 (k nn d : Nat) (hn : nn < 256 ^ k) : nn ||| d * 256 ^ k = nn + d * 256 ^ k := by
  have e : (256 : Nat) ^ k = 2 ^ (8 * k) := by rw [Nat.pow_mul]
  rw [e] at hn ⊢
  rw [Nat.or_comm, Nat.mul_comm, ← Nat.two_pow_add_eq_or_of_lt hn, Nat.add_comm]

theorem pow8 (k : Nat) (hk : k < 8) : 256 ^ k ≤ 72057594037927936 := by
  have := Nat.pow_le_pow_right (n := 256) (by decide) (show k ≤ 7 by omega)
  exact Nat.le_trans this (by decide)

theorem tround (l : List Nat) (k : Nat) (hk : k < 8) (hd : ∀ i, l.getD i 0 < 256) (e : Int) (he : e = bits .or .u64 ((wval l k : Nat) : Int) (IntKind.u64.wrap (IntKind.u64.wrap ((l.getD k 0 : Nat) : Int) * ((256 ^ k : Nat) : Int)))) :
    ∃ k' : Nat, k' ≤ 8 ∧ Value.int .i64 ((k + 1 : Nat) : Int) = Value.int .i64 (k' : Nat) ∧ Value.int .u64 e = Value.int .u64 ((wval l k' : Nat) : Int) ∧ True := by
  have hv := wval_lt hd k
  have h := hd k
  have hp := pow8 k hk
  have hm : l.getD k 0 * 256 ^ k ≤ 255 * 72057594037927936 := Nat.mul_le_mul (by omega) hp
  have e1 : IntKind.u64.wrap ((l.getD k 0 : Nat) : Int) = ((l.getD k 0 : Nat) : Int) := by rw [u64wrap]; omega
  have e2 : IntKind.u64.wrap (((l.getD k 0 : Nat) : Int) * ((256 ^ k : Nat) : Int)) = ((l.getD k 0 * 256 ^ k : Nat) : Int) := by
    rw [← Int.natCast_mul, u64wrap]; omega
  refine ⟨k + 1, by omega, rfl, ?_, trivial⟩
  rw [he, e1, e2, u64_or_nat _ _ (by omega) (by omega), or_add8 k _ _ hv]
  rfl

set_option maxRecDepth 10000 in
theorem takeWord (q : Nat) (s : K.RS) (w : World) (h : Rr w q s) (hz : s.fault = 0) :
    Takes w q 129 #[] (wordR s) (fun _ v => v = .int .u64 ((wordV s : Nat) : Int)) := by
  have HH := hide h
  have HZ := hide hz
  have htp := h.top
  have htk := h.tak
  unfold Takes
  show Calls Tryz.prog 129 #[.pointer (some ⟨q, 0, none⟩)] w _
  generalize hs' : wordR s = s'
  generalize hx : wordV s = x
  have HS := hide hs'
  have HX := hide hx
  clear hs' hx h hz
  by_cases hp : 8 ≤ (rest s).length
  · have HS' : Hid (s.go 8 = s') := by show _ = _; rw [← HS.out]; unfold wordR; rw [if_pos hp]
    have hlen2 : s.taken + 8 ≤ s.data.length := by rw [rest_len] at hp; omega
    have HP := hide hp
    clear hp
    go_enter Tryz.func129, Tryz.ntmps129
    go_wp2_with fail
    refine (peek_yes q 8 s _ HH.out HP.out).mono ?_
    rintro en w1 ⟨a, c, rfl, hr, h0, hc, hb⟩
    obtain ⟨bl, off, rfl, hrow⟩ : ∃ bl off, a = some ⟨bl, off, none⟩ ∧ ∀ i, i < 8 → w1.cell? ⟨bl, off + i, none⟩ = some (.int .u8 ((((rest s).take 8).getD i 0 : Nat) : Int)) := by
      rcases hr.2.2.2 with h' | ⟨bl, off, rfl, hrow⟩
      · omega
      · exact ⟨bl, off, rfl, hrow⟩
    have hby := hr.2.2.1
    have HB := hide hb
    have HX2 : Hid (wval ((rest s).take 8) 8 = x) := HX.out
    generalize (rest s).take 8 = l at *
    have hd : ∀ i, l.getD i 0 < 256 := fun i => by
      rw [List.getD_eq_getElem?_getD]
      cases hi : l[i]? with
      | none => simp
      | some y => exact hby y (List.mem_of_getElem? hi)
    clear hr h0 hb hby
    go_wp2_with fail
    go_loopw [3, 4, 5, 9] (fun v _ _ i wx => ∃ k : Nat, k ≤ 8 ∧ i = .int .i64 (k : Nat) ∧ v = .int .u64 ((wval l k : Nat) : Int) ∧ wx = w1) (fun _ _ _ i _ => 8 - (intOf i).toNat)
    case atStart => exact ⟨0, by omega, rfl, rfl, rfl⟩
    case round =>
      obtain ⟨k, hk, rfl, rfl, rfl⟩ := hrel
      by_cases hlt : k < 8
      · obtain rfl | rfl | rfl | rfl | rfl | rfl | rfl | rfl : k = 0 ∨ k = 1 ∨ k = 2 ∨ k = 3 ∨ k = 4 ∨ k = 5 ∨ k = 6 ∨ k = 7 := by omega
        all_goals
          have c0 := hrow _ hlt
          try rw [Nat.add_zero] at c0
          clear hrow
          go_wp2_with fail
        · exact ⟨tround l 0 (by omega) hd _ (by simp), by simp [intOf]⟩
        · exact ⟨tround l 1 (by omega) hd _ (by simp), by simp [intOf]⟩
        · exact ⟨tround l 2 (by omega) hd _ (by simp), by simp [intOf]⟩
        · exact ⟨tround l 3 (by omega) hd _ (by simp), by simp [intOf]⟩
        · exact ⟨tround l 4 (by omega) hd _ (by simp), by simp [intOf]⟩
        · exact ⟨tround l 5 (by omega) hd _ (by simp), by simp [intOf]⟩
        · exact ⟨tround l 6 (by omega) hd _ (by simp), by simp [intOf]⟩
        · exact ⟨tround l 7 (by omega) hd _ (by simp), by simp [intOf]⟩
      · have hk8 : k = 8 := by omega
        subst hk8
        rw [HX2.out]
        have HR1 := hide (HH.out.below HB.out)
        obtain ⟨_, _, _, c1, _, hf⟩ := HR1.out.see
        have hf1 := hf 1
        have HSET := hide (HR1.out.set1 (s.taken + 8) hlen2)
        have HKS := hide (Keep.setCell (S := fun k => k = q) wr (p := ⟨q, 1, none⟩) rfl (.int .i64 ((s.taken + 8 : Nat) : Int)))
        clear hk hlt hf hrow
        go_wp2
        go_ret
        refine ⟨(Keep.ofBelow HB.out (Nat.le_refl _)).more HKS.out, .inl ⟨by rw [← HS'.out]; exact HZ.out, _, rfl, ?_, rfl⟩⟩
        rw [← HS'.out]; exact HSET.out
  · have HS' : Hid (s.fail 21 = s') := by show _ = _; rw [← HS.out]; unfold wordR; rw [if_neg hp]
    have HP := hide hp
    clear hp
    go_enter Tryz.func129, Tryz.ntmps129
    go_wp2_with fail
    refine (peek_no q 8 s _ HH.out HP.out).mono ?_
    rintro en w1 ⟨rfl, hb⟩
    exact ⟨rfl, Keep.ofBelow hb (Nat.le_refl _), .inr ⟨by rw [← HS'.out]; exact fail_ne HZ.out (by decide), 21, s, rfl, HH.out.below hb, HS'.out⟩⟩

theorem takesWord (D : Nat → Prop) (w : World) : TakesG D w 129 #[] wordR (fun s _ v => v = .int .u64 ((wordV s : Nat) : Int)) :=
  fun q s w1 _ _ h hz => takeWord q s w1 h hz

theorem Words_any (w : World) :
    Calls Tryz.prog 73 #[] w fun en w' => en = .returned (.agg #[.func (.func 128) #[] #[], .func (.func 129) #[] #[]]) ∧ Below w.heap.size w w' := by
  have hmf : ∀ (fn : Fn) (first cap : Array Value) (w : World), (Instr.makeFunc fn first cap).run Tryz.prog w = .ok (.func fn first cap) w := fun _ _ _ _ => rfl
  go_enter Tryz.func73, Tryz.ntmps73
  go_wp2_with fail
  refine (MakeW _ _ _ _ _).mono ?_
  rintro e w1 ⟨rfl, hb1⟩
  have b1 := (Keep.ofBelow (S := fun _ => False) hb1 (Nat.le_refl _)).blk (heap_alloc_new w _) (fun h => h)
  have f0 := cell_of_row _ _ 0 _ _ _ b1
  have f1 := cell_of_row _ _ 1 _ _ _ b1
  have z0 := frozen_of_row w1 _ 0 _ _ b1
  have z1 := frozen_of_row w1 _ 1 _ _ b1
  have HB := hide (((Below.refl w.heap.size w).alloc (Nat.le_refl _) (.cells #[.nilFunc, .nilFunc] 124)).trans (hb1.mono (by simp)))
  clear hb1 b1
  go_wp2
  exact ⟨rfl, .agg #[.func (.func 128) #[] #[], .func (.func 129) #[] #[]], by simp [results, Tryz.results73, go_sem, f0, f1], rfl, (HB.out.setCell (by show _ ≤ _; simp) _).setCell (by show _ ≤ _; simp) _⟩

end Go.Proofs.YtoelgcagahmndaaGreat
