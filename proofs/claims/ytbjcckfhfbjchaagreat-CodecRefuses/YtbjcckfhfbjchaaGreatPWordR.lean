import Derived.Test.YtbjcckfhfbjchaaGreatCdB
import Derived.Test.YtbjcckfhfbjchaaGreatPListR
/- Package pack: Words. -/
namespace Go.Proofs.YtbjcckfhfbjchaaGreat
open Go.RowKit

/-- a word's byte -/
def wbyte (X j : Nat) : Nat := X / 256 ^ j % 256
/-- the array, when k bytes are laid -/
def wcell (X k j : Nat) : Value := .int .u8 ((if j < k then wbyte X j else 0 : Nat) : Int)
def wcells (X k : Nat) : Array Value := #[wcell X k 0, wcell X k 1, wcell X k 2, wcell X k 3, wcell X k 4, wcell X k 5, wcell X k 6, wcell X k 7]

def word (X : Nat) : List Nat := (List.range 8).map (wbyte X)
def wordW (X : Nat) (s : K.WS) : K.WS := s.lay (word X)

theorem wb (X k : Nat) : (X : Int) / ((256 ^ k : Nat) : Int) % 256 = ((wbyte X k : Nat) : Int) := by
  unfold wbyte
  omega

theorem wstep (X k : Nat) (hk : k < 8) : (wcells X k).setIfInBounds k (.int .u8 ((wbyte X k : Nat) : Int)) = wcells X (k + 1) := by
  obtain rfl | rfl | rfl | rfl | rfl | rfl | rfl | rfl : k = 0 ∨ k = 1 ∨ k = 2 ∨ k = 3 ∨ k = 4 ∨ k = 5 ∨ k = 6 ∨ k = 7 := by omega
  all_goals simp [wcells, wcell]

theorem wround (X k B : Nat) (T : TypeId) (w wr : World) (hk : k < 8) (v : Int) (hv : v = ((wbyte X k : Nat) : Int)) (hb : wr.heap[B]? = some (.cells (wcells X k) T (0, 0))) (hB : w.heap.size ≤ B) (hl : Below w.heap.size w wr) :
    ∃ k' : Nat, k' ≤ 8 ∧ Value.int .i64 ((k + 1 : Nat) : Int) = Value.int .i64 (k' : Nat) ∧ (wr.setCell ⟨B, k, none⟩ (.int .u8 v)).heap[B]? = some (.cells (wcells X k') T (0, 0)) ∧ Below w.heap.size w (wr.setCell ⟨B, k, none⟩ (.int .u8 v)) := by
  refine ⟨k + 1, by omega, rfl, ?_, hl.setCell hB _⟩
  rw [heap_setCell_same wr B k _ _ _ hb, hv, wstep X k hk]

theorem wbyte_lt (X j : Nat) : wbyte X j < 256 := by unfold wbyte; omega
theorem word_len (X : Nat) : (word X).length = 8 := rfl
theorem word_lt (X : Nat) : ∀ d ∈ word X, d < 256 := fun d hd => by
  simp only [word, List.mem_map] at hd
  obtain ⟨j, _, rfl⟩ := hd
  exact wbyte_lt X j

theorem rd_word (X B : Nat) (T : TypeId) (w : World) (hb : w.heap[B]? = some (.cells (wcells X 8) T (0, 0))) : Rd w (some ⟨B, 0, none⟩) 8 (word X) := by
  refine ⟨rfl, by decide, word_lt X, .inr ⟨B, 0, rfl, fun i hi => ?_⟩⟩
  obtain rfl | rfl | rfl | rfl | rfl | rfl | rfl | rfl : i = 0 ∨ i = 1 ∨ i = 2 ∨ i = 3 ∨ i = 4 ∨ i = 5 ∨ i = 6 ∨ i = 7 := by omega
  all_goals
    rw [cell_of_row _ _ _ _ _ _ hb]
    rfl

set_option maxRecDepth 10000 in
theorem putWord (S : Nat → Prop) (w0 : World) (p : Nat) (X : Nat) (hX : X < 18446744073709551616) (s : K.WS) (w : World) (h : WAt S w0 p s w) :
    Calls Tryz.prog 176 #[.pointer (some ⟨p, 0, none⟩), .int .u64 (X : Nat)] w fun en w' => en = .returned (.tuple #[]) ∧ WAt S w0 p (wordW X s) w' := by
  have HH := hide h
  clear h
  go_enter Tryz.func176, Tryz.ntmps176
  go_wp2_with fail
  go_loopw [5, 6] (fun _ i wx => ∃ k : Nat, k ≤ 8 ∧ i = .int .i64 (k : Nat) ∧ wx.heap[w.heap.size]? = some (.cells (wcells X k) 185 (0, 0)) ∧ Below w.heap.size w wx) (fun _ i _ => 8 - (intOf i).toNat)
  case atStart => exact ⟨0, by omega, rfl, heap_alloc_new w _, (Below.refl _ _).alloc (Nat.le_refl _) _⟩
  case round =>
    obtain ⟨k, hk, rfl, hb, hbel⟩ := hrel
    have HB := hide hb
    have HL := hide hbel
    by_cases hlt : k < 8
    · obtain rfl | rfl | rfl | rfl | rfl | rfl | rfl | rfl : k = 0 ∨ k = 1 ∨ k = 2 ∨ k = 3 ∨ k = 4 ∨ k = 5 ∨ k = 6 ∨ k = 7 := by omega
      all_goals
        have c0 := cell_of_row _ _ 0 _ _ _ hb
        have c1 := cell_of_row _ _ 1 _ _ _ hb
        have c2 := cell_of_row _ _ 2 _ _ _ hb
        have c3 := cell_of_row _ _ 3 _ _ _ hb
        have c4 := cell_of_row _ _ 4 _ _ _ hb
        have c5 := cell_of_row _ _ 5 _ _ _ hb
        have c6 := cell_of_row _ _ 6 _ _ _ hb
        have c7 := cell_of_row _ _ 7 _ _ _ hb
        have z := fun i => frozen_of_row _ _ i _ _ hb
        clear hb hbel hk hlt
        go_wp2_with fail
      · exact ⟨wround X 0 _ _ w wr (by omega) _ (by have := wb X 0; simpa using this) HB.out (Nat.le_refl _) HL.out, by simp [intOf]⟩
      · exact ⟨wround X 1 _ _ w wr (by omega) _ (by have := wb X 1; simpa using this) HB.out (Nat.le_refl _) HL.out, by simp [intOf]⟩
      · exact ⟨wround X 2 _ _ w wr (by omega) _ (by have := wb X 2; simpa using this) HB.out (Nat.le_refl _) HL.out, by simp [intOf]⟩
      · exact ⟨wround X 3 _ _ w wr (by omega) _ (by have := wb X 3; simpa using this) HB.out (Nat.le_refl _) HL.out, by simp [intOf]⟩
      · exact ⟨wround X 4 _ _ w wr (by omega) _ (by have := wb X 4; simpa using this) HB.out (Nat.le_refl _) HL.out, by simp [intOf]⟩
      · exact ⟨wround X 5 _ _ w wr (by omega) _ (by have := wb X 5; simpa using this) HB.out (Nat.le_refl _) HL.out, by simp [intOf]⟩
      · exact ⟨wround X 6 _ _ w wr (by omega) _ (by have := wb X 6; simpa using this) HB.out (Nat.le_refl _) HL.out, by simp [intOf]⟩
      · exact ⟨wround X 7 _ _ w wr (by omega) _ (by have := wb X 7; simp at this; omega) HB.out (Nat.le_refl _) HL.out, by simp [intOf]⟩
    · have hk8 : k = 8 := by omega
      subst hk8
      have HR := hide (rd_word X _ _ _ hb)
      have HH1 := hide (HH.out.below hbel)
      clear hb hbel hk hlt
      go_wp2_with fail
      refine (lay_any S w0 p s _ 8 8 (word X) _ HH1.out HR.out (fun e => by cases e)).mono ?_
      rintro e w2 ⟨rfl, h2⟩
      go_wp2
      go_end0
      exact ⟨rfl, h2⟩

theorem ent_putWord (args : Array Value) (w : World) : (callFunc 176 args).run Tryz.prog w = .ok (.enter 176 args) w :=
  callFunc_enter Tryz.func176 (by kernel_rfl) (by kernel_rfl) args w
theorem ent_takeWord (args : Array Value) (w : World) : (callFunc 177 args).run Tryz.prog w = .ok (.enter 177 args) w :=
  callFunc_enter Tryz.func177 (by kernel_rfl) (by kernel_rfl) args w

theorem putsWord (D : Nat → Prop) (w : World) (X : Nat) (hX : X < 18446744073709551616) : PutsG D w 176 #[] (.int .u64 (X : Nat)) (wordW X) :=
  fun p S w1 _ _ w2 s h _ => putWord S w1 p X hX s w2 h

end Go.Proofs.YtbjcckfhfbjchaaGreat

/- Package pack: the take of Words. -/
namespace Go.Proofs.YtbjcckfhfbjchaaGreat
open Go.RowKit

def wval (l : List Nat) : Nat → Nat
  | 0 => 0
  | k + 1 => wval l k + l.getD k 0 * 256 ^ k
def wordR (s : K.RS) : K.RS := if 8 ≤ (rest s).length then s.go 8 else s.fail 21
def wordV (s : K.RS) : Nat := wval ((rest s).take 8) 8

theorem wval_lt {l : List Nat} (hd : ∀ i, l.getD i 0 < 256) : ∀ k, wval l k < 256 ^ k
  | 0 => by simp [wval]
  | k + 1 => by
    have ih := wval_lt hd k
    have h := hd k
    have hm : l.getD k 0 * 256 ^ k ≤ 255 * 256 ^ k := Nat.mul_le_mul_right _ (by omega)
    simp only [wval, Nat.pow_succ]
    omega

theorem u64wrap (n : Int) : IntKind.u64.wrap n = n % 18446744073709551616 := by simp [IntKind.wrap, IntKind.bits, IntKind.signed]

theorem ofInt_u64 (a : Nat) (ha : a < 18446744073709551616) : (BitVec.ofInt 64 (a : Int)).toNat = a := by
  rw [BitVec.ofInt_natCast, BitVec.toNat_ofNat]
  exact Nat.mod_eq_of_lt (by omega)

theorem u64_or_nat (a b : Nat) (ha : a < 18446744073709551616) (hb : b < 18446744073709551616) : bits .or .u64 (a : Int) (b : Int) = ((a ||| b : Nat) : Int) := by
  have hx : a ||| b < 2 ^ 64 := Nat.or_lt_two_pow (by omega) (by omega)
  show IntKind.u64.wrap ((BitVec.ofInt 64 (a : Int) ||| BitVec.ofInt 64 (b : Int)).toNat : Int) = _
  rw [BitVec.toNat_or, ofInt_u64 a ha, ofInt_u64 b hb, u64wrap]
  omega

theorem or_add8 (k nn d : Nat) (hn : nn < 256 ^ k) : nn ||| d * 256 ^ k = nn + d * 256 ^ k := by
  have e : (256 : Nat) ^ k = 2 ^ (8 * k) := by rw [Nat.pow_mul]
  rw [e] at hn ⊢
  rw [Nat.or_comm, Nat.mul_comm, ← Nat.two_pow_add_eq_or_of_lt hn, Nat.add_comm]

theorem pow8 (k : Nat) (hk : k < 8) : 256 ^ k ≤ 72057594037927936 := by
  have := Nat.pow_le_pow_right (n := 256) (by decide) (show k ≤ 7 by omega)
  exact Nat.le_trans this (by decide)

theorem tround (l : List Nat) (k : Nat) (hk : k < 8) (hd : ∀ i, l.getD i 0 < 256) (e : Int) (he : e = bits .or .u64 ((wval l k : Nat) : Int) (IntKind.u64.wrap (IntKind.u64.wrap ((l.getD k 0 : Nat) : Int) * ((256 ^ k : Nat) : Int)))) :
    ∃ k' : Nat, k' ≤ 8 ∧ Value.int .i64 ((k + 1 : Nat) : Int) = Value.int .i64 (k' : Nat) ∧ Value.int .u64 e = Value.int .u64 ((wval l k' : Nat) : Int) ∧ True := by
  have hv := wval_lt hd k
  have h := hd k
  have hp := pow8 k hk
  have hm : l.getD k 0 * 256 ^ k ≤ 255 * 72057594037927936 := Nat.mul_le_mul (by omega) hp
  have e1 : IntKind.u64.wrap ((l.getD k 0 : Nat) : Int) = ((l.getD k 0 : Nat) : Int) := by rw [u64wrap]; omega
  have e2 : IntKind.u64.wrap (((l.getD k 0 : Nat) : Int) * ((256 ^ k : Nat) : Int)) = ((l.getD k 0 * 256 ^ k : Nat) : Int) := by
    rw [← Int.natCast_mul, u64wrap]; omega
  refine ⟨k + 1, by omega, rfl, ?_, trivial⟩
  rw [he, e1, e2, u64_or_nat _ _ (by omega) (by omega), or_add8 k _ _ hv]
  rfl

set_option maxRecDepth 10000 in
theorem takeWord (q : Nat) (s : K.RS) (w : World) (h : Rr w q s) (hz : s.fault = 0) :
    Takes w q 177 #[] (wordR s) (fun _ v => v = .int .u64 ((wordV s : Nat) : Int)) := by
  have HH := hide h
  have HZ := hide hz
  have htp := h.top
  have htk := h.tak
  unfold Takes
  show Calls Tryz.prog 177 #[.pointer (some ⟨q, 0, none⟩)] w _
  generalize hs' : wordR s = s'
  generalize hx : wordV s = x
  have HS := hide hs'
  have HX := hide hx
  clear hs' hx h hz
  by_cases hp : 8 ≤ (rest s).length
  · have HS' : Hid (s.go 8 = s') := by show _ = _; rw [← HS.out]; unfold wordR; rw [if_pos hp]
    have hlen2 : s.taken + 8 ≤ s.data.length := by rw [rest_len] at hp; omega
    have HP := hide hp
    clear hp
    go_enter Tryz.func177, Tryz.ntmps177
    go_wp2_with fail
    refine (peek_yes q 8 s _ HH.out HP.out).mono ?_
    rintro en w1 ⟨a, c, rfl, hr, h0, hc, hb⟩
    obtain ⟨bl, off, rfl, hrow⟩ : ∃ bl off, a = some ⟨bl, off, none⟩ ∧ ∀ i, i < 8 → w1.cell? ⟨bl, off + i, none⟩ = some (.int .u8 ((((rest s).take 8).getD i 0 : Nat) : Int)) := by
      rcases hr.2.2.2 with h' | ⟨bl, off, rfl, hrow⟩
      · omega
      · exact ⟨bl, off, rfl, hrow⟩
    have hby := hr.2.2.1
    have HB := hide hb
    have HX2 : Hid (wval ((rest s).take 8) 8 = x) := HX.out
    generalize (rest s).take 8 = l at *
    have hd : ∀ i, l.getD i 0 < 256 := fun i => by
      rw [List.getD_eq_getElem?_getD]
      cases hi : l[i]? with
      | none => simp
      | some y => exact hby y (List.mem_of_getElem? hi)
    clear hr h0 hb hby
    go_wp2_with fail
    go_loopw [3, 4, 5, 9] (fun v _ _ i wx => ∃ k : Nat, k ≤ 8 ∧ i = .int .i64 (k : Nat) ∧ v = .int .u64 ((wval l k : Nat) : Int) ∧ wx = w1) (fun _ _ _ i _ => 8 - (intOf i).toNat)
    case atStart => exact ⟨0, by omega, rfl, rfl, rfl⟩
    case round =>
      obtain ⟨k, hk, rfl, rfl, rfl⟩ := hrel
      by_cases hlt : k < 8
      · obtain rfl | rfl | rfl | rfl | rfl | rfl | rfl | rfl : k = 0 ∨ k = 1 ∨ k = 2 ∨ k = 3 ∨ k = 4 ∨ k = 5 ∨ k = 6 ∨ k = 7 := by omega
        all_goals
          have c0 := hrow _ hlt
          try rw [Nat.add_zero] at c0
          clear hrow
          go_wp2_with fail
        · exact ⟨tround l 0 (by omega) hd _ (by simp), by simp [intOf]⟩
        · exact ⟨tround l 1 (by omega) hd _ (by simp), by simp [intOf]⟩
        · exact ⟨tround l 2 (by omega) hd _ (by simp), by simp [intOf]⟩
        · exact ⟨tround l 3 (by omega) hd _ (by simp), by simp [intOf]⟩
        · exact ⟨tround l 4 (by omega) hd _ (by simp), by simp [intOf]⟩
        · exact ⟨tround l 5 (by omega) hd _ (by simp), by simp [intOf]⟩
        · exact ⟨tround l 6 (by omega) hd _ (by simp), by simp [intOf]⟩
        · exact ⟨tround l 7 (by omega) hd _ (by simp), by simp [intOf]⟩
      · have hk8 : k = 8 := by omega
        subst hk8
        rw [HX2.out]
        have HR1 := hide (HH.out.below HB.out)
        obtain ⟨_, _, _, c1, _, hf⟩ := HR1.out.see
        have hf1 := hf 1
        have HSET := hide (HR1.out.set1 (s.taken + 8) hlen2)
        have HKS := hide (Keep.setCell (S := fun k => k = q) wr (p := ⟨q, 1, none⟩) rfl (.int .i64 ((s.taken + 8 : Nat) : Int)))
        clear hk hlt hf hrow
        go_wp2
        go_ret
        refine ⟨(Keep.ofBelow HB.out (Nat.le_refl _)).more HKS.out, .inl ⟨by rw [← HS'.out]; exact HZ.out, _, rfl, ?_, rfl⟩⟩
        rw [← HS'.out]; exact HSET.out
  · have HS' : Hid (s.fail 21 = s') := by show _ = _; rw [← HS.out]; unfold wordR; rw [if_neg hp]
    have HP := hide hp
    clear hp
    go_enter Tryz.func177, Tryz.ntmps177
    go_wp2_with fail
    refine (peek_no q 8 s _ HH.out HP.out).mono ?_
    rintro en w1 ⟨rfl, hb⟩
    exact ⟨rfl, Keep.ofBelow hb (Nat.le_refl _), .inr ⟨by rw [← HS'.out]; exact fail_ne HZ.out (by decide), 21, s, rfl, HH.out.below hb, HS'.out⟩⟩

theorem takesWord (D : Nat → Prop) (w : World) : TakesG D w 177 #[] wordR (fun s _ v => v = .int .u64 ((wordV s : Nat) : Int)) :=
  fun q s w1 _ _ h hz => takeWord q s w1 h hz

theorem Words_any (w : World) :
    Calls Tryz.prog 144 #[] w fun en w' => en = .returned (.agg #[.func (.func 176) #[] #[], .func (.func 177) #[] #[]]) ∧ Below w.heap.size w w' := by
  have hmf : ∀ (fn : Fn) (first cap : Array Value) (w : World), (Instr.makeFunc fn first cap).run Tryz.prog w = .ok (.func fn first cap) w := fun _ _ _ _ => rfl
  go_enter Tryz.func144, Tryz.ntmps144
  go_wp2_with fail
  refine (MakeW _ _ _ _ _).mono ?_
  rintro e w1 ⟨rfl, hb1⟩
  have b1 := (Keep.ofBelow (S := fun _ => False) hb1 (Nat.le_refl _)).blk (heap_alloc_new w _) (fun h => h)
  have f0 := cell_of_row _ _ 0 _ _ _ b1
  have f1 := cell_of_row _ _ 1 _ _ _ b1
  have z0 := frozen_of_row w1 _ 0 _ _ b1
  have z1 := frozen_of_row w1 _ 1 _ _ b1
  have HB := hide (((Below.refl w.heap.size w).alloc (Nat.le_refl _) (.cells #[.nilFunc, .nilFunc] 172)).trans (hb1.mono (by simp)))
  clear hb1 b1
  go_wp2
  exact ⟨rfl, .agg #[.func (.func 176) #[] #[], .func (.func 177) #[] #[]], by simp [results, Tryz.results144, go_sem, f0, f1], rfl, (HB.out.setCell (by show _ ≤ _; simp) _).setCell (by show _ ≤ _; simp) _⟩

end Go.Proofs.YtbjcckfhfbjchaaGreat
