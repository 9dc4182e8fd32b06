/- Contracts of lent, other, same, kept. -/
import Derived.Test.YtciehainhhkikaaMem
import Derived.Laws.BytesArg
namespace Go.Proofs.Ytciehainhhkikaa
open Go.RowKit

/-- bytes as a string -/
def str (l : List Nat) : ByteArray := strOfNums (l.map fun (d : Nat) => (d : Int))

theorem conv_rd {w : World} {a : Option Addr} {n : Nat} {l : List Nat} (h : Rd w a n l) (c : Nat) : (convert 22 9 (.slice a n c)).run Try.prog w = .ok (.string (str l)) w := by
  obtain ⟨hl, _, _, hrow⟩ := h
  rcases hrow with h0 | ⟨b, off, rfl, hrow⟩
  · have hnil : l = [] := List.length_eq_zero_iff.1 (by omega)
    subst h0 hnil
    cases a with
    | none => exact run_convert_bytes_nil w 22 5 Try.underlying22 Try.underlying5 0 c 9 Try.underlying9
    | some y =>
      have hl : (loadCells y 0).run Try.prog w = .ok (([] : List Int).map (Value.int .u8)).toArray w := by simpa using run_loadCells_list (P := Try.prog) w y [] (by simp)
      rw [run_convert_bytes_string w 22 9 5 _ 0 c Try.underlying22 Try.underlying5 Try.underlying9, run_bytesToString w _ 0 c [] hl]
      rfl
  · exact run_convert_bytes_arg w 22 5 Try.underlying22 Try.underlying5 b off n c (l.map fun (d : Nat) => (d : Int)) (by simp [hl]) (fun i hi => by
      rw [hrow i hi]
      congr 2
      rw [List.getD_eq_getElem?_getD, List.getD_eq_getElem?_getD, List.getElem?_map, List.getElem?_eq_getElem (show i < l.length by omega)]
      rfl) 9 Try.underlying9

theorem same_any (a b : Option Addr) (n c d : Nat) (l : List Nat) (w : World) (h1 : Rd w a n l) (h2 : Rd w b n l) :
    Calls Try.prog 24 #[.slice a n c, .slice b n d] w fun e w' => e = .returned (.bool true) ∧ w' = w := by
  have k1 := conv_rd h1 c
  have k2 := conv_rd h2 d
  clear h1 h2
  generalize str l = S at *
  go_enter Try.func24, Try.ntmps24
  go_wp2
  go_ret
  exact ⟨by simp, rfl⟩

/-- what is lent, its marks laid up to k -/
def lentTo (l : List Nat) (m k : Nat) : List Nat := l ++ (List.replicate (k - l.length) 201 ++ List.replicate (m - k) 0)
/-- bytes with the marks behind them -/
def marked (l : List Nat) : List Nat := l ++ List.replicate 80 201

theorem lentTo_length (l : List Nat) (m k : Nat) (h1 : l.length ≤ k) (h2 : k ≤ m) : (lentTo l m k).length = m := by simp [lentTo]; omega
theorem lentTo_set (l : List Nat) (m k : Nat) (h1 : l.length ≤ k) (h2 : k < m) : (lentTo l m k).set k 201 = lentTo l m (k + 1) := by
  unfold lentTo
  rw [List.set_append_right _ _ h1, List.set_append_right _ _ (by simp), show k + 1 - l.length = (k - l.length) + 1 by omega, List.replicate_succ']
  rw [show m - k = (m - (k + 1)) + 1 by omega, List.replicate_succ]
  simp
theorem lentTo_end (l : List Nat) (n m : Nat) (hn : n = l.length) (hm : m = n + 80) : lentTo l m m = marked l := by
  unfold lentTo marked
  rw [Nat.sub_self, show m - l.length = 80 by omega]
  simp
theorem lentTo_begin (l : List Nat) (n m : Nat) (hn : n = l.length) : splice (B8 (List.replicate m 0)) 0 (B8 l) = B8 (lentTo l m n) := by
  rw [splice_B8]
  unfold lentTo
  rw [List.take_zero, List.nil_append, Nat.zero_add, ← hn, Nat.sub_self, List.replicate_zero, List.nil_append, List.drop_replicate]

theorem marked_length (l : List Nat) : (marked l).length = l.length + 80 := by simp [marked]
theorem marked_lt (l : List Nat) (h : ∀ d ∈ l, d < 256) : ∀ d ∈ marked l, d < 256 := by
  intro d hd
  rcases List.mem_append.1 hd with h' | h'
  · exact h d h'
  · have := List.eq_of_mem_replicate h'; omega
theorem marked_take (l : List Nat) (n : Nat) (hn : n = l.length) : (marked l).take n = l := by simp [marked, hn]
theorem marked_at (l : List Nat) (k : Nat) (h1 : l.length ≤ k) (h2 : k < l.length + 80) : (marked l).getD k 0 = 201 := by
  unfold marked
  rw [List.getD_eq_getElem?_getD, List.getElem?_append_right h1, List.getElem?_replicate, if_pos (by omega)]
  rfl

set_option maxHeartbeats 1000000 in
theorem lent_any (a : Option Addr) (n c : Nat) (l : List Nat) (w : World) (h : Rd w a n l) (hsm : n ≤ 140737488351232) :
    Calls Try.prog 10 #[.slice a n c] w fun e w' => ∃ g, e = .returned (.slice (some ⟨g, 0, none⟩) (n + 80) (n + 80)) ∧ w.heap.size ≤ g ∧ Own w' g (marked l) ∧ Below w.heap.size w w' := by
  have hn := h.2.1
  obtain ⟨m, hm⟩ : ∃ m, m = n + 80 := ⟨_, rfl⟩
  have hadd : (n : Int) + 80 = (m : Int) := by omega
  have hmk := make_run m (by omega)
  have hb0 : Below w.heap.size w (w.alloc (.cells (B8 (List.replicate m 0)).toArray 5)) := (Below.refl _ _).alloc (Nat.le_refl _) _
  have hsrc := (h.keep hb0).srcAll
  have H1 : Hid ((B8 l).length = Nat.min n m) := by show _ = min n m; rw [B8_length]; have := h.1; omega
  have H2 : Hid (0 < (B8 l).length → some (⟨w.heap.size, 0, none⟩ : Addr) = some ⟨w.heap.size, 0, none⟩ ∧ ∃ ad, a = some ad ∧ ∀ j v, (B8 l)[j]? = some v → (w.alloc (.cells (B8 (List.replicate m 0)).toArray 5)).cell? (ad.add j) = some v) := fun hp => ⟨rfl, hsrc hp⟩
  have H3 : Hid (0 + (B8 l).length ≤ (B8 (List.replicate m 0)).length) := by show 0 + _ ≤ _; rw [B8_length, B8_length, List.length_replicate]; have := h.1; omega
  have H4 := hide (lentTo_begin l n m h.1)
  have H5 := hide (B8_one l)
  have H6 := hide hb0
  have HL := hide h.1
  have HM := hide hm
  have hnm : n ≤ m := by omega
  have hm2 : m < 281474976710656 := by omega
  clear h hsrc hb0 hm
  go_enter Try.func10, Try.ntmps10
  go_wp2_with (refine wpList_copy_splice rfl _ _ 22 22 rfl 5 Try.underlying22 size_u8 _ a m m n c rfl rfl w.heap.size 0 (B8 (List.replicate m 0)) 5 (heap_alloc_new _ _) (B8 l) H1.out H2.out H3.out H5.out w.heap.size w H6.out (Nat.le_refl _) ?_; rintro w1 hh hb1)
  have ho1 : Own w1 w.heap.size (lentTo l m n) := by have h' := hh.out; rw [H4.out] at h'; exact h'
  have hg : w.heap.size ≤ w.heap.size := Nat.le_refl _
  generalize hgg : w.heap.size = g at hg ho1 ⊢
  have HG : Hid (w.heap.size ≤ g) := by show _ ≤ _; omega
  clear hh hgg hg
  go_loopw [4] (fun i wx => ∃ k : Nat, n ≤ k ∧ k ≤ m ∧ i = .int .i64 k ∧ Own wx g (lentTo l m k) ∧ Below w.heap.size w wx) (fun i _ => m - (intOf i).toNat)
  case atStart => exact ⟨n, Nat.le_refl _, hnm, rfl, ho1, hb1⟩
  case round =>
    obtain ⟨k, hnk, hkm, rfl, ho, hb⟩ := hrel
    have HO := hide ho
    have HB := hide hb
    clear ho hb ho1 hb1
    by_cases hlt : k < m
    · have hc := HO.out.cell k (by rw [lentTo_length l m k (by have := HL.out; omega) hkm]; exact hlt)
      have hf := HO.out.free k
      have HS := hide (lentTo_set l m k (by have := HL.out; omega) hlt)
      generalize (lentTo l m k).getD k 0 = d at hc
      go_wp2
      refine ⟨⟨k + 1, by omega, by omega, by go_num, ?_, ?_⟩, by simp [intOf]; omega⟩
      · rw [← HS.out]
        exact HO.out.set k 201
      · exact HB.out.setCell HG.out _
    · obtain rfl : k = m := by omega
      go_wp2
      go_ret
      have hm80 : k = n + 80 := HM.out
      refine ⟨g, ?_, HG.out, ?_, HB.out⟩
      · rw [← hm80]; rfl
      · rw [← lentTo_end l n k HL.out hm80]; exact HO.out

/-- other bytes -/
def oth (l : List Nat) : List Nat := l.map fun d => d ^^^ 165
theorem oth_length (l : List Nat) : (oth l).length = l.length := by simp [oth]
theorem oth_lt (l : List Nat) (h : ∀ d ∈ l, d < 256) : ∀ d ∈ oth l, d < 256 := by
  intro d hd
  simp only [oth, List.mem_map] at hd
  obtain ⟨x, hx, rfl⟩ := hd
  exact Nat.xor_lt_two_pow (n := 8) (h x hx) (by decide)
theorem oth_at (l : List Nat) (k : Nat) (h : k < l.length) : (oth l).getD k 0 = l.getD k 0 ^^^ 165 := by
  simp [oth, List.getD_eq_getElem?_getD, h]

/-- k bytes done -/
def othTo (l : List Nat) (k : Nat) : List Nat := (oth l).take k ++ List.replicate (l.length - k) 0
theorem othTo_length (l : List Nat) (k : Nat) (h : k ≤ l.length) : (othTo l k).length = l.length := by simp [othTo, oth_length]; omega
theorem othTo_zero (l : List Nat) (n : Nat) (hn : n = l.length) : othTo l 0 = List.replicate n 0 := by simp [othTo, hn]
theorem othTo_all (l : List Nat) (n : Nat) (hn : n = l.length) : othTo l n = oth l := by
  unfold othTo
  rw [List.take_of_length_le (by rw [oth_length]; omega), show l.length - n = 0 by omega]; simp
theorem othTo_set (l : List Nat) (k : Nat) (h : k < l.length) : (othTo l k).set k (l.getD k 0 ^^^ 165) = othTo l (k + 1) := by
  unfold othTo
  rw [List.set_append_right _ _ (by simp; omega), take_snoc (oth l) k (by rw [oth_length]; exact h), oth_at l k h, show l.length - k = (l.length - (k + 1)) + 1 by omega, List.replicate_succ]
  simp [oth_length, Nat.min_eq_left (Nat.le_of_lt h)]

set_option maxHeartbeats 1000000 in
theorem other_any (a : Option Addr) (n c : Nat) (l : List Nat) (w : World) (h : Rd w a n l) :
    Calls Try.prog 13 #[.slice a n c] w fun e w' => ∃ g, e = .returned (.slice (some ⟨g, 0, none⟩) n n) ∧ w.heap.size ≤ g ∧ Own w' g (oth l) ∧ Rd w' (some ⟨g, 0, none⟩) n (oth l) ∧ Below w.heap.size w w' := by
  have hn := h.2.1
  have hmk := make_run n (by omega)
  have HH := hide h
  clear h
  go_enter Try.func13, Try.ntmps13
  go_wp2
  have ho1 : Own (w.alloc (.cells (B8 (List.replicate n 0)).toArray 5)) w.heap.size (othTo l 0) := by rw [othTo_zero l n HH.out.1]; exact heap_alloc_new _ _
  have hb1 : Below w.heap.size w (w.alloc (.cells (B8 (List.replicate n 0)).toArray 5)) := (Below.refl _ _).alloc (Nat.le_refl _) _
  generalize w.alloc (.cells (B8 (List.replicate n 0)).toArray 5) = w1 at *
  have hg : w.heap.size ≤ w.heap.size := Nat.le_refl _
  generalize hgg : w.heap.size = g at hg ho1 ⊢
  have HG : Hid (w.heap.size ≤ g) := by show _ ≤ _; omega
  clear hgg hg
  go_loopw [4] (fun i wx => ∃ k : Nat, k ≤ n ∧ i = .int .i64 k ∧ Own wx g (othTo l k) ∧ Below w.heap.size w wx) (fun i _ => n - (intOf i).toNat)
  case atStart => exact ⟨0, Nat.zero_le _, rfl, ho1, hb1⟩
  case round =>
    obtain ⟨k, hk, rfl, ho, hb⟩ := hrel
    have HO := hide ho
    have HB := hide hb
    clear ho hb ho1 hb1
    by_cases hlt : k < n
    · have hkl : k < l.length := by have := HH.out.1; omega
      have hd := getD_lt l HH.out.2.2.1 k
      obtain ⟨b, off, rfl, hc⟩ : ∃ b off, a = some ⟨b, off, none⟩ ∧ wr.cell? ⟨b, off + k, none⟩ = some (.int .u8 ((l.getD k 0 : Nat) : Int)) := by
        rcases (HH.out.keep HB.out).2.2.2 with h0 | ⟨b, off, rfl, hr⟩
        · omega
        · exact ⟨b, off, rfl, hr k hlt⟩
      have hc2 := HO.out.cell k (by rw [othTo_length l k (by omega)]; exact hkl)
      have hf := HO.out.free k
      have HS := hide (othTo_set l k hkl)
      generalize l.getD k 0 = d at *
      generalize (othTo l k).getD k 0 = d2 at hc2
      have hx : bits .xor .u8 (d : Int) 165 = ((d ^^^ 165 : Nat) : Int) := u8_xor_nat d 165 hd (by decide)
      go_wp2
      refine ⟨⟨k + 1, by omega, by go_num, ?_, ?_⟩, by simp [intOf]; omega⟩
      · rw [← HS.out]
        exact HO.out.set k _
      · exact HB.out.setCell HG.out _
    · obtain rfl : k = n := by omega
      go_wp2
      go_ret
      have ho := HO.out
      rw [othTo_all l k HH.out.1] at ho
      exact ⟨g, rfl, HG.out, ho, ho.rdn k (by rw [oth_length]; exact HH.out.1) hn (oth_lt l HH.out.2.2.1), HB.out⟩

set_option maxHeartbeats 1000000 in
theorem kept_any (g : Nat) (a : Option Addr) (n m c : Nat) (l : List Nat) (w : World) (ho : Own w g (marked l)) (h : Rd w a n l) (hm : m = n + 80) (hsm : n ≤ 140737488351232) :
    Calls Try.prog 12 #[.slice (some ⟨g, 0, none⟩) m m, .slice a n c] w fun e w' => e = .returned (.bool true) ∧ w' = w := by
  have hmr : Rd w (some ⟨g, 0, none⟩) m (marked l) := ho.rdn m (by rw [marked_length]; have := h.1; omega) (by omega) (marked_lt l h.2.2.1)
  obtain ⟨a', hsl, hrf⟩ := slice0_rd hmr m n (Nat.le_refl _) (by omega)
  rw [marked_take l n h.1] at hrf
  have HRF := hide hrf
  have HH := hide h
  have HO := hide ho
  have HM := hide hm
  have hnm : n ≤ m := by omega
  have hm2 : m ≤ 140737488351312 := by omega
  clear hmr hrf h ho hm hsm
  go_enter Try.func12, Try.ntmps12
  go_wp2
  go_loop [5] (fun i => ∃ k : Nat, n ≤ k ∧ k ≤ m ∧ i = .int .i64 k) (fun i => m - (intOf i).toNat)
  case atStart => exact ⟨n, Nat.le_refl _, hnm, rfl⟩
  case round =>
    obtain ⟨k, hnk, hkm, rfl⟩ := hrel
    by_cases hlt : k < m
    · have hc := HO.out.cell k (by rw [marked_length]; have := HH.out.1; have := HM.out; omega)
      rw [marked_at l k (by have := HH.out.1; omega) (by have := HH.out.1; have := HM.out; omega)] at hc
      have hc' : w.cell? ⟨g, k, none⟩ = some (.int .u8 201) := hc
      clear hc
      go_wp2
      exact ⟨⟨k + 1, by omega, by omega, by go_num⟩, by simp [intOf]; omega⟩
    · obtain rfl : k = m := by omega
      go_wp2_with fail
      refine (same_any _ _ _ _ _ _ _ HRF.out HH.out).mono ?_
      rintro e w1 ⟨rfl, rfl⟩
      go_wp2
      go_ret
      exact ⟨rfl, rfl⟩

theorem Own.src {w : World} {g : Nat} {l : List Nat} (h : Own w g l) : ∀ j v, (B8 l)[j]? = some v → w.cell? ((⟨g, 0, none⟩ : Addr).add j) = some v := by
  intro j v hv
  have hadd : (⟨g, 0, none⟩ : Addr).add j = ⟨g, j, none⟩ := by unfold Addr.add; split <;> simp_all
  rw [hadd, cell_of_row _ _ j _ _ _ h, List.getElem?_toArray]
  exact hv

/-- copy of one block of the call's own over another one's front -/
theorem copy_own {w : World} {g g6 m n : Nat} {x y : List Nat} (ho : Own w g x) (h6 : Own w g6 y) (hy : n = y.length) (hx : m = x.length) (hnm : n ≤ m) :
    ∃ w7, (∀ ty, (Builtin.copy_ #[22, 22] ty #[.slice (some ⟨g, 0, none⟩) m m, .slice (some ⟨g6, 0, none⟩) n n]).run Try.prog w = .ok (goInt n) w7) ∧ Own w7 g (y ++ x.drop n) ∧ (∀ B w0, Below B w0 w → B ≤ g → Below B w0 w7) ∧ (∀ k, k ≠ g → w7.heap[k]? = w.heap[k]?) := by
  refine ⟨w.setRow g ((B8 x).toArray.toList.take 0 ++ (B8 y ++ (B8 x).toArray.toList.drop (0 + (B8 y).length))).toArray, fun ty => ?_, ?_, fun B w0 hb hB => below_setRow hb g _ hB, fun k hk => heap_setRow_other _ _ _ _ hk⟩
  · have := run_copy_row (P := Try.prog) w 22 22 ty 5 g 0 m m ⟨g6, 0, none⟩ n n (B8 x).toArray 5 (B8 y) Try.underlying22 size_u8 ho (by show _ = min n m; rw [B8_length]; omega) h6.src (by simp [B8_length]; omega) (B8_one y)
    rw [B8_length, ← hy] at this
    rw [B8_length, ← hy]
    exact this
  · have e : (B8 x).toArray.toList.take 0 ++ (B8 y ++ (B8 x).toArray.toList.drop (0 + (B8 y).length)) = B8 (y ++ x.drop n) := by
      rw [B8_append, ← B8_drop, B8_length, ← hy]
      simp
    rw [e]
    exact setRow_heap _ _ _ _ _ _ ho

end Go.Proofs.Ytciehainhhkikaa
