/- Package crew: Work. -/
import Derived.Test.YtgjiaajeionofaaKWrk
namespace Go.Proofs.Ytgjiaajeionofaa
namespace Cw
open Go.RowKit Go.Deep

/-- four bytes of a number -/
def four (s : Nat) : List Nat := [s / 16777216 % 256, s / 65536 % 256, s / 256 % 256, s % 256]
theorem below_grown {w wr w1 : World} {row : Option Nat} (hb : Below w.heap.size w wr) (hg : wr.grownBy w1 row) (hr : ∀ k, row = some k → w.heap.size ≤ k) : Below w.heap.size w w1 :=
  hb.grown hg hb.size hr
theorem one_rd (w : World) (d : Nat) (h : d < 256) : Rd (w.alloc (.cells #[.int .u8 (d : Int)] 5)) (some ⟨w.heap.size, 0, none⟩) 1 [d] := by
  refine ⟨rfl, by decide, by simpa using h, .inr ⟨_, _, rfl, fun i hi => ?_⟩⟩
  rw [cell_of_row _ _ _ _ _ _ (heap_alloc_new w _)]
  obtain rfl : i = 0 := by omega
  rfl
set_option maxRecDepth 10000 in
set_option maxHeartbeats 1000000 in
theorem work_any (t : ByteArray) (ht : t.size ≤ 140737488351232) (a : Option Addr) (n c : Nat) (ls : List (List Nat)) (w : World) (h : Ins w a n ls) (hfew : tot ls ≤ 1048576) (hn : n ≤ 20000) :
    Calls Try.prog 12 #[.string t, .slice a n c] w fun en w' => en = .returned (.slice (some ⟨w'.heap.size - 1, 0, none⟩) 4 4) ∧ w.heap.size < w'.heap.size ∧ w'.heap[w'.heap.size - 1]? = some (.cells (B8 (four (M.more 0 (sb t ++ txt ls)))).toArray 5 (0, 0)) ∧ Below w.heap.size w w' := by
  have hconv : ∀ w : World, (convert 9 35 (.string t)).run Try.prog w = .ok (.slice (some ⟨w.heap.size, 0, none⟩) t.size (grownCap w t.size 0 5)) (Lib.bytesWorld w 5 t) :=
    fun w => Lib.run_convert_string_bytes w 9 35 5 t Try.underlying9 Try.underlying35 Try.underlying5
  have HH := hide h
  have HB0 := hide (conv_below w 5 t)
  have HT0 := hide (Tx.of w t ht)
  have HLs : Hid (∀ d ∈ sb t ++ txt ls, d < 256) := fun d hd => (List.mem_append.1 hd).elim (sb_lt t d) (txt_lt h.lt d)
  have HLen : Hid ((sb t).length ≤ 140737488351232) := by show _ ≤ _; rw [sb_len]; exact ht
  have HTot : Hid (∀ i, (txt (ls.take i)).length ≤ 1068576) := fun i => by rw [txt_len]; have := tot_take_le ls i; have := h.1; have : (ls.take i).length ≤ ls.length := (by rw [List.length_take]; omega); omega
  obtain ⟨s, hs⟩ : ∃ s, M.more 0 (sb t ++ txt ls) = s := ⟨_, rfl⟩
  have hs4 := M.more_lt 0 (sb t ++ txt ls)
  rw [hs] at hs4 ⊢
  have HS := hide hs
  clear h hs
  go_enter Try.func12, Try.ntmps12
  go_wp2_with fail
  generalize hv0 : Value.slice (some ⟨w.heap.size, 0, none⟩) t.size (grownCap w t.size 0 5) = v0 at *
  generalize Lib.bytesWorld w 5 t = w1 at *
  clear hv0 hconv
  go_loopw [5, 13] (fun v i wr => ∃ k : Nat, k ≤ n ∧ i = .int .i64 k ∧ Hid (Tx wr w.heap.size v (sb t ++ txt (ls.take k)) ∧ Below w.heap.size w wr)) (fun _ i _ => n - (intOf i).toNat)
  case atStart => exact ⟨0, Nat.zero_le _, rfl, by rw [List.take_zero]; show Hid (Tx _ _ _ (sb t ++ []) ∧ _); rw [List.append_nil]; exact ⟨HT0.out, HB0.out⟩⟩
  case round =>
    clear HT0 HB0
    obtain ⟨k, hk, rfl, HD⟩ := hrel
    by_cases hlt : k < n
    · obtain ⟨l, hl⟩ : ∃ l, ls[k]? = some l := ⟨_, List.getElem?_eq_getElem (by have := HH.out.1; omega)⟩
      obtain ⟨b, off, rfl, hc⟩ := HH.out.2.2.resolve_left (by omega)
      obtain ⟨a', c', h1, h2, h3⟩ := hc k l hl
      have h1' := h1
      rw [← HD.out.2.cell (p := ⟨b, off + k, none⟩) (block_lt_of_cell h1)] at h1'
      have HR : Hid (∀ W', Below w.heap.size w W' → Rd W' a' l.length l) := fun W' hb => h2.keep hb
      have H3 := hide h3
      have hlm : l.length ≤ 1048576 := by
        have h4 := tot_take_le ls (k + 1)
        rw [take_at hl, tot_snoc] at h4
        omega
      have HX : Hid (sb t ++ txt (ls.take (k + 1)) = ((sb t ++ txt (ls.take k)) ++ [l.length % 256]) ++ l) := by show _ = _; rw [take_at hl, txt_snoc]; simp only [List.append_assoc]
      have HXl : Hid ((sb t ++ txt (ls.take k)).length ≤ 140737490000000) := by show _ ≤ _; rw [List.length_append]; have := HTot.out k; have := HLen.out; omega
      have hw8 : (l.length : Int) % 256 = ((l.length % 256 : Nat) : Int) := by omega
      have h256 : l.length % 256 < 256 := Nat.mod_lt _ (by decide)
      clear h1 h2 h3 hc hl
      generalize sb t ++ txt (ls.take k) = X at *
      generalize l.length % 256 = d at *
      generalize hm : l.length = m at *
      have HM := hide hm
      clear hm
      go_wp2_with (first
        | (at_builtin; refine wp_append_tx rfl _ _ rfl u5 X w.heap.size rfl (HD.out.1.keep ((Below.refl _ _).alloc (Nat.le_refl _) _)) (some ⟨wr.heap.size, 0, none⟩) 1 1 [d] rfl (one_rd wr d h256) (fun e => by cases e) (by have := HXl.out; omega) (Nat.le_trans HD.out.2.size (by simp)) ?_; intro v2 w2 ht2 hg2; have HT2 := hide ht2; have HB2 := hide (below_grown (HD.out.2.alloc HD.out.2.size _) hg2 HD.out.1.blk); clear ht2 hg2)
        | (at_builtin; refine wp_append_tx rfl _ _ rfl v2 (X ++ [d]) w.heap.size rfl HT2.out a' m c' l rfl (HR.out _ HB2.out) H3.out (by have := HXl.out; simp; omega) HB2.out.size ?_; intro v3 w3 ht3 hg3; have HT3 := hide ht3; have HB3 := hide (below_grown HB2.out hg3 HT2.out.blk); clear ht3 hg3))
      exact ⟨⟨k + 1, by omega, by go_num, by rw [HX.out]; exact ⟨HT3.out, HB3.out⟩⟩, by simp [intOf]; omega⟩
    · obtain rfl : k = n := by omega
      have HE : Hid (ls.take k = ls) := by show _ = _; rw [List.take_of_length_le (by have := HH.out.1; omega)]
      rw [HE.out] at HD
      obtain ⟨g, c5, e5, hrd, hg⟩ := HD.out.1.rd HLs.out (by rw [List.length_append]; have := HTot.out k; rw [HE.out] at this; have := HLen.out; omega)
      subst e5
      have HRD := hide hrd
      have HB := hide HD.out.2
      clear hrd HD
      generalize sb t ++ txt ls = X at *
      go_wp2_with fail
      refine (sum_any _ _ _ _ _ HRD.out).mono ?_
      rintro e w2 ⟨rfl, hb2⟩
      have HB2 := hide (HB.out.trans (hb2.mono HB.out.size))
      rw [HS.out]
      clear hb2 HB
      go_wp2_with fail
      go_ret
      have e1 : (s : Int) / 16777216 = ((s / 16777216 % 256 : Nat) : Int) := by omega
      have e2 : (s : Int) / 65536 % 256 = ((s / 65536 % 256 : Nat) : Int) := by omega
      have e3 : (s : Int) / 256 % 256 = ((s / 256 % 256 : Nat) : Int) := by omega
      have e4 : (s : Int) % 256 = ((s % 256 : Nat) : Int) := by omega
      refine ⟨?_, ?_, ?_, (HB2.out.alloc HB2.out.size _)⟩
      · simp
      · have := HB2.out.size; simp; omega
      · rw [e1, e2, e3, e4]
        have := heap_alloc_new w2 (.cells (B8 (four s)).toArray 5)
        simpa [B8, four] using this
end Cw
end Go.Proofs.Ytgjiaajeionofaa
