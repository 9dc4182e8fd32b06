/- The reference's own Work, in crew's seat. -/
import Derived.Test.YtgjiaajeionofaaKRef
import Derived.Test.YtgjiaajeionofaaKWor
namespace Go.Proofs.Ytgjiaajeionofaa
namespace Cw
open Go.RowKit Go.Deep

set_option maxRecDepth 10000 in
set_option maxHeartbeats 1000000 in
theorem refWork_any (t : ByteArray) (ht : t.size ≤ 140737488351232) (a : Option Addr) (n c : Nat) (ls : List (List Nat)) (w : World) (h : Ins w a n ls) (hfew : tot ls ≤ 1048576) (hn : n ≤ 20000) :
    Calls Try.prog 16 #[.string t, .slice a n c] w fun en w' => en = .returned (.slice (some ⟨w'.heap.size - 1, 0, none⟩) 4 4) ∧ w.heap.size < w'.heap.size ∧ w'.heap[w'.heap.size - 1]? = some (.cells (B8 (four (M.more 0 (sb t ++ txt ls)))).toArray 5 (0, 0)) ∧ Below w.heap.size w w' := by
  have hconv : ∀ w : World, (convert 9 35 (.string t)).run Try.prog w = .ok (.slice (some ⟨w.heap.size, 0, none⟩) t.size (grownCap w t.size 0 5)) (Lib.bytesWorld w 5 t) :=
    fun w => Lib.run_convert_string_bytes w 9 35 5 t Try.underlying9 Try.underlying35 Try.underlying5
  have HH := hide h
  have HB0 := hide (conv_below w 5 t)
  obtain ⟨g, c5, e5, hrd, hg⟩ := (Tx.of w t ht).rd (sb_lt t) (by rw [sb_len]; omega)
  have hl0 : (sb t).length = t.size := sb_len t
  rw [hl0] at e5 hrd
  cases e5
  have HRD := hide hrd
  have HLt : Hid (∀ k, ∀ d ∈ sb t ++ txt (ls.take k), d < 256) := fun k d hd => (List.mem_append.1 hd).elim (sb_lt t d) (txt_lt (fun l hl => h.lt l (List.mem_of_mem_take hl)) d)
  have hs0 := M.more_lt 0 (sb t)
  have HS0 : Hid (M.more 0 (sb t) = M.more 0 (sb t ++ txt (ls.take 0))) := by show _ = _; rw [List.take_zero]; show _ = M.more 0 (sb t ++ []); rw [List.append_nil]
  clear h hrd hl0
  go_enter Try.func16, Try.ntmps16
  go_wp2_with fail
  refine (refSum_any _ _ _ _ _ HRD.out).mono ?_
  rintro e w1 ⟨rfl, rfl⟩
  rw [HS0.out] at hs0 ⊢
  generalize Lib.bytesWorld w 5 t = w1 at *
  clear HRD hconv
  go_wp2_with fail
  go_loopw [5, 6] (fun v i wr => ∃ k : Nat, k ≤ n ∧ i = .int .i64 k ∧ v = .int .u32 (M.more 0 (sb t ++ txt (ls.take k)) : Nat) ∧ Hid (Below w.heap.size w wr)) (fun _ i _ => n - (intOf i).toNat)
  case atStart => exact ⟨0, Nat.zero_le _, rfl, rfl, HB0⟩
  case round =>
    clear HB0 hs0 HS0
    obtain ⟨k, hk, rfl, rfl, HD⟩ := hrel
    have hs4 := M.more_lt 0 (sb t ++ txt (ls.take k))
    by_cases hlt : k < n
    · obtain ⟨l, hl⟩ : ∃ l, ls[k]? = some l := ⟨_, List.getElem?_eq_getElem (by have := HH.out.1; omega)⟩
      obtain ⟨b, off, rfl, hc⟩ := HH.out.2.2.resolve_left (by omega)
      obtain ⟨a', c', h1, h2, h3⟩ := hc k l hl
      have h1' := h1
      rw [← HD.out.cell (p := ⟨b, off + k, none⟩) (block_lt_of_cell h1)] at h1'
      have h1'' : ∀ V, (wr.alloc V).cell? ⟨b, off + k, none⟩ = some (.slice a' l.length c') := fun V => by
        rw [← h1]
        exact (HD.out.alloc HD.out.size V).cell (p := ⟨b, off + k, none⟩) (block_lt_of_cell h1)
      have HR : Hid (∀ W', Below w.heap.size w W' → Rd W' a' l.length l) := fun W' hb => h2.keep hb
      have hlm : l.length ≤ 1048576 := by
        have h4 := tot_take_le ls (k + 1)
        rw [take_at hl, tot_snoc] at h4
        omega
      have h256 : l.length % 256 < 256 := Nat.mod_lt _ (by decide)
      have HX : Hid (M.more 0 (sb t ++ txt (ls.take (k + 1))) = M.more (M.more (M.more 0 (sb t ++ txt (ls.take k))) [l.length % 256]) l) := by
        show _ = _
        rw [take_at hl, txt_snoc, show sb t ++ (txt (ls.take k) ++ [l.length % 256] ++ l) = (sb t ++ txt (ls.take k)) ++ ([l.length % 256] ++ l) by simp only [List.append_assoc], M.more_append _ _ _ (HLt.out k), M.more_append _ [_] _ (by simpa using h256)]
      have hs5 := M.more_lt (M.more 0 (sb t ++ txt (ls.take k))) [l.length % 256]
      have hw8 : (l.length : Int) % 256 = ((l.length % 256 : Nat) : Int) := by omega
      clear h1 h2 h3 hc hl
      generalize M.more 0 (sb t ++ txt (ls.take k)) = s at *
      generalize l.length % 256 = d at *
      generalize hm : l.length = m at *
      have HM := hide hm
      clear hm
      go_wp2_with fail
      refine (refMore_any s hs4 _ _ _ [d] _ (one_rd wr d h256)).mono ?_
      rintro e w2 ⟨rfl, rfl⟩
      generalize M.more s [d] = s2 at *
      go_wp2_with fail
      refine (refMore_any s2 hs5 _ _ _ l _ (HR.out _ (HD.out.alloc HD.out.size _))).mono ?_
      rintro e w2 ⟨rfl, rfl⟩
      go_wp2_with fail
      exact ⟨⟨k + 1, by omega, by go_num, by rw [HX.out], HD.out.alloc HD.out.size _⟩, by simp [intOf]; omega⟩
    · obtain rfl : k = n := by omega
      have HE : Hid (ls.take k = ls) := by show _ = _; rw [List.take_of_length_le (by have := HH.out.1; omega)]
      rw [HE.out] at hs4 ⊢
      generalize hs : M.more 0 (sb t ++ txt ls) = s at *
      have HSS := hide hs
      clear hs
      go_wp2_with fail
      go_ret
      have e1 : (s : Int) / 16777216 = ((s / 16777216 % 256 : Nat) : Int) := by omega
      have e2 : (s : Int) / 65536 % 256 = ((s / 65536 % 256 : Nat) : Int) := by omega
      have e3 : (s : Int) / 256 % 256 = ((s / 256 % 256 : Nat) : Int) := by omega
      have e4 : (s : Int) % 256 = ((s % 256 : Nat) : Int) := by omega
      refine ⟨?_, ?_, ?_, (HD.out.alloc HD.out.size _)⟩
      · simp
      · have := HD.out.size; simp; omega
      · rw [e1, e2, e3, e4, HSS.out]
        have := heap_alloc_new wr (.cells (B8 (four s)).toArray 5)
        simpa [B8, four] using this
end Cw
end Go.Proofs.Ytgjiaajeionofaa
