/- CrewSums: the walk. -/
import Derived.Test.YtchefanneampfaaKAwk
import Derived.Deep.CutRange
namespace Go.Proofs.Ytchefanneampfaa
namespace Cw
open Go.RowKit Go.Deep

theorem info_sl8 : (Try.prog.info? 25).map (fun i => (i.zero, i.size, i.bytes)) = some (some (.slice none 0 0), 1, 24) := by kernel_rfl
/-- a row of bytes behind a row of rows -/
theorem wp_append_row {w : World} {ops : Array Oper} {rest : List Oper} {o : Oper} {ac : Act} {Q : Exit → Act → World → Prop} (hgd : o.guard = none) (s x : Operand)
    (ho : o.op = .call { callee := .builtin .append, args := #[s, x], argTypes := #[22, 22] })
    (v : Value) (vs : List Value) (base : Nat) (hs : ac.eval s = v) (hown : w.ownsRow base 25 1 v vs.length vs)
    (B : Nat) (y : Value) (hx : ac.eval x = .slice (some ⟨B, 0, none⟩) 1 1) (hB : w.cell? ⟨B, 0, none⟩ = some y) (h1 : y.oneCell' = true)
    (hsz : vs.length ≤ 1000000) (hbase : base ≤ w.heap.size)
    (h : ∀ v' w', w'.ownsRow base 25 1 v' (vs ++ [y]).length (vs ++ [y]) → w.grownBy w' v.ownBlock → NewBlk w v v' → wpList Try.prog ops Q rest (ac.put o.dst v') w') : wpList Try.prog ops Q (o :: rest) ac w := by
  obtain ⟨i0, hi, hz0, hz1, hz2⟩ := info_parts info_sl8
  refine wpList_append_wide hgd s x 22 ho base 25 i0 (.slice none 0 0) 1 24 Try.underlying22 hi hz0 hz1 hz2 rfl (by decide) v vs.length vs hs hown ⟨B, 0, none⟩ 1 1 [y] hx rfl (fun j u hu => ?_) (fun u hu => by simp at hu; rw [hu]; exact h1) (by unfold maxLen; omega) (by omega) hbase ?_
  · have hj : j = 0 := by have := (List.getElem?_eq_some_iff.1 hu).1; simp at this; omega
    subst hj
    simp at hu
    subst hu
    exact hB
  · intro v' w' h1 h2 h3
    exact h v' w' (by rw [List.length_append]; exact h1) h2 h3
theorem bytes_rd (w : World) (t : ByteArray) (ht : t.size ≤ 140737488351232) : Rd (Lib.bytesWorld w 5 t) (some ⟨w.heap.size, 0, none⟩) t.size (sb t) := by
  obtain ⟨g, c, e, hr, _⟩ := (Tx.of w t ht).rd (sb_lt t) (by rw [sb_len]; omega)
  injection e with e1 e2 e3
  injection e1 with e1
  injection e1 with e1
  rw [← e2, ← e1] at hr
  exact hr
/-- the step of the sum -/
theorem sum_step (X l : List Nat) (d : Nat) (hX : ∀ x ∈ X, x < 256) (hd : d < 256) (hl : ∀ x ∈ l, x < 256) : M.itZ (8 * ([d] ++ l).length) (M.more 0 X) ^^^ M.more 0 ([d] ++ l) = M.more 0 ((X ++ [d]) ++ l) := by
  have h1 : ∀ x ∈ [d] ++ l, x < 256 := fun x hx => by
    rcases List.mem_append.1 hx with hx | hx
    · simp at hx; omega
    · exact hl x hx
  rw [← M.more_join _ (M.more_lt _ _) _ h1, ← M.more_append _ _ _ hX, List.append_assoc]
theorem or_add (k a b : Nat) (h : b < 2 ^ k) : 2 ^ k * a ||| b = 2 ^ k * a + b := (Nat.two_pow_add_eq_or_of_lt h a).symm
theorem or_four (s : Nat) (h : s < 4294967296) : bits .or .u32 (bits .or .u32 (bits .or .u32 ((s : Int) / 16777216 % 256 * 16777216) ((s : Int) / 65536 % 256 * 65536)) ((s : Int) / 256 % 256 * 256)) ((s : Int) % 256) = (s : Int) := by
  have e1 : (s : Int) / 16777216 % 256 * 16777216 = ((2 ^ 24 * (s / 16777216 % 256) : Nat) : Int) := by omega
  have e2 : (s : Int) / 65536 % 256 * 65536 = ((s / 65536 % 256 * 65536 : Nat) : Int) := by omega
  have e3 : (s : Int) / 256 % 256 * 256 = ((s / 256 % 256 * 256 : Nat) : Int) := by omega
  have e4 : (s : Int) % 256 = ((s % 256 : Nat) : Int) := by omega
  have f1 : 2 ^ 24 * (s / 16777216 % 256) + s / 65536 % 256 * 65536 = 2 ^ 16 * (s / 65536) := by omega
  have f2 : 2 ^ 16 * (s / 65536) + s / 256 % 256 * 256 = 2 ^ 8 * (s / 256) := by omega
  have f3 : 2 ^ 8 * (s / 256) + s % 256 = s := by omega
  rw [e1, e2, e3, e4, u32_or_nat _ _ (by omega) (by omega), or_add 24 _ _ (by omega), f1, u32_or_nat _ _ (by omega) (by omega), or_add 16 _ _ (by omega), f2, u32_or_nat _ _ (by omega) (by omega), or_add 8 _ _ (by omega), f3]
set_option maxRecDepth 100000 in
set_option maxHeartbeats 4000000 in
theorem sums_walk (t : ByteArray) (ht : t.size ≤ 140737488351232) (a : Option Addr) (n c : Nat) (ls : List (List Nat)) (w : World) (h : Ins w a n ls) (hlen : ∀ l ∈ ls, l.length ≤ 140737488351232) :
    Calls Try.prog 4 #[.string t, .slice a n c] w fun en w' => en = .returned (.bool true) ∧ Below w.heap.size w w' := by
  have hconv : ∀ w : World, (convert 9 25 (.string t)).run Try.prog w = .ok (.slice (some ⟨w.heap.size, 0, none⟩) t.size (grownCap w t.size 0 5)) (Lib.bytesWorld w 5 t) :=
    fun w => Lib.run_convert_string_bytes w 9 25 5 t Try.underlying9 Try.underlying25 Try.underlying5
  have HH := hide h
  have HLen := hide hlen
  clear h hlen
  go_enter Try.func4, Try.ntmps4
  go_wp2_with fail
  refine (awake_any _).mono ?_
  rintro e w1 ⟨rfl, hb1⟩
  have HB1 := hide hb1
  clear hb1
  go_wp2_with fail
  refine (few_any a n c ls _ (HH.out.keep HB1.out) HLen.out).mono ?_
  rintro e w2 ⟨rfl, rfl⟩
  cases hfw : fewB ls n with
  | false =>
    go_wp2_with fail
    go_ret
    exact ⟨rfl, HB1.out⟩
  | true =>
    have hfw' : tot ls ≤ 1048576 ∧ n ≤ 20000 := of_decide_eq_true hfw
    obtain ⟨hfew, hn⟩ := hfw'
    clear hfw
    have HLs : Hid (∀ k, ∀ d ∈ sb t ++ txt (ls.take k), d < 256) := fun k d hd => (List.mem_append.1 hd).elim (sb_lt t d) (txt_lt (fun l hl => HH.out.lt l (List.mem_of_mem_take hl)) d)
    have HB2 := hide (HB1.out.trans ((conv_below w2 5 t).mono HB1.out.size))
    have HRD0 := hide (bytes_rd w2 t ht)
    clear HB1
    go_wp2_with fail
    refine (sum_any _ _ _ (sb t) _ HRD0.out).mono ?_
    rintro e w3 ⟨rfl, hb3⟩
    have HB3 := hide (HB2.out.trans (hb3.mono HB2.out.size))
    clear hb3 HRD0 HB2 hconv
    have HXl : Hid (∀ k, (txt (ls.take k)).length ≤ 1068576) := fun i => by rw [txt_len]; have := tot_take_le ls i; have := HH.out.1; have : (ls.take i).length ≤ ls.length := (by rw [List.length_take]; omega); omega
    go_wp2_with fail
    go_loopw [7, 8] (fun s i wr => ∃ k : Nat, k ≤ n ∧ i = .int .i64 k ∧ s = .int .u32 (M.more 0 (sb t ++ txt (ls.take k)) : Nat) ∧ Hid (Below w.heap.size w wr)) (fun _ i _ => n - (intOf i).toNat)
    case atStart => exact ⟨0, Nat.zero_le _, rfl, by rw [List.take_zero]; show _ = Value.int .u32 (M.more 0 (sb t ++ []) : Nat); rw [List.append_nil], HB3.out⟩
    case round =>
      clear HB3
      obtain ⟨k, hk, rfl, rfl, HD⟩ := hrel
      by_cases hlt : k < n
      · obtain ⟨l, hl⟩ : ∃ l, ls[k]? = some l := ⟨_, List.getElem?_eq_getElem (by have := HH.out.1; omega)⟩
        obtain ⟨b, off, rfl, hc⟩ := HH.out.2.2.resolve_left (by omega)
        obtain ⟨a', c', h1, h2, h3⟩ := hc k l hl
        have HC : Hid (∀ W', Below w.heap.size w W' → W'.cell? ⟨b, off + k, none⟩ = some (.slice a' l.length c')) := fun W' hb => by rw [hb.cell (p := ⟨b, off + k, none⟩) (block_lt_of_cell h1)]; exact h1
        have HR : Hid (∀ W', Below w.heap.size w W' → Rd W' a' l.length l) := fun W' hb => h2.keep hb
        have H3 := hide h3
        have HX : Hid (M.more 0 (sb t ++ txt (ls.take (k + 1))) = M.itZ (8 * ([l.length % 256] ++ l).length) (M.more 0 (sb t ++ txt (ls.take k))) ^^^ M.more 0 ([l.length % 256] ++ l)) := by
          show _ = _
          have := sum_step (sb t ++ txt (ls.take k)) l (l.length % 256) (HLs.out k) (Nat.mod_lt _ (by decide)) h2.2.2.1
          rw [take_at hl, txt_snoc, ← List.append_assoc, ← List.append_assoc]
          exact this.symm
        have hlm : l.length ≤ 1048576 := by
          have h4 := tot_take_le ls (k + 1)
          rw [take_at hl, tot_snoc] at h4
          omega
        have HLd := hide h2.2.2.1
        have hw8 : (l.length : Int) % 256 = ((l.length % 256 : Nat) : Int) := by omega
        have h256 : l.length % 256 < 256 := Nat.mod_lt _ (by decide)
        have hcell := HC.out _ HD.out
        have hs := M.more_lt 0 (sb t ++ txt (ls.take k))
        clear h1 h2 h3 hc hl
        generalize M.more 0 (sb t ++ txt (ls.take k)) = s at *
        generalize l.length % 256 = d at *
        generalize hm : l.length = m at *
        have HM := hide hm
        clear hm
        go_wp2_with (first
          | (at_builtin; refine wpList_append_rd rfl _ _ rfl (.slice none 0 0) [] wr.heap.size rfl (World.ownsRow_nil _ _ _ _) (some ⟨wr.heap.size, 0, none⟩) 1 1 [d] rfl (one_rd wr d h256) (fun e => by cases e) (by simp) (by simp) ?_; intro v2 w2' ho2 hg2 hnb2; rw [List.nil_append] at ho2; have HO2 := hide ho2; have HZ2 : Hid (wr.heap.size ≤ w2'.heap.size) := Nat.le_trans (by simp) hg2.size; have HB2 := hide (below_grown (HD.out.alloc HD.out.size _) hg2 (fun k e => by cases e)); have hcell2 := HC.out _ HB2.out; obtain ⟨g2, c2, hv2⟩ := ownsRow_shape ho2; subst hv2; clear ho2 hg2 hnb2)
          | (at_builtin; refine wpList_append_rd rfl _ _ rfl (.slice g2 [d].length c2) [d] wr.heap.size rfl HO2.out a' m c' l rfl (HR.out _ HB2.out) H3.out (by simp; omega) HZ2.out ?_; intro v3 w3' ho3 hg3 hnb3; have HO3 := hide ho3; have HB3 := hide (below_grown HB2.out hg3 (fun k e => Nat.le_trans HD.out.size ((HO2.out.lt k e).1))); clear ho3 hg3 hnb3))
        obtain ⟨a3, c3, hv3, hrd3, _⟩ := ownsRow_rd HO3.out (fun x hx => (List.mem_append.1 hx).elim (fun h => by simp at h; omega) (HLd.out x)) (by have := HM.out; simp; omega)
        subst hv3
        have HRD3 := hide hrd3
        have HYl : Hid (([d] ++ l).length ≤ 1048577) := by show _ ≤ _; have := HM.out; simp; omega
        clear hrd3 HO3 HO2 HB2 HR HC hcell hcell2 HLd
        generalize [d] ++ l = Y at *
        refine (sum_any _ _ _ Y _ HRD3.out).mono ?_
        rintro e w4 ⟨rfl, hb4⟩
        have HB4 := hide (HB3.out.trans (hb4.mono HB3.out.size))
        have hs2 := M.more_lt 0 Y
        clear hb4 HB3 HRD3
        generalize M.more 0 Y = s2 at *
        go_wp2_with fail
        refine (join_any s s2 Y.length hs hs2 (by have := HYl.out; omega) _).mono ?_
        rintro e w5 ⟨rfl, rfl⟩
        rw [← HX.out]
        go_wp2_with fail
        exact ⟨⟨k + 1, by omega, by go_num, rfl, HB4.out⟩, by simp [intOf]; omega⟩
      · obtain rfl : k = n := by omega
        have HE : Hid (ls.take k = ls) := by show _ = _; rw [List.take_of_length_le (by have := HH.out.1; omega)]
        rw [HE.out]
        have hs := M.more_lt 0 (sb t ++ txt ls)
        generalize hS : M.more 0 (sb t ++ txt ls) = s at *
        have HS := hide hS
        clear hS HE
        go_wp2_with fail
        go_loopw [10, 11] (fun v i wx => ∃ (q : Nat) (vs : List Value), q ≤ k ∧ i = .int .i64 q ∧ Hid (Rw wx w.heap.size v vs (ls.take q) ∧ Below w.heap.size w wx)) (fun _ i _ => k - (intOf i).toNat)
        case atStart => exact ⟨0, [], Nat.zero_le _, rfl, Rw.nil _ _, HD.out⟩
        case round =>
          clear HD
          obtain ⟨q, vs, hq, rfl, HV⟩ := hrel
          by_cases hlt2 : q < k
          · obtain ⟨l, hl⟩ : ∃ l, ls[q]? = some l := ⟨_, List.getElem?_eq_getElem (by have := HH.out.1; omega)⟩
            obtain ⟨b, off, rfl, hc⟩ := HH.out.2.2.resolve_left (by omega)
            obtain ⟨a', c', h1, h2, h3⟩ := hc q l hl
            have hcell : wr.cell? ⟨b, off + q, none⟩ = some (.slice a' l.length c') := by rw [HV.out.2.cell (p := ⟨b, off + q, none⟩) (block_lt_of_cell h1)]; exact h1
            have HR := hide (h2.keep HV.out.2)
            have H3 := hide h3
            have HT := hide (take_at hl)
            have hlm : l.length ≤ 1048576 := by
              have h4 := tot_take_le ls (q + 1)
              rw [take_at hl, tot_snoc] at h4
              omega
            have HLd := hide h2.2.2.1
            have HVl : Hid (vs.length ≤ 20000) := by show _ ≤ _; rw [HV.out.1.len, List.length_take]; omega
            clear h1 h2 h3 hc hl
            generalize hm : l.length = m at *
            have HM := hide hm
            clear hm
            go_wp2_with (first
              | (at_builtin; refine wpList_append_rd rfl _ _ rfl (.slice none 0 0) [] wr.heap.size rfl (World.ownsRow_nil _ _ _ _) a' m c' l rfl HR.out H3.out (by simp; omega) (Nat.le_refl _) ?_; intro v2 w4 ho2 hg2 hnb2; rw [List.nil_append] at ho2; obtain ⟨a2, c2, hv2⟩ := ownsRow_shape ho2; subst hv2; have HO2 := hide ho2; have HB2 : Hid (Below wr.heap.size wr w4) := (Keep.grown (S := fun _ => False) hg2 (fun k e => by cases e)).below (Nat.le_refl _) (fun _ f => f.elim); clear ho2 hg2 hnb2)
              | (at_builtin; refine wp_append_row rfl _ _ rfl u10 vs w.heap.size rfl (ownsRow_new (ownsRow_new HV.out.1.row (Keep.ofBelow HB2.out (Nat.le_refl _))) (Keep.alloc _ _ _)) w4.heap.size (.slice a2 l.length c2) rfl (by rw [cell_of_row _ _ _ _ _ _ (heap_alloc_new w4 _)]; rfl) rfl (by have := HVl.out; omega) (Nat.le_trans HV.out.2.size (Nat.le_trans HB2.out.size (by simp))) ?_; intro v5 w5 ho5 hg5 hn5; have HP := hide (HV.out.1.push HB2.out HO2.out HLd.out (by rw [HM.out]; omega) ho5 hg5 hn5); have HB5 := hide (below_grown ((HV.out.2.trans (HB2.out.mono HV.out.2.size)).alloc (Nat.le_trans HV.out.2.size HB2.out.size) _) hg5 (fun k e => (HV.out.1.row.lt k e).1)); clear ho5 hg5 hn5))
            exact ⟨⟨q + 1, _, by omega, by go_num, by rw [HT.out]; exact ⟨HP.out, HB5.out⟩⟩, by simp [intOf]; omega⟩
          · obtain rfl : q = k := by omega
            have HE : Hid (ls.take q = ls) := by show _ = _; rw [List.take_of_length_le (by have := HH.out.1; omega)]
            rw [HE.out] at HV
            obtain ⟨al, cl, e10, hins⟩ := HV.out.1.ins (by have := HH.out.1; omega)
            subst e10
            have HIn := hide hins
            have HB := hide HV.out.2
            clear hins HV HE
            go_wp2_with fail
            refine (work_any t ht al ls.length cl ls _ HIn.out hfew (by have := HH.out.1; omega)).mono ?_
            rintro e w4 ⟨rfl, _, h4, hb4⟩
            rw [HS.out] at h4
            have HB4 := hide (HB.out.trans (hb4.mono HB.out.size))
            have y0 : w4.cell? ⟨w4.heap.size - 1, 0, none⟩ = some (.int .u8 ((s / 16777216 % 256 : Nat) : Int)) := by rw [cell_of_row _ _ _ _ _ _ h4]; rfl
            have y1 : w4.cell? ⟨w4.heap.size - 1, 1, none⟩ = some (.int .u8 ((s / 65536 % 256 : Nat) : Int)) := by rw [cell_of_row _ _ _ _ _ _ h4]; rfl
            have y2 : w4.cell? ⟨w4.heap.size - 1, 2, none⟩ = some (.int .u8 ((s / 256 % 256 : Nat) : Int)) := by rw [cell_of_row _ _ _ _ _ _ h4]; rfl
            have y3 : w4.cell? ⟨w4.heap.size - 1, 3, none⟩ = some (.int .u8 ((s % 256 : Nat) : Int)) := by rw [cell_of_row _ _ _ _ _ _ h4]; rfl
            clear hb4 HB h4
            generalize w4.heap.size - 1 = g at *
            go_upto_region 22 with fail
            go_quiet (fail)
            rw [or_four s hs]
            go_wp2_with fail
            go_ret
            exact ⟨by simp, ⟨HB4.out.os, HB4.out.tape, HB4.out.output, HB4.out.size, HB4.out.block⟩⟩
end Cw
end Go.Proofs.Ytchefanneampfaa
