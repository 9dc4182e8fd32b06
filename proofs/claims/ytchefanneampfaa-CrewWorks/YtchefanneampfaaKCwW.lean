/- CrewWorks: the walk. -/
import Derived.Test.YtchefanneampfaaKCwM
import Derived.Deep.CutRange
import Derived.Laws.Concat
import Derived.Laws.Cover3
namespace Go.Proofs.Ytchefanneampfaa
namespace Ow
open Go.RowKit Go.Deep Cw

set_option maxRecDepth 100000 in
set_option maxHeartbeats 8000000 in
theorem works_walk (t : ByteArray) (ht : t.size ≤ 140737488351232) (a : Option Addr) (n c : Nat) (ls : List (List Nat)) (w : World) (h : Ins w a n ls) (hlen : ∀ l ∈ ls, l.length ≤ 140737488351232) :
    Calls Try.prog 3 #[.string t, .slice a n c] w fun en w' => en = .returned (.bool true) ∧ Below w.heap.size w w' := by
  have HH := hide h
  have HLen := hide hlen
  clear h hlen
  go_enter Try.func3, Try.ntmps3
  go_wp2_with fail
  refine (awake_any _).mono ?_
  rintro e w1 ⟨rfl, hb1⟩
  have HB1 := hide hb1
  clear hb1
  go_wp2_with fail
  refine (few_any a n c ls _ (HH.out.keep HB1.out) HLen.out).mono ?_
  rintro e w2 ⟨rfl, rfl⟩
  cases hfw : fewB ls n with
  | false =>
    go_wp2_with fail
    go_ret
    exact ⟨rfl, HB1.out⟩
  | true =>
    have hfw' : tot ls ≤ 1048576 ∧ n ≤ 20000 := of_decide_eq_true hfw
    obtain ⟨hfew, hn⟩ := hfw'
    clear hfw
    obtain ⟨L, hL⟩ : ∃ L : Nat → Nat, L = fun i => (ls.getD i []).length := ⟨_, rfl⟩
    obtain ⟨c0, hc0⟩ : ∃ c0 : Nat → List Nat, c0 = fun i => ls.getD i [] ++ List.replicate 9 0 := ⟨_, rfl⟩
    have HL : Hid (∀ i l, ls[i]? = some l → L i = l.length ∧ c0 i = l ++ List.replicate 9 0) := fun i l hl => by
      rw [hL, hc0]
      simp only [List.getD_eq_getElem?_getD, hl]
      exact ⟨rfl, rfl⟩
    clear hL hc0
    obtain ⟨w3, hmk, hr3, hb3⟩ := made_rows w2 n hn
    have HC0 : Hid (Cs w.heap.size w2.heap.size n 0 (fun _ => 0) L c0 (.slice none 0 0) w3) := Cs.begin HB1.out.size _ (fun i hi => by rw [List.getElem?_replicate, if_pos hi]) hr3
    have HB3 := hide (HB1.out.trans (hb3.mono HB1.out.size))
    clear hr3 hb3 HB1
    go_wp2_with fail
    generalize w2.heap.size = Mb at *
    clear hmk
    go_loopw [7, 9, 10] (fun ovv iv _ wr => ∃ (q : Nat) (G : Nat → Nat) (oa : Option Addr) (oc : Nat), ovv = .slice oa q oc ∧ iv = .int .i64 (q : Nat) ∧ q ≤ n ∧ Hid (Cs w.heap.size Mb n q G L c0 (.slice oa q oc) wr ∧ Below w.heap.size w wr)) (fun _ iv _ _ => n - (intOf iv).toNat)
    case atStart => exact ⟨0, _, none, 0, rfl, rfl, Nat.zero_le _, HC0.out, HB3.out⟩
    case round => as_aux_lemma =>
      clear HC0 HB3
      obtain ⟨q, G, oa, oc, rfl, rfl, hq, HD⟩ := hrel
      by_cases hlt : q < n
      · as_aux_lemma =>
        have hlt' : (q : Int) < (n : Int) := by omega
        obtain ⟨l, hl⟩ : ∃ l, ls[q]? = some l := ⟨_, List.getElem?_eq_getElem (by have := HH.out.1; omega)⟩
        obtain ⟨b, off, rfl, hc⟩ := HH.out.2.2.resolve_left (by omega)
        obtain ⟨a', c', h1, h2, h3⟩ := hc q l hl
        have HC : Hid (∀ W', Below w.heap.size w W' → W'.cell? ⟨b, off + q, none⟩ = some (.slice a' l.length c')) := fun W' hb => by rw [hb.cell (p := ⟨b, off + q, none⟩) (block_lt_of_cell h1)]; exact h1
        have HR : Hid (∀ W', Below w.heap.size w W' → Rd W' a' l.length l) := fun W' hb => h2.keep hb
        have hlm : l.length ≤ 1048576 := by
          have h4 := tot_take_le ls (q + 1)
          rw [take_at hl, tot_snoc] at h4
          omega
        obtain ⟨eL, ec⟩ := HL.out q l hl
        have HEL := hide eL
        have HEC := hide ec
        have HLd := hide h2.2.2.1
        have hcell := HC.out _ HD.out.2
        obtain ⟨w4, hmk, hr4, hb4⟩ := made_bytes wr l.length hlm
        have HB4 := hide (HD.out.2.trans (hb4.mono HD.out.2.size))
        have HK4 : Hid (Below wr.heap.size wr w4) := hb4
        have HR4 := hide hr4
        have hcell4 := HC.out _ HB4.out
        clear h1 h2 h3 hc hl hr4 hb4 eL ec
        generalize hm : l.length = m at *
        have HM := hide hm
        clear hm
        have HCP : Hid (l.take (m + 9) ++ (List.replicate (m + 9) 0).drop (min m (m + 9)) = c0 q) := by
          show _ = _
          rw [HEC.out, List.take_of_length_le (by have := HM.out; omega), List.drop_replicate]
          congr 2
          omega
        have HDC : Hid (∀ d ∈ c0 q, d < 256) := fun d hd => by
          rw [HEC.out] at hd
          rcases List.mem_append.1 hd with hd | hd
          · exact HLd.out d hd
          · rw [(List.mem_replicate.1 hd).2]; decide
        have hcn : ¬ (m + 9 < m) := by omega
        go_wp2_with (first
          | (refine wp_copyF rfl _ _ rfl wr.heap.size (m + 9) (m + 9) (m + 9) (List.replicate (m + 9) 0) (Nat.le_refl _) HR4.out a' m c' l (HR.out _ HB4.out) rfl rfl ?_; intro w5 x5 hr5 hk5; rw [HCP.out] at hr5; have HR5 := hide hr5; have HK5 : Hid (Keep (fun k => wr.heap.size ≤ k) wr w5) := (Keep.ofBelow HK4.out (Nat.le_refl _)).more (hk5.mono fun k e => by omega); have HB5 := hide (HB4.out.trans (hk5.below HB4.out.size fun k e => by have := HD.out.2.size; omega)); clear hr5 hk5; have CA := hide (cell_one w5 (.slice (some ⟨wr.heap.size, 0, none⟩) (m + 9) (m + 9)) 25))
          | (at_builtin; refine wp_appendL rfl _ _ rfl (Mb + 1) (.slice oa q oc) q _ rfl (ownsRow_new (HD.out.1.later HK5.out) (Keep.alloc _ _ _)) ⟨w5.heap.size, 0, none⟩ _ _ _ rfl CA.out (by omega) (by have := HD.out.1.mlt; have := HK5.out.size; simp; omega) ?_; intro v6 w6 o6 k6 b6; obtain ⟨oa', oc', hv6⟩ := ownsRow_shape o6; subst hv6; have HO6 := hide o6; have HK6 := hide k6; have HB6 : Hid (Below w.heap.size w w6) := (HB5.out.alloc HB5.out.size _).trans (k6.below (Nat.le_trans HB5.out.size (by simp)) fun k e => by have := (HD.out.1.owns.lt k e).1; have := HD.out.1.m; omega); clear o6 k6 b6; have hcell6 := HC.out _ HB6.out; obtain ⟨cm6, fm6⟩ := HD.out.1.mine5 HK5.out HK6.out hlt))
        have e : L q = m := by have := HEL.out; have := HM.out; omega
        have hp := HD.out.1.push HD.out.2.size hlt HK5.out (by rw [e]; exact HR5.out) HDC.out HK6.out (by rw [e]; exact HO6.out)
        rw [e] at hp
        exact ⟨⟨q + 1, _, oa', oc', rfl, by go_num, by omega, hp, HB6.out.trans ((keep_cell w6 Mb q _).below HB6.out.size fun k e => by have := HD.out.1.m; omega)⟩, by simp [intOf]; omega⟩
      · as_aux_lemma =>
        obtain rfl : q = n := by omega
        have HLb : Hid (∀ i, i < q → L i ≤ 1048576) := fun i hi => by
          obtain ⟨l, hl⟩ : ∃ l, ls[i]? = some l := ⟨_, List.getElem?_eq_getElem (by have := HH.out.1; omega)⟩
          have h4 := tot_take_le ls (i + 1)
          rw [take_at hl, tot_snoc] at h4
          have := (HL.out i l hl).1
          omega
        have HIn : Hid (∀ W', Cs w.heap.size Mb q q G L c0 (.slice oa q oc) W' → Ins W' (some ⟨Mb, 0, none⟩) q ls) := fun W' h => h.ins ls HH.out.1.symm (by omega) (fun i hi => by have := HLb.out i hi; omega) (fun i l hl => by rw [(HL.out i l hl).1, (HL.out i l hl).2, List.take_left'] ; rfl)
        have hcn : ¬ (q + 4 < q) := by omega
        obtain ⟨s, hs⟩ : ∃ s, M.more 0 (sb t ++ txt ls) = s := ⟨_, rfl⟩
        have HS := hide hs
        clear hs
        go_wp2_with fail
        refine (work_any t ht _ _ _ ls _ (HIn.out _ HD.out.1) hfew hn).mono ?_
        rintro e w7 ⟨rfl, hz7, h7, hb7⟩
        rw [HS.out] at h7
        have HC7 := hide (HD.out.1.below hb7)
        have HB7 := hide (HD.out.2.trans (hb7.mono HD.out.2.size))
        have HA7 := hide h7
        have HG7 : Hid (∀ i, i < q → G i < w7.heap.size - 1) := fun i hi => by have := HD.out.1.glt hi; omega
        have HGl : Hid (w7.heap.size - 1 < w7.heap.size) := by show _ < _; omega
        have HGw : Hid (w.heap.size ≤ w7.heap.size - 1) := by have := HD.out.2.size; show _ ≤ _; omega
        clear h7 hb7 hz7 HD
        generalize w7.heap.size - 1 = ga at *
        go_wp2_with fail
        go_loopw [12] (fun iv wx => ∃ i : Nat, iv = .int .i64 (i : Nat) ∧ i ≤ q ∧ Hid (Below w7.heap.size w7 wx)) (fun iv _ => q - (intOf iv).toNat)
        case atStart => exact ⟨0, rfl, Nat.zero_le _, Below.refl _ _⟩
        case round => as_aux_lemma =>
          obtain ⟨i, rfl, hi, HV⟩ := hrel
          by_cases hlt2 : i < q
          · as_aux_lemma =>
            have hlt2' : (i : Int) < (q : Int) := by omega
            obtain ⟨l, hl⟩ : ∃ l, ls[i]? = some l := ⟨_, List.getElem?_eq_getElem (by have := HH.out.1; omega)⟩
            obtain ⟨b, off, rfl, hc⟩ := HH.out.2.2.resolve_left (by omega)
            obtain ⟨a', c', h1, h2, h3⟩ := hc i l hl
            have HBx := hide (HB7.out.trans (HV.out.mono HB7.out.size))
            have hcell : wr.cell? ⟨b, off + i, none⟩ = some (.slice a' l.length c') := by rw [HBx.out.cell (p := ⟨b, off + i, none⟩) (block_lt_of_cell h1)]; exact h1
            have HCx := hide (HC7.out.below HV.out)
            have cm := HCx.out.cm hlt2 (Nat.le_refl _)
            obtain ⟨g, cap, eo, cov⟩ := HCx.out.co hlt2
            injection eo with eo1 _ eo2
            subst eo1
            subst eo2
            obtain ⟨eL, ec⟩ := HL.out i l hl
            have hl9 := HLb.out i hlt2
            have lc := HCx.out.len hlt2
            have kI := fun n => conv_rd ((h2.keep HBx.out).stay (S := fun _ => False) (w' := wr.drewN n) ⟨rfl, rfl, rfl, Nat.le_refl _, fun _ _ _ => rfl⟩ fun _ _ _ f => f) c'
            have kM := fun n => conv_rd ((HCx.out.rd (m := L i) hlt2 (by omega) (by omega)).stay (S := fun _ => False) (w' := wr.drewN n) ⟨rfl, rfl, rfl, Nat.le_refl _, fun _ _ _ => rfl⟩ fun _ _ _ f => f) (L i + 9)
            have kO := fun n => conv_rd ((HCx.out.rd (m := L i + 9) hlt2 (by omega) (by omega)).stay (S := fun _ => False) (w' := wr.drewN n) ⟨rfl, rfl, rfl, Nat.le_refl _, fun _ _ _ => rfl⟩ fun _ _ _ f => f) (L i + 9)
            have eM : (c0 i).take (L i) = l := by rw [eL, ec, List.take_left']; rfl
            have eO : (c0 i).take (L i + 9) = l ++ List.replicate 9 0 := by rw [List.take_of_length_le (by omega), ec]
            rw [eM] at kM
            rw [eO] at kO
            have hS : str (l ++ List.replicate 9 0) = str l ++ ⟨#[0, 0, 0, 0, 0, 0, 0, 0, 0]⟩ := str_zeros l
            rw [hS] at kO
            have hsz : (str l).size ≤ 1048576 := by unfold str; rw [strOfNums_size, List.length_map]; omega
            have hadd : ∀ w : World, (Op.stringOp .add (str l) ⟨#[0, 0, 0, 0, 0, 0, 0, 0, 0]⟩).run Try.prog w = .ok (.string (str l ++ ⟨#[0, 0, 0, 0, 0, 0, 0, 0, 0]⟩)) w := fun w => run_string_add_sum w _ _ (by have : (⟨#[0, 0, 0, 0, 0, 0, 0, 0, 0]⟩ : ByteArray).size = 9 := rfl; omega)
            clear h1 h2 h3 hc hl eM eO hS lc ec hsz
            rw [← eL] at hcell kI
            clear eL
            generalize str l = S at *
            generalize L i = m at *
            generalize hS2 : S ++ (⟨#[0, 0, 0, 0, 0, 0, 0, 0, 0]⟩ : ByteArray) = S2 at *
            clear hS2
            clear HH
            go_wp2_with fail
            go_quiet (fail)
            go_wp2_with fail
            go_roundw
            · exact ⟨i + 1, by go_num, by omega, HV.out.trans ⟨rfl, rfl, rfl, Nat.le_refl _, fun _ _ => rfl⟩⟩
            · show q - ((i : Int) + 1).toNat < q - (i : Int).toNat
              omega
          · as_aux_lemma =>
            obtain rfl : i = q := by omega
            have HC8 := hide (HC7.out.below HV.out)
            have HB8 := hide (HB7.out.trans (HV.out.mono HB7.out.size))
            have HA8 : Hid (wr.heap[ga]? = some (.cells (B8 (four s)).toArray 5 (0, 0))) := by show _ = _; rw [HV.out.block ga HGl.out]; exact HA7.out
            have HZ8 : Hid (ga < wr.heap.size) := by have := HV.out.size; have := HGl.out; show _ < _; omega
            clear HC7 HB7 HA7 HV HGl
            go_wp2_with fail
            go_loopw [13] (fun iv wx => ∃ j : Nat, iv = .int .i64 (j : Nat) ∧ i ≤ j ∧ j ≤ i + 4 ∧ wx = wr) (fun iv _ => i + 4 - (intOf iv).toNat)
            case atStart => exact ⟨i, rfl, Nat.le_refl _, by omega, rfl⟩
            case round => as_aux_lemma =>
              obtain ⟨j, rfl, hj, hj4, hwx⟩ := hrel
              subst hwx
              by_cases hlt3 : j < i + 4
              · as_aux_lemma =>
                have hlt3' : (j : Int) < (i : Int) + 4 := by omega
                have cz := HC8.out.cz hj hlt3
                have hnil : ∀ w : World, (binOp .neq 25 (.slice none 0 0) (.slice none 0 0)).run Try.prog w = .ok (.bool false) w := fun w => run_neq_slice_nil (P := Try.prog) w _ 5 none 0 0 Try.underlying25
                go_wp2_with fail
                go_roundw
                · exact ⟨j + 1, by go_num, by omega, by omega, by trivial⟩
                · show i + 4 - ((j : Int) + 1).toNat < i + 4 - (j : Int).toNat
                  omega
              · as_aux_lemma =>
                obtain rfl : j = i + 4 := by omega
                go_wp2_with fail
                refine (work_any t ht _ _ _ ls _ (HIn.out _ HC8.out) hfew hn).mono ?_
                rintro e w9 ⟨rfl, hz9, h9, hb9⟩
                rw [HS.out] at h9
                have HC9 := hide (HC8.out.below hb9)
                have HB9 := hide (HB8.out.trans (hb9.mono HB8.out.size))
                have HA9 : Hid (w9.heap[ga]? = some (.cells (B8 (four s)).toArray 5 (0, 0))) := by show _ = _; rw [hb9.block ga HZ8.out]; exact HA8.out
                have HAb := hide h9
                have HZ9 : Hid (ga < w9.heap.size - 1 ∧ w9.heap.size - 1 < w9.heap.size) := by have := HZ8.out; show _ ∧ _; omega
                clear HC8 HB8 HA8 HZ8 hz9 h9 hb9
                generalize w9.heap.size - 1 = gb at *
                go_wp2_with fail
                go_loopw [15] (fun iv wx => ∃ (r : Nat) (c1 : Nat → List Nat), iv = .int .i64 (r : Nat) ∧ r ≤ i ∧ Hid (Cs w.heap.size Mb i i G L c1 (.slice oa i oc) wx ∧ Below w.heap.size w wx ∧ Keep (fun k => ∃ y, y < i ∧ k = G y) w9 wx)) (fun iv _ => i - (intOf iv).toNat)
                case atStart => exact ⟨0, c0, rfl, Nat.zero_le _, HC9.out, HB9.out, Keep.refl _ _⟩
                case round => as_aux_lemma =>
                  clear HC9 HB9
                  obtain ⟨r, c1, rfl, hr, HD⟩ := hrel
                  by_cases hlt4 : r < i
                  · as_aux_lemma =>
                    have hlt4' : (r : Int) < (i : Int) := by omega
                    have hl9 := HLb.out r hlt4
                    go_wp2_with fail
                    go_loopw [16] (fun kv wx => ∃ (k : Nat) (c1 : Nat → List Nat), kv = .int .i64 (k : Nat) ∧ k ≤ L r + 9 ∧ Hid (Cs w.heap.size Mb i i G L c1 (.slice oa i oc) wx ∧ Below w.heap.size w wx ∧ Keep (fun k => ∃ y, y < i ∧ k = G y) w9 wx)) (fun kv _ => L r + 9 - (intOf kv).toNat)
                    case atStart => exact ⟨0, c1, rfl, Nat.zero_le _, HD.out⟩
                    case round => as_aux_lemma =>
                      clear HD c1
                      obtain ⟨k, c1, rfl, hk, HD⟩ := hrel
                      obtain ⟨g, cap, eo, cov⟩ := HD.out.1.co hlt4
                      injection eo with eo1 _ eo2
                      subst eo1
                      subst eo2
                      by_cases hlt5 : k < L r + 9
                      · as_aux_lemma =>
                        have hlt5' : (k : Int) < (L r : Int) + 9 := by omega
                        obtain ⟨d, hd⟩ : ∃ d, (c1 r)[k]? = some d := ⟨_, List.getElem?_eq_getElem (by rw [HD.out.1.len hlt4]; exact hlt5)⟩
                        have hd256 : d < 256 := (HD.out.1.blk r hlt4).2.1 d (List.mem_of_getElem? hd)
                        have cg : wr.cell? ⟨G r, k, none⟩ = some (.int .u8 (d : Int)) := by
                          rw [(HD.out.1.blk r hlt4).1.cellAt k (by omega)]
                          unfold B8
                          rw [List.getElem?_map, hd]
                          rfl
                        have fg := (HD.out.1.blk r hlt4).1.frozenAt k
                        obtain ⟨d2, hd2, hx⟩ := xor_some d hd256
                        have HN : Hid (∀ W, Keep (fun _ => False) wr W → Cs w.heap.size Mb i i G L (fun j => if j = r then (c1 r).set k d2 else c1 j) (.slice (some ⟨g, 0, none⟩) i oc) (W.setCell ⟨G r, k, none⟩ (.int .u8 (d2 : Int))) ∧ Below w.heap.size w (W.setCell ⟨G r, k, none⟩ (.int .u8 (d2 : Int))) ∧ Keep (fun k => ∃ y, y < i ∧ k = G y) w9 (W.setCell ⟨G r, k, none⟩ (.int .u8 (d2 : Int)))) := fun W hW => by
                          have kk := Keep.setCell (S := fun k => ∃ y, y < i ∧ k = G y) W (p := ⟨G r, k, none⟩) ⟨r, hlt4, rfl⟩ (.int .u8 (d2 : Int))
                          have bW : Below w.heap.size w W := HD.out.2.1.trans (hW.below HD.out.2.1.size fun _ f => f.elim)
                          refine ⟨(HD.out.1.new hW).put hlt4 hd2, bW.trans (kk.below bW.size fun b hb => ?_), (HD.out.2.2.more (hW.mono fun _ f => f.elim)).more kk⟩
                          obtain ⟨y, hy, rfl⟩ := hb
                          exact (HD.out.1.blk y hy).2.2
                        clear HD
                        generalize L r = m at *
                        go_wp2_with fail
                        go_region
                        have hN := HN.out wr (Keep.refl _ _)
                        go_wp2_with fail
                        go_roundw
                        · exact ⟨k + 1, _, by go_num, by omega, hN.1.new (Keep.drew _ _), hN.2.1.drew, hN.2.2.more (Keep.drew _ _)⟩
                        · show m + 9 - ((k : Int) + 1).toNat < m + 9 - (k : Int).toNat
                          omega
                      · as_aux_lemma =>
                        obtain rfl : k = L r + 9 := by omega
                        have hge : ¬ (((L r + 9 : Nat) : Int) < (L r : Int) + 9) := by omega
                        go_wp2_with fail
                        go_roundw
                        · exact ⟨r + 1, c1, by go_num, by omega, HD.out⟩
                        · show i - ((r : Int) + 1).toNat < i - (r : Int).toNat
                          omega
                  · as_aux_lemma =>
                    obtain rfl : r = i := by omega
                    have HAx : Hid (wr.heap[ga]? = some (.cells (B8 (four s)).toArray 5 (0, 0))) := HD.out.2.2.blk HA9.out fun ⟨y, hy, e⟩ => by have := HG7.out y hy; omega
                    have HBx : Hid (wr.heap[gb]? = some (.cells (B8 (four s)).toArray 5 (0, 0))) := HD.out.2.2.blk HAb.out fun ⟨y, hy, e⟩ => by have := HG7.out y hy; have := HZ9.out; omega
                    have HZx : Hid (ga < gb ∧ gb < wr.heap.size) := by have := HD.out.2.2.size; have := HZ9.out; show _ ∧ _; omega
                    clear HA9 HAb HZ9
                    obtain ⟨ls1, hls1⟩ : ∃ ls1, ls1 = (List.range r).map (fun y => (c1 y).take (L y)) := ⟨_, rfl⟩
                    have hget : ∀ (y : Nat) l, ls1[y]? = some l → y < r ∧ (c1 y).take (L y) = l := fun y l hl => by
                      rw [hls1, List.getElem?_map] at hl
                      have hy : y < r := by
                        rcases Nat.lt_or_ge y r with h | h
                        · exact h
                        · rw [List.getElem?_eq_none (by simpa using h)] at hl; cases hl
                      rw [List.getElem?_range hy] at hl
                      exact ⟨hy, by simpa using hl⟩
                    have hlen1 : ls1.length = r := by rw [hls1]; simp
                    have HIn1 : Hid (∀ W', Cs w.heap.size Mb r r G L c1 (.slice oa r oc) W' → Ins W' (some ⟨Mb, 0, none⟩) r ls1) := fun W' h => h.ins ls1 hlen1 (by omega) (fun i hi => by have := HLb.out i hi; omega) (fun y l hl => (hget y l hl).2)
                    have htot1 : tot ls1 ≤ 1048576 := by
                      rw [tot_of (ls := ls) (by rw [hlen1]; exact HH.out.1) (fun y l l1 h1 h2 => by
                        obtain ⟨hy, e⟩ := hget y l1 h2
                        rw [← e, List.length_take, HD.out.1.len hy, (HL.out y l h1).1]
                        omega)]
                      exact hfew
                    clear hls1 hget hlen1
                    obtain ⟨s1, hs1⟩ : ∃ s1, M.more 0 (sb t ++ txt ls1) = s1 := ⟨_, rfl⟩
                    have HS1 := hide hs1
                    clear hs1
                    go_wp2_with fail
                    refine (work_any t ht _ _ _ ls1 _ (HIn1.out _ HD.out.1) htot1 hn).mono ?_
                    rintro e w10 ⟨rfl, hz10, h10, hb10⟩
                    rw [HS1.out] at h10
                    have HC10 := hide (HD.out.1.below hb10)
                    have HB10 := hide (HD.out.2.1.trans (hb10.mono HD.out.2.1.size))
                    have HA10 : Hid (w10.heap[ga]? = some (.cells (B8 (four s)).toArray 5 (0, 0))) := by have := HZx.out; show _ = _; rw [hb10.block ga (by omega)]; exact HAx.out
                    have HBb10 : Hid (w10.heap[gb]? = some (.cells (B8 (four s)).toArray 5 (0, 0))) := by have := HZx.out; show _ = _; rw [hb10.block gb (by omega)]; exact HBx.out
                    have HCc10 := hide h10
                    have HZ10 : Hid (ga < gb ∧ gb < w10.heap.size - 1 ∧ w10.heap.size - 1 < w10.heap.size) := by have := HZx.out; show _ ∧ _ ∧ _; omega
                    clear HD HAx HBx HZx hz10 h10 hb10
                    generalize w10.heap.size - 1 = gc at *
                    go_wp2_with fail
                    refine (refWork_any t ht a r c ls _ (HH.out.keep HB10.out) hfew hn).mono ?_
                    rintro e w11 ⟨rfl, hz11, h11, hb11⟩
                    rw [HS.out] at h11
                    have HR11 := hide h11
                    have HC11 := hide (HC10.out.below hb11)
                    have HB11 : Hid (Below w10.heap.size w10 w11) := hb11
                    have HZ11 : Hid (w10.heap.size ≤ w11.heap.size - 1 ∧ w11.heap.size - 1 < w11.heap.size) := by show _ ∧ _; omega
                    clear h11 hb11 hz11 HC10
                    generalize w11.heap.size - 1 = gd at *
                    go_wp2_with fail
                    refine (refWork_any t ht _ _ _ ls1 _ (HIn1.out _ HC11.out) htot1 hn).mono ?_
                    rintro e w12 ⟨rfl, hz12, h12, hb12⟩
                    rw [HS1.out] at h12
                    have HB12 : Hid (Below w10.heap.size w10 w12) := HB11.out.trans (hb12.mono HB11.out.size)
                    have HA12 : Hid (w12.heap[ga]? = some (.cells (B8 (four s)).toArray 5 (0, 0))) := by have := HZ10.out; show _ = _; rw [HB12.out.block ga (by omega)]; exact HA10.out
                    have HBb12 : Hid (w12.heap[gb]? = some (.cells (B8 (four s)).toArray 5 (0, 0))) := by have := HZ10.out; show _ = _; rw [HB12.out.block gb (by omega)]; exact HBb10.out
                    have HCc12 : Hid (w12.heap[gc]? = some (.cells (B8 (four s1)).toArray 5 (0, 0))) := by have := HZ10.out; show _ = _; rw [HB12.out.block gc (by omega)]; exact HCc10.out
                    have HD12 : Hid (w12.heap[gd]? = some (.cells (B8 (four s)).toArray 5 (0, 0))) := by have := HZ11.out; show _ = _; rw [hb12.block gd (by omega)]; exact HR11.out
                    have HBw := hide (HB10.out.trans (HB12.out.mono HB10.out.size))
                    clear hb12 hz12 HB11 HB10 HB12 HA10 HBb10 HCc10 HR11 HC11 HZ11
                    have ka := conv_rd (rd_four HA12.out) 4
                    have kb := conv_rd (rd_four HBb12.out) 4
                    have kc := conv_rd (rd_four HCc12.out) 4
                    have kd := conv_rd (rd_four HD12.out) 4
                    have ke := conv_rd (rd_four h12) 4
                    clear h12
                    generalize w12.heap.size - 1 = ge at *
                    generalize str (four s) = S at *
                    generalize str (four s1) = S1 at *
                    go_wp2_with fail
                    refine (owned_any (fun j => some ⟨tri ga gb gc j, 0, none⟩) (fun _ => 4) (fun _ => 4) (fun j => B8 (four (tri s s s1 j))) w12.heap.size _ (three_o3 HA12.out HBb12.out HCc12.out) (by simp) (three_apart HZ10.out.1 HZ10.out.2.1) (fun _ _ => by decide)).mono ?_
                    rintro e w13 ⟨rfl, hk⟩
                    have HE : Hid (Below w.heap.size w w13) := (HBw.out.alloc HBw.out.size _).trans (hk.below (Nat.le_trans HBw.out.size (by simp)) fun g hg => by
                      obtain ⟨j, hj, e⟩ := hg
                      have f1 : tri ga gb gc j = g := by simpa [Value.ownBlock] using e
                      have h1 := HGw.out
                      have h2 := HZ10.out
                      have e : j = 0 ∨ j = 1 ∨ j = 2 := by omega
                      rcases e with rfl | rfl | rfl <;> simp only [tri] at f1 <;> omega)
                    clear hk HBw
                    go_wp2_with fail
                    go_ret
                    exact ⟨rfl, HE.out⟩
end Ow
end Go.Proofs.Ytchefanneampfaa
