/- DiskPlays: the document's Crash (ag_gen.py, out of DUa.part). -/
import Derived.Test.YtilpidioengnbaaDTz
import Derived.Deep.CutRange
namespace Go.Proofs.Ytilpidioengnbaa
namespace DP
open Go.RowKit

def newB (lt ls : List Sv) (i j : Nat) : Bool := match lt[i]?, ls[j]? with
  | some e, some x => decide (e.k < x.k)
  | some _, none => true
  | none, _ => false
def goneB (lt ls : List Sv) (i j : Nat) : Bool := match lt[i]?, ls[j]? with
  | some e, some x => decide (x.k < e.k)
  | some _, none => false
  | none, _ => true
theorem Rz.at2 {w : World} {a : Option Addr} {n : Nat} {z : List Int} (h : Rz w a n z) (i : Nat) (hi : i < n) : ∃ b off, a = some ⟨b, off, none⟩ ∧ w.cell? ⟨b, off + i, none⟩ = some (.int .i64 (z.getD i 0)) := by
  rcases h.2.2.2 with h0 | ⟨b, off, e, hc⟩
  · omega
  · exact ⟨b, off, e, hc i hi⟩
theorem getD_bound {z : List Int} (h : ∀ x ∈ z, -9223372036854775808 ≤ x ∧ x ≤ 9223372036854775807) (i : Nat) : -9223372036854775808 ≤ z.getD i 0 ∧ z.getD i 0 ≤ 9223372036854775807 := by
  rw [List.getD_eq_getElem?_getD]
  cases hi : z[i]? with
  | none => simp
  | some x => exact h x (List.mem_of_getElem? hi)

theorem slice_hi8 (a : Option Addr) (n cap hi : Nat) (h : hi ≤ n) (hn : n ≤ cap) (h0 : a = none → cap = 0) (ha : ∀ ad, a = some ad → ∃ g, ad = ⟨g, 0, none⟩) (w : World) : (Instr.slice 33 (.slice a n cap) none (some (.int .i64 (hi : Int))) none).run Try.prog w = .ok (.slice a hi cap) w := by
  cases a with
  | none =>
    have h1 := h0 rfl
    subst h1
    obtain rfl : n = 0 := by omega
    obtain rfl : hi = 0 := by omega
    go_simp
  | some ad =>
    obtain ⟨g, rfl⟩ := ha ad rfl
    have h2 : hi ≤ cap := by omega
    have e : (Instr.slice 33 (.slice (some ⟨g, 0, none⟩) n cap) none (some (.int .i64 (hi : Int))) none).run Try.prog w = .ok (.slice (some ⟨g, 0, none⟩) hi cap) w := by go_simp
    exact e
/-- what Crash leaves -/
def CrashR (S : Nat → Prop) (w : World) (P : Nat) (r : Rf) (z : List Int) (e : Ending) (w' : World) : Prop := e = .returned (.tuple #[]) ∧ RIn S w' P (r.crash z) ∧ Keep S w w'
set_option maxRecDepth 100000 in
set_option maxHeartbeats 40000000 in
theorem refCrash_any (S : Nat → Prop) (w : World) (P : Nat) (r : Rf) (a : Option Addr) (n c : Nat) (z : List Int) (h : RIn S w P r) (hS : ∀ i, w.heap.size ≤ i → S i) (hz : Rz w a n z)
    (hlen : r.th.length ≤ 1099511627776) (hsf : r.sf.length ≤ 1099511627776) (hby : ∀ e ∈ r.th, e.2.length ≤ 67108864) (hby2 : ∀ e ∈ r.sf, e.2.length ≤ 67108864) (hls2 : (crashS r.th r.sf z).length ≤ 1099511627776) :
    Calls Try.prog 20 #[.pointer (some ⟨P, 0, none⟩), .slice a n c] w (CrashR S w P r z) := by
  obtain ⟨vt, lt, vs, ls, h, ht, hs⟩ := h
  obtain ⟨rc, rth, rsf, rl, ro⟩ := r
  dsimp only at h ht hs hlen hsf hby hby2 hls2
  obtain ⟨ta, tc, hvt, _⟩ := ownsRow_sh h.t.row
  subst hvt
  obtain ⟨sa, sc, hvs, _⟩ := ownsRow_sh h.s.row
  subst hvs
  have hll : lt.length ≤ 1099511627776 := by rw [ht, List.length_map] at hlen; exact hlen
  have hls : ls.length ≤ 1099511627776 := by rw [hs, List.length_map] at hsf; exact hsf
  have HB1 : Hid (∀ e ∈ lt, e.b.length ≤ 67108864) := fun e he => hby e.sg (by rw [ht]; exact List.mem_map_of_mem he)
  have HB2 : Hid (∀ e ∈ ls, e.b.length ≤ 67108864) := fun e he => hby2 e.sg (by rw [hs]; exact List.mem_map_of_mem he)
  have HD := hide h
  have HT := hide ht
  have HSs := hide hs
  have HSf := hide hS
  have HZ := hide hz
  have HL2 := hide hls2
  obtain ⟨m, hm⟩ : ∃ m, m = lt.length := ⟨_, rfl⟩
  obtain ⟨q, hq⟩ : ∃ q, q = ls.length := ⟨_, rfl⟩
  have hm1 : m ≤ 1099511627776 := by omega
  have hq1 : q ≤ 1099511627776 := by omega
  have hn1 : n ≤ 17592186044416 := hz.2.1
  have HM := hide hm
  have HQ := hide hq
  have HC1 : Hid (w.cell? ⟨P, 1, none⟩ = some (.slice ta m tc)) := by rw [hm]; exact cell_blk h.blk 1 rfl
  have HC2 : Hid (w.cell? ⟨P, 2, none⟩ = some (.slice sa q sc)) := by rw [hq]; exact cell_blk h.blk 2 rfl
  have HRT : Hid (w.ownsRow 0 77 2 (.slice ta m tc) lt.length (rowS lt)) := by rw [hm]; exact h.t.row
  have HRS : Hid (w.ownsRow 0 77 2 (.slice sa q sc) ls.length (rowS ls)) := by rw [hq]; exact h.s.row
  clear h ht hs hS hby hby2 hlen hsf hls2 hll hls hz hm hq
  go_enter Try.func20, Try.ntmps20
  go_wp2_with fail
  go_loopw [4, 5, 6, 7] (fun v iv jv pv wr => ∃ (i j p : Nat) (out : List Sv), iv = .int .i64 (i : Nat) ∧ jv = .int .i64 (j : Nat) ∧ pv = .int .i64 (p : Nat) ∧ i ≤ m ∧ j ≤ q ∧ wr.ownsRow w.heap.size 77 2 v out.length (rowS out) ∧ Hid (CrI w lt ls z i j p out) ∧ Hid (Keep (fun _ => False) w wr)) (fun _ iv jv _ _ => (m - (intOf iv).toNat) + (q - (intOf jv).toNat))
  case atStart => exact ⟨0, 0, 0, [], rfl, rfl, rfl, Nat.zero_le _, Nat.zero_le _, World.ownsRow_nil _ _ _ _, CrI.begin_ _ _ _ _, Keep.refl _ _⟩
  case round =>
    obtain ⟨i, j, p, out, rfl, rfl, rfl, him, hjq, hrow, HI, HK⟩ := hrel
    have c1 := HK.out.cell HC1.out fun f => f
    have c2 := HK.out.cell HC2.out fun f => f
    have hpp := HI.out.p_
    by_cases hex : i < m ∨ j < q
    · go_upto_region 4 with fail
      go_cut [27] from 12 to 195 (fun v wx => v = .bool true ∧ wx = wr)
      case first => as_aux_lemma =>
        by_cases hi : i < m
        · have hi' : (i : Int) < (m : Int) := by omega
          have hi2 : decide ((i : Int) < (m : Int)) = true := decide_eq_true hi'
          clear hex
          go_wp2_with fail
          go_meet
          case rel => exact ⟨rfl, rfl⟩
        · have hi' : ¬ (i : Int) < (m : Int) := by omega
          have hi2 : decide ((i : Int) < (m : Int)) = false := decide_eq_false hi'
          have hj' : (j : Int) < (q : Int) := by omega
          clear hex
          go_wp2_with fail
          go_meet
          case rel => exact ⟨rfl, rfl⟩
      case rest =>
      obtain ⟨rfl, rfl⟩ := hcut
      have HEx := hide hex
      clear hex
      go_upto_if 31 with fail
      go_cut [8] from 12 to 195 (fun v wx => v = .int .i64 (z.getD p 0) ∧ wx = wc)
      case first => as_aux_lemma =>
        by_cases hp : p < n
        · obtain ⟨zb, zo, rfl, zc⟩ := Rz.at2 HZ.out p hp
          have zc' := HK.out.cell zc fun f => f
          have hp' : (p : Int) < (n : Int) := by omega
          clear zc
          generalize z.getD p 0 = F at *
          go_wp2_with fail
          go_meet
          case rel => exact ⟨rfl, rfl⟩
        · have hp' : ¬ (p : Int) < (n : Int) := by omega
          have e0 : z.getD p 0 = 0 := by
            rw [List.getD_eq_getElem?_getD, List.getElem?_eq_none (by have := HZ.out.1; omega)]
            rfl
          have HE0 := hide e0
          clear e0
          go_wp2_with fail
          go_meet
          case rel => exact ⟨by rw [HE0.out], rfl⟩
      case rest =>
      obtain ⟨rfl, rfl⟩ := hcut
      have hFb := getD_bound HZ.out.2.2.1 p
      obtain ⟨F, hF⟩ : ∃ F, F = z.getD p 0 := ⟨_, rfl⟩
      rw [← hF] at hFb ⊢
      have HF := hide hF
      clear hF
      go_upto_region 8 with fail
      obtain ⟨nb, hnb⟩ : ∃ nb, nb = newB lt ls i j := ⟨_, rfl⟩
      go_cut [70] from 12 to 195 (fun v wx => v = .bool nb ∧ ∃ k, wx = wc.drewN k)
      case first => as_aux_lemma =>
        by_cases hj : j < q
        · have hjl : j < ls.length := by have := HQ.out; omega
          have hjb : ((j : Int) == (q : Int)) = false := by simp; omega
          obtain ⟨x, hx⟩ : ∃ x, ls[j]? = some x := ⟨_, List.getElem?_eq_getElem hjl⟩
          by_cases hi : i < m
          · have hil : i < lt.length := by have := HM.out; omega
            have hib : decide (i < m) = true := decide_eq_true hi
            have hib' : (i : Int) < (m : Int) := by omega
            have hjb' : (j : Int) < (q : Int) := by omega
            obtain ⟨e, he⟩ : ∃ e, lt[i]? = some e := ⟨_, List.getElem?_eq_getElem hil⟩
            obtain ⟨g, cap, hv, x0, _⟩ := row_at HRT.out he
            injection hv with hv1 hv2 hv3
            subst hv1
            obtain ⟨g2, cap2, hv, y0, _⟩ := row_at HRS.out hx
            injection hv with hw1 hw2 hw3
            subst hw1
            have x0' := HK.out.cell x0 fun f => f
            have y0' := HK.out.cell y0 fun f => f
            have hnb' : nb = decide (e.k < x.k) := by rw [hnb]; unfold newB; rw [he, hx]
            have HNB := hide hnb'
            obtain ⟨ek, eb, ev⟩ := e
            obtain ⟨xk, xb, xv⟩ := x
            dsimp only at x0' y0' HNB
            clear x0 y0 he hx hv2 hv3 hw2 hw3 hnb hnb' hj hil hjl
            by_cases hlt : ek < xk
            · have hltb : decide (ek < xk) = true := decide_eq_true hlt
              rw [hltb] at HNB
              go_wp2_with fail
              go_quiet (fail)
              go_wp2_with fail
              go_meet
              case rel => exact ⟨by rw [HNB.out], _, rfl⟩
            · have hltb : decide (ek < xk) = false := decide_eq_false hlt
              rw [hltb] at HNB
              go_wp2_with fail
              go_quiet (fail)
              go_wp2_with fail
              go_meet
              case rel => exact ⟨by rw [HNB.out], _, rfl⟩
          · have hib : decide ((i : Int) < (m : Int)) = false := decide_eq_false (by omega)
            have hib' : ¬ (i : Int) < (m : Int) := by omega
            have hnb' : nb = false := by
              rw [hnb]
              unfold newB
              rw [List.getElem?_eq_none (by have := HM.out; omega)]
            subst hnb'
            clear hj hjl hx hnb
            go_wp2_with fail
            go_quiet (fail)
            go_wp2_with fail
            go_meet
            case rel => exact ⟨rfl, _, rfl⟩
        · have hjb : ((j : Int) == (q : Int)) = true := by simp; omega
          have hnb' : nb = true := by
            rw [hnb]
            unfold newB
            have hil : i < lt.length := by have := HM.out; have := HEx.out; omega
            rw [List.getElem?_eq_getElem hil, List.getElem?_eq_none (by have := HQ.out; omega)]
          subst hnb'
          clear hj hnb
          go_wp2_with fail
          go_quiet (fail)
          go_wp2_with fail
          go_meet
          case rel => exact ⟨rfl, _, rfl⟩
      case rest =>
      obtain ⟨rfl, kd, hwd⟩ := hcut
      have HK2 : Hid (Keep (fun _ => False) w wc) := by rw [hwd]; exact HK.out.more ⟨rfl, rfl, rfl, Nat.le_refl _, fun _ _ _ => rfl⟩
      have d1 := HK2.out.cell HC1.out fun f => f
      have d2 := HK2.out.cell HC2.out fun f => f
      have hrow2 := ownsRow_keep hrow (show Keep (fun _ => False) _ wc by rw [hwd]; exact ⟨rfl, rfl, rfl, Nat.le_refl _, fun _ _ _ => rfl⟩) fun _ _ f => f
      clear hrow c1 c2 hwd HK
      have HW : Hid (wrap64 ((i : Int) + 1) = ((i + 1 : Nat) : Int) ∧ wrap64 ((j : Int) + 1) = ((j + 1 : Nat) : Int) ∧ wrap64 ((p : Int) + 1) = ((p + 1 : Nat) : Int)) := ⟨wr' (by omega) (by omega) (by omega), wr' (by omega) (by omega) (by omega), wr' (by omega) (by omega) (by omega)⟩
      cases nb with
      | true =>
        obtain ⟨e, he, hnw⟩ : ∃ e, lt[i]? = some e ∧ NewOf ls j e := by
          unfold newB at hnb
          cases h1 : lt[i]? with
          | none => rw [h1] at hnb; simp at hnb
          | some e =>
            refine ⟨e, rfl, ?_⟩
            rw [h1] at hnb
            cases h2 : ls[j]? with
            | none =>
              refine .inl ?_
              have := List.getElem?_eq_none_iff.1 h2
              have := HQ.out
              omega
            | some x =>
              rw [h2] at hnb
              exact .inr ⟨x, h2, of_decide_eq_true hnb.symm⟩
        have him2 : i < m := by
          have := (List.getElem?_eq_some_iff.1 he).1
          have := HM.out
          omega
        have HE := hide he
        have HN := hide hnw
        clear he hnw hnb
        by_cases hF0 : 0 < F
        · as_aux_lemma =>
          have hF0' : F > 0 := hF0
          obtain ⟨g, cap, hv, x0, x1⟩ := row_at HRT.out HE.out
          injection hv with hv1 hv2 hv3
          subst hv1
          have hem := List.mem_of_getElem? HE.out
          have hrb := HD.out.t.by8 e hem
          obtain ⟨ba, bc, hev, hb0, hbc⟩ := ownsRow_sh hrb.1
          have hbl := HB1.out e hem
          have x0' := HK2.out.cell x0 fun f => f
          have x1' := HK2.out.cell x1 fun f => f
          obtain ⟨K, hKb, hKl⟩ : ∃ K : Nat, (K : Int) = betV (F - 1) 0 (e.b.length : Int) ∧ K ≤ e.b.length := by
            refine ⟨(betV (F - 1) 0 (e.b.length : Int)).toNat, ?_⟩
            unfold betV
            split
            · omega
            · split <;> omega
          have HI' := hide (HI.out.newY HE.out HN.out (by rw [← HF.out]; exact hF0) hev hrb hbl (K := K) (by rw [← HF.out]; exact hKb))
          have hsl := slice_hi8 ba e.b.length bc K hKl hbc hb0 fun ad ha => by
            rcases hrb.parts with ⟨e2, _⟩ | ⟨g', cap', cur, e2, _⟩
            · rw [hev] at e2; injection e2 with e2; rw [e2] at ha; cases ha
            · rw [hev] at e2; injection e2 with e2; rw [e2] at ha; injection ha with ha; exact ⟨g', ha.symm⟩
          have HBt := hide fun w => between_any (F - 1) 0 (e.b.length : Int) w
          rw [← hKb] at HBt
          have hwF : IntKind.i64.wrap (F - 1) = F - 1 := wr (by omega) (by omega)
          have hol := HI.out.len
          have HOl := hide (show out.length ≤ 2199023255552 by omega)
          have HM2 := hide him2
          rw [hev] at x1 x1'
          obtain ⟨ek, eb, ev⟩ := e
          dsimp only at x0 x1 x0' x1' hbl hKl hsl HI' HBt hKb
          obtain ⟨en, hen⟩ : ∃ en, en = eb.length := ⟨_, rfl⟩
          rw [← hen] at x1 x1' hsl HBt
          have hgl : g < w.heap.size := block_lt_of_cell x0
          have hgw : w.heap.size ≤ wc.heap.size := HK2.out.size
          have HX0 := hide x0'
          have HX1 := hide x1'
          have HD1 := hide d1
          have HR2 := hide hrow2
          have HLt := hide (And.intro hgl hgw)
          clear x0 x1 hv2 hv3 hem hrb hev hbl hb0 hbc hKb hKl hol hF0 him2 hen hgl hgw hpp hrow2
          go_upto_region 11 with fail
          have HS8 : Hid (∀ W, Keep (fun b => w.heap.size ≤ b) wc W → (fun W' : World => W'.cell? ⟨P, 1, none⟩ = some (.slice (some ⟨g, 0, none⟩) m tc) ∧ W'.cell? ⟨g, i * 2, none⟩ = some (.int .i64 ek)) W) := fun W kk => ⟨kk.cell HD1.out fun e2 => by have e3 : w.heap.size ≤ P := e2; have := block_lt_of_cell HC1.out; omega, kk.cell HX0.out fun e2 => by have e3 : w.heap.size ≤ g := e2; have := HLt.out.1; omega⟩
          have kD0 : Keep (fun b => w.heap.size ≤ b) wc wc.drew := Keep.drew _ _
          refine RL.wp_region_held_last (S := fun W' : World => W'.cell? ⟨P, 1, none⟩ = some (.slice (some ⟨g, 0, none⟩) m tc) ∧ W'.cell? ⟨g, i * 2, none⟩ = some (.int .i64 ek)) rfl (by kernel_rfl) (by kernel_rfl) (HS8.out _ kD0) (fun hHeld => ?_)
          change wpAnyH _ _ _ _ _ 20 (Array.replicate 20 false) _ _
          simp only [List.dropLast, List.getLast, List.cons_append, List.nil_append, RL.still]
          refine wpAnyH_take (i := 0) (oi := _) (v := ?_) rfl (by kernel_rfl) (by kernel_rfl) (by kernel_rfl) (fun _ _ _ h => h) (Or.inl ⟨by rfl, ?_⟩) (by assumption) ?_
          rotate_left
          · (intro w hSw; (try dsimp only at hSw); go_simp)
            all_goals with_reducible rfl
          go_simp
          refine wpAnyH_take (i := 1) (oi := _) (v := ?_) rfl (by kernel_rfl) (by kernel_rfl) (by kernel_rfl) (fun _ _ _ h => h) (Or.inl ⟨by rfl, ?_⟩) (by assumption) ?_
          rotate_left
          · (intro w hSw; (try dsimp only at hSw); go_simp)
            all_goals with_reducible rfl
          go_simp
          refine wpAnyH_take (i := 2) (oi := _) (v := ?_) rfl (by kernel_rfl) (by kernel_rfl) (by kernel_rfl) (fun _ _ _ h => h) (Or.inl ⟨by rfl, ?_⟩) (by assumption) ?_
          rotate_left
          · (intro w hSw; (try dsimp only at hSw); go_simp)
            all_goals with_reducible rfl
          go_simp
          refine wpAnyH_take (i := 3) (oi := _) (v := ?_) rfl (by kernel_rfl) (by kernel_rfl) (by kernel_rfl) (fun _ _ _ h => h) (Or.inl ⟨by rfl, ?_⟩) (by assumption) ?_
          rotate_left
          · (intro w hSw; (try dsimp only at hSw); go_simp)
            all_goals with_reducible rfl
          go_simp
          refine wpAnyH_take (i := 4) (oi := _) (v := ?_) rfl (by kernel_rfl) (by kernel_rfl) (by kernel_rfl) (fun _ _ _ h => h) (Or.inl ⟨by rfl, ?_⟩) (by assumption) ?_
          rotate_left
          · (intro w hSw; (try dsimp only at hSw); go_simp)
            all_goals with_reducible rfl
          go_simp
          refine wpAnyH_take (i := 5) (oi := _) (v := ?_) rfl (by kernel_rfl) (by kernel_rfl) (by kernel_rfl) (fun _ _ _ h => h) (Or.inl ⟨by rfl, ?_⟩) (by assumption) ?_
          rotate_left
          · (intro w hSw; (try dsimp only at hSw); go_simp)
            all_goals with_reducible rfl
          go_simp
          refine wpAnyH_take (i := 6) (oi := _) (v := ?_) rfl (by kernel_rfl) (by kernel_rfl) (by kernel_rfl) (fun _ _ _ h => h) (Or.inl ⟨by rfl, ?_⟩) (by assumption) ?_
          rotate_left
          · (intro w hSw; (try dsimp only at hSw); go_simp)
            all_goals with_reducible rfl
          go_simp
          refine wpAnyH_take (i := 7) (oi := _) (v := ?_) rfl (by kernel_rfl) (by kernel_rfl) (by kernel_rfl) (fun _ _ _ h => h) (Or.inl ⟨by rfl, ?_⟩) (by assumption) ?_
          rotate_left
          · (intro w hSw; (try dsimp only at hSw); go_simp)
            all_goals with_reducible rfl
          go_simp
          refine wpAnyH_take (i := 8) (oi := _) (v := ?_) rfl (by kernel_rfl) (by kernel_rfl) (by kernel_rfl) (fun _ _ _ h => h) (Or.inl ⟨by rfl, ?_⟩) (by assumption) ?_
          rotate_left
          · (intro w hSw; (try dsimp only at hSw); go_simp)
            all_goals with_reducible rfl
          go_simp
          refine wpAnyH_take (i := 9) (oi := _) (v := ?_) rfl (by kernel_rfl) (by kernel_rfl) (by kernel_rfl) (fun _ _ _ h => h) (Or.inl ⟨by rfl, ?_⟩) (by assumption) ?_
          rotate_left
          · (intro w hSw; (try dsimp only at hSw); go_simp)
            all_goals with_reducible rfl
          go_simp
          refine wpAnyH_take (i := 10) (oi := _) (v := ?_) rfl (by kernel_rfl) (by kernel_rfl) (by kernel_rfl) (fun _ _ _ h => h) (Or.inl ⟨by rfl, ?_⟩) (by assumption) ?_
          rotate_left
          · (intro w hSw; (try dsimp only at hSw); go_simp)
            all_goals with_reducible rfl
          go_simp
          refine wpAnyH_take (i := 11) (oi := _) (v := ?_) rfl (by kernel_rfl) (by kernel_rfl) (by kernel_rfl) (fun _ _ _ h => h) (Or.inl ⟨by rfl, ?_⟩) (by assumption) ?_
          rotate_left
          · (intro w hSw; (try dsimp only at hSw); go_simp)
            all_goals with_reducible rfl
          go_simp
          refine wpAnyH_take (i := 12) (oi := _) (v := ?_) rfl (by kernel_rfl) (by kernel_rfl) (by kernel_rfl) (fun _ _ _ h => h) (Or.inl ⟨by rfl, ?_⟩) (by assumption) ?_
          rotate_left
          · (intro w hSw; (try dsimp only at hSw); go_simp)
            all_goals with_reducible rfl
          go_simp
          refine wpAnyH_take (i := 13) (oi := _) (v := ?_) rfl (by kernel_rfl) (by kernel_rfl) (by kernel_rfl) (fun _ _ _ h => h) (Or.inl ⟨by rfl, ?_⟩) (by assumption) ?_
          rotate_left
          · (intro w hSw; (try dsimp only at hSw); go_simp)
            all_goals with_reducible rfl
          go_simp
          refine wpAnyH_ready (rs := [14]) (by kernel_rfl) (by simp) ?_
          refine AllReadyH.cons (o := _) rfl (fun K2 hK => ?_) AllReadyH.nil
          rw [if_pos (by rfl)]
          go_simp
          go_at_call 46
          refine (HBt.out _).mono ?_
          rintro e w1 ⟨rfl, hw⟩
          have hw := hw.symm
          subst hw
          refine hK.out _ _ (HS8.out _ kD0) (fun hHeld => ?_)
          clear hK K2
          try simp only [Act.put, List.setIfInBounds_toArray]
          refine wpAnyH_take (i := 15) (oi := _) (v := ?_) rfl (by kernel_rfl) (by kernel_rfl) (by kernel_rfl) (fun _ _ _ h => h) (Or.inl ⟨by rfl, ?_⟩) (by assumption) ?_
          rotate_left
          · (intro w hSw; (try dsimp only at hSw); go_simp)
            all_goals with_reducible rfl
          go_simp
          refine wpAnyH_take (i := 16) (oi := _) (v := ?_) rfl (by kernel_rfl) (by kernel_rfl) (by kernel_rfl) (fun _ _ _ h => h) (Or.inl ⟨by rfl, ?_⟩) (by assumption) ?_
          rotate_left
          · (intro w hSw; (try dsimp only at hSw); go_simp)
            all_goals with_reducible rfl
          go_simp
          have kA := kD0.more (Keep.alloc (fun b => w.heap.size ≤ b) wc.drew (.cells #[.int .i64 ek, .slice ba K bc] 77))
          refine wpAnyH_ready (rs := [17]) (by kernel_rfl) (by simp) ?_
          refine AllReadyH.cons (o := _) rfl (fun K2 hK => ?_) AllReadyH.nil
          rw [if_pos (by rfl)]
          unfold Oper.wp
          go_simp
          refine hK.out _ _ (HS8.out _ kA) (fun hHeld => ?_)
          clear hK K2
          try simp only [Act.put, List.setIfInBounds_toArray, List.set_cons_zero, List.set_cons_succ]
          obtain ⟨xa, xc, wF, hrF, hoF, kF⟩ := app_runS (B := w.heap.size) (ownsRow_keep HR2.out (show Keep (fun _ => False) wc (wc.drew.alloc (.cells #[.int .i64 ek, .slice ba K bc] 77)) from (Keep.drew (fun _ => False) wc).more (Keep.alloc _ _ _)) fun _ _ f => f) (Nat.le_trans HLt.out.2 kA.size) (heap_alloc_new wc.drew _) rfl HOl.out 45
          have kF2 : Keep (fun b => w.heap.size ≤ b) wc wF := kA.more (kF.mono fun b e2 => (HR2.out.lt b e2).1)
          have HKF : Hid (Keep (fun _ => False) w wF) := HK2.out.trans kF2 fun b e2 => .inr e2
          have HRF : Hid (wF.ownsRow w.heap.size 77 2 (.slice xa (out.length + 1) xc) (out ++ [(⟨ek, eb.take K, .slice ba K bc⟩ : Sv)]).length (rowS (out ++ [(⟨ek, eb.take K, .slice ba K bc⟩ : Sv)]))) := by
            show World.ownsRow _ _ _ _ _ _ _
            rw [rowS_one, List.length_append, List.length_singleton]
            exact hoF
          refine wpAnyH_ready (rs := [18]) (by kernel_rfl) (by simp) ?_
          refine AllReadyH.cons (o := _) rfl (fun K2 hK => ?_) AllReadyH.nil
          refine step_append_run rfl _ _ _ rfl _ _ rfl rfl hrF ?_
          refine hK.out _ _ (HS8.out _ kF2) (fun hHeld => ?_)
          clear hK K2
          try simp only [Act.put, List.setIfInBounds_toArray]
          clear hoF hrF kF kF2 kA kD0 HS8
          refine wpAnyH_take (i := 19) (oi := _) (v := ?_) rfl (by kernel_rfl) (by kernel_rfl) (by kernel_rfl) (fun _ _ _ h => h) (Or.inl ⟨by rfl, ?_⟩) (by assumption) ?_
          rotate_left
          · (intro w hSw; (try dsimp only at hSw); go_simp)
            all_goals with_reducible rfl
          go_simp
          refine wpAnyH_done (by kernel_rfl) ?_ _
          simp only [RL.endQ]
          unfold Oper.wp
          go_simp
          have hpp := HI.out.p_
          go_wp2_with fail
          go_roundw
          case rel => exact ⟨i + 1, j, p + 1, _, by go_num, rfl, by go_num, HM2.out, hjq, HRF.out, HI', HKF⟩
          case measure => have := HM2.out; simp [intOf]; omega
        · as_aux_lemma =>
          have hF0' : ¬ F > 0 := hF0
          have HI' := hide (HI.out.newN HE.out HN.out (by rw [← HF.out]; exact hF0))
          have HM2 := hide him2
          clear hF0 him2
          go_wp2_with fail
          go_roundw
          case rel => exact ⟨i + 1, j, p + 1, out, by go_num, rfl, by go_num, HM2.out, hjq, hrow2, HI', HK2⟩
          case measure => have := HM2.out; simp [intOf]; omega
      | false =>
        obtain ⟨x, hx, hor⟩ : ∃ x, ls[j]? = some x ∧ (lt[i]? = none ∨ ∃ e, lt[i]? = some e ∧ ¬ e.k < x.k) := by
          unfold newB at hnb
          cases h1 : lt[i]? with
          | none =>
            have h3 := List.getElem?_eq_none_iff.1 h1
            have hjl : j < ls.length := by have := HQ.out; have := HM.out; have := HEx.out; omega
            exact ⟨_, List.getElem?_eq_getElem hjl, .inl rfl⟩
          | some e =>
            rw [h1] at hnb
            cases h2 : ls[j]? with
            | none => rw [h2] at hnb; simp at hnb
            | some x =>
              rw [h2] at hnb
              exact ⟨x, rfl, .inr ⟨e, rfl, of_decide_eq_false hnb.symm⟩⟩
        have hjq2 : j < q := by
          have := (List.getElem?_eq_some_iff.1 hx).1
          have := HQ.out
          omega
        have HXe := hide hx
        have HOr := hide hor
        obtain ⟨g2, cap2, hv, y0, y1⟩ := row_at HRS.out hx
        injection hv with hw1 hw2 hw3
        subst hw1
        have hxm := List.mem_of_getElem? hx
        have HXb := hide (HD.out.s.by8 x hxm)
        have HXl := hide (HB2.out x hxm)
        have HY0 := hide (HK2.out.cell y0 fun f => f)
        have HY1 := hide (HK2.out.cell y1 fun f => f)
        have HG2 := hide (block_lt_of_cell y0)
        clear hx hor hw2 hw3 y0 y1 hxm hnb
        go_upto_region 14 with fail
        obtain ⟨gb, hgb⟩ : ∃ gb, gb = goneB lt ls i j := ⟨_, rfl⟩
        obtain ⟨w0, hw0⟩ : ∃ w0, w0 = wc := ⟨_, rfl⟩
        rw [← hw0] at d1 d2 hrow2 HY0 HY1 HK2 ⊢
        clear hw0
        go_cut [129] from 12 to 195 (fun v wx => v = .bool gb ∧ ∃ k, wx = w0.drewN k)
        case first => as_aux_lemma =>
          have y0' := HY0.out
          unfold goneB at hgb
          by_cases hi : i < m
          · have hib : ((i : Int) == (m : Int)) = false := by simp; omega
            have hib' : (i == m) = false := by simp; omega
            have hi' : (i : Int) < (m : Int) := by omega
            have hj' : (j : Int) < (q : Int) := by omega
            rcases HOr.out with h1 | ⟨e, he, hle⟩
            · exfalso
              have h3 := List.getElem?_eq_none_iff.1 h1
              have := HM.out
              omega
            · obtain ⟨g, cap, hv, x0, _⟩ := row_at HRT.out he
              injection hv with hv1 hv2 hv3
              subst hv1
              have x0' := HK2.out.cell x0 fun f => f
              rw [he, HXe.out] at hgb
              dsimp only at hgb
              have HGB := hide hgb
              clear x0 hv2 hv3 he hgb hle
              obtain ⟨ek, eb, ev⟩ := e
              obtain ⟨xk, xb, xv⟩ := x
              dsimp only at x0' y0' HGB
              by_cases hlt : xk < ek
              · have hltb : decide (xk < ek) = true := decide_eq_true hlt
                rw [hltb] at HGB
                go_wp2_with fail
                go_quiet (fail)
                go_wp2_with fail
                go_meet
                case rel => exact ⟨by rw [HGB.out], _, rfl⟩
              · have hltb : decide (xk < ek) = false := decide_eq_false hlt
                rw [hltb] at HGB
                go_wp2_with fail
                go_quiet (fail)
                go_wp2_with fail
                go_meet
                case rel => exact ⟨by rw [HGB.out], _, rfl⟩
          · have hib : ((i : Int) == (m : Int)) = true := by simp; omega
            have hnb' : gb = true := by
              rw [hgb, List.getElem?_eq_none (by have := HM.out; omega)]
            subst hnb'
            clear hgb
            go_wp2_with fail
            go_quiet (fail)
            go_wp2_with fail
            go_meet
            case rel => exact ⟨rfl, _, rfl⟩
        case rest =>
        obtain ⟨rfl, kd2, hwd⟩ := hcut
        have HKd : Hid (Keep (fun _ => False) w0 wc) := by rw [hwd]; exact ⟨rfl, rfl, rfl, Nat.le_refl _, fun _ _ _ => rfl⟩
        have HK3 := hide (HK2.out.more HKd.out)
        have e1 := HKd.out.cell d1 fun f => f
        have e2 := HKd.out.cell d2 fun f => f
        have y0' := HKd.out.cell HY0.out fun f => f
        have y1' := HKd.out.cell HY1.out fun f => f
        have hrow3 := ownsRow_keep hrow2 HKd.out fun _ _ f => f
        obtain ⟨xa, xc, hxv, hx0, hxc⟩ := ownsRow_sh HXb.out.1
        rw [hxv] at y1'
        have hsz3 := HK3.out.size
        clear d1 d2 hrow2 hwd HY0 HY1 HKd HK2
        cases gb with
        | true =>
          have HGo : Hid (GoneOf lt i x) := by
            rcases HOr.out with h1 | ⟨e, he, hle⟩
            · have h3 := List.getElem?_eq_none_iff.1 h1
              have := HM.out
              exact .inl (by omega)
            · unfold goneB at hgb
              rw [he, HXe.out] at hgb
              exact .inr ⟨e, he, hle, of_decide_eq_true hgb.symm⟩
          clear hgb
          by_cases hF0 : 0 < F
          · as_aux_lemma =>
            have hF0' : F > 0 := hF0
            have HI' := hide (HI.out.goneY HXe.out HGo.out (by rw [← HF.out]; exact hF0) HXb.out HXl.out)
            have h1c : x.v.oneCell' = true := row_one HXb.out
            rw [← hxv] at y1'
            have hol := HI.out.len
            have HOl := hide (show out.length ≤ 2199023255552 by omega)
            have HJ2 := hide hjq2
            have H1c := hide h1c
            have HXv := hide hxv
            have HSz := hide hsz3
            clear hol hxv hx0 hxc hF0 h1c hsz3
            go_wp2_with (first | (at_builtin; refine wp_app_sv rfl _ _ rfl w.heap.size _ _ _ rfl (hrow3.alloc _) _ _ _ rfl (heap_alloc_new _ _) H1c.out ?b1 ?b2 ?_) | go_in)
            case b1 => exact HOl.out
            case b2 => have := HSz.out; first | (simp only [World.size_alloc]; omega) | omega
            intro v' w4 hown' hkp
            have HK4 : Hid (Keep (fun _ => False) w w4) := HK3.out.trans ((Keep.alloc _ _ _).more hkp) fun b e => .inr (hrow3.lt b e).1
            have hown4 : w4.ownsRow w.heap.size 77 2 v' (out ++ [x]).length (rowS (out ++ [x])) := by
              rw [rowS_one, List.length_append, List.length_singleton]
              exact hown'
            clear hown' hkp hrow3
            go_wp2_with fail
            go_roundw
            case rel => exact ⟨i, j + 1, p + 1, _, rfl, by go_num, by go_num, him, HJ2.out, hown4, HI', HK4⟩
            case measure => have := HJ2.out; simp [intOf]; omega
          · as_aux_lemma =>
            have hF0' : ¬ F > 0 := hF0
            have HI' := hide (HI.out.goneN HXe.out HGo.out (by rw [← HF.out]; exact hF0))
            have HJ2 := hide hjq2
            clear hxv hx0 hxc hF0
            go_wp2_with fail
            go_roundw
            case rel => exact ⟨i, j + 1, p + 1, out, rfl, by go_num, by go_num, him, HJ2.out, hrow3, HI', HK3⟩
            case measure => have := HJ2.out; simp [intOf]; omega
        | false =>
          obtain ⟨e, he, hle, hge⟩ : ∃ e, lt[i]? = some e ∧ ¬ e.k < x.k ∧ ¬ x.k < e.k := by
            rcases HOr.out with h1 | ⟨e, he, hle⟩
            · unfold goneB at hgb
              rw [h1] at hgb
              cases hgb
            · unfold goneB at hgb
              rw [he, HXe.out] at hgb
              exact ⟨e, he, hle, of_decide_eq_false hgb.symm⟩
          have him2 : i < m := by
            have := (List.getElem?_eq_some_iff.1 he).1
            have := HM.out
            omega
          obtain ⟨g, cap, hv, x0, x1⟩ := row_at HRT.out he
          injection hv with hv1 hv2 hv3
          subst hv1
          have hem := List.mem_of_getElem? he
          have hrb := HD.out.t.by8 e hem
          obtain ⟨ba, bc, hev, hb0, hbc⟩ := ownsRow_sh hrb.1
          have hbl := HB1.out e hem
          have x0' := HK3.out.cell x0 fun f => f
          have x1' := HK3.out.cell x1 fun f => f
          rw [hev] at x1'
          have HE := hide he
          have HLe := hide hle
          have HGe := hide hge
          have HEv := hide hev
          have HRb := hide hrb
          have HBl := hide hbl
          have HSz := hide hsz3
          have hol := HI.out.len
          have HOl := hide (show out.length ≤ 2199023255552 by omega)
          have HM2 := hide him2
          have HJ2 := hide hjq2
          obtain ⟨tn, htn⟩ : ∃ tn, tn = e.b.length := ⟨_, rfl⟩
          obtain ⟨sn, hsn⟩ : ∃ sn, sn = x.b.length := ⟨_, rfl⟩
          have hxl := HXl.out
          have HTn := hide htn
          rw [← htn] at x1' hbl hbc
          rw [← hsn] at y1' hxl
          by_cases hgr : sn < tn
          · as_aux_lemma =>
            have hgr' : (tn : Int) > (sn : Int) := by omega
            obtain ⟨B, K, hBV, hKb, hKl, hBb⟩ : ∃ B K : Nat, (B : Int) = betV F 0 ((tn : Int) - (sn : Int)) ∧ K = sn + B ∧ K ≤ tn ∧ B ≤ 67108864 := by
              refine ⟨(betV F 0 ((tn : Int) - (sn : Int))).toNat, sn + (betV F 0 ((tn : Int) - (sn : Int))).toNat, ?_, rfl, ?_, ?_⟩ <;> unfold betV <;> split <;> first | omega | (split <;> omega)
            have HI' := hide (HI.out.grown HE.out HXe.out HLe.out HGe.out (by rw [← htn, ← hsn]; exact hgr) HEv.out HRb.out HBl.out (K := K) (by rw [← HF.out, ← htn, ← hsn, hKb, ← hBV]; omega))
            have hsl := slice_hi8 ba tn bc K hKl hbc hb0 fun ad ha => by
              rcases HRb.out.parts with ⟨e2, _⟩ | ⟨g', cap', cur, e2, _⟩
              · rw [HEv.out] at e2; injection e2 with e2; rw [e2] at ha; cases ha
              · rw [HEv.out] at e2; injection e2 with e2; rw [e2] at ha; injection ha with ha; exact ⟨g', ha.symm⟩
            have HBt := hide fun w => between_any F 0 ((tn : Int) - (sn : Int)) w
            rw [← hBV] at HBt
            have hadd : (sn : Int) + (B : Int) = (K : Int) := by omega
            have HBt2 := hide hBV
            clear hxv hx0 hxc hb0 hbc hBV hKb hKl hol hsz3 x0 x1 hv2 hv3 he hle hge hem hrb hev htn hsn hgb
            go_wp2_with (first
              | (go_at_call 46; refine (HBt.out _).mono ?_; rintro e w1 ⟨rfl, hw⟩; have hw := hw.symm; subst hw)
              | (at_builtin; refine wp_app_sv rfl _ _ rfl w.heap.size _ _ _ rfl (hrow3.alloc _) _ _ _ rfl (heap_alloc_new _ _) rfl ?b1 ?b2 ?_)
              | go_in)
            case b1 => exact HOl.out
            case b2 => have := HSz.out; first | (simp only [World.size_alloc]; omega) | omega
            intro v' w4 hown' hkp
            have HK4 : Hid (Keep (fun _ => False) w w4) := HK3.out.trans ((Keep.alloc _ _ _).more hkp) fun b e => .inr (hrow3.lt b e).1
            have hown4 : w4.ownsRow w.heap.size 77 2 v' (out ++ [(⟨e.k, e.b.take K, .slice ba K bc⟩ : Sv)]).length (rowS (out ++ [(⟨e.k, e.b.take K, .slice ba K bc⟩ : Sv)])) := by
              rw [rowS_one, List.length_append, List.length_singleton]
              exact hown'
            clear hown' hkp hrow3
            go_wp2_with fail
            go_roundw
            case rel => exact ⟨i + 1, j + 1, p + 1, _, by go_num, by go_num, by go_num, HM2.out, HJ2.out, hown4, HI', HK4⟩
            case measure => have := HJ2.out; have := HM2.out; simp [intOf]; omega
          · as_aux_lemma =>
            have hgr' : ¬ (tn : Int) > (sn : Int) := by omega
            have HI' := hide (HI.out.same HE.out HXe.out HLe.out HGe.out (by rw [← htn, ← hsn]; exact hgr) HRb.out HBl.out)
            clear hxv hx0 hxc hb0 hbc hol hsz3 x0 x1 hv2 hv3 he hle hge hem hrb hev htn hsn hgb
            go_wp2_with (first
              | (at_builtin; refine wp_app_sv rfl _ _ rfl w.heap.size _ _ _ rfl (hrow3.alloc _) _ _ _ rfl (heap_alloc_new _ _) rfl ?b1 ?b2 ?_)
              | go_in)
            case b1 => exact HOl.out
            case b2 => have := HSz.out; first | (simp only [World.size_alloc]; omega) | omega
            intro v' w4 hown' hkp
            have HK4 : Hid (Keep (fun _ => False) w w4) := HK3.out.trans ((Keep.alloc _ _ _).more hkp) fun b e => .inr (hrow3.lt b e).1
            have hown4 : w4.ownsRow w.heap.size 77 2 v' (out ++ [e]).length (rowS (out ++ [e])) := by
              rw [rowS_one, List.length_append, List.length_singleton, HEv.out, ← HTn.out]
              exact hown'
            clear hown' hkp hrow3
            go_wp2_with fail
            go_roundw
            case rel => exact ⟨i + 1, j + 1, p, _, by go_num, by go_num, rfl, HM2.out, HJ2.out, hown4, HI', HK4⟩
            case measure => have := HJ2.out; have := HM2.out; simp [intOf]; omega
    · as_aux_lemma =>
      have hi : i = m := by omega
      have hj : j = q := by omega
      subst hi hj
      have hend := HI.out
      rw [HM.out, HQ.out] at hend
      have hsg := hend.end_
      obtain ⟨oa, oc, hov, _⟩ := ownsRow_sh hrow
      subst hov
      obtain ⟨on, hon⟩ : ∃ on, on = out.length := ⟨_, rfl⟩
      rw [← hon] at hrow ⊢
      have HOn := hide hon
      have hL : LsR wr (.slice oa on oc) out := ⟨by rw [← hon]; exact hrow.mono (Nat.zero_le _), fun e he => (HI.out.by8 e he).keep HK.out fun _ _ f => f⟩
      have hol : out.length ≤ 1099511627776 := by
        have h1 := HL2.out
        rw [HT.out, HSs.out, ← hsg, List.length_map] at h1
        exact h1
      have HBl : Hid (∀ e ∈ out, e.b.length ≤ 140737488355328) := fun e he => by have := HI.out.bl e he; omega
      have HCp1 := hide (copied_r _ out wr hL hol HBl.out)
      have HRw := hide (HD.out.stay HK.out fun _ _ _ f => f)
      have HLr := hide hL
      have HOl := hide hol
      have HSg : Hid (out.map Sv.sg = crashS rth rsf z) := by
        show _ = _
        rw [hsg, HT.out, HSs.out]
      have HRo := hide hrow
      have hdi : decide (i < i) = false := by simp
      clear hend hsg hL hol hon hrow hpp
      go_wp2_with (first
        | (go_at_call 30
           refine HCp2.out.mono ?_
           rintro e w3 ⟨v2, rfl, o2, hl2, hs2, hk2⟩
           obtain ⟨a2, c2', hv2, _⟩ := ownsRow_sh hl2.row
           generalize o2.length = n2 at hv2
           subst hv2
           have X2 := HX.out.1.putS hk2 hl2 (fun b hb => HSf.out b (Nat.le_trans HXz.out hb))
           have hb3 := (hk2.block P (Array.getElem?_eq_some_iff.1 HX.out.1.blk).1 fun f => f).trans HX.out.1.blk
           have z2 := cell_blk hb3 2 (v := .slice sa ls.length sc) rfl
           have z3 := cell_blk hb3 3 (v := .int .i64 (lefI rl)) rfl
           have z4 := cell_blk hb3 4 (v := .bool ro) rfl
           have g2 := frozen_blk hb3 2
           have g3 := frozen_blk hb3 3
           have g4 := frozen_blk hb3 4
           have X3 := X2.1.set (left' := none) (off' := ro) 3 (.int .i64 (-1)) rfl
           have X4 := X3.1.set (left' := none) (off' := false) 4 (.bool false) rfl
           have HFin : Hid (CrashR S w P ⟨rc, rth, rsf, rl, ro⟩ z (.returned (.tuple #[])) (((w3.setCell ⟨P, 2, none⟩ (.slice a2 n2 c2')).setCell ⟨P, 3, none⟩ (.int .i64 (-1))).setCell ⟨P, 4, none⟩ (.bool false))) := ⟨rfl, ⟨_, _, _, _, X4.1, HS1.out.symm, (hs2.trans HSg.out).symm⟩, (HK.out.mono fun _ f => f.elim).more (HX.out.2.more ((X2.2.more X3.2).more X4.2))⟩
           clear hb3 X2 X3 X4 hs2 hl2 hk2)
        | (go_at_call 30
           refine HCp1.out.mono ?_
           rintro e w1 ⟨v1, rfl, o1, hl1, hs1, hk1⟩
           obtain ⟨a1, c1', hv1, _⟩ := ownsRow_sh hl1.row
           generalize o1.length = n1 at hv1
           subst hv1
           have hsz1 := HK.out.size
           have X1 := HRw.out.putT hk1 (hl1.mono fun b hb => HSf.out b (Nat.le_trans hsz1 hb)) (fun b hb hb2 => by
             have h1 := HRw.out.s.lt hb2
             have h2 : wr.heap.size ≤ b := by
               rcases hb with e | ⟨x, hx, e⟩
               · exact hl1.sv b e
               · exact hl1.sb x hx b e
             omega)
           have hb1 := (hk1.block P (Array.getElem?_eq_some_iff.1 HRw.out.blk).1 fun f => f).trans HRw.out.blk
           have y1 := cell_blk hb1 1 (v := .slice ta lt.length tc) rfl
           have f1 := frozen_blk hb1 1
           have kP : Keep (fun b => b = P) wr (w1.setCell ⟨P, 1, none⟩ (.slice a1 n1 c1')) := (hk1.mono fun _ f => f.elim).more (keep_cell w1 P 1 _)
           have HX := hide X1
           have HXz := hide (Nat.le_trans hsz1 kP.size)
           have HS1 := hide (hs1.trans HSg.out)
           have HCp2 := hide (copied_r _ out (w1.setCell ⟨P, 1, none⟩ (.slice a1 n1 c1')) ⟨ownsRow_keep HLr.out.row kP fun b e (e2 : b = P) => by
             have h1 := (HRo.out.lt b e).1
             have h2 := (Array.getElem?_eq_some_iff.1 HD.out.blk).1
             omega, fun e he => (HLr.out.by8 e he).keep kP fun b e2 (e3 : b = P) => by
             obtain ⟨cs, hc⟩ := row_blk (HLr.out.by8 e he) e2
             rw [e3, HRw.out.blk] at hc
             injection hc with hc
             injection hc with _ hc
             exact absurd hc (by decide)⟩ HOl.out HBl.out)
           clear X1 hb1 kP hs1 hl1 hk1 hsz1))
      exact bodyPost_ret (v := .tuple #[]) (by simp [results, Try.results20, go_sem]) rfl HFin.out
end DP
end Go.Proofs.Ytilpidioengnbaa
