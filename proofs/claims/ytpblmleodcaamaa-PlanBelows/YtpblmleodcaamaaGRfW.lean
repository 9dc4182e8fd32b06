/- The document's Below. -/
import Derived.Test.YtpblmleodcaamaaGRfS
import Derived.Test.YtpblmleodcaamaaGBe2
import Derived.Deep.CutRange
namespace Go.Proofs.Ytpblmleodcaamaa
namespace Gr
open Go.RowKit

theorem closed_below {E : Nat → List Nat} {f : Nat → Bool} {t n : Nat} (hE : ∀ i k, k ∈ E i → i < n ∧ k < n) (hc : ∀ i, i < n → ∀ k ∈ E i, (k = t ∨ f k = true) → f i = true) : ∀ i, Waits E i t → f i = true := by
  have key : ∀ (m : Nat) (i : Nat), wt E m i t → f i = true := by
    intro m
    induction m with
    | zero => intro i h; exact hc i (hE i t h).1 t h (.inl rfl)
    | succ m ih =>
      intro i h
      obtain ⟨y, hy, hw⟩ := h
      exact hc i (hE i y hy).1 y hy (.inr (ih y hw))
  rintro i ⟨m, h⟩
  exact key m i h
theorem ng_lt {xs : List No} (hv : Val xs) : ∀ i k, k ∈ ng xs i → i < xs.length ∧ k < xs.length := fun i k hk => by
  unfold ng at hk
  cases hx : xs[i]? with
  | none => rw [hx] at hk; cases hk
  | some x =>
    rw [hx] at hk
    obtain ⟨e, he, rfl⟩ := List.mem_map.1 hk
    have := hv.2 x (List.mem_of_getElem? hx) e (List.mem_append_left _ he)
    exact ⟨(List.getElem?_eq_some_iff.1 hx).1, by omega⟩

set_option maxRecDepth 100000 in
set_option maxHeartbeats 40000000 in
theorem refBelow_any (nm : ByteArray) (dl : Int) (s : Option Addr × Nat × Nat) (xs : List No) (nd : Int) (B : Nat) (w : World) (hP : RdP B w s xs) (hB : B ≤ w.heap.size) (hs : Sz nm xs) :
    Calls Try.prog 19 #[.agg #[.string nm, .int .i64 dl, .slice s.1 s.2.1 s.2.2], .int .i64 nd] w fun e w' => ∃ (l : List Nat) (v : Value), e = .returned (.tuple #[v, .int .i64 (belC nm dl xs nd : Nat)]) ∧ w'.ownsRow w.heap.size 3 1 v l.length (iv l) ∧ (belC nm dl xs nd ≠ 0 → l = []) ∧ (belC nm dl xs nd = 0 → l = bel xs nd.toNat xs.length) ∧ Keep (fun _ => False) w w' := by
  obtain ⟨a, n, c⟩ := s
  have HN : Hid (n = xs.length) := hP.1
  have hnb : n ≤ 1172812402926 := hP.2.1
  have KW := hide (Keep.alloc (fun _ => False) w (.cells #[.string nm, .int .i64 dl, .slice a n c] 24))
  have BW := hide (heap_alloc_new w (.cells #[.string nm, .int .i64 dl, .slice a n c] 24))
  have HP := hide (hP.new KW.out)
  have CK := hide (refCheck_any nm dl _ _ _ _ (hP.new KW.out) (by have := KW.out.size; omega) hs)
  have HC : Hid (belC nm dl xs nd = if (chk nm dl xs).2 ≠ 0 then (chk nm dl xs).2 else if 0 ≤ nd ∧ nd < xs.length then 0 else 103) := rfl
  have HO := hide (chk_ok (nm := nm) (dl := dl) (xs := xs))
  have HSW := hide (show (w.alloc (.cells #[.string nm, .int .i64 dl, .slice a n c] 24)).heap.size = w.heap.size + 1 by simp)
  generalize belC nm dl xs nd = C at *
  generalize chk nm dl xs = R at *
  obtain ⟨r1, r2⟩ := R
  clear hP hs
  go_enter Try.func19, Try.ntmps19
  go_wp2_with fail
  go_at_call 13
  refine CK.out.mono ?_
  rintro e w1 ⟨rfl, k1⟩
  generalize w.alloc (.cells #[.string nm, .int .i64 dl, .slice a n c] 24) = w0 at *
  have K1 := hide k1
  have c2 := cell_blk (k1.blk BW.out fun f => f) 2 (v := .slice a n c) rfl
  have KF := hide (KW.out.more K1.out)
  clear k1 CK
  by_cases h : r2 = 0
  case neg =>
    have h' : ((r2 : Int) != 0) = true := by simp; omega
    obtain rfl : C = r2 := by rw [HC.out]; exact if_pos h
    go_wp2_with fail
    go_ret2
    exact ⟨[], _, rfl, World.ownsRow_nil _ _ _ _, fun _ => rfl, fun e => absurd e h, KF.out⟩
  subst h
  by_cases hn1 : nd < 0
  · obtain rfl : C = 103 := by rw [HC.out, if_neg (by simp), if_neg (by omega)]
    go_wp2_with fail
    go_ret2
    exact ⟨[], _, rfl, World.ownsRow_nil _ _ _ _, fun _ => rfl, fun e => absurd e (by decide), KF.out⟩
  by_cases hn2 : (n : Int) ≤ nd
  · obtain rfl : C = 103 := by rw [HC.out, if_neg (by simp), if_neg (by have := HN.out; omega)]
    go_wp2_with fail
    go_ret2
    exact ⟨[], _, rfl, World.ownsRow_nil _ _ _ _, fun _ => rfl, fun e => absurd e (by decide), KF.out⟩
  obtain rfl : C = 0 := by rw [HC.out, if_neg (by simp), if_pos (by have := HN.out; omega)]
  obtain ⟨t, rfl⟩ : ∃ t : Nat, nd = (t : Int) := ⟨nd.toNat, by omega⟩
  obtain ⟨h1, h2, h3, hv, h5⟩ := HO.out rfl
  have hn64 : n ≤ 64 := by have := hv.1; have := HN.out; omega
  have HE : Hid (∀ i k, k ∈ ng xs i → i < n ∧ k < n) := by rw [HN.out]; exact ng_lt hv
  have HX : Hid (∀ (i : Nat) (x : No), xs[i]? = some x → ∀ k : Nat, (∃ j, x.nl[j]? = some (k : Int)) ↔ k ∈ ng xs i) := fun i x hx k => by
    rw [ng_at hx]
    constructor
    · rintro ⟨j, hj⟩; exact List.mem_map.2 ⟨_, List.mem_of_getElem? hj, by simp⟩
    · intro hk
      obtain ⟨e, he, e2⟩ := List.mem_map.1 hk
      have := hv.2 x (List.mem_of_getElem? hx) e (List.mem_append_left _ he)
      obtain ⟨j, hj⟩ := List.getElem?_of_mem he
      exact ⟨j, by rw [hj]; congr 1; omega⟩
  have HV : Hid (∀ (i : Nat) (x : No), xs[i]? = some x → ∀ e ∈ x.nl, 0 ≤ e ∧ e < n) := fun i x hx e he => by
    have := hv.2 x (List.mem_of_getElem? hx) e (List.mem_append_left _ he)
    have := HN.out
    omega
  have HBL : Hid (∀ i, (Waits (ng xs) i t → bel xs t (i + 1) = bel xs t i ++ [i]) ∧ (¬ Waits (ng xs) i t → bel xs t (i + 1) = bel xs t i)) := fun i => ⟨bel_yes, bel_no⟩
  have hmk := made_boolsR w1 n (by omega)
  have kB := Keep.alloc (fun _ => False) w1 (.cells (madeCells #[.bool false] n) 4)
  have SN := hide (sn_new w1 n)
  have hsT : Hid (w.heap.size + 1 ≤ w1.heap.size) := by show _ ≤ _; have := K1.out.size; have := HSW.out; omega
  have hsB : Hid (w1.heap.size + 1 = (w1.alloc (.cells (madeCells #[.bool false] n) 4)).heap.size) := by show _ = _; simp
  have HM : Hid (∀ W, Keep (fun k => k = w1.heap.size) (w1.alloc (.cells (madeCells #[.bool false] n) 4)) W → W.cell? ⟨w.heap.size, 2, none⟩ = some (.slice a n c) ∧ RdP B W (a, n, c) xs ∧ Keep (fun _ => False) w W ∧ w1.heap.size + 1 ≤ W.heap.size) := fun W k =>
    ⟨cell_blk (k.blk ((K1.out.more kB).blk BW.out fun f => f) (by have := hsT.out; omega)) 2 rfl, (HP.out.new (K1.out.more kB)).keep k (fun i hi => by have := hsT.out; omega), Keep.mix (KW.out.more (K1.out.more kB)) k (fun i hi => by have := hsT.out; omega), by have := k.size; have := hsB.out; omega⟩
  have hnd : ¬ ((t : Int) < 0) := by omega
  have hb1 : decide ((t : Int) < 0) = false := decide_eq_false hnd
  have hb2 : decide ((n : Int) ≤ (t : Int)) = false := decide_eq_false hn2
  have hb3 : decide (n ≤ t) = false := decide_eq_false (by omega)
  have HTN : Hid (∀ l : List Nat, l = bel xs t n → l = bel xs (t : Int).toNat xs.length) := fun l h => by rw [h, HN.out]; rfl
  have ht : t < n := by omega
  clear h1 h2 h3 hv h5 HO HP BW KW HSW KF HC kB hn1
  go_upto_region 7 with fail
  generalize w1.alloc (.cells (madeCells #[.bool false] n) 4) = w2 at *
  clear hmk c2 hb1 hb2 hb3
  generalize ng xs = E at *
  generalize w1.heap.size = T at *
  go_wp2_with fail
  go_loopw [9] (fun mv wr => ∃ (m : Bool), mv = .bool m ∧ Hid (∃ f, SnAt wr T n f ∧ Keep (fun k => k = T) w2 wr ∧ (∀ j, f j = true → Waits E j t) ∧ (m = false → ∀ i, i < n → ∀ k ∈ E i, (k = t ∨ f k = true) → f i = true))) (fun mv wr => 2 * lowW wr T n + (if isUp (some mv) then 1 else 0))
  case atStart => exact ⟨true, rfl, _, SN.out, Keep.refl _ _, (fun j h => by cases h), (fun h => by cases h)⟩
  case round => as_aux_lemma =>
    clear SN
    obtain ⟨m0, rfl, HD⟩ := hrel
    obtain ⟨f0, hs0, hk0, hw0, hc0⟩ := HD.out
    have HS0 := hide hs0
    have HK0 := hide hk0
    have HW0 := hide hw0
    have HC0 := hide hc0
    have HL0 := hide hs0.low
    clear HD hs0 hk0 hw0 hc0
    cases m0
    · as_aux_lemma =>
      have HB : Hid (∀ i, i < n → (f0 i = true ↔ Waits E i t)) := fun i hi => ⟨HW0.out i, closed_below HE.out (HC0.out rfl) i⟩
      clear HC0 HL0 HW0 HE HX HV
      go_wp2_with fail
      go_loopw [13, 14] (fun vv iv' wx => ∃ (i : Nat) (l : List Nat) (av : Option Addr) (cv : Nat), vv = .slice av l.length cv ∧ iv' = .int .i64 (i : Nat) ∧ i ≤ n ∧ Hid (l.length ≤ i ∧ l = bel xs t i ∧ wx.ownsRow (T + 1) 3 1 (.slice av l.length cv) l.length (iv l) ∧ Keep (fun k => k = T) w2 wx ∧ SnAt wx T n f0)) (fun _ iv' _ => n - (intOf iv').toNat)
      case atStart => exact ⟨0, [], none, 0, rfl, rfl, Nat.zero_le _, Nat.le_refl _, rfl, World.ownsRow_nil _ _ _ _, HK0.out, HS0.out⟩
      case round => as_aux_lemma =>
        clear HK0 HS0
        obtain ⟨i, l, av, cv, rfl, rfl, hi, HD⟩ := hrel
        obtain ⟨hle, hl, hown, hk, hsn⟩ := HD.out
        by_cases hlt : i < n
        · have ci := (hsn.at hlt).1
          have HBI := hide (HB.out i hlt)
          have hlt' : (i : Int) < (n : Int) := by omega
          cases hfi : f0 i with
          | false =>
            rw [hfi] at ci HBI
            have hb := (HBL.out i).2 fun h => by have := HBI.out.2 h; cases this
            have N1 : Hid (l.length ≤ i + 1 ∧ l = bel xs t (i + 1) ∧ wr.ownsRow (T + 1) 3 1 (.slice av l.length cv) l.length (iv l) ∧ Keep (fun k => k = T) w2 wr ∧ SnAt wr T n f0) := ⟨by omega, by rw [hb]; exact hl, hown, hk, hsn⟩
            clear HD hle hl hown hk hsn hb HBI hfi
            go_wp2_with fail
            go_roundw
            · exact ⟨i + 1, l, av, cv, rfl, rfl, by omega, N1.out⟩
            · show n - ((i : Int) + 1).toNat < n - (i : Int).toNat
              omega
          | true =>
            rw [hfi] at ci HBI
            have HBB := hide ((HBL.out i).1 (HBI.out.1 rfl))
            have HLB := hide hl
            have kA := Keep.alloc (fun _ => False) wr (.cells #[.int .i64 (i : Int)] 3)
            have OA := hide (ownsRow_new hown kA)
            have CA := hide (cell_one wr (.int .i64 (i : Int)) 3)
            have KA := hide (hk.more (kA.mono fun _ f => f.elim))
            have SA := hide (hsn.keep kA fun f => f)
            have hszA : T + 1 ≤ (wr.alloc (.cells #[.int .i64 (i : Int)] 3)).heap.size := (HM.out _ KA.out).2.2.2
            have hn1 : l.length + 1 ≤ 17592186044416 := by omega
            have hsz2 := hide (show T + 1 ≤ w2.heap.size by have := hsB.out; omega)
            clear HD hl hown hk hsn kA HBI hfi
            go_wp2_with (at_builtin; go_must (refine wp_append1 rfl _ _ rfl (T + 1) (.slice av l.length cv) l.length (iv l) rfl OA.out ⟨wr.heap.size, 0, none⟩ i rfl CA.out hn1 hszA ?_); intro v' w4 o4 k4 b4; obtain ⟨u4, u6, hv4⟩ := ownsRow_shape o4; subst hv4; have O4 := hide o4; have K4 := hide k4; have B4 := hide b4; clear o4 k4 b4)
            go_roundw
            · have hfrm := fun k e => ownsRow_from OA.out (k := k) e
              have hnew : Keep (fun k => k = T) w2 w4 := KA.out.trans K4.out fun k e => .inr (by have := hfrm _ e; have := hsB.out; omega)
              refine ⟨i + 1, l ++ [i], u4, u6, by rw [List.length_append]; rfl, rfl, by omega, by rw [List.length_append]; show l.length + 1 ≤ i + 1; omega, by rw [HBB.out, HLB.out], ?_, hnew, SA.out.keep K4.out fun e => by have := hfrm _ e; omega⟩
              have h := O4.out
              rw [iv_snoc, List.length_append]
              exact h
            · show n - ((i : Int) + 1).toNat < n - (i : Int).toNat
              omega
        · obtain rfl : i = n := by omega
          have hlt' : ¬ ((i : Int) < (i : Int)) := by omega
          have HE1 := hide (HTN.out l hl)
          have HE2 := hide (ownsRow_base (b' := w.heap.size) hown (by have := hsT.out; omega))
          have HE3 := hide (HM.out wr hk).2.2.1
          clear HD hle hl hown hk hsn
          go_wp2_with fail
          go_ret2
          exact ⟨l, _, rfl, HE2.out, HE1.out, HE3.out⟩
    · as_aux_lemma =>
      clear HC0
      have HLW : Hid (lowW wr T n = low f0 n) := HL0.out
      clear HL0
      generalize lowW wr T n = lw at *
      go_wp2_with fail
      go_loopw [9, 10] (fun mv iv wr => ∃ (m : Bool) (i : Nat), mv = .bool m ∧ iv = .int .i64 (i : Nat) ∧ i ≤ n ∧ Hid (∃ f, SnAt wr T n f ∧ Keep (fun k => k = T) w2 wr ∧ (∀ j, f j = true → Waits E j t) ∧ low f n ≤ low f0 n ∧ (m = true → low f n < low f0 n) ∧ (m = false → ∀ i', i' < i → ∀ k ∈ E i', (k = t ∨ f k = true) → f i' = true))) (fun _ iv _ => n - (intOf iv).toNat)
      case atStart => exact ⟨false, 0, rfl, rfl, Nat.zero_le _, f0, HS0.out, HK0.out, HW0.out, Nat.le_refl _, (fun h => by cases h), fun _ i' h => absurd h (Nat.not_lt_zero _)⟩
      case round => as_aux_lemma =>
        obtain ⟨m, i, rfl, rfl, hi, HD⟩ := hrel
        clear HS0 HK0 HW0
        obtain ⟨f, hs, hk, hw, hl, hm, hc⟩ := HD.out
        have HF := hide hs
        have HK := hide hk
        have HW := hide hw
        have HL := hide hl
        have HMM := hide hm
        have HC := hide hc
        clear HD hs hk hw hl hm hc
        obtain ⟨c2, hp, _⟩ := HM.out wr HK.out
        by_cases hlt : i < n
        · as_aux_lemma =>
          obtain ⟨g, off, x, ha, _, hx, hnd', hz1, hz2⟩ := hp.at (i := i) hlt
          have ha : a = some ⟨g, off, none⟩ := ha
          subst ha
          have HXI := hide (HX.out i x hx)
          have HVI := hide (HV.out i x hx)
          obtain ⟨⟨nmx, la, bu, cl, be, ba, ca, ji, ⟨ne1, ne2, ne3⟩, ⟨af1, af2, af3⟩⟩, nl, al⟩ := x
          have HNK : Hid (∀ W, Keep (fun k => k = T) w2 W → W.cell? ⟨g, off + i * 10 + 8, none⟩ = some (.slice ne1 ne2 ne3) ∧ RdZ B W (ne1, ne2, ne3) nl) := fun W k => by
            obtain ⟨g', off', x', e1, _, e2, e3, e4, _⟩ := (HM.out W k).2.1.at (i := i) hlt
            rw [hx] at e2
            obtain rfl := Option.some.inj e2
            have e1 : some (⟨g, off, none⟩ : Addr) = some ⟨g', off', none⟩ := e1
            injection e1 with e1
            injection e1 with ea eb
            subst ea
            subst eb
            exact ⟨e3.all.2.2.2.2.2.2.2.2.1, e4⟩
          have hne : ne2 ≤ 17592186044416 := hz1.2.1
          have HNE : Hid (ne2 = nl.length) := hz1.1
          clear hp hx hnd' hz1 hz2
          go_wp2_with fail
          clear c2
          go_loopw [9, 11] (fun mv kv wr => ∃ (m : Bool) (k : Nat), mv = .bool m ∧ kv = .int .i64 (k : Nat) ∧ k ≤ ne2 ∧ Hid (∃ f, SnAt wr T n f ∧ Keep (fun k => k = T) w2 wr ∧ (∀ j, f j = true → Waits E j t) ∧ low f n ≤ low f0 n ∧ (m = true → low f n < low f0 n) ∧ (m = false → (∀ i', i' < i → ∀ k ∈ E i', (k = t ∨ f k = true) → f i' = true) ∧ ∀ j e, j < k → nl[j]? = some ((e : Nat) : Int) → (e = t ∨ f e = true) → f i = true))) (fun _ kv _ => ne2 - (intOf kv).toNat)
          case atStart => exact ⟨m, 0, rfl, rfl, Nat.zero_le _, f, HF.out, HK.out, HW.out, HL.out, HMM.out, fun h => ⟨HC.out h, fun j e hj => absurd hj (Nat.not_lt_zero _)⟩⟩
          case round => as_aux_lemma =>
            clear HF HK HW HL HMM HC
            obtain ⟨m, k, rfl, rfl, hkn, HD⟩ := hrel
            obtain ⟨f, hs, hk, hw, hl, hm, hc⟩ := HD.out
            have HF := hide hs
            have HK := hide hk
            have HW := hide hw
            have HL := hide hl
            have HMM := hide hm
            have HC := hide hc
            clear HD hs hk hw hl hm hc
            obtain ⟨c2, _⟩ := HM.out wr HK.out
            obtain ⟨c8, hz⟩ := HNK.out wr HK.out
            by_cases hlk : k < ne2
            · as_aux_lemma =>
              obtain ⟨g2, o2, e, he0, _, he, hec⟩ := hz.at (i := k) hlk
              have he0 : ne1 = some ⟨g2, o2, none⟩ := he0
              subst he0
              have hvb := HVI.out e (List.mem_of_getElem? he)
              obtain ⟨e', rfl⟩ : ∃ e' : Nat, e = (e' : Int) := ⟨e.toNat, by omega⟩
              have hen : e' < n := by omega
              have ci := (HF.out.at hlt).1
              have fi := (HF.out.at hlt).2
              have ce := (HF.out.at hen).1
              have HEE : Hid (e' ∈ E i) := (HXI.out e').1 ⟨k, he⟩
              have HEK := hide he
              clear hz he
              go_upto_region 17 with fail
              go_cut [79] from 44 to 82 (fun v wx => v = .bool (!f i && (decide (e' = t) || f e')) ∧ wx = wr)
              case first => as_aux_lemma =>
                clear HW HL HMM HC
                cases hfi : f i with
                | true =>
                  rw [hfi] at ci
                  have HFI := hide hfi
                  clear hfi
                  go_wp2_with fail
                  go_meet
                  case rel => exact ⟨by rw [HFI.out]; rfl, rfl⟩
                | false =>
                  rw [hfi] at ci
                  have HFI := hide hfi
                  clear hfi
                  by_cases het : e' = t
                  · have het' : ((e' : Int) == (t : Int)) = true := by simp; omega
                    have HET := hide het
                    clear het
                    go_wp2_with fail
                    go_meet
                    case rel => exact ⟨by rw [HFI.out, decide_eq_true HET.out]; rfl, rfl⟩
                  · have het' : ((e' : Int) == (t : Int)) = false := by simp; omega
                    have HET := hide het
                    clear het
                    cases hfe : f e' with
                    | false =>
                      rw [hfe] at ce
                      have HFE := hide hfe
                      clear hfe
                      go_wp2_with fail
                      go_meet
                      case rel => exact ⟨by rw [HFI.out, decide_eq_false HET.out, HFE.out]; rfl, rfl⟩
                    | true =>
                      rw [hfe] at ce
                      have HFE := hide hfe
                      clear hfe
                      go_wp2_with fail
                      go_meet
                      case rel => exact ⟨by rw [HFI.out, decide_eq_false HET.out, HFE.out]; rfl, rfl⟩
              case rest => as_aux_lemma =>
                obtain ⟨rfl, rfl⟩ := hcut
                cases hqe : (!f i && (decide (e' = t) || f e')) with
                | false =>
                  have HQ : Hid (false = (!f i && (decide (e' = t) || f e'))) := hqe.symm
                  clear hqe
                  have HC2 : Hid (m = false → (∀ i', i' < i → ∀ k ∈ E i', (k = t ∨ f k = true) → f i' = true) ∧ ∀ j e, j < k + 1 → nl[j]? = some ((e : Nat) : Int) → (e = t ∨ f e = true) → f i = true) := fun h => ⟨(HC.out h).1, fun j e2 hj hje ho => by
                    by_cases ej : j = k
                    · subst ej
                      rw [HEK.out] at hje
                      injection hje with hje
                      have : e2 = e' := by omega
                      subst this
                      have hqq := HQ.out
                      cases hfi : f i with
                      | true => rfl
                      | false =>
                        rw [hfi] at hqq
                        rcases ho with ho | ho
                        · rw [decide_eq_true ho] at hqq; cases hqq
                        · rw [ho] at hqq; simp at hqq
                    · exact (HC.out h).2 j e2 (by omega) hje ho⟩
                  clear HC HQ ci fi ce HEE HEK
                  go_wp2_with fail
                  go_roundw
                  · exact ⟨m, k + 1, rfl, rfl, by omega, f, HF.out, HK.out, HW.out, HL.out, HMM.out, HC2.out⟩
                  · show ne2 - ((k : Int) + 1).toNat < ne2 - (k : Int).toNat
                    omega
                | true =>
                  have HQ : Hid (true = (!f i && (decide (e' = t) || f e'))) := hqe.symm
                  clear hqe
                  have hqq : f i = false ∧ (e' = t ∨ f e' = true) := by
                    have := HQ.out
                    cases hfi : f i with
                    | true => rw [hfi] at this; cases this
                    | false =>
                      rw [hfi] at this
                      refine ⟨rfl, ?_⟩
                      by_cases het : e' = t
                      · exact .inl het
                      · rw [decide_eq_false het] at this
                        exact .inr (by simpa using this.symm)
                  have HWI : Hid (Waits E i t) := by
                    rcases hqq.2 with e | e
                    · subst e; exact Waits.edge HEE.out
                    · exact (Waits.edge HEE.out).trans (HW.out e' e)
                  have HW2 : Hid (∀ j, setF f i j = true → Waits E j t) := fun j hj => by
                    unfold setF at hj
                    by_cases ej : j = i
                    · subst ej; exact HWI.out
                    · rw [if_neg ej] at hj; exact HW.out j hj
                  have HL2 : Hid (low (setF f i) n < low f0 n) := by have h1 := low_set hlt hqq.1; have h2 := HL.out; show _ < _; omega
                  have HF2 := hide (HF.out.set i)
                  have HK2 := hide (HK.out.more ((keep_cell _ T i (.bool true)).mono fun _ h => h))
                  rw [hqq.1] at ci
                  clear hqq HC HQ ce HEE HEK HWI HW HL HMM
                  go_wp2_with fail
                  go_roundw
                  · exact ⟨true, k + 1, rfl, rfl, by omega, _, HF2.out, HK2.out, HW2.out, Nat.le_of_lt HL2.out, fun _ => HL2.out, fun h => by cases h⟩
                  · show ne2 - ((k : Int) + 1).toNat < ne2 - (k : Int).toNat
                    omega
            · as_aux_lemma =>
              obtain rfl : k = ne2 := by omega
              have HC2 : Hid (m = false → ∀ i', i' < i + 1 → ∀ k ∈ E i', (k = t ∨ f k = true) → f i' = true) := fun h i' hi' k' hk' ho => by
                by_cases e : i' = i
                · subst e
                  obtain ⟨j, hj⟩ := (HXI.out k').2 hk'
                  exact (HC.out h).2 j k' (by have := (List.getElem?_eq_some_iff.1 hj).1; have := HNE.out; omega) hj ho
                · exact (HC.out h).1 i' (by omega) k' hk' ho
              clear HC hz
              go_wp2_with fail
              go_roundw
              · exact ⟨m, i + 1, rfl, rfl, by omega, f, HF.out, HK.out, HW.out, HL.out, HMM.out, HC2.out⟩
              · show n - ((i : Int) + 1).toNat < n - (i : Int).toNat
                omega
        · obtain rfl : i = n := by omega
          have HLW2 := hide HF.out.low
          clear hp
          go_wp2_with fail
          go_roundw
          · exact ⟨m, rfl, f, HF.out, HK.out, HW.out, HC.out⟩
          · show 2 * lowW wr T i + (if isUp (some (.bool m)) then 1 else 0) < 2 * lw + (if isUp (some (.bool true)) then 1 else 0)
            rw [HLW2.out, HLW.out]
            have h1 := HL.out
            have h2 := HMM.out
            cases m
            · simp [isUp]; omega
            · have := h2 rfl
              simp [isUp]; omega
end Gr
end Go.Proofs.Ytpblmleodcaamaa
