/- The document's Order. -/
import Derived.Test.YtgjiaajeionofaaGRfS
import Derived.Test.YtgjiaajeionofaaGOr2
import Derived.Deep.CutRange
namespace Go.Proofs.Ytgjiaajeionofaa
namespace Gr
open Go.RowKit

def lenV : Value → Nat
  | .slice _ n _ => n
  | _ => 0
/-- not told yet, and all that it waits for below k told -/
def Fk (E : Nat → List Nat) (l : List Nat) (i k : Nat) : Prop := i ∉ l ∧ ∀ e, e < k → e ∈ E i → e ∈ l
theorem Fk.free {E : Nat → List Nat} {l : List Nat} {i n : Nat} (hE : ∀ e ∈ E i, e < n) : Fk E l i n ↔ Free E l i := ⟨fun h => ⟨h.1, fun e he => h.2 e (hE e he) he⟩, fun h => ⟨h.1, fun e _ he => h.2 e he⟩⟩
theorem contains_nat (l : List Nat) (k : Nat) : (l.map fun x : Nat => (x : Int)).contains (k : Int) = decide (k ∈ l) := by
  rw [Bool.eq_iff_iff]
  simp only [List.contains_iff_mem, List.mem_map, decide_eq_true_eq]
  constructor
  · rintro ⟨x, hx, e⟩
    have : x = k := by omega
    rw [← this]; exact hx
  · intro h; exact ⟨k, h, rfl⟩
/-- where the search for the next one stands -/
def Nxt (E : Nat → List Nat) (l : List Nat) (nx : Int) (i : Nat) : Prop := (nx = -1 ∧ ∀ j, j < i → ¬ Free E l j) ∨ ∃ f : Nat, nx = (f : Int) ∧ i = f + 1 ∧ Free E l f ∧ ∀ j, j < f → ¬ Free E l j

set_option maxRecDepth 100000 in
set_option maxHeartbeats 20000000 in
theorem refOrder_any (nm : ByteArray) (dl : Int) (s : Option Addr × Nat × Nat) (xs : List No) (B : Nat) (w : World) (hP : RdP B w s xs) (hB : B ≤ w.heap.size) (hs : Sz nm xs) :
    Calls Try.prog 15 #[.agg #[.string nm, .int .i64 dl, .slice s.1 s.2.1 s.2.2]] w fun e w' => ∃ (l : List Nat) (v : Value), e = .returned (.tuple #[v, .int .i64 ((chk nm dl xs).2 : Nat)]) ∧ w'.ownsRow w.heap.size 3 1 v l.length (iv l) ∧ ((chk nm dl xs).2 ≠ 0 → l = []) ∧ ((chk nm dl xs).2 = 0 → l.length = xs.length ∧ Ord (eg xs) xs.length l) ∧ Keep (fun _ => False) w w' := by
  obtain ⟨a, n, c⟩ := s
  have HN : Hid (n = xs.length) := hP.1
  have KW := hide (Keep.alloc (fun _ => False) w (.cells #[.string nm, .int .i64 dl, .slice a n c] 24))
  have BW := hide (heap_alloc_new w (.cells #[.string nm, .int .i64 dl, .slice a n c] 24))
  have HP := hide (hP.new KW.out)
  have CK := hide (refCheck_any nm dl _ _ _ _ (hP.new KW.out) (by have := KW.out.size; omega) hs)
  have HO := hide (chk_ok (nm := nm) (dl := dl) (xs := xs))
  have HSW := hide (show (w.alloc (.cells #[.string nm, .int .i64 dl, .slice a n c] 24)).heap.size = w.heap.size + 1 by simp)
  generalize chk nm dl xs = R at *
  obtain ⟨r1, r2⟩ := R
  clear hP hs
  go_enter Try.func15, Try.ntmps15
  go_wp2_with fail
  go_at_call 20
  refine CK.out.mono ?_
  rintro e w1 ⟨rfl, k1⟩
  generalize w.alloc (.cells #[.string nm, .int .i64 dl, .slice a n c] 24) = w0 at *
  have K1 := hide k1
  clear k1 CK
  by_cases h : r2 = 0
  case neg =>
    have h' : ((r2 : Int) != 0) = true := by simp; omega
    have KF := hide (KW.out.more K1.out)
    go_wp2_with fail
    go_ret2
    exact ⟨[], _, rfl, World.ownsRow_nil _ _ _ _, fun _ => rfl, fun e => absurd e h, KF.out⟩
  subst h
  obtain ⟨h1, h2, h3, hv, h5⟩ := HO.out rfl
  have HEL := hide (eg_lt hv)
  have HCY := hide (cyc_none h5)
  have hn64 : n ≤ 64 := by have := hv.1; have := HN.out; omega
  have HV : Hid (∀ i x, xs[i]? = some x → ∀ k, k ∈ eg xs i ↔ (x.nl.contains (k : Int) || x.al.contains (k : Int)) = true) := fun i x hx k => eg_mem hx (fun e he => (hv.2 x (List.mem_of_getElem? hx) e he).1) k
  have HF : Hid (∀ l W v, W.ownsRow (w.heap.size + 1) 3 1 v l.length (iv l) → l.length = n → Ord (eg xs) n l → Keep (fun _ => False) w0 W → ∃ l', v = v ∧ W.ownsRow w.heap.size 3 1 v l'.length (iv l') ∧ l'.length = xs.length ∧ Ord (eg xs) xs.length l' ∧ Keep (fun _ => False) w W) := fun l W v h1 h2 h3 h4 => ⟨l, rfl, ownsRow_base (b' := w.heap.size) h1 (by omega), by rw [h2]; exact HN.out, by rw [← HN.out]; exact h3, KW.out.more h4⟩
  have HM : Hid (∀ W, Keep (fun _ => False) w0 W → W.cell? ⟨w.heap.size, 2, none⟩ = some (.slice a n c) ∧ RdP B W (a, n, c) xs ∧ w.heap.size + 1 ≤ W.heap.size) := fun W k => ⟨cell_blk (k.blk BW.out fun f => f) 2 rfl, HP.out.new k, by have := k.size; have := HSW.out; omega⟩
  rw [← HN.out] at HEL
  have HEX : Hid (∀ l : List Nat, l.length < n → ∃ i, i < n ∧ Free (eg xs) l i) := fun l hl => free_ex HEL.out HCY.out hl
  have h0W : Hid (w0.heap.size = w.heap.size + 1) := HSW.out
  clear h1 h2 h3 hv h5 HO HCY HP BW KW HSW
  generalize hEE : eg xs = E at *
  generalize hNN : w.heap.size = N at *
  have HEE := hide hEE
  have HNN := hide hNN
  clear hEE hNN
  go_wp2_with fail
  go_loopw [6] (fun vv wr => ∃ (l : List Nat) (av : Option Addr) (cv : Nat), vv = .slice av l.length cv ∧ l.length ≤ n ∧ Hid (Ord E n l ∧ wr.ownsRow (N + 1) 3 1 (.slice av l.length cv) l.length (iv l) ∧ Keep (fun _ => False) w0 wr)) (fun vv _ => n - lenV vv)
  case atStart => exact ⟨[], none, 0, rfl, Nat.zero_le _, Ord.nil _ _, World.ownsRow_nil _ _ _ _, K1.out⟩
  case round => as_aux_lemma =>
    clear K1
    obtain ⟨l, av, cv, rfl, hle, HD⟩ := hrel
    obtain ⟨hO, hown, hk⟩ := HD.out
    obtain ⟨c2, hp, hsz⟩ := HM.out wr hk
    by_cases hlt : l.length < n
    · as_aux_lemma =>
      have HO := hide hO
      have HOW := hide hown
      have HK := hide hk
      have hrd : RdZ wr.heap.size wr (av, l.length, cv) (l.map fun x : Nat => (x : Int)) := by
        obtain ⟨a', c', e, h⟩ := ownsRow_rd hown (by omega)
        injection e with e1 e2 e3
        subst e1
        subst e3
        exact h
      have HRD := hide hrd
      have HPW := hide hp
      have hlt' : (l.length : Int) < (n : Int) := by omega
      clear HD hO hown hk hrd hp
      go_wp2_with fail
      go_loopw [7, 8] (fun nv iv wx => ∃ (nx : Int) (i : Nat), nv = .int .i64 nx ∧ iv = .int .i64 (i : Nat) ∧ i ≤ n ∧ wx = wr ∧ Hid (Nxt E l nx i)) (fun _ iv _ => n - (intOf iv).toNat)
      case atStart => exact ⟨-1, 0, rfl, rfl, Nat.zero_le _, rfl, .inl ⟨rfl, fun j h => absurd h (Nat.not_lt_zero _)⟩⟩
      case round => as_aux_lemma =>
        obtain ⟨nx, i, rfl, rfl, hi, hwx, HX⟩ := hrel
        subst hwx
        by_cases hgo : i < n ∧ nx < 0
        · obtain ⟨hin, hnx⟩ := hgo
          obtain ⟨rfl, hno⟩ : nx = -1 ∧ ∀ j, j < i → ¬ Free E l j := by
            rcases HX.out with h | ⟨f, h, _⟩
            · exact h
            · omega
          have HNO := hide hno
          have I0 := hide (refIn_any (av, l.length, cv) _ (i : Int) _ _ HRD.out)
          rw [contains_nat] at I0
          have HI : Hid ((!decide (i ∈ l)) = true ↔ Fk E l i 0) := by
            show _ ↔ _
            simp [Fk]
          generalize decide (i ∈ l) = q0 at *
          clear hno hnx HX
          go_wp2_with fail
          go_at_call 21
          refine I0.out.mono ?_
          rintro e w9 ⟨rfl, rfl⟩
          clear I0
          go_wp2_with fail
          go_loopw [9, 10] (fun fv kv wx => ∃ (fb : Bool) (k : Nat), fv = .bool fb ∧ kv = .int .i64 (k : Nat) ∧ k ≤ n ∧ wx = w9 ∧ Hid (fb = true ↔ Fk E l i k)) (fun _ kv _ => n - (intOf kv).toNat)
          case atStart => exact ⟨!q0, 0, rfl, rfl, Nat.zero_le _, rfl, HI.out⟩
          case round => as_aux_lemma =>
            clear HI
            obtain ⟨fb, k, rfl, rfl, hkn, hwx, HFB⟩ := hrel
            subst hwx
            by_cases hlk : k < n
            · as_aux_lemma =>
              obtain ⟨g, off, x, ha, _, hx, hnd, hz1, hz2⟩ := HPW.out.at (i := i) hin
              have ha : a = some ⟨g, off, none⟩ := ha
              subst ha
              have HX := hide (HV.out i x hx k)
              obtain ⟨⟨nmx, la, bu, cl, be, ba, ca, ji, ⟨ne1, ne2, ne3⟩, ⟨af1, af2, af3⟩⟩, nl, al⟩ := x
              obtain ⟨_, _, _, _, _, _, _, _, n8, n9⟩ := hnd.all
              simp only at n8 n9 hz1 hz2 HX
              have I1 := hide (refIn_any (ne1, ne2, ne3) nl (k : Int) B wr hz1)
              have I2 := hide (refIn_any (af1, af2, af3) al (k : Int) B wr hz2)
              have I3 := hide (refIn_any (av, l.length, cv) _ (k : Int) _ _ HRD.out)
              rw [contains_nat] at I3
              have HQ : Hid (decide (k ∈ l) = true ↔ k ∈ l) := by show _ ↔ _; simp
              clear hx hnd hz1 hz2
              generalize nl.contains (k : Int) = q1 at *
              generalize al.contains (k : Int) = q2 at *
              generalize decide (k ∈ l) = q3 at *
              have HFN : Hid ((fb && !((q1 || q2) && !q3)) = true ↔ Fk E l i (k + 1)) := by
                have hF : Fk E l i (k + 1) ↔ Fk E l i k ∧ (k ∈ E i → k ∈ l) := ⟨fun h => ⟨⟨h.1, fun e he => h.2 e (by omega)⟩, h.2 k (by omega)⟩, fun h => ⟨h.1.1, fun e he hm => by
                  by_cases e' : e = k
                  · subst e'; exact h.2 hm
                  · exact h.1.2 e (by omega) hm⟩⟩
                show _ ↔ _
                rw [hF, ← HFB.out, HX.out, ← HQ.out]
                cases fb <;> cases q1 <;> cases q2 <;> cases q3 <;> simp
              clear HFB HQ HX
              go_upto_region 14 with fail
              go_cut [11] from 41 to 72 (fun v wx => v = .bool (q1 || q2) ∧ wx = wr)
              case first => as_aux_lemma =>
                clear HFN I3
                cases q1
                · go_wp2_with (go_at_call 21; first | (refine I1.out.mono ?_; rintro e w9 ⟨rfl, rfl⟩; clear I1) | (refine I2.out.mono ?_; rintro e w9 ⟨rfl, rfl⟩; clear I2))
                  go_meet
                  case rel => exact ⟨rfl, rfl⟩
                · go_wp2_with (go_at_call 21; (refine I1.out.mono ?_; rintro e w9 ⟨rfl, rfl⟩; clear I1))
                  go_meet
                  case rel => exact ⟨rfl, rfl⟩
              case rest => as_aux_lemma =>
                obtain ⟨rfl, hwx⟩ := hcut
                subst hwx
                clear I1 I2 n8 n9
                cases hq : (q1 || q2) with
                | false =>
                  rw [hq] at HFN
                  have HFM : Hid (fb = true ↔ Fk E l i (k + 1)) := by show _ ↔ _; have := HFN.out; simpa using this
                  clear HFN hq I3
                  go_wp2_with fail
                  go_roundw
                  · exact ⟨fb, k + 1, rfl, rfl, by omega, by trivial, HFM.out⟩
                  · show n - ((k : Int) + 1).toNat < n - (k : Int).toNat
                    omega
                | true =>
                  rw [hq] at HFN
                  clear hq
                  cases q3
                  · have HFM : Hid (false = true ↔ Fk E l i (k + 1)) := by show _ ↔ _; have := HFN.out; simpa using this
                    clear HFN
                    go_wp2_with fail
                    go_at_call 21
                    refine I3.out.mono ?_
                    rintro e w8 ⟨rfl, rfl⟩
                    clear I3
                    go_wp2_with fail
                    go_roundw
                    · exact ⟨false, k + 1, rfl, rfl, by omega, by trivial, by show (false = true ↔ Fk E l i (k + 1)); have := HFM.out; simpa using this⟩
                    · show n - ((k : Int) + 1).toNat < n - (k : Int).toNat
                      omega
                  · have HFM : Hid (fb = true ↔ Fk E l i (k + 1)) := by show _ ↔ _; have := HFN.out; simpa using this
                    clear HFN
                    go_wp2_with fail
                    go_at_call 21
                    refine I3.out.mono ?_
                    rintro e w8 ⟨rfl, rfl⟩
                    clear I3
                    go_wp2_with fail
                    go_roundw
                    · exact ⟨fb, k + 1, rfl, rfl, by omega, by trivial, HFM.out⟩
                    · show n - ((k : Int) + 1).toNat < n - (k : Int).toNat
                      omega
            · as_aux_lemma =>
              obtain rfl : k = n := by omega
              have HFR : Hid (fb = true ↔ Free E l i) := HFB.out.trans (Fk.free (HEL.out i))
              clear HFB hlk
              cases fb
              · have HNX : Hid (Nxt E l (-1) (i + 1)) := .inl ⟨rfl, fun j hj hf => by
                  by_cases e : j = i
                  · subst e; have := HFR.out.2 hf; cases this
                  · exact HNO.out j (by omega) hf⟩
                clear HFR HNO
                go_wp2_with fail
                go_roundw
                · exact ⟨-1, i + 1, rfl, rfl, by omega, by trivial, HNX.out⟩
                · show k - ((i : Int) + 1).toNat < k - (i : Int).toNat
                  omega
              · have HNX : Hid (Nxt E l (i : Int) (i + 1)) := .inr ⟨i, rfl, rfl, HFR.out.1 rfl, HNO.out⟩
                clear HFR HNO
                go_wp2_with fail
                go_roundw
                · exact ⟨(i : Int), i + 1, rfl, rfl, by omega, by trivial, HNX.out⟩
                · show k - ((i : Int) + 1).toNat < k - (i : Int).toNat
                  omega
        · as_aux_lemma =>
          obtain ⟨f, rfl, hfn, hfr, hfm⟩ : ∃ f : Nat, nx = (f : Int) ∧ f < n ∧ Free E l f ∧ ∀ j, j < f → ¬ Free E l j := by
            rcases HX.out with ⟨h, hno⟩ | ⟨f, h, h1, h2, h3⟩
            · exfalso
              obtain ⟨j, hj, hf⟩ := HEX.out l hlt
              exact hno j (by omega) hf
            · exact ⟨f, h, by omega, h2, h3⟩
          have ON := hide (HO.out.snoc hlt hfn hfr hfm)
          have kA := Keep.alloc (fun _ => False) wr (.cells #[.int .i64 (f : Int)] 3)
          have OA := hide (ownsRow_new HOW.out kA)
          have CA := hide (cell_one wr (.int .i64 (f : Int)) 3)
          have KA := hide (HK.out.more kA)
          have hszA : N + 1 ≤ (wr.alloc (.cells #[.int .i64 (f : Int)] 3)).heap.size := by have := kA.size; omega
          have hn1 : l.length + 1 ≤ 17592186044416 := by omega
          clear kA hfr hfm HX HO HOW HK HRD HPW
          rcases Nat.lt_or_ge i n with hin | hin
          · as_aux_lemma =>
            have hnn : ¬ ((f : Int) < 0) := by omega
            have hin' : (i : Int) < (n : Int) := by omega
            go_wp2_with (at_builtin; go_must (refine wp_append1 rfl _ _ rfl (N + 1) (.slice av l.length cv) l.length (iv l) rfl OA.out ⟨wr.heap.size, 0, none⟩ f rfl CA.out hn1 hszA ?_); intro v' w4 o4 k4 b4; obtain ⟨u4, u6, hv4⟩ := ownsRow_shape o4; subst hv4; have O4 := hide o4; have K4 := hide k4; clear o4 k4 b4)
            go_roundw
            · have hfrm := fun k e => ownsRow_from OA.out (k := k) e
              refine ⟨l ++ [f], u4, u6, by rw [List.length_append]; rfl, by rw [List.length_append]; exact hlt, ON.out, ?_, KA.out.trans K4.out fun k e => .inr ?_⟩
              · have h := O4.out
                rw [iv_snoc, List.length_append]
                exact h
              · have := hfrm _ e; have := h0W.out; omega
            · show n - (l.length + 1) < n - l.length
              omega
          · as_aux_lemma =>
            have hnn : ¬ ((f : Int) < 0) := by omega
            have hin' : ¬ ((i : Int) < (n : Int)) := by omega
            go_wp2_with (at_builtin; go_must (refine wp_append1 rfl _ _ rfl (N + 1) (.slice av l.length cv) l.length (iv l) rfl OA.out ⟨wr.heap.size, 0, none⟩ f rfl CA.out hn1 hszA ?_); intro v' w4 o4 k4 b4; obtain ⟨u4, u6, hv4⟩ := ownsRow_shape o4; subst hv4; have O4 := hide o4; have K4 := hide k4; clear o4 k4 b4)
            go_roundw
            · have hfrm := fun k e => ownsRow_from OA.out (k := k) e
              refine ⟨l ++ [f], u4, u6, by rw [List.length_append]; rfl, by rw [List.length_append]; exact hlt, ON.out, ?_, KA.out.trans K4.out fun k e => .inr ?_⟩
              · have h := O4.out
                rw [iv_snoc, List.length_append]
                exact h
              · have := hfrm _ e; have := h0W.out; omega
            · show n - (l.length + 1) < n - l.length
              omega
    · as_aux_lemma =>
      have hln : l.length = n := by omega
      have hlt' : ¬ ((l.length : Int) < (n : Int)) := by omega
      have HE := hide (HF.out l wr _ hown hln hO hk)
      clear HD hO hown hk hp HF
      go_wp2_with fail
      go_ret2
      obtain ⟨l', _, h1, h2, h3, h4⟩ := HE.out
      have e1 := HEE.out
      have e2 := HNN.out
      rw [← e1] at h3
      rw [← e2, hln] at h1
      exact ⟨l', _, rfl, h1, ⟨h2, h3⟩, h4⟩
end Gr
end Go.Proofs.Ytgjiaajeionofaa
