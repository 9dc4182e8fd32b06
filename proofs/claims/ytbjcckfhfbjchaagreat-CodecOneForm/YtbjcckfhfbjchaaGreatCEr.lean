import Derived.Test.YtbjcckfhfbjchaaGreatCGd
import Derived.Test.YtbjcckfhfbjchaaGreatCEq
/- Codec: bytes of what may be: mathematics, and the calls. -/
namespace Go.Proofs.YtbjcckfhfbjchaaGreat
namespace Cd
open Go.RowKit Go.Deep

def opBs (d : Ov) : List Nat := (opS d).laid
def plBs (d : Pv) : List Nat := (planW d ⟨[], room 8192, 0⟩).laid
theorem opS_ok {d : Ov} (h : OpOk d) : opS d = ⟨opBs d, room 8192, 0⟩ ∧ 1 ≤ (opBs d).length ∧ (opBs d).length ≤ 5170 := by
  obtain ⟨bs, b1, b2, b3⟩ := fit_op d h ⟨[], room 8192, 0⟩ rfl (by show 0 + 5170 ≤ room 8192; decide)
  have b3 : opS d = ⟨[] ++ bs, room 8192, 0⟩ := b3
  unfold opBs
  rw [b3]
  exact ⟨rfl, b1, b2⟩
theorem plS_ok {d : Pv} (h : may d = true) : planW d ⟨[], room 8192, 0⟩ = ⟨plBs d, room 8192, 0⟩ ∧ 1 ≤ (plBs d).length ∧ (plBs d).length ≤ 5104 := by
  obtain ⟨bs, b1, b2, b3⟩ := fit_may d h ⟨[], room 8192, 0⟩ rfl (by show 0 + 5104 ≤ room 8192; decide)
  have b3 : planW d ⟨[], room 8192, 0⟩ = ⟨[] ++ bs, room 8192, 0⟩ := b3
  unfold plBs
  rw [b3]
  exact ⟨rfl, b1, b2⟩
/-- these bytes, ahead of whatever others, are taken as that -/
theorem op_takes {d : Ov} (h : OpOk d) (t : List Nat) : opR ⟨opBs d ++ t, 0, 0⟩ = ⟨opBs d ++ t, (opBs d).length, 0⟩ ∧ opVal ⟨opBs d ++ t, 0, 0⟩ = d := by
  obtain ⟨e1, e2, e3⟩ := opS_ok h
  have hm : d.ki = 1 → may d.pl = true := fun hk => h.pt 0 (by rw [hk]; exact prts_one rfl)
  obtain ⟨bs, b1, b2, b3, b4⟩ := op_wr d h.lu hm ⟨[], room 8192, 0⟩ rfl (by show 0 ≤ _; exact Nat.zero_le _) (by decide) (by show (opS d).fault = 0; rw [e1])
  have b3 : opS d = ⟨[] ++ bs, room 8192, 0⟩ := b3
  rw [e1] at b3
  have eb : opBs d = bs := by injection b3
  obtain ⟨c1, c2⟩ := b4 ⟨opBs d ++ t, 0, 0⟩ t rfl (by rw [← eb]; rfl)
  rw [c1, c2, h.nf, ← eb]
  exact ⟨by simp [K.RS.go], rfl⟩
theorem pl_takes {d : Pv} (h : may d = true) (t : List Nat) : chkR may planR planVal ⟨plBs d ++ t, 0, 0⟩ = ⟨plBs d ++ t, (plBs d).length, 0⟩ ∧ planVal ⟨plBs d ++ t, 0, 0⟩ = d := by
  obtain ⟨e1, e2, e3⟩ := plS_ok h
  obtain ⟨bs, b1, b2, b3, b4⟩ := wr_plan d ⟨[], room 8192, 0⟩ rfl (by show 0 ≤ _; exact Nat.zero_le _) (by decide) (by rw [e1])
  have b3 : planW d ⟨[], room 8192, 0⟩ = ⟨[] ++ bs, room 8192, 0⟩ := b3
  rw [e1] at b3
  have eb : plBs d = bs := by injection b3
  obtain ⟨c1, c2⟩ := b4 ⟨plBs d ++ t, 0, 0⟩ t rfl (by rw [← eb]; rfl)
  have hc : chkR may planR planVal ⟨plBs d ++ t, 0, 0⟩ = planR ⟨plBs d ++ t, 0, 0⟩ := by
    unfold chkR
    rw [c2, h, if_neg (by simp)]
  rw [hc, c1, c2, ← eb]
  exact ⟨by simp [K.RS.go], rfl⟩
theorem newR_ok {l : List Nat} (h : l.length ≤ 16777216) : newR l = ⟨l, 0, 0⟩ := by unfold newR; rw [if_pos h]
theorem op_back {d : Ov} (h : OpOk d) : opE (opBs d) = 0 ∧ opVal (newR (opBs d)) = d := by
  have e3 := (opS_ok h).2.2
  have ht := op_takes h []
  rw [List.append_nil] at ht
  rw [newR_ok (by omega)]
  refine ⟨?_, ht.2⟩
  unfold opE
  rw [newR_ok (by omega), takeR_run rfl, ht.1]
  unfold endR
  rw [if_neg (by simp)]
theorem pl_back {d : Pv} (h : may d = true) : planE (plBs d) = 0 ∧ planVal (newR (plBs d)) = d := by
  have e3 := (plS_ok h).2.2
  have ht := pl_takes h []
  rw [List.append_nil] at ht
  rw [newR_ok (by omega)]
  refine ⟨?_, ht.2⟩
  unfold planE
  rw [newR_ok (by omega), takeR_run rfl, ht.1]
  unfold endR
  rw [if_neg (by simp)]
theorem op_more {d : Ov} (h : OpOk d) (x : Nat) : opE (opBs d ++ [x]) ≠ 0 := by
  have e3 := (opS_ok h).2.2
  have ht := op_takes h [x]
  unfold opE
  rw [newR_ok (by simp; omega), takeR_run rfl, ht.1]
  unfold endR
  rw [if_pos ⟨rfl, by simp⟩]
  decide
theorem pl_more {d : Pv} (h : may d = true) (x : Nat) : planE (plBs d ++ [x]) ≠ 0 := by
  have e3 := (plS_ok h).2.2
  have ht := pl_takes h [x]
  unfold planE
  rw [newR_ok (by simp; omega), takeR_run rfl, ht.1]
  unfold endR
  rw [if_pos ⟨rfl, by simp⟩]
  decide
/-- bytes that begin others are the same -/
theorem op_pre {d e : Ov} (h : OpOk d) (g : OpOk e) {t : List Nat} (ht : opBs e = opBs d ++ t) : d = e ∧ t = [] := by
  have h1 := op_takes h t
  have h2 := op_takes g []
  rw [List.append_nil, ht, h1.1, h1.2] at h2
  refine ⟨h2.2, ?_⟩
  have h3 : (opBs d).length = (opBs d ++ t).length := by have := h2.1; injection this
  simp at h3
  exact h3
theorem pl_pre {d e : Pv} (h : may d = true) (g : may e = true) {t : List Nat} (ht : plBs e = plBs d ++ t) : d = e ∧ t = [] := by
  have h1 := pl_takes h t
  have h2 := pl_takes g []
  rw [List.append_nil, ht, h1.1, h1.2] at h2
  refine ⟨h2.2, ?_⟩
  have h3 : (plBs d).length = (plBs d ++ t).length := by have := h2.1; injection this
  simp at h3
  exact h3
theorem whole_opB {l : List Nat} (hl : ∀ d ∈ l, d < 256) (he : opE l = 0) : OvK (opVal (newR l)) ∧ opBs (opVal (newR l)) = l := by
  obtain ⟨h1, h2, _⟩ := whole_op hl he
  exact ⟨h1, by unfold opBs; rw [h2]⟩
theorem whole_plB {l : List Nat} (hl : ∀ d ∈ l, d < 256) (he : planE l = 0) : PvK (planVal (newR l)) ∧ may (planVal (newR l)) = true ∧ plBs (planVal (newR l)) = l := by
  obtain ⟨h1, h2, h3, _⟩ := whole_plan hl he
  exact ⟨h1, h2, by unfold plBs; rw [h3]⟩
theorem op_less {d : Ov} (h : OpOk d) (hd : ∀ x ∈ opBs d, x < 256) : opE ((opBs d).take ((opBs d).length - 1)) ≠ 0 := fun he => by
  have e2 := (opS_ok h).2.1
  obtain ⟨k1, k2⟩ := whole_opB (fun x hx => hd x (List.mem_of_mem_take hx)) he
  have := (op_pre k1.ok h (t := (opBs d).drop ((opBs d).length - 1)) (by rw [k2, List.take_append_drop])).2
  have := congrArg List.length this
  simp at this
  omega
theorem pl_less {d : Pv} (h : may d = true) (hd : ∀ x ∈ plBs d, x < 256) : planE ((plBs d).take ((plBs d).length - 1)) ≠ 0 := fun he => by
  have e2 := (plS_ok h).2.1
  obtain ⟨_, k1, k2⟩ := whole_plB (fun x hx => hd x (List.mem_of_mem_take hx)) he
  have := (pl_pre k1 h (t := (plBs d).drop ((plBs d).length - 1)) (by rw [k2, List.take_append_drop])).2
  have := congrArg List.length this
  simp at this
  omega
theorem check_good {d : Ov} {w : World} {v : Value} (h : OvV d w v) (hk : OvK d) : Calls Tryz.prog 13 #[v] w fun en w' => en = .returned (.int .i64 0) ∧ Below w.heap.size w w' := by
  obtain ⟨ki, nm, dl, x1, x2, x3, ky, la, wo, tk, y1, y2, y3, ru, lu, ti, xs, rfl, hod, hki, hsz, hpo, hck, -⟩ := h.inp hk
  have := Check_any ki nm dl x1 x2 x3 ky la wo tk y1 y2 y3 ru lu ti d xs w hod hsz
  rw [hck] at this
  exact this
theorem opBytes_good {d : Ov} {w : World} {v : Value} (h : OvV d w v) (hk : OvK d) : Calls Tryz.prog 11 #[v] w fun en w' => ∃ x, en = .returned (.tuple #[x, .int .i64 0]) ∧ w'.ownsRow w.heap.size 5 1 x (opBs d).length (B8 (opBs d)) ∧ Below w.heap.size w w' ∧ ∀ b ∈ opBs d, b < 256 := by
  obtain ⟨ki, nm, dl, x1, x2, x3, ky, la, wo, tk, y1, y2, y3, ru, lu, ti, xs, rfl, hod, hki, hsz, hpo, hck, -⟩ := h.inp hk
  have h1 := OpBytes_any ki nm dl x1 x2 x3 ky la wo tk y1 y2 y3 ru lu ti d xs w hod hki hsz (fun _ => hpo)
  have e1 := (opS_ok hk.ok).1
  have eB : opB 0 d = opBs d := by unfold opB told; rw [if_pos rfl, e1]; rfl
  have eC : opC 0 d = 0 := by unfold opC; rw [if_pos rfl, e1]
  rw [hck, eB, eC] at h1
  refine h1.mono ?_
  rintro e w' ⟨x, rfl, ho, hb, hf⟩
  exact ⟨x, rfl, ho, hb, hf.1⟩
theorem planBytes_good {d : Pv} {w : World} {v : Value} (h : PlV d w v) (hk : PvK d) (hm : may d = true) : Calls Tryz.prog 12 #[v] w fun en w' => ∃ x, en = .returned (.tuple #[x, .int .i64 0]) ∧ w'.ownsRow w.heap.size 5 1 x (plBs d).length (B8 (plBs d)) ∧ Below w.heap.size w w' ∧ ∀ b ∈ plBs d, b < 256 := by
  obtain ⟨a, n, c, xs, rfl, h1, h2, h3, h4, h5, -, -⟩ := h.inp hk
  have t := PlanBytes_any (str d.1.1) d.1.2 a n c xs w h1 h2 (fun _ => h3)
  have e0 : (Gr.chk (str d.1.1) d.1.2 xs).2 = 0 := by rw [hm] at h5; exact of_decide_eq_true h5.symm
  have e1 := (plS_ok hm).1
  have eB : planB (str d.1.1) d.1.2 xs = plBs d := by unfold planB planS told; rw [if_pos e0, h4, e1]; rfl
  have eC : planC (str d.1.1) d.1.2 xs = 0 := by unfold planC planS; rw [if_pos e0, h4, e1]
  rw [eB, eC] at t
  refine t.mono ?_
  rintro e w' ⟨x, rfl, ho, hb, hf⟩
  exact ⟨x, rfl, ho, hb, hf.1⟩
theorem OvV.bel {d : Ov} {w w' : World} {v : Value} (h : OvV d w v) (hb : Below w.heap.size w w') : OvV d w' v := by
  obtain ⟨ki, nm, dl, x1, x2, x3, ky, la, wo, tk, y1, y2, y3, ru, lu, ti, e, h⟩ := h
  exact ⟨_, _, _, _, _, _, _, _, _, _, _, _, _, _, _, _, e, h.keep (T := 32) (by decide) (by decide) (by decide) (Keep.ofBelow (S := fun _ => False) hb (Nat.le_refl _)) (fun _ f => f.elim)⟩
theorem PlV.bel {d : Pv} {w w' : World} {v : Value} (h : PlV d w v) (hb : Below w.heap.size w w') : PlV d w' v := by
  obtain ⟨a, n, c, e, h⟩ := h
  exact ⟨a, n, c, e, stable_Ns (T := 30) (by decide) (by decide) _ _ _ _ _ h (Keep.ofBelow (S := fun _ => False) hb (Nat.le_refl _)) (fun _ f => f.elim)⟩
end Cd
end Go.Proofs.YtbjcckfhfbjchaaGreat

/- Codec: the document's sameInts, sameNode. -/
namespace Go.Proofs.YtbjcckfhfbjchaaGreat
namespace Cd
open Go.RowKit Go.Deep

theorem take_snoc' {α : Type} : ∀ (z : List α) (i : Nat) (x : α), z[i]? = some x → z.take (i + 1) = z.take i ++ [x]
  | z, i, x, h => by rw [List.take_add_one, h]; rfl
set_option maxHeartbeats 1000000 in
theorem ints12_any (s t : Option Addr × Nat × Nat) (z y : List Int) (B C : Nat) (w : World) (hz : Gr.RdZ B w s z) (hy : Gr.RdZ C w t y) :
    Calls Tryz.prog 75 #[.slice s.1 s.2.1 s.2.2, .slice t.1 t.2.1 t.2.2] w fun e w' => e = .returned (.bool (decide (z = y))) ∧ Keep (fun _ => False) w w' := by
  obtain ⟨a, n, c⟩ := s
  obtain ⟨a', n', c'⟩ := t
  have HN : Hid (n = z.length) := hz.1
  have HM : Hid (n' = y.length) := hy.1
  have hn2 : n ≤ 17592186044416 := hz.2.1
  have HZ := hide hz
  have HY := hide hy
  clear hz hy
  generalize hr : decide (z = y) = r
  have HR := hide hr
  clear hr
  by_cases hl : n = n'
  · subst hl
    go_enter Tryz.func75, Tryz.ntmps75
    go_wp2_with fail
    go_loopw [5] (fun iv wr => ∃ i : Nat, iv = .int .i64 (i : Nat) ∧ i ≤ n ∧ Hid (z.take i = y.take i ∧ Keep (fun _ => False) w wr)) (fun iv _ => n - (intOf iv).toNat)
    case atStart => exact ⟨0, rfl, Nat.zero_le _, rfl, Keep.refl _ _⟩
    case round =>
      obtain ⟨i, rfl, hi, HD⟩ := hrel
      by_cases hlt : i < n
      · obtain ⟨g, off, x, ha, hg, hx, hc⟩ := (HZ.out.new HD.out.2).at hlt
        obtain ⟨g', off', x', ha', hg', hx', hc'⟩ := (HY.out.new HD.out.2).at hlt
        have ha : a = some ⟨g, off, none⟩ := ha
        have ha' : a' = some ⟨g', off', none⟩ := ha'
        subst ha
        subst ha'
        have HX := hide hx
        have HX' := hide hx'
        clear hx hx' HZ HY
        by_cases e : x = x'
        · subst e
          go_wp2_with fail
          go_region
          go_wp2
          go_roundw
          · refine ⟨i + 1, rfl, by omega, ?_, HD.out.2.more (Keep.drew _ _)⟩
            rw [take_snoc' _ _ _ HX.out, take_snoc' _ _ _ HX'.out, HD.out.1]
          · show n - ((i : Int) + 1).toNat < n - (i : Int).toNat
            omega
        · obtain rfl : r = false := by
            rw [← HR.out]
            refine decide_eq_false fun h => e ?_
            have := HX.out
            rw [h, HX'.out] at this
            exact (Option.some.inj this).symm
          have hne : (x != x') = true := by simpa using e
          go_wp2_with fail
          go_region
          go_wp2
          go_ret
          exact ⟨rfl, HD.out.2.more (Keep.drew _ _)⟩
      · obtain rfl : i = n := by omega
        obtain rfl : r = true := by
          rw [← HR.out]
          refine decide_eq_true ?_
          have := HD.out.1
          rwa [List.take_of_length_le (by have := HN.out; omega), List.take_of_length_le (by have := HM.out; omega)] at this
        go_wp2_with fail
        go_ret
        exact ⟨rfl, HD.out.2⟩
  · obtain rfl : r = false := by
      rw [← HR.out]
      refine decide_eq_false fun h => hl ?_
      rw [HN.out, HM.out, h]
    have hl' : ¬ ((n : Int) = n') := by omega
    go_enter Tryz.func75, Tryz.ntmps75
    go_wp2_with fail
    go_ret
    exact ⟨rfl, Keep.refl _ _⟩
end Cd
end Go.Proofs.YtbjcckfhfbjchaaGreat
