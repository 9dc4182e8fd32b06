import Derived.Test.YtbjcckfhfbjchaaGreatPList
import Derived.Test.YtbjcckfhfbjchaaGreatPListR
import Derived.Test.YtbjcckfhfbjchaaGreatCDu
import Derived.Test.YtbjcckfhfbjchaaGreatPWordR
/- Package pack: the put of Blobs. -/
namespace Go.Proofs.YtbjcckfhfbjchaaGreat
open Go.RowKit

theorem Rd.stayN {w w' : World} {a : Option Addr} {n : Nat} {l : List Nat} {S : Nat → Prop} (h : Rd w a n l) (hk : Keep S w w') (hS : n ≠ 0 → ∀ b off, a = some ⟨b, off, none⟩ → ¬ S b) : Rd w' a n l := by
  by_cases hn : n = 0
  · exact ⟨h.1, h.2.1, h.2.2.1, .inl hn⟩
  · exact h.stay hk (hS hn)
theorem Rd.agreeN {D : Nat → Prop} {w w1 : World} {a : Option Addr} {n : Nat} {l : List Nat} (h : Rd w a n l) (ha : Agree D w w1) (hD : n ≠ 0 → ∀ b off, a = some ⟨b, off, none⟩ → D b) : Rd w1 a n l := by
  obtain ⟨h1, h2, h3, h4⟩ := h
  refine ⟨h1, h2, h3, ?_⟩
  rcases h4 with h4 | ⟨b, off, rfl, h4⟩
  · exact .inl h4
  · by_cases hn : n = 0
    · exact .inl hn
    · exact .inr ⟨b, off, rfl, fun i hi => ha.cell (h4 i hi) (hD hn b off rfl)⟩
set_option maxRecDepth 10000 in
set_option maxHeartbeats 400000 in
theorem layRowB (S : Nat → Prop) (w0 : World) (p : Nat) (s : K.WS) (a : Option Addr) (n c : Nat) (l : List Nat) (hr0 : Rd w0 a n l) (hst : n ≤ 140737488351232) (h0 : a = none → c = 0) (hS0 : n ≠ 0 → ∀ b off, a = some ⟨b, off, none⟩ → ¬ S b) (most : Int) (w : World) (h : WAt S w0 p s w) :
    Calls Tryz.prog 187 #[.pointer (some ⟨p, 0, none⟩), .slice a n c, .int .i64 most] w fun en w' => en = .returned (.tuple #[]) ∧ WAt S w0 p (textW most l s) w' := by
  have HH := hide h
  have HLEN : Hid (l.length = n) := hr0.1.symm
  have HR0 := hide hr0
  have H00 := hide h0
  have HS0 := hide hS0
  clear hr0 h0 hS0
  generalize hs' : textW most l s = s'
  have HS := hide hs'
  clear h hs'
  by_cases hm : most < (n : Int)
  · have HS' : Hid (s.fail 20 = s') := by show _ = _; rw [← HS.out]; unfold textW; rw [if_pos (by rw [HLEN.out]; exact hm)]
    go_enter Tryz.func187, Tryz.ntmps187
    go_wp2_with fail
    refine (fail_any S w0 p s 20 (by decide) _ HH.out).mono ?_
    rintro e w1 ⟨rfl, h1⟩
    rw [HS'.out] at h1
    go_wp2
    first | go_end0 | refine bodyPost_ret (results_none rfl _ _ _) rfl ?_
    exact ⟨rfl, h1⟩
  · have HS' : Hid (s.lay (K.num n ++ l) = s') := by show _ = _; rw [← HS.out]; unfold textW; rw [if_neg (by rw [HLEN.out]; exact hm), HLEN.out]
    have HK := hide (K.num_len9 (n := n) (by omega))
    go_enter Tryz.func187, Tryz.ntmps187
    go_wp2_with fail
    refine (numberBytes_any n (by omega) _).mono ?_
    rintro e w1 ⟨ah, ch, rfl, hrh, h0h, hb1⟩
    have HRH := hide hrh
    have H0H := hide h0h
    have HH1 := hide (HH.out.below hb1)
    have hk9 : (K.num n).length ≤ 9 := HK.out
    clear hrh h0h hb1
    generalize hkn : (K.num n).length = kn at *
    have HKN := hide hkn
    clear hkn
    go_wp2_with fail
    obtain ⟨tot, htot⟩ : ∃ tot, tot = kn + n := ⟨_, rfl⟩
    have hcast : ((kn : Int) + (n : Nat)) = ((tot : Nat) : Int) := by omega
    rw [hcast]
    have HTOT := hide htot
    have htb : tot ≤ 140737488351300 := by omega
    clear htot hcast
    by_cases hf : s.laid.length + tot ≤ s.most
    · refine (fits_yes S w0 p s tot (by omega) _ HH1.out hf).mono ?_
      rintro e w2 ⟨rfl, h2, hb2⟩
      have e3 : s.lay (K.num n ++ l) = { s with laid := s.laid ++ K.num n ++ l } := by
        unfold K.WS.lay
        rw [if_pos (by rw [List.length_append, HKN.out, HLEN.out, ← HTOT.out]; exact hf), List.append_assoc]
      have HE := hide e3
      have HF := hide hf
      have HRH2 := hide (HRH.out.keep hb2)
      obtain ⟨av, cv, hv, hs⟩ := h2.open
      have HV := hide hv
      have HSS := hide hs
      have HK2 := hide h2.keep
      have c0 := cell0 hv.blk
      have hlen : s.laid.length ≤ s.most := hv.len
      have htop := hv.top
      clear e3 hf h2 hb2 hv hs
      have HNL : Hid (s.laid.length + (K.num n).length ≤ s.most) := by show _ ≤ _; have := HKN.out; have := HF.out; have := HTOT.out; omega
      have HP := hide (Array.getElem?_eq_some_iff.1 HV.out.blk).1
      have hsum2 : Hid ((s.laid ++ K.num n).length + n ≤ 140737488355328) := by show _ ≤ _; rw [List.length_append, HKN.out]; have := HF.out; have := HTOT.out; omega
      go_wp2_with (first
        | (at_builtin; refine wpList_append_rd rfl _ _ rfl (.slice av s.laid.length cv) s.laid 0 rfl HV.out.row ah kn ch (K.num n) rfl HRH2.out H0H.out (by omega) (Nat.zero_le _) ?_; intro v' w3 ho hg hnb; obtain ⟨a', c', hv'⟩ := ownsRow_shape ho; obtain ⟨m1, hm1⟩ : ∃ m1, m1 = (s.laid ++ K.num n).length := ⟨_, rfl⟩; rw [← hm1] at hv'; have HM1 := hide hm1; clear hm1; subst hv'; have hb3 := (hg.block p HP.out (fun e => HV.out.ne e.symm)).trans HV.out.blk; have d0 := cell0 hb3; have d1 := frozen_of_row w3 p 0 _ _ hb3; have HV3 := hide (HV.out.laid hg hnb ho (K.num_lt n) HNL.out); have HA3 := hide (WAt.laid HK2.out HV.out HSS.out hg hnb ho (K.num_lt n) HNL.out); clear ho hg hnb hb3)
        | (at_builtin; refine wpList_append_rd rfl _ _ rfl (.slice a' m1 c') (s.laid ++ K.num n) 0 rfl HV3.out.row a n c l rfl (HR0.out.stayN HA3.out.keep HS0.out) H00.out hsum2.out (Nat.zero_le _) ?_; intro v2 w4 ho hg hnb; obtain ⟨a2, c2, hv2⟩ := ownsRow_shape ho; obtain ⟨m2, hm2⟩ : ∃ m2, m2 = (s.laid ++ K.num n ++ l).length := ⟨_, rfl⟩; rw [← hm2] at hv2; have HM2 := hide hm2; clear hm2; subst hv2; have hp3 := (Array.getElem?_eq_some_iff.1 HV3.out.blk).1; have hb4 := (hg.block p hp3 (fun e => HV3.out.ne e.symm)).trans HV3.out.blk; have f0 := cell0 hb4; have f1 := frozen_of_row w4 p 0 _ _ hb4; have HO4 := hide ho; have HG4 := hide hg; have HN4 := hide hnb; clear ho hg hnb hb4 hp3))
      go_end0
      refine ⟨rfl, ?_⟩
      rw [← HS'.out, HE.out]
      have hss : ∀ k, Wset p (.slice a' m1 c') k → S k ∨ w0.heap.size ≤ k := by
        obtain ⟨v9, hv9, hs9⟩ := HA3.out.wr
        have e1 := cell0 hv9.blk
        have e2 := cell0 HV3.out.blk
        rw [e1] at e2
        injection e2 with e2
        subst e2
        exact hs9
      exact WAt.laid (s := { s with laid := s.laid ++ K.num n }) HA3.out.keep HV3.out hss HG4.out HN4.out HO4.out HR0.out.2.2.1 (by show (s.laid ++ K.num n).length + l.length ≤ s.most; rw [List.length_append, HKN.out, HLEN.out]; have := HF.out; have := HTOT.out; omega)
    · refine (fits_no S w0 p s tot (by omega) _ HH1.out hf).mono ?_
      rintro e w2 ⟨rfl, h2⟩
      have e3 : s.lay (K.num n ++ l) = s.fail 20 := by
        unfold K.WS.lay
        rw [if_neg (by rw [List.length_append, HKN.out, HLEN.out, ← HTOT.out]; exact hf)]
      rw [← e3, HS'.out] at h2
      go_wp2
      go_end0
      exact ⟨rfl, h2⟩

theorem putBlob (S : Nat → Prop) (w0 : World) (p m : Nat) (most : Int) (a : Option Addr) (n c : Nat) (l : List Nat) (hr0 : Rd w0 a n l) (hst : n ≤ 140737488351232) (h0 : a = none → c = 0) (hS0 : n ≠ 0 → ∀ b off, a = some ⟨b, off, none⟩ → ¬ S b) (s : K.WS) (w : World) (h : WAt S w0 p s w) (hm : w.cell? ⟨m, 0, none⟩ = some (.int .i64 most)) :
    Calls Tryz.prog 186 #[.pointer (some ⟨p, 0, none⟩), .slice a n c, .pointer (some ⟨m, 0, none⟩)] w fun en w' => en = .returned (.tuple #[]) ∧ WAt S w0 p (textW most l s) w' := by
  have HH := hide h
  have HR0 := hide hr0
  have H00 := hide h0
  have HS0 := hide hS0
  clear h hr0 h0 hS0
  go_enter Tryz.func186, Tryz.ntmps186
  go_wp2_with fail
  refine (layRowB S w0 p s a n c l HR0.out hst H00.out HS0.out most _ HH.out).mono ?_
  rintro e w1 ⟨rfl, h1⟩
  go_wp2
  go_end0
  exact ⟨rfl, h1⟩

theorem ent_putBlob (args : Array Value) (w : World) : (callFunc 186 args).run Tryz.prog w = .ok (.enter 186 args) w :=
  callFunc_enter Tryz.func186 (by kernel_rfl) (by kernel_rfl) args w

theorem Rd.agree {D : Nat → Prop} {w w1 : World} {a : Option Addr} {n : Nat} {l : List Nat} (h : Rd w a n l) (ha : Agree D w w1) (hD : ∀ b off, a = some ⟨b, off, none⟩ → D b) : Rd w1 a n l := by
  obtain ⟨h1, h2, h3, h4⟩ := h
  refine ⟨h1, h2, h3, ?_⟩
  rcases h4 with h4 | ⟨b, off, rfl, h4⟩
  · exact .inl h4
  · exact .inr ⟨b, off, rfl, fun i hi => ha.cell (h4 i hi) (hD b off rfl)⟩

theorem putsBlob (D : Nat → Prop) (w : World) (m : Nat) (most : Int) (a : Option Addr) (n c : Nat) (l : List Nat) (hr : Rd w a n l) (hst : n ≤ 140737488351232) (h0 : a = none → c = 0) (hD : n ≠ 0 → ∀ b off, a = some ⟨b, off, none⟩ → D b) (hm : w.cell? ⟨m, 0, none⟩ = some (.int .i64 most)) (dm : D m) :
    PutsG D w 186 #[.pointer (some ⟨m, 0, none⟩)] (.slice a n c) (textW most l) :=
  fun p S w1 ha hd w2 s h _ => putBlob S w1 p m most a n c l (hr.agreeN ha hD) hst h0 (fun hn b off e => hd b (hD hn b off e)) s w2 h ((ha.keep h.keep hd).cell hm dm)

end Go.Proofs.YtbjcckfhfbjchaaGreat

/- Package pack: Blobs, and their take. -/
namespace Go.Proofs.YtbjcckfhfbjchaaGreat
open Go.RowKit

theorem Blobs_any (most : Int) (w : World) :
    Calls Tryz.prog 173 #[.int .i64 most] w fun en w' => ∃ m, en = .returned (.agg #[.func (.func 186) #[] #[.pointer (some ⟨m, 0, none⟩)], .func (.func 188) #[] #[.pointer (some ⟨m, 0, none⟩)]]) ∧
      w'.cell? ⟨m, 0, none⟩ = some (.int .i64 most) ∧ w.heap.size ≤ m ∧ Below w.heap.size w w' := by
  have hmf : ∀ (fn : Fn) (first cap : Array Value) (w : World), (Instr.makeFunc fn first cap).run Tryz.prog w = .ok (.func fn first cap) w := fun _ _ _ _ => rfl
  go_enter Tryz.func173, Tryz.ntmps173
  go_wp2_with fail
  refine (MakeB _ _ _ _ _).mono ?_
  rintro e w1 ⟨rfl, hb1⟩
  obtain ⟨b0, b1, hb⟩ := blocks2 hb1
  have f0 := cell_of_row _ _ 0 _ _ _ b1
  have f1 := cell_of_row _ _ 1 _ _ _ b1
  have z0 := frozen_of_row w1 _ 0 _ _ b1
  have z1 := frozen_of_row w1 _ 1 _ _ b1
  have d0 := cell_of_row _ _ 0 _ _ _ b0
  have HB := hide hb
  have D0 := hide d0
  clear hb1 hb b0 b1 d0
  go_wp2
  refine ⟨rfl, .agg #[.func (.func 186) #[] #[.pointer (some ⟨w.heap.size, 0, none⟩)], .func (.func 188) #[] #[.pointer (some ⟨w.heap.size, 0, none⟩)]], by simp [results, Tryz.results173, go_sem, f0, f1], _, rfl, ?_, Nat.le_refl _, (HB.out.setCell (by show _ ≤ _; simp) _).setCell (by show _ ≤ _; simp) _⟩
  have := D0.out
  rw [World.cell?_setCell_other, World.cell?_setCell_other, this]
  all_goals simp

set_option maxRecDepth 10000 in
theorem takeBlob (q m : Nat) (most : Int) (s : K.RS) (w : World) (h : Rr w q s) (hz : s.fault = 0) (hm : w.cell? ⟨m, 0, none⟩ = some (.int .i64 most)) :
    Takes w q 188 #[.pointer (some ⟨m, 0, none⟩)] (rowR most s) (fun w v => w.ownsRow 0 5 1 v (rowV most s).length (B8 (rowV most s))) := by
  have HH := hide h
  have HZ := hide hz
  unfold Takes
  show Calls Tryz.prog 188 #[.pointer (some ⟨q, 0, none⟩), .pointer (some ⟨m, 0, none⟩)] w _
  generalize hs' : rowR most s = s'
  generalize hx : rowV most s = x
  have HS := hide hs'
  have HX := hide hx
  clear hs' hx h hz
  cases hc : cnt most (rest s) with
  | error e =>
    have HC := hide hc
    have HS' : Hid (s.fail e = s') := by show _ = _; rw [← HS.out]; unfold rowR; rw [hc]
    clear hc
    go_enter Tryz.func188, Tryz.ntmps188
    go_wp2_with fail
    refine (takeRow_err q most s _ HH.out e HC.out).mono ?_
    rintro en w1 ⟨rfl, hb⟩
    exact ⟨rfl, Keep.ofBelow hb (Nat.le_refl _), .inr ⟨by rw [← HS'.out]; exact fail_ne HZ.out (cnt_err HC.out), e, s, rfl, HH.out.below hb, HS'.out⟩⟩
  | ok r =>
    obtain ⟨n, z⟩ := r
    have HC := hide hc
    have HS' : Hid (s.go (z + n) = s') := by show _ = _; rw [← HS.out]; unfold rowR; rw [hc]
    have HX' : Hid (((rest s).take (z + n)).drop z = x) := by show _ = _; rw [← HX.out]; unfold rowV; rw [hc]
    clear hc
    go_enter Tryz.func188, Tryz.ntmps188
    go_wp2_with fail
    refine (takeRow_ok q most s _ HH.out n z HC.out).mono ?_
    rintro en w1 ⟨a, c, rfl, hr, h0, hcc, hrr, hk⟩
    have HN : Hid (n ≤ 16777216) := by show _ ≤ _; have h1 := (cnt_ok HC.out).2.2; rw [rest_len] at h1; have := HH.out.top; omega
    rw [HX'.out] at hr
    rw [HS'.out] at hrr
    have HRD := hide hr
    have H0 := hide h0
    have HRR := hide hrr
    have HK := hide hk
    clear hr h0 hrr hk
    go_wp2_with fail
    refine (clone_any a n c x _ HRD.out H0.out (by have := HRD.out.2.1; have := HN.out; omega)).mono ?_
    rintro en w2 ⟨v, rfl, ho, hb⟩
    have HO := hide (ownsRow_base ho (Nat.zero_le _))
    have HB := hide hb
    clear ho hb
    obtain ⟨a2, c2, hv2⟩ := ownsRow_shape HO.out
    subst hv2
    go_wp2
    go_ret
    exact ⟨HK.out.more (Keep.ofBelow HB.out (Nat.le_refl _)), .inl ⟨by rw [← HS'.out]; exact HZ.out, _, rfl, HRR.out.below HB.out, HO.out⟩⟩

theorem ent_takeBlob (args : Array Value) (w : World) : (callFunc 188 args).run Tryz.prog w = .ok (.enter 188 args) w :=
  callFunc_enter Tryz.func188 (by kernel_rfl) (by kernel_rfl) args w

theorem takesBlob (D : Nat → Prop) (w : World) (m : Nat) (most : Int) (hm : w.cell? ⟨m, 0, none⟩ = some (.int .i64 most)) (dm : D m) :
    TakesG D w 188 #[.pointer (some ⟨m, 0, none⟩)] (rowR most) (fun s w v => w.ownsRow 0 5 1 v (rowV most s).length (B8 (rowV most s))) :=
  fun q s w1 ha _ h hz => takeBlob q m most s w1 h hz (ha.cell hm dm)

end Go.Proofs.YtbjcckfhfbjchaaGreat

/- Codec: the small forms; nodeFields and planFields made (written by cnv_gen.py). -/
namespace Go.Proofs.YtbjcckfhfbjchaaGreat
namespace Cd
open Go.RowKit Go.Deep

theorem set2_blk {w : World} {b : Nat} {x y u v : Value} {t : TypeId} (h : w.heap[b]? = some (.cells #[x, y] t (0, 0))) : ((w.setCell ⟨b, 0, none⟩ u).setCell ⟨b, 1, none⟩ v).heap[b]? = some (.cells #[u, v] t (0, 0)) := (set_blk ((set_blk h 0 u).trans rfl) 1 v).trans rfl
theorem set2_keep (w : World) (b : Nat) (u v : Value) : Keep (fun k => k = b) w ((w.setCell ⟨b, 0, none⟩ u).setCell ⟨b, 1, none⟩ v) := (keep_cell w b 0 u).more (keep_cell _ b 1 v)
/-- a form's block, stored whole -/
theorem below_set2 {w w1 : World} {b : Nat} (h : Below w.heap.size w w1) (hb : w.heap.size ≤ b) (u v : Value) : Below w.heap.size w ((w1.setCell ⟨b, 0, none⟩ u).setCell ⟨b, 1, none⟩ v) :=
  h.trans ((set2_keep w1 b u v).below h.size fun i e => by have e : i = b := e; omega)
theorem names_any (w : World) :
    Calls Tryz.prog 54 #[] w fun en w' => ∃ m, en = .returned (.agg (fS m)) ∧ w'.cell? ⟨m, 0, none⟩ = some (.int .i64 40) ∧ w.heap.size ≤ m ∧ Below w.heap.size w w' := by
  go_enter Tryz.func54, Tryz.ntmps54
  go_wp2_with fail
  refine (Texts_any 40 _).mono ?_
  rintro e w1 ⟨m, rfl, hm, hlm, hb⟩
  have hx := blkB (heap_alloc_new w _) hb
  have f0 := cell_blk hx 0 rfl
  have f1 := cell_blk hx 1 rfl
  have z0 := frozen_blk hx 0
  have z1 := frozen_blk hx 1
  have HS := hide ((Keep.alloc (fun _ => False) w (.cells #[.nilFunc, .nilFunc] 109)).size)
  have hsz : (w.alloc (.cells #[.nilFunc, .nilFunc] 109)).heap.size = w.heap.size + 1 := by simp
  rw [hsz] at hlm hb
  have HB : Hid (Below w.heap.size w w1) := ((Below.refl w.heap.size w).alloc (Nat.le_refl _) _).trans (hb.mono (by omega))
  have HX := hide hx
  have HM := hide (And.intro hm hlm)
  clear hx hb hm hlm hsz
  go_wp2_with fail
  refine bodyPost_ret (results_cell_row rfl _ _ w.heap.size 109 (fS m) (0, 0) _ rfl (set2_blk HX.out) Tryz.underlying109 rfl (by kernel_rfl)) rfl ?_
  refine ⟨m, rfl, (set2_keep _ _ _ _).cell HM.out.1 (by have := HM.out.2; show ¬ m = _; omega), by have := HM.out.2; omega, below_set2 HB.out (Nat.le_refl _) _ _⟩
theorem keys_any (w : World) :
    Calls Tryz.prog 138 #[] w fun en w' => ∃ m, en = .returned (.agg (fS m)) ∧ w'.cell? ⟨m, 0, none⟩ = some (.int .i64 40) ∧ w.heap.size ≤ m ∧ Below w.heap.size w w' := by
  go_enter Tryz.func138, Tryz.ntmps138
  go_wp2_with fail
  refine (Texts_any 40 _).mono ?_
  rintro e w1 ⟨m, rfl, hm, hlm, hb⟩
  have hx := blkB (heap_alloc_new w _) hb
  have f0 := cell_blk hx 0 rfl
  have f1 := cell_blk hx 1 rfl
  have z0 := frozen_blk hx 0
  have z1 := frozen_blk hx 1
  have HS := hide ((Keep.alloc (fun _ => False) w (.cells #[.nilFunc, .nilFunc] 109)).size)
  have hsz : (w.alloc (.cells #[.nilFunc, .nilFunc] 109)).heap.size = w.heap.size + 1 := by simp
  rw [hsz] at hlm hb
  have HB : Hid (Below w.heap.size w w1) := ((Below.refl w.heap.size w).alloc (Nat.le_refl _) _).trans (hb.mono (by omega))
  have HX := hide hx
  have HM := hide (And.intro hm hlm)
  clear hx hb hm hlm hsz
  go_wp2_with fail
  refine bodyPost_ret (results_cell_row rfl _ _ w.heap.size 109 (fS m) (0, 0) _ rfl (set2_blk HX.out) Tryz.underlying109 rfl (by kernel_rfl)) rfl ?_
  refine ⟨m, rfl, (set2_keep _ _ _ _).cell HM.out.1 (by have := HM.out.2; show ¬ m = _; omega), by have := HM.out.2; omega, below_set2 HB.out (Nat.le_refl _) _ _⟩
def fB (m : Nat) : Array Value := #[.func (.func 186) #[] #[.pointer (some ⟨m, 0, none⟩)], .func (.func 188) #[] #[.pointer (some ⟨m, 0, none⟩)]]
theorem results_any (w : World) :
    Calls Tryz.prog 141 #[] w fun en w' => ∃ m, en = .returned (.agg (fB m)) ∧ w'.cell? ⟨m, 0, none⟩ = some (.int .i64 64) ∧ w.heap.size ≤ m ∧ Below w.heap.size w w' := by
  go_enter Tryz.func141, Tryz.ntmps141
  go_wp2_with fail
  refine (Blobs_any 64 _).mono ?_
  rintro e w1 ⟨m, rfl, hm, hlm, hb⟩
  have hx := blkB (heap_alloc_new w _) hb
  have f0 := cell_blk hx 0 rfl
  have f1 := cell_blk hx 1 rfl
  have z0 := frozen_blk hx 0
  have z1 := frozen_blk hx 1
  have HS := hide ((Keep.alloc (fun _ => False) w (.cells #[.nilFunc, .nilFunc] 167)).size)
  have hsz : (w.alloc (.cells #[.nilFunc, .nilFunc] 167)).heap.size = w.heap.size + 1 := by simp
  rw [hsz] at hlm hb
  have HB : Hid (Below w.heap.size w w1) := ((Below.refl w.heap.size w).alloc (Nat.le_refl _) _).trans (hb.mono (by omega))
  have HX := hide hx
  have HM := hide (And.intro hm hlm)
  clear hx hb hm hlm hsz
  go_wp2_with fail
  refine bodyPost_ret (results_cell_row rfl _ _ w.heap.size 167 (fB m) (0, 0) _ rfl (set2_blk HX.out) Tryz.underlying167 rfl (by kernel_rfl)) rfl ?_
  refine ⟨m, rfl, (set2_keep _ _ _ _).cell HM.out.1 (by have := HM.out.2; show ¬ m = _; omega), by have := HM.out.2; omega, below_set2 HB.out (Nat.le_refl _) _ _⟩
theorem lanes_any (w : World) :
    Calls Tryz.prog 121 #[] w fun en w' => ∃ l m, en = .returned (.agg (fI l m)) ∧ w'.cell? ⟨l, 0, none⟩ = some (.int .i64 0) ∧ w'.cell? ⟨m, 0, none⟩ = some (.int .i64 15) ∧ w.heap.size ≤ l ∧ w.heap.size ≤ m ∧ Below w.heap.size w w' := by
  go_enter Tryz.func121, Tryz.ntmps121
  go_wp2_with fail
  refine (Numbers_any 0 15 _).mono ?_
  rintro e w1 ⟨l, m, rfl, hl, hm, hll, hlm, hb⟩
  have hx := blkB (heap_alloc_new w _) hb
  have f0 := cell_blk hx 0 rfl
  have f1 := cell_blk hx 1 rfl
  have z0 := frozen_blk hx 0
  have z1 := frozen_blk hx 1
  have HS := hide ((Keep.alloc (fun _ => False) w (.cells #[.nilFunc, .nilFunc] 90)).size)
  have hsz : (w.alloc (.cells #[.nilFunc, .nilFunc] 90)).heap.size = w.heap.size + 1 := by simp
  rw [hsz] at hll hlm hb
  have HB : Hid (Below w.heap.size w w1) := ((Below.refl w.heap.size w).alloc (Nat.le_refl _) _).trans (hb.mono (by omega))
  have HX := hide hx
  have HM := hide (And.intro hm hlm)
  have HL := hide (And.intro hl hll)
  clear hx hb hm hlm hsz hl hll
  go_wp2_with fail
  refine bodyPost_ret (results_cell_row rfl _ _ w.heap.size 90 (fI l m) (0, 0) _ rfl (set2_blk HX.out) Tryz.underlying90 rfl (by kernel_rfl)) rfl ?_
  refine ⟨l, m, rfl, (set2_keep _ _ _ _).cell HL.out.1 (by have := HL.out.2; show ¬ l = _; omega), (set2_keep _ _ _ _).cell HM.out.1 (by have := HM.out.2; show ¬ m = _; omega), by have := HL.out.2; omega, by have := HM.out.2; omega, below_set2 HB.out (Nat.le_refl _) _ _⟩
theorem workers_any (w : World) :
    Calls Tryz.prog 139 #[] w fun en w' => ∃ l m, en = .returned (.agg (fI l m)) ∧ w'.cell? ⟨l, 0, none⟩ = some (.int .i64 0) ∧ w'.cell? ⟨m, 0, none⟩ = some (.int .i64 1099511627776) ∧ w.heap.size ≤ l ∧ w.heap.size ≤ m ∧ Below w.heap.size w w' := by
  go_enter Tryz.func139, Tryz.ntmps139
  go_wp2_with fail
  refine (Numbers_any 0 1099511627776 _).mono ?_
  rintro e w1 ⟨l, m, rfl, hl, hm, hll, hlm, hb⟩
  have hx := blkB (heap_alloc_new w _) hb
  have f0 := cell_blk hx 0 rfl
  have f1 := cell_blk hx 1 rfl
  have z0 := frozen_blk hx 0
  have z1 := frozen_blk hx 1
  have HS := hide ((Keep.alloc (fun _ => False) w (.cells #[.nilFunc, .nilFunc] 90)).size)
  have hsz : (w.alloc (.cells #[.nilFunc, .nilFunc] 90)).heap.size = w.heap.size + 1 := by simp
  rw [hsz] at hll hlm hb
  have HB : Hid (Below w.heap.size w w1) := ((Below.refl w.heap.size w).alloc (Nat.le_refl _) _).trans (hb.mono (by omega))
  have HX := hide hx
  have HM := hide (And.intro hm hlm)
  have HL := hide (And.intro hl hll)
  clear hx hb hm hlm hsz hl hll
  go_wp2_with fail
  refine bodyPost_ret (results_cell_row rfl _ _ w.heap.size 90 (fI l m) (0, 0) _ rfl (set2_blk HX.out) Tryz.underlying90 rfl (by kernel_rfl)) rfl ?_
  refine ⟨l, m, rfl, (set2_keep _ _ _ _).cell HL.out.1 (by have := HL.out.2; show ¬ l = _; omega), (set2_keep _ _ _ _).cell HM.out.1 (by have := HM.out.2; show ¬ m = _; omega), by have := HL.out.2; omega, by have := HM.out.2; omega, below_set2 HB.out (Nat.le_refl _) _ _⟩
theorem counts_any (w : World) :
    Calls Tryz.prog 140 #[] w fun en w' => ∃ l m, en = .returned (.agg (fI l m)) ∧ w'.cell? ⟨l, 0, none⟩ = some (.int .i64 1) ∧ w'.cell? ⟨m, 0, none⟩ = some (.int .i64 1099511627776) ∧ w.heap.size ≤ l ∧ w.heap.size ≤ m ∧ Below w.heap.size w w' := by
  go_enter Tryz.func140, Tryz.ntmps140
  go_wp2_with fail
  refine (Numbers_any 1 1099511627776 _).mono ?_
  rintro e w1 ⟨l, m, rfl, hl, hm, hll, hlm, hb⟩
  have hx := blkB (heap_alloc_new w _) hb
  have f0 := cell_blk hx 0 rfl
  have f1 := cell_blk hx 1 rfl
  have z0 := frozen_blk hx 0
  have z1 := frozen_blk hx 1
  have HS := hide ((Keep.alloc (fun _ => False) w (.cells #[.nilFunc, .nilFunc] 90)).size)
  have hsz : (w.alloc (.cells #[.nilFunc, .nilFunc] 90)).heap.size = w.heap.size + 1 := by simp
  rw [hsz] at hll hlm hb
  have HB : Hid (Below w.heap.size w w1) := ((Below.refl w.heap.size w).alloc (Nat.le_refl _) _).trans (hb.mono (by omega))
  have HX := hide hx
  have HM := hide (And.intro hm hlm)
  have HL := hide (And.intro hl hll)
  clear hx hb hm hlm hsz hl hll
  go_wp2_with fail
  refine bodyPost_ret (results_cell_row rfl _ _ w.heap.size 90 (fI l m) (0, 0) _ rfl (set2_blk HX.out) Tryz.underlying90 rfl (by kernel_rfl)) rfl ?_
  refine ⟨l, m, rfl, (set2_keep _ _ _ _).cell HL.out.1 (by have := HL.out.2; show ¬ l = _; omega), (set2_keep _ _ _ _).cell HM.out.1 (by have := HM.out.2; show ¬ m = _; omega), by have := HL.out.2; omega, by have := HM.out.2; omega, below_set2 HB.out (Nat.le_refl _) _ _⟩
theorem times_any (w : World) :
    Calls Tryz.prog 147 #[] w fun en w' => ∃ l m, en = .returned (.agg (fI l m)) ∧ w'.cell? ⟨l, 0, none⟩ = some (.int .i64 0) ∧ w'.cell? ⟨m, 0, none⟩ = some (.int .i64 4611686018427387904) ∧ w.heap.size ≤ l ∧ w.heap.size ≤ m ∧ Below w.heap.size w w' := by
  go_enter Tryz.func147, Tryz.ntmps147
  go_wp2_with fail
  refine (Numbers_any 0 4611686018427387904 _).mono ?_
  rintro e w1 ⟨l, m, rfl, hl, hm, hll, hlm, hb⟩
  have hx := blkB (heap_alloc_new w _) hb
  have f0 := cell_blk hx 0 rfl
  have f1 := cell_blk hx 1 rfl
  have z0 := frozen_blk hx 0
  have z1 := frozen_blk hx 1
  have HS := hide ((Keep.alloc (fun _ => False) w (.cells #[.nilFunc, .nilFunc] 90)).size)
  have hsz : (w.alloc (.cells #[.nilFunc, .nilFunc] 90)).heap.size = w.heap.size + 1 := by simp
  rw [hsz] at hll hlm hb
  have HB : Hid (Below w.heap.size w w1) := ((Below.refl w.heap.size w).alloc (Nat.le_refl _) _).trans (hb.mono (by omega))
  have HX := hide hx
  have HM := hide (And.intro hm hlm)
  have HL := hide (And.intro hl hll)
  clear hx hb hm hlm hsz hl hll
  go_wp2_with fail
  refine bodyPost_ret (results_cell_row rfl _ _ w.heap.size 90 (fI l m) (0, 0) _ rfl (set2_blk HX.out) Tryz.underlying90 rfl (by kernel_rfl)) rfl ?_
  refine ⟨l, m, rfl, (set2_keep _ _ _ _).cell HL.out.1 (by have := HL.out.2; show ¬ l = _; omega), (set2_keep _ _ _ _).cell HM.out.1 (by have := HM.out.2; show ¬ m = _; omega), by have := HL.out.2; omega, by have := HM.out.2; omega, below_set2 HB.out (Nat.le_refl _) _ _⟩
end Cd
end Go.Proofs.YtbjcckfhfbjchaaGreat
