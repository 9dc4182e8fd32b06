/- Package pack: the put of Texts and of Blobs. -/
import Derived.Test.YtbjcckfhfbjchaaGreatPNumR
import Derived.Lib.AppendStr
namespace Go.Proofs.YtbjcckfhfbjchaaGreat
open Go.RowKit

/-- a string's bytes -/
def sb (s : ByteArray) : List Nat := s.data.toList.map fun b => b.toNat
theorem sb_len (s : ByteArray) : (sb s).length = s.size := by
  rw [sb, List.length_map, Array.length_toList]
  rfl
theorem sb_lt (s : ByteArray) : ∀ d ∈ sb s, d < 256 := by
  intro d hd
  simp only [sb, List.mem_map] at hd
  obtain ⟨b, _, rfl⟩ := hd
  exact b.toNat_lt
theorem sb_cells (s : ByteArray) : Lib.strCells s = B8 (sb s) := by simp [Lib.strCells, B8, sb]

/-- a string's bytes appended to a row of the call's own -/
theorem wpList_append_str {w : World} {ops : Array Oper} {rest : List Oper} {o : Oper} {ac : Act} {Q : Exit → Act → World → Prop} (hgd : o.guard = none) (s x : Operand)
    (ho : o.op = .call { callee := .builtin .append, args := #[s, x], argTypes := #[24, 9] })
    (v : Value) (xs : List Nat) (base : Nat) (hs : ac.eval s = v) (hown : w.ownsRow base 5 1 v xs.length (B8 xs))
    (st : ByteArray) (hx : ac.eval x = .string st)
    (hsz : xs.length + st.size ≤ 140737488355328) (hbase : base ≤ w.heap.size)
    (h : ∀ v' w', w'.ownsRow base 5 1 v' (xs ++ sb st).length (B8 (xs ++ sb st)) → w.grownBy w' v.ownBlock → NewBlk w v v' → wpList Tryz.prog ops Q rest (ac.put o.dst v') w') : wpList Tryz.prog ops Q (o :: rest) ac w := by
  obtain ⟨i0, hi, hz0, hz1, hz2⟩ := info_parts info_u8
  have hmx : xs.length + st.size ≤ maxLen := by unfold maxLen; omega
  have hxl : (B8 xs).length = xs.length := B8_length xs
  refine wpList_plain hgd fun K hK => ?_
  have key : ∃ v' w', (Builtin.append_ #[24, 9] o.type #[v, .string st]).run Tryz.prog w = .ok v' w' ∧ w'.ownsRow base 5 1 v' (xs.length + st.size) (B8 xs ++ Lib.strCells st) ∧ w.grownBy w' v.ownBlock ∧ NewBlk w v v' := by
    rcases hown.2 with ⟨rfl, h0⟩ | ⟨g, cap, cur, rfl, hbg, hg, hnc, hcm, hcs, htake⟩
    · have hxs : xs = [] := List.eq_nil_of_length_eq_zero h0
      subst hxs
      obtain ⟨v', w', hr, h2, h3, _⟩ := Lib.run_append_own_string (P := Tryz.prog) w w.heap.size 24 9 o.type 5 i0 Tryz.underlying24 Tryz.underlying9 hi hz0 hz1 hz2 _ 0 [] (World.ownsRow_nil w _ _ 1) st (by simpa using hmx) (by simpa using hsz) (Nat.le_refl _)
      exact ⟨v', w', hr, ownsRow_base h2 hbase, h3, .inr fun k hk => (h2.lt k hk).1⟩
    · obtain ⟨v', w', hr, h2, h3, _⟩ := Lib.run_append_own_string (P := Tryz.prog) w base 24 9 o.type 5 i0 Tryz.underlying24 Tryz.underlying9 hi hz0 hz1 hz2 _ xs.length (B8 xs) hown st hmx hsz hbase
      refine ⟨v', w', hr, h2, h3, ?_⟩
      by_cases hroom : xs.length + st.size ≤ cap
      · have hr2 := Lib.run_append_room_string (P := Tryz.prog) w 24 9 o.type 5 i0 Tryz.underlying24 Tryz.underlying9 hi hz1 g xs.length cap cur hg st hroom (by omega)
        rw [hr] at hr2
        injection hr2 with e1 e2
        subst e1
        exact .inl rfl
      · have hr2 := Lib.run_append_grow_string (P := Tryz.prog) w 24 9 o.type 5 i0 (.int .u8 0) Tryz.underlying24 Tryz.underlying9 hi hz0 ⟨g, 0, none⟩ xs.length cap (B8 xs) (by rw [hz1]; simpa using hxl) (hown.cells (g := g) rfl) st (by omega) (by omega) (by rw [hz2]; exact growslice_fits (by omega) (by omega))
        rw [hr] at hr2
        injection hr2 with e1 e2
        subst e1
        exact .inr fun k hk => by simp only [Value.ownBlock, Option.some.injEq] at hk; omega
  obtain ⟨v', w', hr, h2, h3, h4⟩ := key
  rw [sb_cells, ← B8_append] at h2
  have h2' : w'.ownsRow base 5 1 v' (xs ++ sb st).length (B8 (xs ++ sb st)) := by rw [List.length_append, sb_len]; exact h2
  unfold Oper.wp execOp
  simp only [ho, resolve, invoke, builtin, Sem.run_bind, Sem.run_pure, Result.andThen_ok, List.map_toArray, List.map_cons, List.map_nil, hs, hx, hr]
  exact hK _ _ (h v' w' h2' h3 h4)

/-- a text, or a blob -/
def textW (most : Int) (bs : List Nat) (s : K.WS) : K.WS := if most < (bs.length : Int) then s.fail 20 else s.lay (K.num bs.length ++ bs)

theorem WAt.open {S : Nat → Prop} {w0 : World} {p : Nat} {s : K.WS} {w : World} (h : WAt S w0 p s w) :
    ∃ v c, Wr w p (.slice v s.laid.length c) s ∧ ∀ k, Wset p (.slice v s.laid.length c) k → S k ∨ w0.heap.size ≤ k := by
  obtain ⟨v, hv, hs⟩ := h.wr
  obtain ⟨a, c, rfl, _⟩ := ownsRow_rd hv.row hv.byt (by have := hv.len; have := hv.top; omega)
  exact ⟨a, c, hv, hs⟩

set_option maxRecDepth 10000 in
set_option maxHeartbeats 400000 in
theorem layRowS (S : Nat → Prop) (w0 : World) (p : Nat) (s : K.WS) (st : ByteArray) (hst : st.size ≤ 140737488351232) (most : Int) (w : World) (h : WAt S w0 p s w) :
    Calls Tryz.prog 156 #[.pointer (some ⟨p, 0, none⟩), .string st, .int .i64 most] w fun en w' => en = .returned (.tuple #[]) ∧ WAt S w0 p (textW most (sb st) s) w' := by
  have HH := hide h
  have HLEN := hide (sb_len st)
  generalize hs' : textW most (sb st) s = s'
  have HS := hide hs'
  clear h hs'
  by_cases hm : most < (st.size : Int)
  · have HS' : Hid (s.fail 20 = s') := by show _ = _; rw [← HS.out]; unfold textW; rw [if_pos (by rw [HLEN.out]; exact hm)]
    go_enter Tryz.func156, Tryz.ntmps156
    go_wp2_with fail
    refine (fail_any S w0 p s 20 (by decide) _ HH.out).mono ?_
    rintro e w1 ⟨rfl, h1⟩
    rw [HS'.out] at h1
    go_wp2
    first | go_end0 | refine bodyPost_ret (results_none rfl _ _ _) rfl ?_
    exact ⟨rfl, h1⟩
  · have HS' : Hid (s.lay (K.num st.size ++ (sb st)) = s') := by show _ = _; rw [← HS.out]; unfold textW; rw [if_neg (by rw [HLEN.out]; exact hm), HLEN.out]
    have HK := hide (K.num_len9 (n := st.size) (by omega))
    go_enter Tryz.func156, Tryz.ntmps156
    go_wp2_with fail
    refine (numberBytes_any st.size (by omega) _).mono ?_
    rintro e w1 ⟨ah, ch, rfl, hrh, h0h, hb1⟩
    have HRH := hide hrh
    have H0H := hide h0h
    have HH1 := hide (HH.out.below hb1)
    have hk9 : (K.num st.size).length ≤ 9 := HK.out
    clear hrh h0h hb1
    generalize hkn : (K.num st.size).length = kn at *
    have HKN := hide hkn
    clear hkn
    go_wp2_with fail
    obtain ⟨tot, htot⟩ : ∃ tot, tot = kn + st.size := ⟨_, rfl⟩
    have hcast : ((kn : Int) + (st.size : Nat)) = ((tot : Nat) : Int) := by omega
    rw [hcast]
    have HTOT := hide htot
    have htb : tot ≤ 140737488351300 := by omega
    clear htot hcast
    by_cases hf : s.laid.length + tot ≤ s.most
    · refine (fits_yes S w0 p s tot (by omega) _ HH1.out hf).mono ?_
      rintro e w2 ⟨rfl, h2, hb2⟩
      have e3 : s.lay (K.num st.size ++ sb st) = { s with laid := s.laid ++ K.num st.size ++ sb st } := by
        unfold K.WS.lay
        rw [if_pos (by rw [List.length_append, HKN.out, HLEN.out, ← HTOT.out]; exact hf), List.append_assoc]
      have HE := hide e3
      have HF := hide hf
      have HRH2 := hide (HRH.out.keep hb2)
      obtain ⟨av, cv, hv, hs⟩ := h2.open
      have HV := hide hv
      have HSS := hide hs
      have HK2 := hide h2.keep
      have c0 := cell0 hv.blk
      have hlen : s.laid.length ≤ s.most := hv.len
      have htop := hv.top
      clear e3 hf h2 hb2 hv hs
      have HNL : Hid (s.laid.length + (K.num st.size).length ≤ s.most) := by show _ ≤ _; have := HKN.out; have := HF.out; have := HTOT.out; omega
      have HP := hide (Array.getElem?_eq_some_iff.1 HV.out.blk).1
      have hsum2 : Hid ((s.laid ++ K.num st.size).length + st.size ≤ 140737488355328) := by show _ ≤ _; rw [List.length_append, HKN.out]; have := HF.out; have := HTOT.out; omega
      go_wp2_with (first
        | (at_builtin; refine wpList_append_rd rfl _ _ rfl (.slice av s.laid.length cv) s.laid 0 rfl HV.out.row ah kn ch (K.num st.size) rfl HRH2.out H0H.out (by omega) (Nat.zero_le _) ?_; intro v' w3 ho hg hnb; obtain ⟨a', c', hv'⟩ := ownsRow_shape ho; obtain ⟨m1, hm1⟩ : ∃ m1, m1 = (s.laid ++ K.num st.size).length := ⟨_, rfl⟩; rw [← hm1] at hv'; have HM1 := hide hm1; clear hm1; subst hv'; have hb3 := (hg.block p HP.out (fun e => HV.out.ne e.symm)).trans HV.out.blk; have d0 := cell0 hb3; have d1 := frozen_of_row w3 p 0 _ _ hb3; have HV3 := hide (HV.out.laid hg hnb ho (K.num_lt st.size) HNL.out); have HA3 := hide (WAt.laid HK2.out HV.out HSS.out hg hnb ho (K.num_lt st.size) HNL.out); clear ho hg hnb hb3)
        | (at_builtin; refine wpList_append_str rfl _ _ rfl (.slice a' m1 c') (s.laid ++ K.num st.size) 0 rfl HV3.out.row st rfl hsum2.out (Nat.zero_le _) ?_; intro v2 w4 ho hg hnb; obtain ⟨a2, c2, hv2⟩ := ownsRow_shape ho; obtain ⟨m2, hm2⟩ : ∃ m2, m2 = (s.laid ++ K.num st.size ++ sb st).length := ⟨_, rfl⟩; rw [← hm2] at hv2; have HM2 := hide hm2; clear hm2; subst hv2; have hp3 := (Array.getElem?_eq_some_iff.1 HV3.out.blk).1; have hb4 := (hg.block p hp3 (fun e => HV3.out.ne e.symm)).trans HV3.out.blk; have f0 := cell0 hb4; have f1 := frozen_of_row w4 p 0 _ _ hb4; have HO4 := hide ho; have HG4 := hide hg; have HN4 := hide hnb; clear ho hg hnb hb4 hp3))
      go_end0
      refine ⟨rfl, ?_⟩
      rw [← HS'.out, HE.out]
      have hss : ∀ k, Wset p (.slice a' m1 c') k → S k ∨ w0.heap.size ≤ k := by
        obtain ⟨v9, hv9, hs9⟩ := HA3.out.wr
        have e1 := cell0 hv9.blk
        have e2 := cell0 HV3.out.blk
        rw [e1] at e2
        injection e2 with e2
        subst e2
        exact hs9
      exact WAt.laid (s := { s with laid := s.laid ++ K.num st.size }) HA3.out.keep HV3.out hss HG4.out HN4.out HO4.out (sb_lt st) (by show (s.laid ++ K.num st.size).length + (sb st).length ≤ s.most; rw [List.length_append, HKN.out, HLEN.out]; have := HF.out; have := HTOT.out; omega)
    · refine (fits_no S w0 p s tot (by omega) _ HH1.out hf).mono ?_
      rintro e w2 ⟨rfl, h2⟩
      have e3 : s.lay (K.num st.size ++ (sb st)) = s.fail 20 := by
        unfold K.WS.lay
        rw [if_neg (by rw [List.length_append, HKN.out, HLEN.out, ← HTOT.out]; exact hf)]
      rw [← e3, HS'.out] at h2
      go_wp2
      go_end0
      exact ⟨rfl, h2⟩

end Go.Proofs.YtbjcckfhfbjchaaGreat
