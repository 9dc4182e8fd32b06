/- Package run: least, turn. -/
import Derived.Test.YtiackejbpcjmeaaROut
import Derived.Deep.LoopGhost
namespace Go.Proofs.Ytiackejbpcjmeaa
namespace Rn
open Go.RowKit Gr

theorem nx_at {xs : List No} {i : Nat} {x : No} (h : xs[i]? = some x) : (xs.map nx)[i]? = some (nx x) := by rw [List.getElem?_map, h]; rfl

set_option maxRecDepth 100000 in
set_option maxHeartbeats 2000000 in
theorem least_any {T : Nat → Prop} {w : World} {P G : Nat} {nm : ByteArray} {dl : Int} {s : Option Addr × Nat × Nat} {xs : List No} {R : Rs} (h : RunAt T w P G nm dl s xs R) (how : Int) :
    Calls Try.prog 68 #[.pointer (some ⟨P, 0, none⟩), .int .i64 how] w fun e w' => e = .returned (.tuple #[.int .i64 (((leastN (xs.map nx) how (sts R.ps)).getD 0 : Nat) : Int), .bool (leastN (xs.map nx) how (sts R.ps)).isSome]) ∧ Keep (fun _ => False) w w' := by
  have HR := hide h
  obtain ⟨c, _, _, _, _, d4⟩ := h.cells
  have HL : Hid (xs.length ≤ 64) := h.val.1
  have HS := hide (fun i => leastN_some (xs := xs.map nx) (how := how) (ss := sts R.ps) (i := i))
  have HN := hide (@leastN_none (xs.map nx) how (sts R.ps))
  simp only [List.length_map] at HS HN
  generalize leastN (xs.map nx) how (sts R.ps) = r at *
  have hl : xs.length ≤ 64 := HL.out
  have HLN : Hid (R.ps.length = xs.length) := h.len
  clear h
  generalize hn : xs.length = n at *
  go_enter Try.func68, Try.ntmps68
  go_wp2_with fail
  go_loopw [13] (fun iv wr => ∃ i : Nat, iv = .int .i64 (i : Nat) ∧ i ≤ n ∧ Hid (Keep (fun _ => False) w wr ∧ ∀ j, j < i → qual (xs.map nx) how (sts R.ps) j = false)) (fun iv _ => n - (intOf iv).toNat)
  case atStart => exact ⟨0, rfl, Nat.zero_le _, Keep.refl _ _, fun j h => absurd h (Nat.not_lt_zero _)⟩
  case round =>
    clear d4
    obtain ⟨i, rfl, hi, HD⟩ := hrel
    have HK := hide HD.out.1
    have HQ := hide HD.out.2
    clear HD
    by_cases hlt : i < n
    · have hR := HR.out.new HK.out
      have hp : R.ps[i]? = some (R.ps[i]'(by have := HLN.out; omega)) := List.getElem?_eq_getElem _
      have hx : xs[i]? = some (xs[i]'(by omega)) := List.getElem?_eq_getElem _
      obtain ⟨m, hm⟩ := hR.pts i _ hp
      have HST := hide (sAt_sts hp)
      generalize R.ps[i]'_ = p at *
      generalize xs[i]'_ = x at *
      obtain ⟨c0, c1, c2, c3, c4⟩ := hm.all
      have HQA := hide (qual_at (how := how) (ss := sts R.ps) (nx_at hx))
      have K1 := Keep.alloc (fun _ => False) wr (.cells #[.int .i64 p.st, .int .i64 p.tr, .int .i64 0, .int .i64 0, .slice m.1 m.2.1 m.2.2] 76)
      have OL := hide (outlookOf_any (hR.new K1) i x hx)
      have K2 := hide (HK.out.more K1)
      have HLT := hide hlt
      clear hR hm hp hx K1
      rw [HST.out] at HQA
      generalize outl (sts R.ps) (nx x) = q at *
      generalize p.st = st at *
      by_cases h1 : st = 1
      · subst h1
        go_wp2_with fail
        go_at_call 73
        refine OL.out.mono ?_
        rintro e w2 ⟨rfl, k2⟩
        have K3 := hide (K2.out.more k2)
        clear k2 OL
        by_cases h2 : q = how
        · subst h2
          obtain rfl : r = some i := (HS.out i).2 ⟨hlt, by rw [HQA.out]; simp, HQ.out⟩
          go_wp2_with fail
          go_ret2
          exact ⟨rfl, K3.out⟩
        · have h2' : (q == how) = false := by simpa using h2
          have HQ2 : Hid (∀ j, j < i + 1 → qual (xs.map nx) how (sts R.ps) j = false) := fun j hj => by
            by_cases e : j = i
            · subst e; rw [HQA.out]; simp [h2]
            · exact HQ.out j (by omega)
          clear HQ HQA h2
          go_wp2_with fail
          go_roundw
          · exact ⟨i + 1, rfl, by have := HLT.out; omega, K3.out, HQ2.out⟩
          · show n - ((i : Int) + 1).toNat < n - (i : Int).toNat
            have := HLT.out; omega
      · have h1' : (st == 1) = false := by simpa using h1
        have HQ2 : Hid (∀ j, j < i + 1 → qual (xs.map nx) how (sts R.ps) j = false) := fun j hj => by
          by_cases e : j = i
          · subst e; rw [HQA.out]; simp [h1]
          · exact HQ.out j (by omega)
        clear HQ HQA h1 OL
        go_wp2_with fail
        go_roundw
        · exact ⟨i + 1, rfl, by have := HLT.out; omega, K2.out, HQ2.out⟩
        · show n - ((i : Int) + 1).toNat < n - (i : Int).toNat
          have := HLT.out; omega
    · obtain rfl : r = none := HN.out.2 fun j hj => HQ.out j (by omega)
      clear HQ
      go_wp2_with fail
      go_ret2
      exact ⟨rfl, HK.out⟩

/-- a node's state is stored -/
theorem RunAt.put {T : Nat → Prop} {w : World} {P G : Nat} {nm : ByteArray} {dl : Int} {s : Option Addr × Nat × Nat} {xs : List No} {R : Rs} (h : RunAt T w P G nm dl s xs R) (t : Nat) (p p' : Pt) (m m' : Option Addr × Nat × Nat) (hp : R.ps[t]? = some p) (hm : PtAt T w G t p m) (j : Nat) (v : Value) (hj : j < 5) (hrow : ptRow p' m' = (ptRow p m).set j v) (hrd : Rd w m'.1 m'.2.1 p'.rs) (hof : Off T m') (hcap : m'.1 = none → m'.2.2 = 0) (hsz : t * 5 + 4 < ((w.heap[G]?).elim 0 fun o => match o with | .cells cs _ _ => cs.size | _ => 0)) :
    RunAt T (w.setCell ⟨G, t * 5 + j, none⟩ v) P G nm dl s xs ⟨R.stt, R.ps.set t p'⟩ := by
  obtain ⟨⟨c, hb⟩, ⟨cs, hg⟩, h3, h4, h5, h6, h7, h8, h9, h10, h11⟩ := h
  have hK := keep_cell w G (t * 5 + j) v
  have hF : ∀ {g o : Nat} {u : Value}, g ≠ G → w.cell? ⟨g, o, none⟩ = some u → (w.setCell ⟨G, t * 5 + j, none⟩ v).cell? ⟨g, o, none⟩ = some u := fun hne hc => hK.cell hc hne
  rw [hg] at hsz
  simp only [Option.elim_some] at hsz
  have hg' := set_blk hg (t * 5 + j) v
  have hrd' : ∀ {a : Option Addr × Nat × Nat} {l : List Nat}, Off T a → Rd w a.1 a.2.1 l → Rd (w.setCell ⟨G, t * 5 + j, none⟩ v) a.1 a.2.1 l := fun ho hr => by
    rcases ho with ho | ho
    · exact ⟨hr.1, hr.2.1, hr.2.2.1, .inl ho⟩
    · exact hr.stay hK fun b off e hb => (ho b off e) (hb ▸ h9)
  have hcell : ∀ {o : Nat} {u : Value}, w.cell? ⟨G, o, none⟩ = some u → o ≠ t * 5 + j → (w.setCell ⟨G, t * 5 + j, none⟩ v).cell? ⟨G, o, none⟩ = some u := fun hc hne => by
    rw [World.cell?, hg] at hc
    rw [World.cell?, hg']
    simp only [] at hc ⊢
    rw [Array.getElem?_setIfInBounds, if_neg (Ne.symm hne)]
    simpa using hc
  have hthere : (w.setCell ⟨G, t * 5 + j, none⟩ v).cell? ⟨G, t * 5 + j, none⟩ = some v := by
    refine cell_blk hg' _ ?_
    rw [Array.getElem?_setIfInBounds, if_pos rfl, if_pos (by omega)]
  refine ⟨⟨c, hK.blk hb h7⟩, ⟨_, hg'⟩, fun i q hi => ?_, ?_, h5, by simpa using h6, h7, h8, h9, h10, h11⟩
  · rw [List.getElem?_set] at hi
    by_cases e : t = i
    · subst e
      rw [if_pos rfl, if_pos (List.getElem?_eq_some_iff.1 hp).1] at hi
      obtain rfl := Option.some.inj hi
      refine ⟨m', fun j' u hu => ?_, hrd' hof hrd, hof, hcap⟩
      rw [hrow, List.getElem?_set] at hu
      by_cases e : j = j'
      · subst e
        rw [if_pos rfl, if_pos (by simpa [ptRow] using hj)] at hu
        obtain rfl := Option.some.inj hu
        exact hthere
      · rw [if_neg e] at hu
        exact hcell (hm.cells j' u hu) (by omega)
    · rw [if_neg e] at hi
      obtain ⟨mq, hq⟩ := h3 i q hi
      refine ⟨mq, fun j' u hu => ?_, hrd' hq.off hq.rd, hq.off, hq.cap⟩
      have hj' : j' < 5 := by have := (List.getElem?_eq_some_iff.1 hu).1; simpa [ptRow] using this
      exact hcell (hq.cells j' u hu) (by omega)
  · obtain ⟨g1, g2, g3, g4⟩ := h4
    have hz : ∀ {a : Option Addr × Nat × Nat} {z : List Int}, Off T a → RdZ w.heap.size w a z → RdZ (w.setCell ⟨G, t * 5 + j, none⟩ v).heap.size (w.setCell ⟨G, t * 5 + j, none⟩ v) a z := fun ho hz => by
      obtain ⟨z1, z2, z3⟩ := hz
      refine ⟨z1, z2, ?_⟩
      rcases ho with ho | ho
      · exact .inl ho
      rcases z3 with z3 | ⟨g, off, e, hl, z3⟩
      · exact .inl z3
      · exact .inr ⟨g, off, e, Nat.lt_of_lt_of_le hl hK.size, fun j x hj => hF (fun hh => ho g off e (hh ▸ h9)) (z3 j x hj)⟩
    refine ⟨g1, g2, ?_, fun x hx => ⟨hz (h5.2 x hx).1 (g4 x hx).1, hz (h5.2 x hx).2 (g4 x hx).2⟩⟩
    rcases h5.1 with h50 | h50
    · exact .inl h50
    rcases g3 with g3 | ⟨g, off, e, hl, g3⟩
    · exact .inl g3
    · exact .inr ⟨g, off, e, Nat.lt_of_lt_of_le hl hK.size, fun i x hx j v hv => hF (fun hh => h50 g off e (hh ▸ h9)) (g3 i x hx j v hv)⟩
/-- the block of the nodes is long enough -/
theorem PtAt.size {T : Nat → Prop} {w : World} {G i : Nat} {p : Pt} {m : Option Addr × Nat × Nat} (h : PtAt T w G i p m) {cs : Array Value} {t : TypeId} (hg : w.heap[G]? = some (.cells cs t (0, 0))) : i * 5 + 4 < cs.size := by
  have := h.all.2.2.2.2
  rw [World.cell?, hg] at this
  simp only [] at this
  have h2 : cs[i * 5 + 4]? = some (.slice m.1 m.2.1 m.2.2) := by simpa using this
  exact (Array.getElem?_eq_some_iff.1 h2).1
theorem RunAt.putS {T : Nat → Prop} {w : World} {P G : Nat} {nm : ByteArray} {dl : Int} {s : Option Addr × Nat × Nat} {xs : List No} {R : Rs} (h : RunAt T w P G nm dl s xs R) (t : Nat) (ht : t < R.ps.length) (v : Int) : RunAt T (w.setCell ⟨G, t * 5, none⟩ (.int .i64 v)) P G nm dl s xs ⟨R.stt, Rn.putS R.ps t v⟩ := by
  have hp : R.ps[t]? = some R.ps[t] := List.getElem?_eq_getElem ht
  obtain ⟨m, hm⟩ := h.pts t _ hp
  obtain ⟨cs, hg⟩ := h.prt
  have e : Rn.putS R.ps t v = R.ps.set t { R.ps[t] with st := v } := by
    refine List.ext_getElem? fun i => ?_
    unfold Rn.putS
    rw [List.getElem?_modify, List.getElem?_set]
    by_cases c : t = i
    · subst c; simp [ht]
    · simp [c]
  rw [e]
  exact h.put t _ _ m m hp hm 0 _ (by decide) rfl hm.rd hm.off hm.cap (by rw [hg]; exact hm.size hg)
theorem RunAt.frozen {T : Nat → Prop} {w : World} {P G : Nat} {nm : ByteArray} {dl : Int} {s : Option Addr × Nat × Nat} {xs : List No} {R : Rs} (h : RunAt T w P G nm dl s xs R) (j : Nat) : w.frozen? ⟨G, j, none⟩ = false ∧ w.frozen? ⟨P, j, none⟩ = false := by
  obtain ⟨cs, hg⟩ := h.prt
  obtain ⟨c, hb⟩ := h.blk
  exact ⟨frozen_blk hg j, frozen_blk hb j⟩

set_option maxRecDepth 100000 in
set_option maxHeartbeats 2000000 in
theorem turn_core {T : Nat → Prop} {w : World} {P G : Nat} {nm : ByteArray} {dl : Int} {s : Option Addr × Nat × Nat} {xs : List No} {R : Rs} (h : RunAt T w P G nm dl s xs R) (hT : ∀ k, w.heap.size ≤ k → T k) (how st : Int) (hst : st ≠ 1) :
    Calls Try.prog 47 #[.pointer (some ⟨P, 0, none⟩), .int .i64 how, .int .i64 st] w fun e w' => ∃ v, e = .returned v ∧ RunAt T w' P G nm dl s xs ⟨R.stt, withS R.ps (turnF (xs.map nx) how st xs.length (sts R.ps)).2⟩ ∧ w'.ownsRow w.heap.size 3 1 v (turnF (xs.map nx) how st xs.length (sts R.ps)).1.length (iv (turnF (xs.map nx) how st xs.length (sts R.ps)).1) ∧ Keep (fun k => k = G) w w' := by
  have HT := hide hT
  have HGL : Hid (G < w.heap.size) := by obtain ⟨cs, hg⟩ := h.prt; exact (Array.getElem?_eq_some_iff.1 hg).1
  have HPL : Hid (P < w.heap.size) := by obtain ⟨cs, hg⟩ := h.blk; exact (Array.getElem?_eq_some_iff.1 hg).1
  have HLN : Hid (R.ps.length = xs.length) := h.len
  have hl64 : xs.length ≤ 64 := h.val.1
  have HL64 := hide hl64
  have LE := hide (fun (W : World) (Q : Rs) (hq : RunAt T W P G nm dl s xs Q) => least_any hq how)
  have HR0 : Hid (RunAt T w P G nm dl s xs ⟨R.stt, withS R.ps (sts R.ps)⟩) := by rw [withS_sts]; exact h
  have HW0 : Hid (wtn (sts R.ps) ≤ xs.length) := by have := wtn_le (sts R.ps); rw [sts_length] at this; have := HLN.out; show _ ≤ _; omega
  have HF : Hid (∀ f ss, turnF (xs.map nx) how st (f + 1) ss = match leastN (xs.map nx) how ss with
    | none => ([], ss)
    | some t => (t :: (turnF (xs.map nx) how st f (ss.set t st)).1, (turnF (xs.map nx) how st f (ss.set t st)).2)) := fun f ss => rfl
  have HF0 : Hid (∀ f ss, wtn ss ≤ f → leastN (xs.map nx) how ss = none → turnF (xs.map nx) how st f ss = ([], ss)) := fun f ss _ hn => by
    cases f with
    | zero => rfl
    | succ f => rw [HF.out, hn]
  have HLS : Hid (∀ ss t, leastN (xs.map nx) how ss = some t → t < xs.length ∧ ss[t]? = some 1) := fun ss t hs => by
    obtain ⟨h1, h2, _⟩ := leastN_some.1 hs
    obtain ⟨x, _, h4, _⟩ := qual_true.1 h2
    exact ⟨by simpa using h1, sAt_one h4⟩
  have C1 := hide (LE.out w ⟨R.stt, withS R.ps (sts R.ps)⟩ HR0.out)
  simp only [sts_withS (sts_length R.ps)] at C1
  clear h hT
  generalize hss0 : sts R.ps = ss0 at *
  have HS0 : Hid (ss0.length = R.ps.length) := by rw [← hss0]; exact sts_length _
  clear hss0
  generalize hFR : turnF (xs.map nx) how st xs.length ss0 = FR at *
  have HFR := hide hFR
  clear hFR
  go_enter Try.func47, Try.ntmps47
  go_wp2_with fail
  go_at_call 68
  refine C1.out.mono ?_
  rintro e w1 ⟨rfl, k1⟩
  have HR1 := hide (HR0.out.new k1)
  have K1 := hide (k1.mono (T := fun k => k = G) fun _ f => f.elim)
  clear k1 C1 HR0
  go_wp2_with fail
  go_loopg [7, 8, 9] xs.length (fun kx s7 s8 s9 wr => ∃ (v : Value) (acc : List Nat) (ss : List Int) (a : Option Addr) (c : Nat), v = .slice a acc.length c ∧ s7 = v ∧ s8 = .int .i64 (((leastN (xs.map nx) how ss).getD 0 : Nat) : Int) ∧ s9 = .bool (leastN (xs.map nx) how ss).isSome ∧ acc.length + kx = xs.length ∧ Hid (ss.length = R.ps.length ∧ wtn ss ≤ kx ∧ FR = (acc ++ (turnF (xs.map nx) how st kx ss).1, (turnF (xs.map nx) how st kx ss).2) ∧ RunAt T wr P G nm dl s xs ⟨R.stt, withS R.ps ss⟩ ∧ wr.ownsRow w.heap.size 3 1 v acc.length (iv acc) ∧ Keep (fun k => k = G) w wr))
  case atStart => exact ⟨_, [], ss0, none, 0, rfl, rfl, rfl, rfl, by simp, HS0.out, HW0.out, by rw [HFR.out]; rfl, HR1.out, World.ownsRow_nil _ _ _ _, K1.out⟩
  case round =>
    clear HR1 K1
    obtain ⟨v, acc, ss, a, c, hv, rfl, rfl, rfl, hk, HD⟩ := hrel
    subst hv
    obtain ⟨q1, q2, q3, q4, q5, q6⟩ := HD.out
    have Q1 := hide q1
    have Q2 := hide q2
    have Q3 := hide q3
    have Q4 := hide q4
    have Q5 := hide q5
    have Q6 := hide q6
    clear HD q1 q2 q3 q5 q6
    cases hls : leastN (xs.map nx) how ss with
    | none =>
      have HE : Hid (FR = (acc, ss)) := by
        show FR = (acc, ss)
        have := HF0.out gk ss Q2.out hls
        rw [Q3.out, this]; simp
      clear hls q4
      go_wp2_with fail
      go_ret
      refine ⟨_, rfl, ?_, ?_, Q6.out⟩
      · rw [HE.out]; exact Q4.out
      · rw [HE.out]; exact Q5.out
    | some t =>
      obtain ⟨ht, hst1⟩ := HLS.out ss t hls
      have hwt := wtn_set hst1 hst
      obtain ⟨f, rfl⟩ : ∃ f, gk = f + 1 := ⟨gk - 1, by have := Q2.out; omega⟩
      have HE : Hid (FR = ((acc ++ [t]) ++ (turnF (xs.map nx) how st f (ss.set t st)).1, (turnF (xs.map nx) how st f (ss.set t st)).2)) := by
        have := Q3.out
        rw [HF.out f ss, hls] at this
        show FR = _
        rw [this]; simp
      have HW2 : Hid (wtn (ss.set t st) ≤ f) := by have := Q2.out; show _ ≤ _; omega
      have hlen : (withS R.ps ss).length = R.ps.length := withS_length _ _ Q1.out
      have hRp := q4.putS t (by show t < (withS R.ps ss).length; rw [hlen, HLN.out]; exact ht) st
      simp only [withS_put Q1.out] at hRp
      have HRP := hide hRp
      obtain ⟨c0, _, _, _, _, d4⟩ := q4.cells
      have fz := (q4.frozen (t * 5)).1
      have kc := keep_cell wr G (t * 5) (.int .i64 st)
      have KC := hide (Q6.out.more kc)
      obtain ⟨pp, hpp⟩ : ∃ pp, (withS R.ps ss)[t]? = some pp := ⟨_, List.getElem?_eq_getElem (by rw [hlen, HLN.out]; exact ht)⟩
      obtain ⟨mm, hmm⟩ := q4.pts t pp hpp
      have c00 := hmm.all.1
      have hGlt : G < w.heap.size := HGL.out
      have hGB : Hid (∀ k, (Value.slice a acc.length c).ownBlock = some k → k ≠ G) := fun k hk' e => by
        have := (Q5.out.lt k hk').1
        omega
      have HO2 := hide (ownsRow_keep Q5.out kc (fun i hi e => hGB.out i e hi))
      clear q4 hmm hpp hRp kc hwt hst1 hls Q2 Q3 Q4 Q5
      have hacc : acc.length + 1 ≤ 17592186044416 := by have := HL64.out; omega
      have hbase : w.heap.size ≤ wr.heap.size := Q6.out.size
      go_upto_region 6 with fail
      generalize hw3 : wr.setCell ⟨G, t * 5, none⟩ (.int .i64 st) = w3 at *
      have hb3 : w.heap.size ≤ w3.heap.size := KC.out.size
      clear c00 d4 fz hw3
      have K4 := Keep.alloc (fun k => k = G) w3 (.cells #[.int .i64 (t : Int)] 3)
      have hone := cell_one w3 (.int .i64 (t : Int)) 3
      have HO3 := hide (ownsRow_new HO2.out (Keep.alloc (fun _ => False) w3 (.cells #[.int .i64 (t : Int)] 3)))
      have HR4 := hide (HRP.out.new (Keep.alloc (fun _ => False) w3 (.cells #[.int .i64 (t : Int)] 3)))
      have K5 := hide (KC.out.more K4)
      clear HO2 HRP K4 KC
      go_wp2_with (at_builtin; refine wp_append1 rfl _ _ rfl w.heap.size _ acc.length (iv acc) rfl HO3.out ⟨w3.heap.size, 0, none⟩ (t : Int) rfl hone hacc (by simp; omega) ?_; intro v' w5 ho5 hg5 hnb5; obtain ⟨a', c', hv'⟩ := ownsRow_shape ho5; subst hv'; have HO5 := hide ho5; have HG5 := hide hg5; clear ho5 hg5 hnb5)
      have HR5 := hide (HR4.out.keep HG5.out fun k hk' => .inr ⟨HT.out k (HO3.out.lt k hk').1, fun e => by have := (HO3.out.lt k hk').1; have := HPL.out; omega, fun e => by have := (HO3.out.lt k hk').1; have := HGL.out; omega⟩)
      have K6 := hide (K5.out.trans HG5.out fun k hk' => .inr (HO3.out.lt k hk').1)
      have C2 := hide (LE.out w5 _ HR5.out)
      simp only [sts_withS (show (ss.set t st).length = R.ps.length by rw [List.length_set]; exact Q1.out)] at C2
      have HS2 : Hid ((ss.set t st).length = R.ps.length) := by show _ = _; rw [List.length_set]; exact Q1.out
      clear HR4 HO3 K5 HG5 Q1 hone
      generalize ss.set t st = ss2 at *
      go_wp2_with fail
      go_at_call 68
      refine C2.out.mono ?_
      rintro e w6 ⟨rfl, k6⟩
      have HR6 := hide (HR5.out.new k6)
      have HO6 := hide (ownsRow_new HO5.out k6)
      have K7 := hide (K6.out.more (k6.mono fun _ f => f.elim))
      clear k6 C2 HR5 HO5 K6
      go_wp2_with fail
      go_roundg f
      case measure => omega
      case rel =>
        refine ⟨_, acc ++ [t], ss2, a', c', by rw [List.length_append]; rfl, rfl, rfl, rfl, by rw [List.length_append]; simp; omega, HS2.out, HW2.out, HE.out, HR6.out, ?_, K7.out⟩
        have := HO6.out
        rw [← iv_snoc] at this
        rw [List.length_append]
        exact this

theorem turn_any {T : Nat → Prop} {w : World} {P G : Nat} {nm : ByteArray} {dl : Int} {s : Option Addr × Nat × Nat} {xs : List No} {R : Rs} (h : RunAt T w P G nm dl s xs R) (how st : Int) (hst : st ≠ 1) :
    Calls Try.prog 47 #[.pointer (some ⟨P, 0, none⟩), .int .i64 how, .int .i64 st] w fun e w' => ∃ v, e = .returned v ∧ RunAt T w' P G nm dl s xs ⟨R.stt, withS R.ps (turnF (xs.map nx) how st xs.length (sts R.ps)).2⟩ ∧ w'.ownsRow w.heap.size 3 1 v (turnF (xs.map nx) how st xs.length (sts R.ps)).1.length (iv (turnF (xs.map nx) how st xs.length (sts R.ps)).1) ∧ Keep (fun k => k = G) w w' := by
  refine (turn_core (h.wide (U := fun k => T k ∨ w.heap.size ≤ k) (fun _ h => h) (.inl h.tp) (.inl h.tg)) (fun k hk => .inr hk) how st hst).mono ?_
  rintro e w' ⟨v, rfl, hr, ho, hk⟩
  exact ⟨v, rfl, hr.wide (fun k hk => .inl (.inl hk)) h.tp h.tg, ho, hk⟩
end Rn
end Go.Proofs.Ytiackejbpcjmeaa
