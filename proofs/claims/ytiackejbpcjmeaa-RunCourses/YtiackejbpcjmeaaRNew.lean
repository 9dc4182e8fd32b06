/- Package run: New. -/
import Derived.Test.YtiackejbpcjmeaaRPlc
namespace Go.Proofs.Ytiackejbpcjmeaa
namespace Rn
open Go.RowKit Gr

/-- cells of nodes of a new run -/
def p0 : Pt := ⟨1, 0, []⟩
def flatP (n : Nat) : List Value := (List.replicate n (ptRow p0 (none, 0, 0))).flatten
theorem flatP_succ (n : Nat) : flatP (n + 1) = flatP n ++ ptRow p0 (none, 0, 0) := by
  unfold flatP
  rw [List.replicate_succ', List.flatten_append]
  simp
theorem flatP_len (n : Nat) : (flatP n).length = n * 5 := by
  induction n with
  | zero => rfl
  | succ n ih => rw [flatP_succ, List.length_append, ih]; simp [ptRow]; omega
theorem flatP_get : ∀ (n i j : Nat) (u : Value), i < n → (ptRow p0 (none, 0, 0))[j]? = some u → (flatP n)[i * 5 + j]? = some u := by
  intro n
  induction n with
  | zero => intro i j u h; omega
  | succ n ih =>
    intro i j u hi hu
    have hj : j < 5 := by have := (List.getElem?_eq_some_iff.1 hu).1; simpa [ptRow] using this
    rw [flatP_succ]
    by_cases e : i < n
    · rw [List.getElem?_append_left (by rw [flatP_len]; omega)]
      exact ih i j u e hu
    · obtain rfl : i = n := by omega
      rw [List.getElem?_append_right (by rw [flatP_len]; omega), flatP_len, show i * 5 + j - i * 5 = j by omega]
      exact hu
theorem info_part3 : (Try.prog.info? 76).map (fun i => (i.zero, i.size, i.bytes)) = some (some (.agg #[.int .i64 0, .int .i64 0, .int .i64 0, .int .i64 0, .slice none 0 0]), 5, 56) := by kernel_rfl
/-- a node more -/
theorem wp_append_part {w : World} {ops : Array Oper} {rest : List Oper} {o : Oper} {a : Act} {Q : Exit → Act → World → Prop} (hgd : o.guard = none) (s x : Operand)
    (ho : o.op = .call { callee := .builtin .append, args := #[s, x], argTypes := #[72, 72] })
    (base : Nat) (v : Value) (n : Nat) (hs : a.eval s = v) (hown : w.ownsRow base 76 5 v n (flatP n)) (B : Nat) (hx : a.eval x = .slice (some ⟨B, 0, none⟩) 1 1) (hq : w.heap[B]? = some (.cells (ptRow p0 (none, 0, 0)).toArray 76 (0, 0))) (hn : n ≤ 1000) (hbase : base ≤ w.heap.size)
    (h : ∀ v' w', w'.ownsRow base 76 5 v' (n + 1) (flatP (n + 1)) → Keep (fun k => v.ownBlock = some k) w w' → wpList Try.prog ops Q rest (a.put o.dst v') w') : wpList Try.prog ops Q (o :: rest) a w := by
  obtain ⟨i0, hi, hz0, hz1, hz2⟩ := info_parts info_part3
  refine wpList_append_own2 hgd s x 72 ho base 76 i0 _ 5 56 Try.underlying72 hi hz0 hz1 hz2 rfl (by decide) v n _ hs hown ⟨B, 0, none⟩ 1 1 (ptRow p0 (none, 0, 0)) hx rfl (fun j u hu => ?_) (fun u hu => ?_) (by unfold maxLen; omega) (by omega) hbase ?_
  · rw [Addr.add_mid, Nat.zero_add]
    exact cell_blk hq j (by simpa using hu)
  · simp [ptRow] at hu
    rcases hu with rfl | rfl | rfl | rfl <;> rfl
  · intro v' w' h1 h2 _
    exact h v' w' (by rw [flatP_succ]; exact h1) (Keep.grown h2 fun k e => e)
theorem res_new {fn : Func} {r p u : Tmp} (h : fn.results = #[.tmp r, .cell p 45, .tmp u]) (tmps : Array Value) (w : World) (g : Nat) (a b c d : Value) (hp : tmps.getD p undef = .pointer (some ⟨g, 0, none⟩)) (hg : w.heap[g]? = some (.cells #[a, b, c, d] 45 (0, 0))) :
    (results fn tmps).run Try.prog w = .ok (.tuple #[tmps.getD r undef, .agg #[a, b, c, d], tmps.getD u undef]) w := by
  have hp' : tmps[p]?.getD undef = .pointer (some ⟨g, 0, none⟩) := by simpa using hp
  simp [results, h, hp', asAddr, run_loadVar_row w g 45 45 #[a, b, c, d] (0, 0) _ hg Try.underlying45 rfl (by rw [info_chg]; rfl)]
theorem size_nm {s : ByteArray} (h : isNm s = true) : s.size ≤ 40 := by
  unfold isNm wI at h
  simp only [Bool.and_eq_true, decide_eq_true_eq] at h
  omega
theorem sizes_of {nm : ByteArray} {dl : Int} {xs : List No} (h : (chk nm dl xs).2 = 0) : nm.size ≤ 281474976710656 ∧ ∀ x ∈ xs, x.q.nm.size ≤ 281474976710656 := by
  obtain ⟨h1, h2, _, _, _⟩ := Gr.chk_ok h
  have hn : isNm nm = true := by
    unfold cW at h1
    split at h1
    · cases h1
    · rename_i c; simpa using c
  refine ⟨by have := size_nm hn; omega, fun x hx => ?_⟩
  obtain ⟨k, hk⟩ := List.getElem?_of_mem hx
  have := size_nm (Gr.cN_ok h2 k x hk).1
  omega
theorem val_er {xs ys : List No} (h : ys.map er = xs.map er) (hv : Val xs) : Val ys := by
  have hl : ys.length = xs.length := by have := congrArg List.length h; simpa using this
  refine ⟨by rw [hl]; exact hv.1, fun y hy e he => ?_⟩
  have : er y ∈ xs.map er := by rw [← h]; exact List.mem_map_of_mem hy
  obtain ⟨x, hx, ex⟩ := List.mem_map.1 this
  have e1 : x.nl = y.nl := (show (er x).nl = (er y).nl from congrArg No.nl ex)
  have e2 : x.al = y.al := (show (er x).al = (er y).al from congrArg No.al ex)
  rw [hl]
  exact hv.2 x hx e (by rw [e1, e2]; exact he)
/-- a row lies outside of blocks of other types -/
theorem own_off {T : Nat → Prop} {w : World} {b : Nat} {e : TypeId} {sz : Nat} {s : Option Addr × Nat × Nat} {n : Nat} {l : List Value} (h : w.ownsRow b e sz (.slice s.1 s.2.1 s.2.2) n l) (hT : ∀ k cur, T k → w.heap[k]? ≠ some (.cells cur e (0, 0))) : Off T s := by
  obtain ⟨sa, sn, sc⟩ := s
  rcases h.2 with ⟨e1, e2⟩ | ⟨g, cap, cur, e1, e2, e3, _⟩
  · injection e1 with _ e1 _
    exact .inl e1
  · injection e1 with e1 _ _
    subst e1
    refine .inr fun g' off e ht => ?_
    injection e with e
    injection e with e _
    subst e
    exact hT g cur ht e3
/-- what stands between two rounds of New's loop -/
def NwI (w0 : World) (nm : ByteArray) (dl : Int) (qa : Option Addr) (qc n P i : Nat) (ys : List No) (wr : World) : Prop :=
  ∃ (va : Option Addr) (vc : Nat), wr.heap[P]? = some (.cells #[.string nm, .int .i64 dl, .slice qa n qc, .int .i64 1, .slice va i vc] 74 (0, 0)) ∧ wr.ownsRow w0.heap.size 76 5 (.slice va i vc) i (flatP i) ∧ NdX w0.heap.size wr (.slice qa n qc) ys ∧ wr.heap[w0.heap.size + 1]? = some (.cells #[.slice none 0 0, .slice none 0 0, .slice none 0 0, .int .i64 0] 45 (0, 0)) ∧ Keep (fun k => w0.heap.size ≤ k) w0 wr
/-- what New leaves and tells -/
def NewEnd (nm : ByteArray) (dl : Int) (xs : List No) (w : World) (e : Ending) (w' : World) : Prop :=
  Below w.heap.size w w' ∧ (((chk nm dl xs).2 ≠ 0 ∧ e = .returned (.tuple #[.pointer none, zChg, .int .i64 ((chk nm dl xs).2 : Nat)])) ∨
    ((chk nm dl xs).2 = 0 ∧ ∃ P G s ys v, e = .returned (.tuple #[.pointer (some ⟨P, 0, none⟩), v, .int .i64 0]) ∧ w.heap.size ≤ P ∧ w.heap.size ≤ G ∧ ys.map er = xs.map er ∧ ChgAt (fun k => k = P ∨ k = G) w' v ⟨[], (newR (xs.map nx)).1.1, (newR (xs.map nx)).1.2, (newR (xs.map nx)).2.stt⟩ ∧ RunAt (fun k => k = P ∨ k = G) w' P G nm dl s ys (newR (xs.map nx)).2))

set_option maxRecDepth 100000 in
set_option maxHeartbeats 4000000 in
theorem new_any (nm : ByteArray) (dl : Int) (s : Option Addr × Nat × Nat) (xs : List No) (w : World) (hP : RdP w.heap.size w s xs) (hc : CapP xs) (hs : Sz nm xs) (hz : ∀ x ∈ xs, x.nl.length ≤ 20000 ∧ x.al.length ≤ 20000) :
    Calls Try.prog 10 #[.agg #[.string nm, .int .i64 dl, .slice s.1 s.2.1 s.2.2]] w (NewEnd nm dl xs w) := by
  obtain ⟨a, n, c⟩ := s
  have hn : n = xs.length := hP.1
  subst hn
  have HC := hide hc
  have HZ := hide hz
  have k1 := Keep.alloc (fun _ => False) w (.cells #[.string nm, .int .i64 dl, .slice a xs.length c] 24)
  have b1 := heap_alloc_new w (.cells #[.string nm, .int .i64 dl, .slice a xs.length c] 24)
  have k2 := Keep.alloc (fun _ => False) (w.alloc (.cells #[.string nm, .int .i64 dl, .slice a xs.length c] 24)) (.cells #[.slice none 0 0, .slice none 0 0, .slice none 0 0, .int .i64 0] 45)
  have b2 := heap_alloc_new (w.alloc (.cells #[.string nm, .int .i64 dl, .slice a xs.length c] 24)) (.cells #[.slice none 0 0, .slice none 0 0, .slice none 0 0, .int .i64 0] 45)
  rw [show (w.alloc (.cells #[.string nm, .int .i64 dl, .slice a xs.length c] 24)).heap.size = w.heap.size + 1 by simp] at b2
  have HA := hide (k2.blk b1 (fun f => f))
  have HB := hide b2
  have K2 := hide (k1.more k2)
  have HPW := hide (fun (W : World) (k : Keep (fun _ => False) w W) => hP.new k)
  have CK : Hid (∀ W, Keep (fun _ => False) w W → Calls Try.prog 26 #[.agg #[.string nm, .int .i64 dl, .slice a xs.length c]] W fun e w' => e = .returned (.tuple #[.int .i64 ((chk nm dl xs).1 : Nat), .int .i64 ((chk nm dl xs).2 : Nat)]) ∧ Keep (fun _ => False) W w') := fun W k => Gr.check_any nm dl (a, xs.length, c) xs w.heap.size W (hP.new k) k.size hs
  have HOK : Hid ((chk nm dl xs).2 = 0 → 1 ≤ xs.length ∧ Val xs) := fun h => ⟨(Gr.chk_ok h).2.2.1, (Gr.chk_ok h).2.2.2.1⟩
  have CP : Hid (∀ W, Keep (fun _ => False) w W → (chk nm dl xs).2 = 0 → Calls Try.prog 27 #[.agg #[.string nm, .int .i64 dl, .slice a xs.length c]] W fun e w' => ∃ a' c' ys, e = .returned (.agg #[.string nm, .int .i64 dl, .slice a' xs.length c']) ∧ ys.length = xs.length ∧ NdX W.heap.size w' (.slice a' xs.length c') ys ∧ ys.map er = xs.map er ∧ Below W.heap.size W w') := fun W k h => by
    have hok := Gr.chk_ok h
    have hl := hok.2.2.2.1.1
    have hnms := sizes_of h
    exact copyPlan_any nm dl (a, xs.length, c) xs W ((hP.new k).mono k.size) hc (by omega) hz hnms.1 hnms.2
  clear hP hc hs hz k1 k2 b1 b2
  generalize hcc : chk nm dl xs = cc at *
  have HEN : Hid (∀ e w', NewEnd nm dl xs w e w' ↔ (Below w.heap.size w w' ∧ ((cc.2 ≠ 0 ∧ e = .returned (.tuple #[.pointer none, zChg, .int .i64 (cc.2 : Nat)])) ∨ (cc.2 = 0 ∧ ∃ P G s ys v, e = .returned (.tuple #[.pointer (some ⟨P, 0, none⟩), v, .int .i64 0]) ∧ w.heap.size ≤ P ∧ w.heap.size ≤ G ∧ ys.map er = xs.map er ∧ ChgAt (fun k => k = P ∨ k = G) w' v ⟨[], (newR (xs.map nx)).1.1, (newR (xs.map nx)).1.2, (newR (xs.map nx)).2.stt⟩ ∧ RunAt (fun k => k = P ∨ k = G) w' P G nm dl s ys (newR (xs.map nx)).2)))) := fun e w' => by unfold NewEnd; rw [hcc]
  obtain ⟨c1, c2⟩ := cc
  simp only at CK CP HOK HEN
  clear hcc
  go_enter Try.func10, Try.ntmps10
  go_upto_region 1 with fail
  generalize (w.alloc (.cells #[.string nm, .int .i64 dl, .slice a xs.length c] 24)).alloc (.cells #[.slice none 0 0, .slice none 0 0, .slice none 0 0, .int .i64 0] 45) = w2 at *
  have p0' := cell_blk HA.out 0 (v := .string nm) rfl
  have p1' := cell_blk HA.out 1 (v := .int .i64 dl) rfl
  have p2' := cell_blk HA.out 2 (v := .slice a xs.length c) rfl
  have C1 := hide (CK.out w2 K2.out)
  go_wp2_with fail
  go_at_call 26
  refine C1.out.mono ?_
  rintro e w3 ⟨rfl, k3⟩
  have HA3 := hide (k3.blk HA.out (fun f => f))
  have HB3 := hide (k3.blk HB.out (fun f => f))
  have K3 := hide (K2.out.more k3)
  clear C1 CK k3 p0' p1' p2' HA HB K2
  by_cases hc2 : c2 = 0
  · subst hc2
    obtain ⟨hn1, hval⟩ := HOK.out rfl
    have HN1 := hide hn1
    have HV := hide hval
    have hl64 : xs.length ≤ 64 := hval.1
    have C2 := hide (CP.out w3 K3.out rfl)
    have p0' := cell_blk HA3.out 0 (v := .string nm) rfl
    have p1' := cell_blk HA3.out 1 (v := .int .i64 dl) rfl
    have p2' := cell_blk HA3.out 2 (v := .slice a xs.length c) rfl
    clear hn1 hval HOK CP
    go_wp2_with fail
    go_at_call 27
    refine C2.out.mono ?_
    rintro e w4 ⟨qa, qc, ys, rfl, hyl, hN, hye, hb4⟩
    have k4 := Keep.ofBelow (S := fun _ => False) hb4 (Nat.le_refl _)
    have HB4 := hide (k4.blk HB3.out (fun f => f))
    have HA4 := hide (k4.blk HA3.out (fun f => f))
    have HN4 : Hid (NdX w.heap.size w4 (.slice qa xs.length qc) ys) := ⟨ownsRow_base hN.1 K3.out.size, fun y hy => ⟨ownsRow_base (hN.2 y hy).1 K3.out.size, ownsRow_base (hN.2 y hy).2 K3.out.size⟩⟩
    have K4 := hide (K3.out.more k4)
    have HYL := hide hyl
    have HYE := hide hye
    clear hyl hN hye hb4 k4 C2 p0' p1' p2' HA3 HB3 K3
    have k5 := Keep.alloc (fun _ => False) w4 (.cells #[.string nm, .int .i64 dl, .slice qa xs.length qc, .int .i64 1, .slice none 0 0] 74)
    have b5 := heap_alloc_new w4 (.cells #[.string nm, .int .i64 dl, .slice qa xs.length qc, .int .i64 1, .slice none 0 0] 74)
    have HP5 : Hid (w.heap.size + 2 ≤ w4.heap.size) := by have := (Array.getElem?_eq_some_iff.1 HB4.out).1; show _ ≤ _; omega
    have HI0 : Hid (NwI w nm dl qa qc xs.length w4.heap.size 0 ys (w4.alloc (.cells #[.string nm, .int .i64 dl, .slice qa xs.length qc, .int .i64 1, .slice none 0 0] 74))) :=
      ⟨none, 0, b5, World.ownsRow_nil _ _ _ _, HN4.out.keep k5 (fun _ _ _ f => f.elim), k5.blk HB4.out (fun f => f), (K4.out.more k5).mono fun _ f => f.elim⟩
    have HA5 := hide (k5.blk HA4.out (fun f => f))
    clear k5 b5 HA4 HB4 HN4 K4
    go_upto_region 5 with fail
    generalize w4.alloc (.cells #[.string nm, .int .i64 dl, .slice qa xs.length qc, .int .i64 1, .slice none 0 0] 74) = w5 at *
    generalize hPP : w4.heap.size = P at *
    have a2 := cell_blk HA5.out 2 (v := .slice a xs.length c) rfl
    generalize hn : xs.length = n at *
    go_wp2_with fail
    go_loopw [24] (fun v24 wr => ∃ i : Nat, v24 = .int .i64 (i : Nat) ∧ i ≤ n ∧ Hid (NwI w nm dl qa qc n P i ys wr)) (fun v24 _ => n - (intOf v24).toNat)
    case atStart => exact ⟨0, rfl, Nat.zero_le _, HI0.out⟩
    case round =>
      clear HI0 HA5 a2
      obtain ⟨i, rfl, hi, HD⟩ := hrel
      obtain ⟨va, vc, hPb, hro, hNd, hBz, hK⟩ := HD.out
      have HPB := hide hPb
      have HRO := hide hro
      have HND := hide hNd
      have HBZ := hide hBz
      have HK := hide hK
      clear HD hPb hro hNd hBz hK
      by_cases hlt : i < n
      · have k6 := Keep.alloc (fun _ => False) wr (.cells #[.int .i64 1, .int .i64 0, .int .i64 0, .int .i64 0, .slice none 0 0] 76)
        have b6 := heap_alloc_new wr (.cells #[.int .i64 1, .int .i64 0, .int .i64 0, .int .i64 0, .slice none 0 0] 76)
        have HQ6 := hide b6
        have m4 := cell_blk HPB.out 4 (v := .slice va i vc) rfl
        have HPB6 := hide (k6.blk HPB.out (fun f => f))
        have HRO6 := hide (ownsRow_new HRO.out k6)
        have HND6 := hide (HND.out.keep k6 (fun _ _ _ f => f.elim))
        have HBZ6 := hide (k6.blk HBZ.out (fun f => f))
        have HK6 := hide (HK.out.more (k6.mono fun _ f => f.elim))
        have hzs : w.heap.size ≤ (wr.alloc (.cells #[.int .i64 1, .int .i64 0, .int .i64 0, .int .i64 0, .slice none 0 0] 76)).heap.size := HK6.out.size
        have blk6 : Hid (∀ j, (Value.slice va i vc).ownBlock = some j → ∃ cur, (wr.alloc (.cells #[.int .i64 1, .int .i64 0, .int .i64 0, .int .i64 0, .slice none 0 0] 76)).heap[j]? = some (.cells cur 76 (0, 0)) ∧ w.heap.size ≤ j) := fun j hj => by
          rcases HRO6.out.2 with ⟨e, _⟩ | ⟨g, cap, cur, e, hb, hg, _⟩
          · rw [e] at hj; simp [Value.ownBlock] at hj
          · rw [e] at hj
            simp [Value.ownBlock] at hj
            subst hj
            exact ⟨cur, hg, hb⟩
        have FZ : Hid (∀ W : World, Keep (fun k => (Value.slice va i vc).ownBlock = some k) (wr.alloc (.cells #[.int .i64 1, .int .i64 0, .int .i64 0, .int .i64 0, .slice none 0 0] 76)) W → W.heap[P]? = some (.cells #[.string nm, .int .i64 dl, .slice qa n qc, .int .i64 1, .slice va i vc] 74 (0, 0))) := fun W kW => kW.blk HPB6.out (fun e => by
          obtain ⟨cur, hg, _⟩ := blk6.out _ e
          rw [HPB6.out] at hg
          injection hg with hg
          injection hg with _ hg
          exact absurd hg (by decide))
        clear k6 b6 HPB HRO HND HBZ HK
        go_wp2_with (at_builtin; refine wp_append_part rfl _ _ rfl w.heap.size (.slice va i vc) i rfl HRO6.out wr.heap.size rfl HQ6.out (by omega) hzs ?_; intro v' w7 ho7 hk7; obtain ⟨na, nc, hv'⟩ := ownsRow_shape ho7; subst hv'; have hp7 := FZ.out w7 hk7; have y4 := cell_blk hp7 4 (v := .slice va i vc) rfl; have f4 := frozen_blk hp7 4; have HP7 := hide hp7; have HO7 := hide ho7; have HK7 := hide hk7; clear ho7 hk7 hp7)
        have kc := keep_cell w7 P 4 (.slice na (i + 1) nc)
        have HNX : Hid (NwI w nm dl qa qc n P (i + 1) ys (w7.setCell ⟨P, 4, none⟩ (.slice na (i + 1) nc))) := by
          refine ⟨na, nc, set_blk HP7.out 4 _, ownsRow_keep HO7.out kc (fun j hj hh => ?_), (HND6.out.keep HK7.out (fun j cs t hj hb => ?_)).keep kc (fun j cs t hj hb => ?_), kc.blk (HK7.out.blk HBZ6.out (fun e => ?_)) (fun e => ?_), (HK6.out.more (HK7.out.mono fun j hj => ?_)).more (kc.mono fun j hj => ?_)⟩
          · rcases HO7.out.2 with ⟨e, _⟩ | ⟨g, cap, cur, e, hb, hg, _⟩
            · rw [e] at hh; simp [Value.ownBlock] at hh
            · rw [e] at hh
              simp [Value.ownBlock] at hh
              subst hh
              rw [show g = P from hj, HP7.out] at hg
              injection hg with hg
              injection hg with _ hg
              exact absurd hg (by decide)
          · obtain ⟨cur, hg, _⟩ := blk6.out _ hj
            rw [hb] at hg
            injection hg with hg
            injection hg with _ hg
            subst hg
            exact ⟨by decide, by decide⟩
          · rw [show j = P from hj, HP7.out] at hb
            injection hb with hb
            injection hb with _ hb
            subst hb
            exact ⟨by decide, by decide⟩
          · obtain ⟨cur, hg, _⟩ := blk6.out _ e
            rw [HBZ6.out] at hg
            injection hg with hg
            injection hg with _ hg
            exact absurd hg (by decide)
          · have := HP5.out; omega
          · exact (blk6.out _ hj).choose_spec.2
          · have := HP5.out; omega
        clear kc m4
        go_wp2_with fail
        go_roundw
        · exact ⟨i + 1, rfl, by omega, HNX.out⟩
        · show n - ((i : Int) + 1).toNat < n - (i : Int).toNat
          omega
      · obtain rfl : i = n := by omega
        have hro := HRO.out
        obtain ⟨G, cap, cur, hv, hGb, hG, hcap, hcm, hcsz, htk⟩ := hro.2.resolve_left (fun h => by have := HN1.out; omega)
        injection hv with hv1 _ hv3
        subst hv1 hv3
        have hylen : ys.length = i := HYL.out
        have hzl : ∀ y ∈ ys, y.nl.length ≤ 1048576 ∧ y.al.length ≤ 1048576 := fun y hy => by
          have : er y ∈ xs.map er := by rw [← HYE.out]; exact List.mem_map_of_mem hy
          obtain ⟨x, hx, ex⟩ := List.mem_map.1 this
          have e1 : x.nl = y.nl := (show (er x).nl = (er y).nl from congrArg No.nl ex)
          have e2 : x.al = y.al := (show (er x).al = (er y).al from congrArg No.al ex)
          have := HZ.out x hx
          rw [e1, e2] at this
          omega
        obtain ⟨hrdp, hoff⟩ := HND.out.rd (by omega) hzl
        have hPG : P ≠ G := fun e => by
          rw [← e, HPB.out] at hG
          injection hG with hG
          injection hG with _ hG
          exact absurd hG (by decide)
        have hUt : ∀ (t : TypeId), t = 3 ∨ t = 36 → ∀ k cur', ((k = P ∨ k = G ∨ k = w.heap.size + 1) ∨ wr.heap.size ≤ k) → wr.heap[k]? ≠ some (.cells cur' t (0, 0)) := fun t ht k cur' hk hh => by
          rcases hk with (e | e | e) | e
          · rw [e, HPB.out] at hh
            injection hh with hh
            injection hh with _ hh
            subst hh
            rcases ht with ht | ht <;> exact absurd ht (by decide)
          · rw [e, hG] at hh
            injection hh with hh
            injection hh with _ hh
            subst hh
            rcases ht with ht | ht <;> exact absurd ht (by decide)
          · rw [e, HBZ.out] at hh
            injection hh with hh
            injection hh with _ hh
            subst hh
            rcases ht with ht | ht <;> exact absurd ht (by decide)
          · have := (Array.getElem?_eq_some_iff.1 hh).1
            omega
        have hGl : G < wr.heap.size := (Array.getElem?_eq_some_iff.1 hG).1
        have hPl : P < wr.heap.size := (Array.getElem?_eq_some_iff.1 HPB.out).1
        have hBl : w.heap.size + 1 < wr.heap.size := (Array.getElem?_eq_some_iff.1 HBZ.out).1
        have hGB : G ≠ w.heap.size + 1 := fun e => by
          rw [e, HBZ.out] at hG
          injection hG with hG
          injection hG with _ hG
          exact absurd hG (by decide)
        have hRU : RunAt (fun k => (k = P ∨ k = G ∨ k = w.heap.size + 1) ∨ wr.heap.size ≤ k) wr P G nm dl (qa, i, qc) ys ⟨1, List.replicate i p0⟩ := by
          refine ⟨⟨_, by rw [hylen]; exact HPB.out⟩, ⟨cur, hG⟩, fun j p hj => ⟨(none, 0, 0), fun jj u hu => ?_, ⟨?_, by decide, ?_, .inl rfl⟩, .inl rfl, fun _ => rfl⟩, hrdp, ⟨own_off (s := (qa, i, qc)) HND.out.1 (hUt _ (.inr rfl)), fun y hy => ⟨own_off (HND.out.2 y hy).1 (hUt _ (.inl rfl)), own_off (HND.out.2 y hy).2 (hUt _ (.inl rfl))⟩⟩, by rw [List.length_replicate, hylen], hPG, .inl (.inl rfl), .inl (.inr (.inl rfl)), val_er HYE.out HV.out, by rw [hylen]; exact HN1.out⟩
          · have hjl : j < i := by have := (List.getElem?_eq_some_iff.1 hj).1; simpa using this
            have hpe : p = p0 := List.eq_of_mem_replicate (List.mem_of_getElem? hj)
            rw [hpe] at hu
            have h1 := flatP_get i j jj u hjl hu
            have := hro.cells (g := G) rfl (j * 5 + jj) u h1
            rw [Addr.add_mid, Nat.zero_add] at this
            exact this
          · have hpe : p = p0 := List.eq_of_mem_replicate (List.mem_of_getElem? hj)
            rw [hpe]; rfl
          · have hpe : p = p0 := List.eq_of_mem_replicate (List.mem_of_getElem? hj)
            rw [hpe]; intro d hd; cases hd
        have SO := hide (settleOn_core hRU (fun k hk => .inr hk) none none none 0 0 0 0 0 0 [] wr.heap.size (Nat.le_refl _) (World.ownsRow_nil _ _ _ _) (by simp) (fun k hk => by simp [Value.ownBlock] at hk))
        have hmx : ys.map nx = xs.map nx := map_nx HYE.out
        rw [hmx] at SO
        have HNR : Hid (newR (xs.map nx) = settleR (xs.map nx) ⟨1, List.replicate i p0⟩) := by show _ = _; unfold newR; rw [List.length_map, hn]; rfl
        have hsl := settle_len (xs.map nx) ⟨1, List.replicate i p0⟩
        rw [List.length_map, hn] at hsl
        generalize settleR (xs.map nx) ⟨1, List.replicate i p0⟩ = SR at *
        have HSL := hide hsl
        have HG := hide hG
        have HHH : Hid (G < wr.heap.size ∧ P < wr.heap.size ∧ w.heap.size + 1 < wr.heap.size ∧ G ≠ w.heap.size + 1 ∧ w.heap.size ≤ G ∧ w.heap.size + 2 ≤ P) := ⟨hGl, hPl, hBl, hGB, hGb, HP5.out⟩
        simp only [List.length_nil, List.nil_append] at SO
        clear hRU hUt hrdp hoff hzl hG hcap hcm hcsz htk hro hGl hPl hBl hGB hGb hmx hsl hPG hylen
        go_wp2_with fail
        go_at_call 28
        refine SO.out.mono ?_
        rintro e w7 ⟨vA, vB, rfl, hR7, hvA, hvB, hk7⟩
        obtain ⟨aa, ac, rfl⟩ := ownsRow_shape hvA
        obtain ⟨ba, bc, rfl⟩ := ownsRow_shape hvB
        obtain ⟨hGl, hPl, hBl, hGB, hGb, hPb⟩ := HHH.out
        have hB7 := hk7.blk HBZ.out (fun e => by
          rcases e with e | e | e
          · omega
          · omega
          · simp [Value.ownBlock] at e)
        have kz := put4_keep w7 (w.heap.size + 1) (.slice none 0 0) (.slice aa SR.1.1.length ac) (.slice ba SR.1.2.length bc) (.int .i64 SR.2.stt)
        have hE := put4_blk hB7 (.slice none 0 0) (.slice aa SR.1.1.length ac) (.slice ba SR.1.2.length bc) (.int .i64 SR.2.stt)
        obtain ⟨sA, eA, lA⟩ := ls_own (T := fun k => k = P ∨ k = G) (ownsRow_keep hvA kz (fun j hj hh => row_far hvA hB7 (by decide) hh hj)) (by have := HSL.out; omega) (fun k hk => by rcases hk with e | e <;> omega)
        obtain ⟨sB, eB, lB⟩ := ls_own (T := fun k => k = P ∨ k = G) (ownsRow_keep hvB kz (fun j hj hh => row_far hvB hB7 (by decide) hh hj)) (by have := HSL.out; omega) (fun k hk => by rcases hk with e | e <;> omega)
        have hR8 := (hR7.keep kz (fun j hj => .inr ⟨.inl (.inr (.inr hj)), fun e => by omega, fun e => by omega⟩)).wide (U := fun k => k = P ∨ k = G) (fun k hk => .inl (.inl (hk.elim .inl fun h => .inr (.inl h)))) (.inl rfl) (.inr rfl)
        have hk8 := ((HK.out.more (hk7.mono fun j hj => by
          rcases hj with e | e | e
          · omega
          · omega
          · simp [Value.ownBlock] at e)).more (kz.mono fun j hj => by omega)).below (B := w.heap.size) (Nat.le_refl _) (fun j hj => hj)
        have HFN : Hid (NewEnd nm dl xs w (.returned (.tuple #[.pointer (some ⟨P, 0, none⟩), .agg #[.slice none 0 0, .slice aa SR.1.1.length ac, .slice ba SR.1.2.length bc, .int .i64 SR.2.stt], .int .i64 0])) (put4 w7 (w.heap.size + 1) (.slice none 0 0) (.slice aa SR.1.1.length ac) (.slice ba SR.1.2.length bc) (.int .i64 SR.2.stt))) := by
          refine (HEN.out _ _).2 ⟨hk8, .inr ⟨by trivial, P, G, (qa, i, qc), ys, _, rfl, by omega, hGb, HYE.out, ?_, ?_⟩⟩
          · rw [HNR.out]
            refine ⟨(none, 0, 0), sA, sB, ?_, ls_nil _ _, lA, lB⟩
            rw [← eA, ← eB]
          · rw [HNR.out]; exact hR8
        have HE := hide hE
        have f0 := frozen_blk hB7 0
        have f1 := frozen_blk hB7 1
        have f2 := frozen_blk hB7 2
        have f3 := frozen_blk hB7 3
        have y0 := cell_blk hB7 0 (v := .slice none 0 0) rfl
        have y1 := cell_blk hB7 1 (v := .slice none 0 0) rfl
        have y2 := cell_blk hB7 2 (v := .slice none 0 0) rfl
        have y3 := cell_blk hB7 3 (v := .int .i64 0) rfl
        clear hE hk8 hR8 lA lB eA eB kz hvA hvB hk7 hR7 hB7 hGl hPl hBl hGB hGb hPb SO
        go_wp2_with fail
        refine bodyPost_ret (res_new (r := 2) (p := 3) (u := 4) rfl _ _ (w.heap.size + 1) _ _ _ _ rfl HE.out) rfl ?_
        exact HFN.out
  · have hne : ((c2 : Int) != 0) = true := by simp; omega
    have f0 := frozen_blk HB3.out 0
    have f1 := frozen_blk HB3.out 1
    have f2 := frozen_blk HB3.out 2
    have f3 := frozen_blk HB3.out 3
    have y0 := cell_blk HB3.out 0 (v := .slice none 0 0) rfl
    have y1 := cell_blk HB3.out 1 (v := .slice none 0 0) rfl
    have y2 := cell_blk HB3.out 2 (v := .slice none 0 0) rfl
    have y3 := cell_blk HB3.out 3 (v := .int .i64 0) rfl
    have HE := hide (put4_blk HB3.out (.slice none 0 0) (.slice none 0 0) (.slice none 0 0) (.int .i64 0))
    have KE := hide (((K3.out.mono fun _ f => f.elim).more (put4_keep w3 (w.heap.size + 1) (.slice none 0 0) (.slice none 0 0) (.slice none 0 0) (.int .i64 0))).below (B := w.heap.size) (Nat.le_refl _) (fun j hj => by omega))
    have HC2 := hide hc2
    clear hc2
    go_wp2_with fail
    exact bodyPost_ret (res_new rfl _ _ (w.heap.size + 1) _ _ _ _ rfl HE.out) rfl ((HEN.out _ _).2 ⟨KE.out, .inl ⟨HC2.out, rfl⟩⟩)
end Rn
end Go.Proofs.Ytiackejbpcjmeaa
