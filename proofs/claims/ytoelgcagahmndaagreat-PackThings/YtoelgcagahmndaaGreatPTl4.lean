import Derived.Test.YtoelgcagahmndaaGreatPTl2
/- PackThings: a list put; Bytes. -/
namespace Go.Proofs.YtoelgcagahmndaaGreat
namespace Wm
open Go.RowKit Go.Deep

theorem wholeL (fn1 fn2 : FuncId) (cap1 cap2 : Array Value) (w : World) :
    Calls Tryz.prog 66 #[.agg #[.func (.func fn1) #[] cap1, .func (.func fn2) #[] cap2]] w fun en w' => en = .returned (.bool true) ∧ Below w.heap.size w w' := by
  have h1 := fun w fn cap => neq_func 27 w fn #[] cap _ _ _ Tryz.underlying27
  have h2 := fun w fn cap => neq_func 28 w fn #[] cap _ _ _ Tryz.underlying28
  go_enter Tryz.func66, Tryz.ntmps66
  go_wp2
  go_ret
  exact ⟨rfl, (Below.refl _ _).alloc (Nat.le_refl _) _⟩
theorem PutL (p : Nat) (fn1 fn2 : FuncId) (cap1 cap2 : Array Value) (x : Value) (v : Value) (s : K.WS) (hz : s.fault = 0) (w : World) (h : Wr w p v s) (Q : World → Prop)
    (h1 : ∀ w1, Below w.heap.size w w1 → Calls Tryz.prog fn1 (#[.pointer (some ⟨p, 0, none⟩), x] ++ cap1) w1 fun en w' => en = .returned (.tuple #[]) ∧ Q w')
    (he : ∀ args w, (callFunc fn1 args).run Tryz.prog w = .ok (.enter fn1 args) w) :
    Calls Tryz.prog 60 #[.agg #[.func (.func fn1) #[] cap1, .func (.func fn2) #[] cap2], .pointer (some ⟨p, 0, none⟩), x] w fun en w' => en = .returned (.tuple #[]) ∧ Q w' := by
  have HB : Hid (Below w.heap.size w (w.alloc (.cells #[.func (.func fn1) #[] cap1, .func (.func fn2) #[] cap2] 30))) := (Below.refl _ _).alloc (Nat.le_refl _) _
  have HF := hide (heap_alloc_new w (.cells #[.func (.func fn1) #[] cap1, .func (.func fn2) #[] cap2] 30))
  have c2 : (w.alloc (.cells #[.func (.func fn1) #[] cap1, .func (.func fn2) #[] cap2] 30)).cell? ⟨p, 2, none⟩ = some (.int .i64 0) := by
    have hb := blkB h.blk HB.out
    rw [cell_of_row _ _ _ _ _ _ hb, hz]
    rfl
  have H1 := hide h1
  clear h h1 hz
  go_enter Tryz.func60, Tryz.ntmps60
  go_upto_region 1 with fail
  change Code.wp _ _ _ _ (w.alloc (.cells #[.func (.func fn1) #[] cap1, .func (.func fn2) #[] cap2] 30))
  generalize w.alloc (.cells #[.func (.func fn1) #[] cap1, .func (.func fn2) #[] cap2] 30) = W at *
  obtain ⟨d0, d1⟩ := cells2 HF.out
  go_wp2_with fail
  refine (wholeL fn1 fn2 cap1 cap2 _).mono ?_
  rintro e w1 ⟨rfl, hb1⟩
  have HB1 := hide (HB.out.trans (hb1.mono HB.out.size))
  clear d0 d1 c2
  obtain ⟨d0, d1⟩ := cells2 (blkB HF.out hb1)
  clear hb1
  go_wp2_with fail
  refine (H1.out w1 HB1.out).mono ?_
  rintro e w2 ⟨rfl, h2⟩
  have H2 := hide h2
  clear h2
  go_wp2
  go_end0
  exact ⟨rfl, H2.out⟩
def headL (most : Int) (n : Nat) (s : K.WS) : K.WS := if most < (n : Int) then s.fail 20 else s.lay (K.num n)
theorem Pq.at {w : World} {p pb : Nat} {v vp : Value} {s : K.WS} {ys : List Tg} (h : Pq w p v pb vp s ys) : WAt (Wset p v) w p s w := ⟨Keep.refl _ _, v, h.wr, fun _ hk => .inl hk⟩
/-- a call on the writer alone -/
theorem Pq.wput {w w' : World} {p pb : Nat} {v vp : Value} {s s' : K.WS} {ys : List Tg} (h : Pq w p v pb vp s ys) (a : WAt (Wset p v) w p s' w') : ∃ v', Pq w' p v' pb vp s' ys ∧ (∀ k, Sq p v' pb vp k → Sq p v pb vp k ∨ w.heap.size ≤ k) ∧ Keep (Sq p v pb vp) w w' := by
  obtain ⟨v', hv, hs⟩ := a.wr
  refine ⟨v', ⟨hv, a.keep.blk h.pu h.wnp, ownsRow_keepS h.row a.keep fun i hi e => h.rowW i e hi⟩, fun k hk => ?_, (Keep.refl _ _).trans a.keep fun i h => .inl (.inl h)⟩
  rcases hk with hk | hk | hk
  · exact (hs k hk).imp .inl id
  · exact .inl (.inr (.inl hk))
  · exact .inl (.inr (.inr hk))
theorem Pa.trans {w w1 w2 : World} {p pb : Nat} {v vp v1 vp1 : Value} {s : K.WS} {xs : List Tg} (hs : ∀ k, Sq p v1 pb vp1 k → Sq p v pb vp k ∨ w.heap.size ≤ k) (hk : Keep (Sq p v pb vp) w w1) (h : Pa w1 p v1 pb vp1 s xs w2) : Pa w p v pb vp s xs w2 := by
  obtain ⟨k, h1, h2, h3⟩ := h.ex
  exact ⟨k, h1, Ps.trans hs hk h2, h3⟩
theorem ent_listT1 (args : Array Value) (w : World) : (callFunc 45 args).run Tryz.prog w = .ok (.enter 45 args) w :=
  callFunc_enter Tryz.func45 rfl rfl args w
set_option maxRecDepth 10000 in
theorem putListT (p pb cb mb fb : Nat) (most : Int) (hm : most ≤ 16777216) (v vp : Value) (s : K.WS) (a : Option Addr) (n c : Nat) (xs : List Tg) (D : Nat → Prop) (w : World) (h : Pq w p v pb vp s []) (hr : RdT D w a n xs) (hx : Fit xs) (hD : ∀ k, D k → ¬ Sq p v pb vp k ∧ k < w.heap.size)
    (hmb : w.heap[mb]? = some (numB most)) (hfb : w.heap[fb]? = some (.cells (thF pb cb) 37 (0, 0))) :
    Calls Tryz.prog 45 #[.pointer (some ⟨p, 0, none⟩), .slice a n c, .pointer (some ⟨mb, 0, none⟩), .pointer (some ⟨fb, 0, none⟩)] w fun en w' => en = .returned (.tuple #[]) ∧ Pa w p v pb vp (headL most n s) xs w' := by
  have m0 := (numB_cell hmb).1
  have HH := hide h
  have HRd := hide hr
  have HFx := hide hx
  have HD := hide hD
  have HFB := hide hfb
  have HNX := hide hr.1
  have hn := hr.2.1
  have HIF : Hid ((Tryz.prog.info? 37).map (·.size) = some (thF pb cb).size) := by show _ = _; kernel_rfl
  clear h hr hx hD hfb hmb
  obtain ⟨s', hs'⟩ : ∃ s', headL most n s = s' := ⟨_, rfl⟩
  rw [hs']
  unfold headL at hs'
  by_cases hb : most < (n : Int)
  · rw [if_pos hb] at hs'
    have HS' := hide hs'
    clear hs'
    go_enter Tryz.func45, Tryz.ntmps45
    go_wp2_with fail
    refine (fail_any (Wset p v) _ p s 20 (by decide) _ HH.out.at).mono ?_
    rintro e w1 ⟨rfl, h1⟩
    rw [HS'.out] at h1
    have H1 := hide h1
    clear h1
    go_wp2
    first | go_end0 | refine bodyPost_ret (results_none rfl _ _ _) rfl ?_
    obtain ⟨v', h2, h3, h4⟩ := HH.out.wput H1.out
    refine ⟨rfl, ⟨0, Nat.zero_le _, Ps.trans h3 h4 (Ps.refl h2), (fun i hi => by omega), .inr ?_⟩⟩
    show s'.fault ≠ 0
    rw [← HS'.out]
    exact fail_fault (by decide)
  · rw [if_neg hb] at hs'
    have HS' := hide hs'
    clear hs'
    go_enter Tryz.func45, Tryz.ntmps45
    go_wp2_with fail
    refine (numberBytes_any n (by omega) _).mono ?_
    rintro e w1 ⟨ah, ch, rfl, hrh, h0h, hb1⟩
    have HRH := hide hrh
    have H0H := hide h0h
    have HH1 := hide (HH.out.new hb1)
    have HB1 := hide hb1
    clear hrh h0h hb1
    go_wp2_with fail
    refine (Go.Proofs.YtoelgcagahmndaaGreat.lay_any (Wset p v) w1 p s ah _ ch _ _ HH1.out.at HRH.out H0H.out).mono ?_
    rintro e w2 ⟨rfl, h2⟩
    rw [HS'.out] at h2
    obtain ⟨v2, hq2, hs2, hk2⟩ := HH1.out.wput h2
    have HQ2 := hide hq2
    have HS2 := hide hs2
    have HK2 := hide hk2
    have HF2 := hide (hk2.blk (blkB HFB.out HB1.out) (HH1.out.notT (blkB HFB.out HB1.out) (by decide) (by decide) (by decide) (by decide)))
    clear h2 hq2 hs2 hk2 m0
    go_wp2_with (refine wpList_load_row rfl 37 _ rfl fb rfl 37 (thF pb cb) (0, 0) _ HF2.out Tryz.underlying37 rfl HIF.out ?_)
    have HR2 : Hid (RdT D w2 a n xs) := RdT.keep (RdT.keep HRd.out (Keep.ofBelow (S := fun _ => False) HB1.out (Nat.le_refl _)) fun _ _ h => h) HK2.out fun k hk => (HD.out k hk).1
    have HD2 : Hid (∀ k, D k → ¬ Sq p v2 pb vp k ∧ k < w2.heap.size) := fun k hk => ⟨fun h => by
      rcases HS2.out k h with h1 | h1
      · exact (HD.out k hk).1 h1
      · have := (HD.out k hk).2; have := HB1.out.size; omega, Nat.lt_of_lt_of_le (HD.out k hk).2 (Nat.le_trans HB1.out.size HK2.out.size)⟩
    go_at_call 49
    refine (putAllT p pb cb v2 vp s' a n c xs D w2 HQ2.out HR2.out HFx.out HD2.out (by omega)).mono ?_
    rintro e w3 ⟨rfl, h3⟩
    have H3 := hide h3
    clear h3
    go_wp2
    go_end0
    exact ⟨rfl, Pa.trans (fun k hk => (HS2.out k hk).imp id fun h => Nat.le_trans HB1.out.size h) ((Keep.ofBelow (S := Sq p v pb vp) HB1.out (Nat.le_refl _)).more HK2.out) H3.out⟩
/-- Lists' form, in memory -/
def thL (mb fb : Nat) : Array Value := #[.func (.func 45) #[] #[.pointer (some ⟨mb, 0, none⟩), .pointer (some ⟨fb, 0, none⟩)], .func (.func 50) #[] #[.pointer (some ⟨mb, 0, none⟩), .pointer (some ⟨fb, 0, none⟩)]]
/-- what Bytes leaves -/
structure By (w : World) (pb : Nat) (s1 : K.WS) (xs : List Tg) (en : Ending) (w' : World) : Prop where
  ex : ∃ (k : Nat) (vx vp : Value), k ≤ xs.length ∧ en = .returned (.tuple #[vx, .int .i64 ((allW ((layF xs).take k) s1).fault : Nat)]) ∧ w'.ownsRow 0 5 1 vx (told (allW ((layF xs).take k) s1)).length (B8 (told (allW ((layF xs).take k) s1))) ∧ Fine (told (allW ((layF xs).take k) s1)) ∧
    w'.heap[pb]? = some (slB vp) ∧ w'.ownsRow 0 33 2 vp (xs.take k).length (flT (xs.take k)) ∧ (∀ b, vp.ownBlock = some b → w.heap.size ≤ b) ∧ (∀ i, i < k → (allW ((layF xs).take i) s1).fault = 0) ∧ (k = xs.length ∨ (allW ((layF xs).take k) s1).fault ≠ 0)
  keep : Keep (fun k => k = pb) w w'
set_option maxRecDepth 10000 in
theorem bytesT (pb cb mb fb : Nat) (most room0 : Int) (hm : most ≤ 16777216) (a : Option Addr) (n c : Nat) (xs : List Tg) (D : Nat → Prop) (w : World) (hp : w.heap[pb]? = some (slB (.slice none 0 0))) (hr : RdT D w a n xs) (hx : Fit xs) (hD : ∀ k, D k → k ≠ pb ∧ k < w.heap.size)
    (hmb : w.heap[mb]? = some (numB most)) (hfb : w.heap[fb]? = some (.cells (thF pb cb) 37 (0, 0))) :
    Calls Tryz.prog 12 #[.agg (thL mb fb), .slice a n c, .int .i64 room0] w (By w pb (headL most n ⟨[], room room0, 0⟩) xs) := by
  have hpl := (Array.getElem?_eq_some_iff.1 hp).1
  have HB0 : Hid (Below w.heap.size w (w.alloc (.cells (thL mb fb) 30))) := (Below.refl _ _).alloc (Nat.le_refl _) _
  have HX0 := hide (heap_alloc_new w (.cells (thL mb fb) 30))
  have HP := hide hp
  have HRd := hide hr
  have HFx := hide hx
  have HD := hide hD
  have HMB := hide hmb
  have HFB := hide hfb
  have HIL : Hid ((Tryz.prog.info? 30).map (·.size) = some (thL mb fb).size) := by show _ = _; kernel_rfl
  have HRM : Hid (room room0 ≤ 16777216) := by show _ ≤ _; unfold room; omega
  clear hp hr hx hD hmb hfb
  obtain ⟨s0, hs0⟩ : ∃ s0, (⟨[], room room0, 0⟩ : K.WS) = s0 := ⟨_, rfl⟩
  rw [hs0]
  have HS0 := hide hs0
  clear hs0
  go_enter Tryz.func12, Tryz.ntmps12
  go_upto_region 1 with fail
  change Code.wp _ _ _ _ (w.alloc (.cells (thL mb fb) 30))
  generalize w.alloc (.cells (thL mb fb) 30) = W0 at *
  go_wp2_with fail
  refine (NewWriterX room0 _).mono ?_
  rintro e w1 ⟨rfl, rfl⟩
  have hb1 : Below W0.heap.size W0 (W0.alloc (.cells #[.slice none 0 0, .int .i64 (room room0 : Nat), .int .i64 0] 120)) := (Below.refl _ _).alloc (Nat.le_refl _) _
  have HB1 := hide (HB0.out.trans (hb1.mono HB0.out.size))
  have hq1 : Pq (W0.alloc (.cells #[.slice none 0 0, .int .i64 (room room0 : Nat), .int .i64 0] 120)) W0.heap.size (.slice none 0 0) pb (.slice none 0 0) ⟨[], room room0, 0⟩ [] :=
    ⟨⟨heap_alloc_new W0 _, World.ownsRow_nil _ _ _ _, (fun d hd => by cases hd), Nat.zero_le _, HRM.out⟩, blkB (blkB HP.out HB0.out) hb1, World.ownsRow_nil _ _ _ _⟩
  rw [HS0.out] at hq1
  have HQ1 := hide hq1
  have HX1 := hide (blkB HX0.out hb1)
  have HZ : Hid (s0.fault = 0) := by show _ = _; rw [← HS0.out]
  have hwp : w.heap.size ≤ W0.heap.size := HB0.out.size
  clear hb1 hq1
  generalize W0.alloc (.cells #[.slice none 0 0, .int .i64 (room room0 : Nat), .int .i64 0] 120) = w1 at *
  generalize W0.heap.size = p at *
  have HR1 : Hid (RdT D w1 a n xs) := RdT.keep HRd.out (Keep.ofBelow (S := fun _ => False) HB1.out (Nat.le_refl _)) fun _ _ h => h
  have HSq : Hid (∀ k, Sq p (.slice none 0 0) pb (.slice none 0 0) k → k = p ∨ k = pb) := fun k hk => by
    rcases hk with (hk | hk) | hk | hk
    · exact .inl hk
    · cases hk
    · exact .inr hk
    · cases hk
  have HD1 : Hid (∀ k, D k → ¬ Sq p (.slice none 0 0) pb (.slice none 0 0) k ∧ k < w1.heap.size) := fun k hk => ⟨fun h => by
    have h1 := (HD.out k hk)
    rcases HSq.out k h with e | e
    · omega
    · exact h1.1 e, Nat.lt_of_lt_of_le (HD.out k hk).2 HB1.out.size⟩
  have HPU : Hid (Calls Tryz.prog 60 #[.agg (thL mb fb), .pointer (some ⟨p, 0, none⟩), .slice a n c] w1 fun en w' => en = .returned (.tuple #[]) ∧ Pa w1 p (.slice none 0 0) pb (.slice none 0 0) (headL most n s0) xs w') := by
    refine PutL p _ _ _ _ (.slice a n c) (.slice none 0 0) s0 HZ.out w1 HQ1.out.wr (fun w' => Pa w1 p (.slice none 0 0) pb (.slice none 0 0) (headL most n s0) xs w') (fun w2 hb => ?_) ent_listT1
    have := (putListT p pb cb mb fb most hm (.slice none 0 0) (.slice none 0 0) s0 a n c xs D w2 (HQ1.out.new hb) (RdT.keep HR1.out (Keep.ofBelow (S := fun _ => False) hb (Nat.le_refl _)) fun _ _ h => h) HFx.out (fun k hk => ⟨(HD1.out k hk).1, Nat.lt_of_lt_of_le (HD1.out k hk).2 hb.size⟩) (blkB (blkB HMB.out HB1.out) hb) (blkB (blkB HFB.out HB1.out) hb)).mono fun en w' h => (⟨h.1, Pa.trans (fun k hk => .inl hk) (Keep.ofBelow hb (Nat.le_refl _)) h.2⟩ : en = .returned (.tuple #[]) ∧ Pa w1 p (.slice none 0 0) pb (.slice none 0 0) (headL most n s0) xs w')
    exact this
  go_wp2_with (refine wpList_load_row rfl 30 _ rfl w.heap.size rfl 30 (thL mb fb) (0, 0) _ HX1.out Tryz.underlying30 rfl HIL.out ?_)
  go_at_call 60
  refine (HPU.out).mono ?_
  rintro e w2 ⟨rfl, h2⟩
  obtain ⟨k, hk, h3, h4, h5⟩ := h2.ex
  obtain ⟨v2, vp2, hq2, hs2⟩ := h3.ex
  have HQ2 := hide hq2
  have HK2 := hide h3.keep
  have HS2 := hide hs2
  have H4 := hide h4
  have H5 := hide h5
  clear h2 h3 h4 h5 hq2 hs2 HPU
  have HAt := hide HQ2.out.at
  generalize hS : allW ((layF xs).take k) (headL most n s0) = S at *
  have HS := hide hS
  clear hS
  go_wp2_with fail
  refine (Done_any (Wset p v2) w2 p S _ HAt.out).mono ?_
  rintro e w3 ⟨vx, rfl, ho3, hb3, hf3⟩
  have HO3 := hide (ownsRow_base ho3 (Nat.zero_le _))
  have HB3 := hide hb3
  have HF3 := hide hf3
  clear ho3 hb3 hf3
  go_wp2
  go_ret2
  refine ⟨⟨k, vx, vp2, hk, by rw [HS.out]; rfl, by rw [HS.out]; exact HO3.out, by rw [HS.out]; exact HF3.out, blkB HQ2.out.pu HB3.out, ownsRow_keepB HQ2.out.row HB3.out, fun b hb => ?_, H4.out, by rw [HS.out]; exact H5.out⟩, ?_⟩
  · rcases HS2.out b (.inr (.inr hb)) with h | h
    · rcases HSq.out b h with e | e
      · omega
      · exact absurd hb (e ▸ HQ2.out.rowP)
    · exact Nat.le_trans HB1.out.size h
  · have h1 := (Keep.ofBelow (S := fun k => k = pb) HB1.out (Nat.le_refl _)).trans HK2.out fun i hi => by
      rcases HSq.out i hi with e | e
      · exact .inr (by omega)
      · exact .inl e
    exact h1.more (Keep.ofBelow HB3.out (Nat.le_refl _))
end Wm
end Go.Proofs.YtoelgcagahmndaaGreat

/- PackThings: things taken one by one (written by tl4_gen.py). -/
namespace Go.Proofs.YtoelgcagahmndaaGreat
namespace Wm
open Go.RowKit Go.Deep

theorem takeThg (r pb cb : Nat) (t : K.RS) (hz : t.fault = 0) (c : Int) (hw : IntKind.i64.wrap (c + 1) = c + 1) (w : World) (h : Rr w r t) (hc : w.heap[cb]? = some (numB c)) :
    Calls Tryz.prog 37 #[.agg (thF pb cb), .pointer (some ⟨r, 0, none⟩)] w fun en w' => en = .returned (.agg (if (getE t).fault = 0 then #[.int .i64 (getN t), .string (getS t)] else zT)) ∧ Keep (fun k => k = r ∨ k = cb) w w' ∧ Tk2 r cb (getE t) (c + 1) w' := by
  have lc := (Array.getElem?_eq_some_iff.1 hc).1
  refine TakeT r _ _ _ _ (getN t) (getS t) (fun k => k = r ∨ k = cb) (Tk2 r cb (getE t) (c + 1)) t (getE t) w h (fun k hk => by
    rcases hk with rfl | rfl
    · exact h.lt
    · exact lc) (Tk2.firm h.lt lc) (fun w1 h => h.rd) (fun _ w1 hb => ?_) (fun h => absurd hz h) ent_thg2
  exact thg2 r cb t c hw w1 (h.below hb) (blkB hc hb)
def valT (s : K.RS) (i : Nat) : Tg := (getN (allR getE i s), getS (allR getE i s))
def valsT (s : K.RS) (k : Nat) : List Tg := (List.range k).map (valT s)
theorem valsT_len (s : K.RS) (k : Nat) : (valsT s k).length = k := by unfold valsT; rw [List.length_map, List.length_range]
theorem valsT_succ (s : K.RS) (k : Nat) : valsT s (k + 1) = valsT s k ++ [valT s k] := by unfold valsT; rw [List.range_succ, List.map_append]; rfl
/-- what is taken: j rounds, and a list or a fault -/
structure Ta (w : World) (r cb : Nat) (n : Nat) (s : K.RS) (en : Ending) (w' : World) : Prop where
  keep : Keep (fun k => k = r ∨ k = cb) w w'
  ex : ∃ j, j ≤ n ∧ w'.heap[cb]? = some (numB (j : Nat)) ∧ (∀ i, i < j → (allR getE i s).fault = 0) ∧
    ((j = n ∧ (allR getE n s).fault = 0 ∧ ∃ v, en = .returned v ∧ Rr w' r (allR getE n s) ∧ w'.ownsRow w.heap.size 33 2 v n (flT (valsT s n))) ∨ ((allR getE j s).fault ≠ 0 ∧ ∃ e s1, en = gaveUp e ∧ Rr w' r s1 ∧ s1.fail e = allR getE j s))
theorem fail_self {s : K.RS} (h : s.fault ≠ 0) (e : Nat) : s.fail e = s := by unfold K.RS.fail; rw [if_neg h]
theorem rfail_ne (s : K.RS) : (s.fail 22).fault ≠ 0 := by
  unfold K.RS.fail
  split
  · show 22 ≠ 0; decide
  · assumption
set_option maxRecDepth 10000 in
set_option maxHeartbeats 2000000 in
theorem takeAllT (r pb cb : Nat) (n : Nat) (hn : n ≤ 16777216) (s : K.RS) (hs : s.fault = 0) (w : World) (h : Rr w r s) (hc : w.heap[cb]? = some (numB 0)) :
    Calls Tryz.prog 52 #[.pointer (some ⟨r, 0, none⟩), .agg (thF pb cb), .int .i64 (n : Nat)] w (Ta w r cb n s) := by
  have hba := (Below.refl w.heap.size w).alloc (Nat.le_refl _) (.cells (thF pb cb) 37)
  have HX := hide (heap_alloc_new w (.cells (thF pb cb) 37))
  have HT0 : Hid (Tk2 r cb (allR getE 0 s) ((0 : Nat) : Int) (w.alloc (.cells (thF pb cb) 37))) := ⟨h.below hba, blkB hc hba⟩
  have HK0 := hide (Keep.ofBelow (S := fun k => k = r ∨ k = cb) hba (Nat.le_refl _))
  have HL : Hid (r < w.heap.size ∧ cb < w.heap.size) := ⟨h.lt, (Array.getElem?_eq_some_iff.1 hc).1⟩
  have HI2 : Hid (∀ a b : Value, (Tryz.prog.info? 33).map (·.size) = some (#[a, b] : Array Value).size) := fun a b => by rw [info_thing]; rfl
  have HIF : Hid ((Tryz.prog.info? 37).map (·.size) = some (thF pb cb).size) := by show _ = _; kernel_rfl
  have HS0 := hide hs
  clear h hc hs
  go_enter Tryz.func52, Tryz.ntmps52
  go_wp2
  change Code.wp _ _ _ _ (w.alloc (.cells (thF pb cb) 37))
  have hsa : w.heap.size < (w.alloc (.cells (thF pb cb) 37)).heap.size := by simp
  generalize w.alloc (.cells (thF pb cb) 37) = wa at *
  clear hba hsa
  obtain ⟨bx, hbx⟩ : ∃ bx, w.heap.size = bx := ⟨_, rfl⟩
  rw [hbx]
  rw [hbx] at HX
  have HBX := hide hbx
  clear hbx
  go_loopw [7, 11] (fun v i wx => ∃ k : Nat, k ≤ n ∧ i = .int .i64 (k : Nat) ∧ Hid ((∀ i, i ≤ k → (allR getE i s).fault = 0) ∧ Tk2 r cb (allR getE k s) ((k : Nat) : Int) wx ∧ wx.ownsRow w.heap.size 33 2 v k (flT (valsT s k)) ∧ Keep (fun k => k = r ∨ k = cb) w wx ∧ wx.heap[bx]? = some (.cells (thF pb cb) 37 (0, 0)))) (fun _ i _ => n - (intOf i).toNat)
  case atStart => exact ⟨0, Nat.zero_le _, rfl, (fun i hi => by have e : i = 0 := Nat.le_zero.1 hi; subst e; exact HS0.out), HT0.out, World.ownsRow_nil _ _ _ _, HK0.out, HX.out⟩
  case round =>
    clear HT0 HK0 HX
    obtain ⟨k, hk, rfl, HD⟩ := hrel
    by_cases hlt : k < n
    · have hzk := HD.out.1 k (Nat.le_refl _)
      obtain ⟨_, _, _, c1, _, _⟩ := HD.out.2.1.rd.see
      have HSU : Hid (allR getE (k + 1) s = if (getE (allR getE k s)).taken = (allR getE k s).taken then (getE (allR getE k s)).fail 22 else getE (allR getE k s)) := by show thingR getE (allR getE k s) = _; unfold thingR; rw [if_pos hzk]
      have HVS := hide (valsT_succ s k)
      have HVT : Hid (valT s k = (getN (allR getE k s), getS (allR getE k s))) := rfl
      have HVL := hide (valsT_len s k)
      have htk : (allR getE k s).taken ≤ 16777216 := Nat.le_trans HD.out.2.1.rd.tak HD.out.2.1.rd.top
      generalize hsk : allR getE k s = sk at *
      have HSK := hide hsk
      clear hsk
      have HTK := hide (takeThg r pb cb sk hzk ((k : Nat) : Int) (by rw [IntKind.wrap_i64]; omega) wr HD.out.2.1.rd HD.out.2.1.cn)
      go_wp2_with (refine wpList_load_row rfl 37 _ rfl bx rfl 37 (thF pb cb) (0, 0) _ HD.out.2.2.2.2 Tryz.underlying37 rfl HIF.out ?_)
      go_at_call 37
      refine (HTK.out).mono ?_
      rintro e w2 ⟨rfl, hk2, ht2⟩
      have HT2 := hide ht2
      have HK2 := hide (HD.out.2.2.2.1.more hk2)
      have hnf : ¬ (bx = r ∨ bx = cb) := fun e => by have := HL.out; have := HBX.out; omega
      have HX2 := hide (hk2.blk HD.out.2.2.2.2 hnf)
      have HO2 := hide (ownsRow_keepS HD.out.2.2.1 hk2 fun i hi e => by
        have h1 := (HD.out.2.2.1.lt i e).1
        have h2 := HL.out
        rcases hi with hi | hi <;> omega)
      have HF0 : Hid (∀ i, i < k + 1 → (allR getE i s).fault = 0) := fun i hi => HD.out.1 i (by omega)
      have htk2 : (getE sk).taken ≤ 16777216 := Nat.le_trans ht2.rd.tak ht2.rd.top
      have hsz2 : w.heap.size ≤ w2.heap.size := HK2.out.size
      clear hk2 ht2 HTK HD hnf c1
      by_cases hzf : (getE sk).fault = 0
      · rw [if_pos hzf]
        have HA := hide (heap_alloc_new w2 (.cells #[.int .i64 0, .string ⟨#[]⟩] 33))
        have hXs := setRow_heap (w2.alloc (.cells #[.int .i64 0, .string ⟨#[]⟩] 33)) w2.heap.size _ #[.int .i64 (getN sk), .string (getS sk)] _ _ HA.out
        have hBs : Below w2.heap.size w2 ((w2.alloc (.cells #[.int .i64 0, .string ⟨#[]⟩] 33)).setRow w2.heap.size #[.int .i64 (getN sk), .string (getS sk)]) := ((Below.refl _ _).alloc (Nat.le_refl _) _).trans ((keep_row _ _ _).below (by simp) fun k e => by rw [e]; exact Nat.le_refl _)
        have HXs := hide hXs
        have HBs := hide hBs
        clear hXs hBs
        go_upto_region 6 with (refine wpList_store_row rfl 33 _ _ rfl w2.heap.size #[.int .i64 (getN sk), .string (getS sk)] rfl rfl 33 _ HA.out (HI2.out _ _) rfl (one2 _ _) ?_)
        change Code.wp _ _ _ _ ((w2.alloc (.cells #[.int .i64 0, .string ⟨#[]⟩] 33)).setRow w2.heap.size #[.int .i64 (getN sk), .string (getS sk)])
        generalize (w2.alloc (.cells #[.int .i64 0, .string ⟨#[]⟩] 33)).setRow w2.heap.size #[.int .i64 (getN sk), .string (getS sk)] = w3 at *
        have HT3 : Hid (Tk2 r cb (getE sk) (((k + 1 : Nat) : Nat) : Int) w3) := by
          refine ⟨HT2.out.rd.below HBs.out, ?_⟩
          have := blkB HT2.out.cn HBs.out
          rw [show (((k + 1 : Nat) : Nat) : Int) = (k : Int) + 1 by omega]
          exact this
        have HK3 := hide (HK2.out.more (Keep.ofBelow (S := fun k => k = r ∨ k = cb) HBs.out (Nat.le_refl _)))
        have HX3 := hide (blkB HX2.out HBs.out)
        have HO3 := hide (ownsRow_keepB HO2.out HBs.out)
        have hxb : w.heap.size ≤ w2.heap.size := hsz2
        generalize w2.heap.size = xb at *
        clear HT2 HK2 HX2 HO2 HA HBs hsz2
        obtain ⟨_, _, _, d1, d2, _⟩ := HT3.out.rd.see
        by_cases hq : (getE sk).taken = sk.taken
        · as_aux_lemma =>
          have hqq : (((getE sk).taken : Int) == (sk.taken : Int)) = true := by rw [hq]; exact beq_self_eq_true _
          have HS1 : Hid (allR getE (k + 1) s = (getE sk).fail 22) := by show _ = _; rw [HSU.out, if_pos hq]
          have HFF := hide (rfail_ne (getE sk))
          clear hq
          go_wp2_with fail
          refine (rFail_any r (getE sk) _ HT3.out.rd).mono ?_
          rintro e w4 ⟨rfl, hr4, hk4⟩
          generalize hs3 : (getE sk).fail 22 = s3 at *
          have hzz : ((s3.fault : Int) == 0) = false := by rw [beq_eq_false_iff_ne]; have := HFF.out; omega
          obtain ⟨_, _, _, _, f2, _⟩ := hr4.see
          have HR4 := hide hr4
          have HC4 := hide (hk4.blk HT3.out.cn (fun e => neT HT3.out.cn (Rr.noU HT3.out.rd).choose_spec.1 (by decide) e))
          have HK4 := hide (HK3.out.trans hk4 fun i e => .inl (.inl e))
          clear hr4 hk4 hs3 d1 d2
          go_wp2
          exact ⟨rfl, HK4.out, ⟨k + 1, by omega, HC4.out, HF0.out, .inr ⟨by rw [HS1.out]; exact HFF.out, s3.fault, s3, rfl, HR4.out, by rw [HS1.out]; exact fail_self HFF.out _⟩⟩⟩
        · as_aux_lemma =>
          have hqq : (((getE sk).taken : Int) == (sk.taken : Int)) = false := by rw [beq_eq_false_iff_ne]; omega
          have HS1 : Hid (allR getE (k + 1) s = getE sk) := by show _ = _; rw [HSU.out, if_neg hq]
          clear hq
          have d2' : w3.cell? ⟨r, 2, none⟩ = some (.int .i64 0) := by rw [d2, hzf]; rfl
          have HZf := hide hzf
          clear d2 hzf
          have hb4 : Below w3.heap.size w3 (w3.alloc (.cells #[.int .i64 (getN sk), .string (getS sk)] 33)) := (Below.refl _ _).alloc (Nat.le_refl _) _
          have ho4 := ownsRow_keepB HO3.out hb4
          obtain ⟨a5, c5, w5, hr5, ho5, hg5, hn5⟩ := append_thing (b := w.heap.size) (xs := valsT s k) (by rw [HVL.out]; exact ho4) (by have := HK3.out.size; have := hb4.size; omega) (by rw [HVL.out]; omega) (getN sk, getS sk) (heap_alloc_new w3 (.cells #[.int .i64 (getN sk), .string (getS sk)] 33)) 22
          have HOL : Hid (∀ i, u7.ownBlock = some i → w.heap.size ≤ i) := fun i e => (HO3.out.lt i e).1
          have HB4 := hide hb4
          have HR5 := hide hr5
          have HO5 := hide ho5
          have HG5 := hide hg5
          clear hb4 ho4 hr5 ho5 hg5 hn5
          go_wp2_with (first
            | (refine wpList_load_row rfl 33 _ rfl xb rfl 33 #[.int .i64 (getN sk), .string (getS sk)] (0, 0) _ HXs.out Tryz.underlying33 rfl (HI2.out _ _) ?_)
            | (refine wpList_append_run rfl _ _ 22 rfl _ _ rfl rfl HR5.out ?_))
          go_roundw
          case rel =>
            have hk5 : Keep (fun i => u7.ownBlock = some i) (w3.alloc (.cells #[.int .i64 (getN sk), .string (getS sk)] 33)) w5 := Keep.grown HG5.out fun k e => e
            have nr : ∀ i, u7.ownBlock = some i → i ≠ r ∧ i ≠ cb := fun i e => by
              have h1 := HOL.out i e
              have h2 := HL.out
              exact ⟨by omega, by omega⟩
            have nf : u7.ownBlock ≠ some bx := fun e => by
              rcases HO3.out.2 with ⟨e1, _⟩ | ⟨g, cap, cur, e1, _, e3, _⟩
              · rw [e1] at e; cases e
              · rw [e1] at e
                cases e
                exact neT e3 HX3.out (by decide) rfl
            refine ⟨k + 1, by omega, by go_num, (fun i hi => ?_), ?_, ?_, ?_, hk5.blk (blkB HX3.out HB4.out) nf⟩
            · rcases Nat.lt_or_ge i (k + 1) with h | h
              · exact HF0.out i h
              · obtain rfl : i = k + 1 := by omega
                rw [HS1.out]; exact HZf.out
            · rw [HS1.out]
              exact ⟨(HT3.out.rd.below HB4.out).stay hk5 (fun j hj e => by have h1 := HOL.out j e; have h2 := HL.out; omega), hk5.blk (blkB HT3.out.cn HB4.out) (fun e => (nr _ e).2 rfl)⟩
            · rw [HVS.out, HVT.out]
              have := HO5.out
              rw [HVL.out] at this ⊢
              exact this
            · exact (HK3.out.more (Keep.ofBelow HB4.out (Nat.le_refl _))).trans hk5 fun i e => .inr (HOL.out i e)
          case measure => simp [intOf]; omega
      · rw [if_neg hzf]
        have HA := hide (heap_alloc_new w2 (.cells #[.int .i64 0, .string ⟨#[]⟩] 33))
        have hXs := setRow_heap (w2.alloc (.cells #[.int .i64 0, .string ⟨#[]⟩] 33)) w2.heap.size _ #[.int .i64 0, .string ⟨#[]⟩] _ _ HA.out
        have hBs : Below w2.heap.size w2 ((w2.alloc (.cells #[.int .i64 0, .string ⟨#[]⟩] 33)).setRow w2.heap.size #[.int .i64 0, .string ⟨#[]⟩]) := ((Below.refl _ _).alloc (Nat.le_refl _) _).trans ((keep_row _ _ _).below (by simp) fun k e => by rw [e]; exact Nat.le_refl _)
        have HXs := hide hXs
        have HBs := hide hBs
        clear hXs hBs
        go_upto_region 6 with (refine wpList_store_row rfl 33 _ _ rfl w2.heap.size #[.int .i64 0, .string ⟨#[]⟩] rfl rfl 33 _ HA.out (HI2.out _ _) rfl (one2 _ _) ?_)
        change Code.wp _ _ _ _ ((w2.alloc (.cells #[.int .i64 0, .string ⟨#[]⟩] 33)).setRow w2.heap.size #[.int .i64 0, .string ⟨#[]⟩])
        generalize (w2.alloc (.cells #[.int .i64 0, .string ⟨#[]⟩] 33)).setRow w2.heap.size #[.int .i64 0, .string ⟨#[]⟩] = w3 at *
        have HT3 : Hid (Tk2 r cb (getE sk) (((k + 1 : Nat) : Nat) : Int) w3) := by
          refine ⟨HT2.out.rd.below HBs.out, ?_⟩
          have := blkB HT2.out.cn HBs.out
          rw [show (((k + 1 : Nat) : Nat) : Int) = (k : Int) + 1 by omega]
          exact this
        have HK3 := hide (HK2.out.more (Keep.ofBelow (S := fun k => k = r ∨ k = cb) HBs.out (Nat.le_refl _)))
        have HX3 := hide (blkB HX2.out HBs.out)
        have HO3 := hide (ownsRow_keepB HO2.out HBs.out)
        have hxb : w.heap.size ≤ w2.heap.size := hsz2
        generalize w2.heap.size = xb at *
        clear HT2 HK2 HX2 HO2 HA HBs hsz2
        obtain ⟨_, _, _, d1, d2, _⟩ := HT3.out.rd.see
        by_cases hq : (getE sk).taken = sk.taken
        · as_aux_lemma =>
          have hqq : (((getE sk).taken : Int) == (sk.taken : Int)) = true := by rw [hq]; exact beq_self_eq_true _
          have HS1 : Hid (allR getE (k + 1) s = (getE sk).fail 22) := by show _ = _; rw [HSU.out, if_pos hq]
          have HFF := hide (rfail_ne (getE sk))
          clear hq
          go_wp2_with fail
          refine (rFail_any r (getE sk) _ HT3.out.rd).mono ?_
          rintro e w4 ⟨rfl, hr4, hk4⟩
          generalize hs3 : (getE sk).fail 22 = s3 at *
          have hzz : ((s3.fault : Int) == 0) = false := by rw [beq_eq_false_iff_ne]; have := HFF.out; omega
          obtain ⟨_, _, _, _, f2, _⟩ := hr4.see
          have HR4 := hide hr4
          have HC4 := hide (hk4.blk HT3.out.cn (fun e => neT HT3.out.cn (Rr.noU HT3.out.rd).choose_spec.1 (by decide) e))
          have HK4 := hide (HK3.out.trans hk4 fun i e => .inl (.inl e))
          clear hr4 hk4 hs3 d1 d2
          go_wp2
          exact ⟨rfl, HK4.out, ⟨k + 1, by omega, HC4.out, HF0.out, .inr ⟨by rw [HS1.out]; exact HFF.out, s3.fault, s3, rfl, HR4.out, by rw [HS1.out]; exact fail_self HFF.out _⟩⟩⟩
        · as_aux_lemma =>
          have hqq : (((getE sk).taken : Int) == (sk.taken : Int)) = false := by rw [beq_eq_false_iff_ne]; omega
          have HS1 : Hid (allR getE (k + 1) s = getE sk) := by show _ = _; rw [HSU.out, if_neg hq]
          clear hq
          have hzz : (((getE sk).fault : Int) == 0) = false := by rw [beq_eq_false_iff_ne]; omega
          have HZf := hide hzf
          clear hzf
          go_wp2
          exact ⟨rfl, HK3.out, ⟨k + 1, by omega, HT3.out.cn, HF0.out, .inr ⟨by rw [HS1.out]; exact HZf.out, (getE sk).fault, getE sk, rfl, HT3.out.rd, by rw [HS1.out]; exact fail_self HZf.out _⟩⟩⟩
    · obtain rfl : k = n := by omega
      go_wp2
      go_ret
      exact ⟨HD.out.2.2.2.1, ⟨k, Nat.le_refl _, HD.out.2.1.cn, (fun i hi => HD.out.1 i (by omega)), .inl ⟨rfl, HD.out.1 k (Nat.le_refl _), _, rfl, HD.out.2.1.rd, HD.out.2.2.1⟩⟩⟩
end Wm
end Go.Proofs.YtoelgcagahmndaaGreat
