/- Package disk: List, Crash. -/
import Derived.Test.YtilpidioengnbaaDStr
namespace Go.Proofs.Ytilpidioengnbaa
open Go.RowKit Go.Lib

/-- what List answers -/
def ListAs (w : World) (s : St) (e : Ending) (w' : World) : Prop :=
  ∃ (v : Value) (ks : List Int), e = .returned (.tuple #[v, .int .i64 (if s.down then 56 else 0)]) ∧ ks.Pairwise (· < ·) ∧ (∀ k, k ∈ ks ↔ s.down = false ∧ s.there k ≠ none) ∧ w'.ownsRow w.heap.size 3 1 v ks.length (ks.map (Value.int .i64)) ∧ Keep (fun _ => False) w w'

theorem list_any (S : Nat → Prop) (w : World) (p : Nat) (s : St) (h : DAt S w p s) (ok : Ok s) :
    Calls Try.prog 28 #[.pointer (some ⟨p, 0, none⟩)] w (ListAs w s) := by
  obtain ⟨bt, bo, val, h⟩ := h
  have c6 := h.c6
  have c2 := h.c2
  have HR := hide (rising_T bt _ w h.mt (segT ok))
  clear h ok
  cases hd : s.down with
  | true =>
    rw [hd] at c6
    have HD := hide hd
    clear hd
    go_enter Try.func28, Try.ntmps28
    go_wp2
    go_ret2
    exact ⟨_, [], by rw [HD.out]; rfl, List.Pairwise.nil, fun k => by simp [HD.out], World.ownsRow_nil _ _ _ _, Keep.refl _ _⟩
  | false =>
    rw [hd] at c6
    have HD := hide hd
    clear hd
    go_enter Try.func28, Try.ntmps28
    go_wp2_with (go_at_call 50; refine HR.out.mono ?_; rintro e w1 ⟨v, ks, rfl, hs, hm, ho, hk⟩)
    go_ret2
    exact ⟨v, ks, by rw [HD.out]; rfl, hs, fun k => by rw [hm k]; simp [HD.out], ho, hk⟩

/-- what a slice of numbers reads -/
def Rz (w : World) (a : Option Addr) (n : Nat) (z : List Int) : Prop :=
  n = z.length ∧ n ≤ 17592186044416 ∧ (∀ x ∈ z, -9223372036854775808 ≤ x ∧ x ≤ 9223372036854775807) ∧ (n = 0 ∨ ∃ b off, a = some ⟨b, off, none⟩ ∧ ∀ i, i < n → w.cell? ⟨b, off + i, none⟩ = some (.int .i64 (z.getD i 0)))
theorem Rz.stay {w w' : World} {a : Option Addr} {n : Nat} {z : List Int} {S : Nat → Prop} (h : Rz w a n z) (hk : Keep S w w') (hS : ∀ b off, a = some ⟨b, off, none⟩ → n ≠ 0 → ¬ S b) : Rz w' a n z := by
  obtain ⟨h1, h2, h3, h4⟩ := h
  refine ⟨h1, h2, h3, ?_⟩
  rcases h4 with h4 | ⟨b, off, rfl, h4⟩
  · exact .inl h4
  · exact .inr ⟨b, off, rfl, fun i hi => hk.cell (h4 i hi) (hS b off rfl (by omega))⟩

/-- in the midst of a Crash: the first i of those open to loss have had their fate -/
structure CPt (s : St) (ks z : List Int) (i : Nat) (t : St) : Prop where
  cap : t.cap = s.cap
  used : t.used = totS t.there
  held : totS t.held ≤ totS s.held
  done : ∀ j, j ∈ ks.take i → t.there j = struck (s.there j) (s.safe j) (fateN z (ks.idxOf j)) ∧ t.safe j = t.there j
  rest : ∀ j, j ∉ ks.take i → t.there j = s.there j ∧ t.safe j = s.safe j

theorem CPt.start {s : St} (ok : Ok s) (ks z : List Int) : CPt s ks z 0 s := ⟨rfl, ok.tot, Nat.le_refl _, (fun j h => by simp at h), fun j _ => ⟨rfl, rfl⟩⟩

theorem struck_same (t : Option (List Nat)) (f : Nat) : struck t t f = t := by
  cases t with
  | none => unfold struck; simp
  | some l => show some (l.take (l.length + f)) = some l; rw [List.take_of_length_le (by omega)]
theorem struck_len {s : St} {j : Int} {f : Nat} {l : List Nat} (h : struck (s.there j) (s.safe j) f = some l) : ∃ m, s.held j = some m ∧ l.length ≤ m.length := by
  have h1 : cost (some l) ≤ cost (s.held j) := by rw [← h]; exact cost_struck _ _ _
  cases e : s.held j with
  | none => rw [e] at h1; simp only [cost] at h1; omega
  | some m => rw [e] at h1; simp only [cost] at h1; exact ⟨m, rfl, by omega⟩

theorem CPt.heldNe {s t : St} {ks z : List Int} {i : Nat} (h : CPt s ks z i t) {j : Int} {l : List Nat} (hj : t.held j = some l) : ∃ m, s.held j = some m ∧ l.length ≤ m.length := by
  by_cases hm : j ∈ ks.take i
  · obtain ⟨h1, h2⟩ := h.done j hm
    unfold St.held at hj
    rw [h2] at hj
    have h3 : t.there j = some l := by
      cases e : t.there j with
      | none => rw [e] at hj; cases hj
      | some m => rw [e] at hj; exact hj
    rw [h1] at h3
    exact struck_len h3
  · obtain ⟨h1, h2⟩ := h.rest j hm
    refine ⟨l, ?_, Nat.le_refl _⟩
    unfold St.held at hj ⊢
    rw [h1, h2] at hj
    exact hj

theorem take_mem {ks : List Int} (hn : ks.Pairwise (· < ·)) {i : Nat} (hi : i < ks.length) : ks[i] ∉ ks.take i ∧ ks.idxOf ks[i] = i ∧ ∀ j, j ∈ ks.take (i + 1) ↔ j ∈ ks.take i ∨ j = ks[i] := by
  have hnd : ks.Nodup := hn.imp fun h => by omega
  refine ⟨fun hm => ?_, ?_, fun j => ?_⟩
  · obtain ⟨m, hm1, hm2⟩ := List.mem_iff_getElem.1 hm
    rw [List.length_take] at hm1
    rw [List.getElem_take] at hm2
    have := (List.pairwise_iff_getElem.1 hn) m i (by omega) hi (by omega)
    omega
  · exact hnd.idxOf_getElem i hi
  · rw [List.take_succ_eq_append_getElem hi]
    simp only [List.mem_append, List.mem_singleton]

theorem CPt.step {s t : St} {ks z : List Int} {i : Nat} (h : CPt s ks z i t) (hn : ks.Pairwise (· < ·)) (hi : i < ks.length) (h1 : 1 ≤ ks[i]) (h2 : ks[i] ≤ 1099511627776) : CPt s ks z (i + 1) (t.strike ks[i] (fateN z i)) := by
  obtain ⟨t1, t2, t3⟩ := take_mem hn hi
  obtain ⟨r1, r2⟩ := h.rest _ t1
  have htu := tot_upd t.there h1 h2 (struck (t.there ks[i]) (t.safe ks[i]) (fateN z i))
  have htl := tot_le t.there h1 h2
  refine ⟨h.cap, ?_, Nat.le_trans (tot_mono fun j => ?_) h.held, fun j hj => ?_, fun j hj => ?_⟩
  · have := h.used
    show t.used + cost _ - cost _ = totS (upd t.there _ _)
    omega
  · by_cases e : j = ks[i]
    · rw [e, strike_held]
      exact cost_struck _ _ _
    · have : (t.strike ks[i] (fateN z i)).held j = t.held j := by unfold St.held St.strike; simp only [upd_other _ _ e]
      rw [this]; exact Nat.le_refl _
  · rcases (t3 j).1 hj with hj | hj
    · have e : j ≠ ks[i] := fun e => t1 (e ▸ hj)
      obtain ⟨d1, d2⟩ := h.done j hj
      unfold St.strike
      simp only [upd_other _ _ e]
      exact ⟨d1, d2⟩
    · rw [hj, t2]
      unfold St.strike
      simp only [upd_same]
      rw [r1, r2]
      exact ⟨rfl, trivial⟩
  · have e : j ≠ ks[i] := fun e => hj ((t3 j).2 (.inr e))
    have hj' : j ∉ ks.take i := fun e' => hj ((t3 j).2 (.inl e'))
    unfold St.strike
    simp only [upd_other _ _ e]
    exact h.rest j hj'

/-- all have had it -/
theorem CPt.end_ {s t : St} {ks z : List Int} (h : CPt s ks z ks.length t) (hn : ks.Pairwise (· < ·)) (hk : ∀ k, k ∈ ks ↔ s.there k ≠ s.safe k) : Crash s z { t with left := none, down := false } := by
  have e : ∀ j, t.there j = struck (s.there j) (s.safe j) (fateN z (ks.idxOf j)) ∧ t.safe j = t.there j := fun j => by
    by_cases hj : j ∈ ks
    · exact h.done j (by rw [List.take_length]; exact hj)
    · obtain ⟨h1, h2⟩ := h.rest j (by rw [List.take_length]; exact hj)
      have : s.there j = s.safe j := Classical.byContradiction fun e => hj ((hk j).2 e)
      rw [h1, h2, ← this, struck_same]
      exact ⟨rfl, rfl⟩
  exact ⟨⟨ks, hn, hk, fun k => (e k).1⟩, funext fun k => (e k).2, h.cap, h.used, rfl, rfl⟩

theorem DIn.low {S : Nat → Prop} {w w1 : World} {p : Nat} {s : St} {bt bo : Nat} {val : Int → Value} (h : DIn S w p s bt bo val) (hk : Keep (fun _ => False) w w1) : CIn (fun i => S i ∧ i < w.heap.size) w1 p s bt bo val (fun k => pastOf (s.there k) (s.safe k) (val k)) := by
  have h1 := h.stay hk fun _ _ _ f => f
  exact ⟨h1.blk, h1.mt, h1.mo, h1.ne, h1.row, h1.one, fun k g a b => ⟨h.own k g a b, by obtain ⟨l, hl⟩ := Option.ne_none_iff_exists'.1 a; exact ((h.row k l hl).1.lt g b).2⟩, ⟨h.sp, (Array.getElem?_eq_some_iff.1 h.blk).1⟩, ⟨h.st, h.mt.lt⟩, ⟨h.so, h.mo.lt⟩⟩

/-- what a Crash leaves -/
def Crashed (S : Nat → Prop) (w : World) (p : Nat) (s : St) (z : List Int) (e : Ending) (w' : World) : Prop := e = .returned (.tuple #[]) ∧ ∃ t, Crash s z t ∧ DAt S w' p t ∧ Keep S w w'

/-- what the loop in Crash keeps -/
structure CLoop (S : Nat → Prop) (w wr : World) (p : Nat) (s : St) (bt bo : Nat) (po : Int → Option Value) (ks z : List Int) (q : Nat) (t : St) (vl : Int → Value) : Prop where
  c : CIn (fun i => S i ∧ i < w.heap.size) wr p t bt bo vl po
  pt : CPt s ks z q t
  vv : ∀ j, j ∉ ks.take q → po j = pastOf (t.there j) (t.safe j) (vl j)
  k : Keep (fun i => S i ∧ i < w.heap.size) w wr

theorem CLoop.step {S : Nat → Prop} {w wr w' : World} {p : Nat} {s : St} {bt bo : Nat} {po : Int → Option Value} {ks z : List Int} {q : Nat} {t : St} {vl : Int → Value} (h : CLoop S w wr p s bt bo po ks z q t vl) (hn : ks.Pairwise (· < ·)) (hi : q < ks.length) (h1 : 1 ≤ ks[q]) (h2 : ks[q] ≤ 1099511627776) {e : Ending}
    (hst : Struck (fun i => S i ∧ i < w.heap.size) wr p t bt bo vl po ks[q] (fateN z q) e w') : ∃ t' vl', CLoop S w w' p s bt bo po ks z (q + 1) t' vl' := by
  obtain ⟨_, ⟨v', hc⟩, hk⟩ := hst
  obtain ⟨_, _, t3⟩ := take_mem hn hi
  refine ⟨_, _, hc, h.pt.step hn hi h1 h2, fun j hj => ?_, h.k.more hk⟩
  have e : j ≠ ks[q] := fun e => hj ((t3 j).2 (.inr e))
  have hj' : j ∉ ks.take q := fun e' => hj ((t3 j).2 (.inl e'))
  rw [h.vv j hj', upd_other _ _ e]
  show _ = pastOf (upd t.there _ _ j) (upd t.safe _ _ j) _
  rw [upd_other _ _ e, upd_other _ _ e]

theorem CLoop.fin {S : Nat → Prop} {w wr w' w2 : World} {p : Nat} {s : St} {bt bo : Nat} {po : Int → Option Value} {ks z : List Int} {t : St} {vl : Int → Value} (h : CLoop S w wr p s bt bo po ks z ks.length t vl) (hn : ks.Pairwise (· < ·)) (hk : ∀ k, k ∈ ks ↔ s.there k ≠ s.safe k)
    (k1 : Keep (fun i => i = bo) wr w') (hm : MapIs w' bo (fun _ => none)) (k2 : Keep (fun i => i = p) w' w2) (hb : w2.heap[p]? = some (.cells (dcells { t with left := none, down := false } bt bo) 68 (0, 0))) : Crashed S w p s z (.returned (.tuple #[])) w2 := by
  have hc := h.pt.end_ hn hk
  have hsf : t.safe = t.there := hc.safe
  have hh : ∀ k, ({ t with left := none, down := false } : St).held k = t.held k := fun k => rfl
  have kk : Keep (fun i => i = bo ∨ i = p) wr w2 := (k1.mono fun i e => .inl e).more (k2.mono fun i e => .inr e)
  refine ⟨rfl, _, hc, ⟨bt, bo, vl, ⟨hb, (h.c.mt.keep k1 h.c.ne).keep k2 (fun e => h.c.pt e.symm), ?_, h.c.ne, fun k l hl => ?_, h.c.one, fun k g a b => (h.c.own k g a b).1, h.c.sp.1, h.c.st.1, h.c.so.1⟩⟩, ?_⟩
  · have e : (fun k => pastOf (({ t with left := none, down := false } : St).there k) (({ t with left := none, down := false } : St).safe k) (vl k)) = fun _ => none := by
      funext k
      show pastOf (t.there k) (t.safe k) (vl k) = none
      rw [hsf, pastOf_none]
    rw [e]; exact hm.keep k2 fun e => h.c.pno e.symm
  · exact (h.c.row k l hl).keep kk fun g hg e => e.elim (h.c.gne hl hg).2.2 (h.c.gne hl hg).1
  · exact ((h.k.mono fun i e => e.1).more (k1.mono fun i e => e ▸ h.c.so.1)).more (k2.mono fun i e => e ▸ h.c.sp.1)

theorem fate_le {z : List Int} (hz : ∀ x ∈ z, -9223372036854775808 ≤ x ∧ x ≤ 9223372036854775807) (i : Nat) : fateN z i ≤ 9223372036854775807 := by
  unfold fateN
  rcases Nat.lt_or_ge i z.length with h | h
  · have : z.getD i 0 = z[i] := by simp [List.getD, h]
    rw [this]
    have := hz _ (List.getElem_mem h)
    omega
  · have : z.getD i 0 = 0 := by simp [List.getD, h]
    rw [this]; decide

theorem ownsRow_ints {w : World} {base n cv : Nat} {av : Option Addr} {ks : List Int} (h : w.ownsRow base 3 1 (.slice av n cv) n (ks.map (Value.int .i64))) (i : Nat) (hi : i < ks.length) : ∃ g, av = some ⟨g, 0, none⟩ ∧ base ≤ g ∧ w.cell? ⟨g, i, none⟩ = some (.int .i64 ks[i]) := by
  rcases h.2 with ⟨h1, h2⟩ | ⟨g, cap, cur, h1, h2, h3⟩
  · have := h.1
    rw [List.length_map] at this
    omega
  · injection h1 with h1 _ _
    subst h1
    refine ⟨g, rfl, h2, ?_⟩
    have := h.cells (g := g) rfl i (.int .i64 ks[i]) (by simp [hi])
    rw [Addr.add_lit, Nat.zero_add] at this
    exact this

set_option maxRecDepth 10000 in
set_option maxHeartbeats 2000000 in
theorem crash_any (S : Nat → Prop) (w : World) (p : Nat) (s : St) (a : Option Addr) (n c : Nat) (z : List Int) (h : DAt S w p s) (ok : Ok s) (hbig : totS s.held < 1152921504606846976) (hz : Rz w a n z) (hzS : ∀ g off, a = some ⟨g, off, none⟩ → n ≠ 0 → ¬ S g) :
    Calls Try.prog 19 #[.pointer (some ⟨p, 0, none⟩), .slice a n c] w (Crashed S w p s z) := by
  obtain ⟨bt, bo, val, h⟩ := h
  have c3 := h.c3
  have HR := hide (rising_O bo _ w h.mo (segO ok))
  have H := hide h
  have HOk := hide ok
  have HBig := hide hbig
  have HZ := hide hz
  have HZS := hide hzS
  have hn17 := hz.2.1
  clear h ok hbig hz hzS
  go_enter Try.func19, Try.ntmps19
  go_wp2_with (go_at_call 44
               refine HR.out.mono ?_
               rintro e w1 ⟨v, ks, rfl, hs, hm, ho, hk⟩
               obtain ⟨av, cv, hv⟩ := ownsRow_shape ho
               subst hv
               have hks : ∀ k, k ∈ ks ↔ s.there k ≠ s.safe k := fun k => by
                 rw [hm k]
                 have := pastOf_isSome (t := s.there k) (s := s.safe k) (v := val k)
                 cases e : pastOf (s.there k) (s.safe k) (val k) <;> simp [e] at this ⊢ <;> exact this
               have hkl : ks.length ≤ 1099511627776 := keys_bound (hs.imp fun h => by omega) fun x hx => by
                 have := HOk.out.seg x (fun e => (hks x).1 hx (by rw [held_iff] at e; rw [e.1, e.2]))
                 omega
               obtain ⟨m, em⟩ : ∃ m, m = ks.length := ⟨_, rfl⟩
               have HO := hide ho
               have HKS := hide hks
               have HPW := hide hs
               have HEM := hide em
               have HK := hide hk
               rw [← em] at hkl ⊢
               clear hs hm ho hk hks em)
  have HC0 : Hid (∀ i (hi : i < ks.length), ∃ g, av = some ⟨g, 0, none⟩ ∧ w.heap.size ≤ g ∧ w1.cell? ⟨g, i, none⟩ = some (.int .i64 ks[i])) := fun i hi => ownsRow_ints HO.out i hi
  go_loopw [13] (fun iv wr => ∃ (q : Nat) (t : St) (vl : Int → Value), q ≤ m ∧ iv = .int .i64 (q : Nat) ∧ Hid (CLoop S w wr p s bt bo (fun k => pastOf (s.there k) (s.safe k) (val k)) ks z q t vl ∧ Keep (fun i => S i ∧ i < w.heap.size) w1 wr)) (fun iv _ => m - (intOf iv).toNat)
  case atStart => exact ⟨0, s, val, Nat.zero_le _, rfl, ⟨H.out.low HK.out, CPt.start HOk.out ks z, fun j _ => rfl, HK.out.mono fun _ f => f.elim⟩, Keep.refl _ _⟩
  case round =>
    obtain ⟨q, t, vl, hqm, rfl, HL⟩ := hrel
    by_cases hq : q < m
    · have hqk : q < ks.length := by rw [← HEM.out]; exact hq
      obtain ⟨g, rfl, hg, hcell⟩ := HC0.out q hqk
      have cg : wr.cell? ⟨g, q, none⟩ = some (.int .i64 ks[q]) := HL.out.2.cell hcell fun e => Nat.not_lt.2 hg e.2
      have hop := (HKS.out ks[q]).1 (List.getElem_mem hqk)
      have hhe : s.held ks[q] ≠ none := fun e => hop (by rw [held_iff] at e; rw [e.1, e.2])
      have hsg := HOk.out.seg _ hhe
      obtain ⟨t1, t2, t3⟩ := take_mem HPW.out hqk
      obtain ⟨r1, r2⟩ := HL.out.1.pt.rest _ t1
      have hub : t.used < 1152921504606846976 := by
        have h1 := HL.out.1.pt.held
        have h2 := HBig.out
        have h3 := HL.out.1.pt.used
        have h4 := tot_away t
        omega
      have HSt : Hid (Calls Try.prog 45 #[.pointer (some ⟨p, 0, none⟩), .int .i64 ks[q], .int .i64 (fateN z q)] wr fun e w' => e = .returned (.tuple #[]) ∧ (∃ t' vl', CLoop S w w' p s bt bo (fun k => pastOf (s.there k) (s.safe k) (val k)) ks z (q + 1) t' vl') ∧ Keep (fun i => S i ∧ i < w.heap.size) w1 w') := by
        refine (strike_any _ wr p t bt bo vl _ ks[q] (fateN z q) HL.out.1.c hsg.1 hsg.2 (HL.out.1.vv _ t1) (by rw [r1, r2]; exact hop) (fate_le HZ.out.2.2.1 q) HL.out.1.pt.used hub ?_ ?_ ?_).mono fun e w' hst => ⟨hst.1, HL.out.1.step HPW.out hqk hsg.1 hsg.2 hst, HL.out.2.more hst.2.2⟩
        · intro l m' h1 h2
          rw [r1] at h1
          rw [r2] at h2
          exact (HOk.out.pre _ l m' h1 h2).1
        · intro l hl
          obtain ⟨m', h1, h2⟩ := HL.out.1.pt.heldNe hl
          have := HOk.out.len _ m' h1
          omega
        · intro j hj
          have hj' : t.there j ≠ none := fun e => hj (by show Option.map _ (t.there j) = none; rw [e]; rfl)
          obtain ⟨l, hl⟩ := Option.ne_none_iff_exists'.1 hj'
          obtain ⟨m', h1, _⟩ := HL.out.1.pt.heldNe (j := j) (l := l) (by unfold St.held; rw [hl])
          exact HOk.out.seg j (by rw [h1]; simp)
      have hq0 : (q : Int) < m := by omega
      have hw : wrap64 ((q : Int) + 1) = ((q + 1 : Nat) : Int) := wr' (by omega) (by omega) (by omega)
      have HQ := hide (show q + 1 ≤ m by omega)
      generalize ks[q] = kq at *
      clear hop hhe hsg t1 t2 t3 r1 r2 hub hqm hcell
      by_cases hqn : q < n
      · have hfc : ∃ b off, a = some ⟨b, off, none⟩ ∧ wr.cell? ⟨b, off + q, none⟩ = some (.int .i64 (z.getD q 0)) := by
          rcases HZ.out.2.2.2 with h0 | ⟨b, off, rfl, hc⟩
          · omega
          · exact ⟨b, off, rfl, HL.out.2.cell (HK.out.cell (hc q hqn) fun f => f) fun e => HZS.out b off rfl (by omega) e.1⟩
        obtain ⟨b, off, rfl, hfc⟩ := hfc
        have hmx := max_run (z.getD q 0) 0 ((fateN z q : Nat) : Int) (by unfold fateN; split <;> omega)
        have hqn0 : (q : Int) < n := by omega
        generalize z.getD q 0 = zq at *
        go_wp2_with (go_at_call 45; refine HSt.out.mono ?_; rintro e w2 ⟨rfl, hl2, hk2⟩; obtain ⟨t', vl', hl3⟩ := hl2; have HL3 := hide (And.intro hl3 hk2); clear hl3 hk2)
        go_roundw
        case rel => exact ⟨q + 1, t', vl', HQ.out, rfl, HL3⟩
        case measure => show m - (((q + 1 : Nat) : Int)).toNat < m - ((q : Int)).toNat; omega
      · have hfz : fateN z q = 0 := by
          unfold fateN
          rw [show z.getD q 0 = 0 by have := HZ.out.1; simp [List.getD]; rw [List.getElem?_eq_none (by omega)]; rfl]
          rfl
        rw [hfz] at HSt
        have hqn0 : ¬ (q : Int) < n := by omega
        go_wp2_with (go_at_call 45; refine HSt.out.mono ?_; rintro e w2 ⟨rfl, hl2, hk2⟩; obtain ⟨t', vl', hl3⟩ := hl2; have HL3 := hide (And.intro hl3 hk2); clear hl3 hk2)
        go_roundw
        case rel => exact ⟨q + 1, t', vl', HQ.out, rfl, HL3⟩
        case measure => show m - (((q + 1 : Nat) : Int)).toNat < m - ((q : Int)).toNat; omega
    · obtain rfl : q = m := by omega
      have hlp := HL.out.1
      rw [HEM.out] at hlp
      obtain ⟨w2, hcl, m2, k2, _⟩ := hlp.c.mo.clear mapO 0
      have c3' := hlp.c.c3
      have b2 := k2.blk hlp.c.blk hlp.c.pno
      have d4 := cell_blk b2 4 (v := .bool t.left.isSome) rfl
      have d5 := cell_blk b2 5 (v := .int .i64 (t.left.getD 0 : Nat)) rfl
      have d6 := cell_blk b2 6 (v := .bool t.down) rfl
      have e4 := frozen_blk b2 4
      have e5 := frozen_blk b2 5
      have e6 := frozen_blk b2 6
      have HF : Hid (∀ w3, Keep (fun i => i = p) w2 w3 → w3.heap[p]? = some (.cells (dcells { t with left := none, down := false } bt bo) 68 (0, 0)) → Crashed S w p s z (.returned (.tuple #[])) w3) := fun w3 k3 hb => hlp.fin HPW.out HKS.out k2 m2 k3 hb
      have B2 := hide b2
      have hqq : ¬ (q : Int) < q := by omega
      clear hlp m2 k2 b2 HL hq
      go_wp2
      refine bodyPost_ret (v := .tuple #[]) (by simp [results, Try.results19, go_sem]) rfl (HF.out _ (((keep_cell w2 p 4 _).more (keep_cell _ p 5 _)).more (keep_cell _ p 6 _)) ?_)
      rw [set_blk (set_blk (set_blk B2.out 4 _) 5 _) 6 _]
      rfl

end Go.Proofs.Ytilpidioengnbaa
