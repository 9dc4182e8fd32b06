/- RunBacks: what stands between its steps. -/
import Derived.Test.YtiackejbpcjmeaaRCpF
import Derived.Test.YtiackejbpcjmeaaRSCh
import Derived.Test.YtiackejbpcjmeaaRDoe
namespace Go.Proofs.Ytiackejbpcjmeaa
namespace Rn
open Go.RowKit Gr

theorem chg_kept {T : Nat → Prop} {S : Nat → Prop} {w w' : World} {u : Value} {c : Chg} (h : ChgAt T w u c) (k : Keep S w w') (hS : ∀ i, S i → w.heap.size ≤ i ∨ T i) : ChgAt T w' u c := by
  obtain ⟨d, s, r, e, h1, h2, h3⟩ := h
  exact ⟨d, s, r, e, h1.keep k hS, h2.keep k hS, h3.keep k hS⟩
/-- a run that is new, and what is known of its plan -/
def MadR (xs : List No) (nm : ByteArray) (w : World) (e : Ending) (w' : World) : Prop :=
  ∃ (p : Rp) (d sk r : Option Addr × Nat × Nat), e = .returned (.tuple #[.pointer (some ⟨p.P, 0, none⟩), .agg #[.slice d.1 d.2.1 d.2.2, .slice sk.1 sk.2.1 sk.2.2, .slice r.1 r.2.1 r.2.2, .int .i64 (newR (xs.map nx)).2.stt], .int .i64 0]) ∧ w.heap.size ≤ p.P ∧ w.heap.size ≤ p.G ∧ p.xs.map er = xs.map er ∧ p.nm = nm ∧ CapP p.xs ∧ RunAt (fun k => k = p.P ∨ k = p.G) w' p.P p.G p.nm p.dl p.s p.xs (newR (xs.map nx)).2 ∧ Below w.heap.size w w'
theorem made_r {nm : ByteArray} {dl : Int} {xs ys0 : List No} {s : Option Addr × Nat × Nat} {w w' : World} {e : Ending} (c : Cp nm dl xs ys0 s w) (hck : (chk nm dl xs).2 = 0) (h : NewEnd2 nm dl ys0 w e w') : MadR xs nm w e w' := by
  obtain ⟨hb, hE⟩ := h
  rcases hE with ⟨hn, rfl⟩ | ⟨_, P, G, sp, ys, v, rfl, hPs, hGs, hye, hch, hR, hcp⟩
  · exact absurd (by rw [c.chk]; exact hck) hn
  · have hyx := hye.trans c.er
    rw [c.er |> map_nx] at hch hR
    obtain ⟨d, sk, r, rfl, _, _, _⟩ := hch
    exact ⟨⟨P, G, nm, dl, sp, ys⟩, d, sk, r, rfl, hPs, hGs, hyx, rfl, hcp, hR.less (fun k hk => by rcases hk with h | h; exact .inl h; exact .inr (.inl h)) (.inl rfl) (.inr rfl), hb⟩
/-- the blocks of three runs -/
def T6b (p q r : Rp) (k : Nat) : Prop := (k = p.P ∨ k = p.G) ∨ (k = q.P ∨ k = q.G) ∨ k = r.P ∨ k = r.G
theorem RunAt.later2 {T : Nat → Prop} {w : World} {P G : Nat} {nm : ByteArray} {dl : Int} {s : Option Addr × Nat × Nat} {xs : List No} {R : Rs} (h : RunAt T w P G nm dl s xs R) : ∀ (U : Nat → Prop) (W : World), Keep (fun _ => False) w W → (∀ k, U k → T k ∨ w.heap.size ≤ k) → U P → U G → RunAt U W P G nm dl s xs R :=
  fun U _ k hU hP hG => (h.wide (U := U) hU hP hG).new k
theorem RunAt.lts2 {T : Nat → Prop} {w : World} {P G : Nat} {nm : ByteArray} {dl : Int} {s : Option Addr × Nat × Nat} {xs : List No} {R : Rs} (h : RunAt T w P G nm dl s xs R) : P < w.heap.size ∧ G < w.heap.size ∧ P ≠ G := by
  obtain ⟨_, h1⟩ := h.blk
  obtain ⟨_, h2⟩ := h.prt
  exact ⟨(Array.getElem?_eq_some_iff.1 h1).1, (Array.getElem?_eq_some_iff.1 h2).1, h.ne⟩
/-- three runs: wa, wb, wc: worlds in which they were; b0, c0: ahead of the second and the third -/
theorem tr_made {w1 wa wb wc b0 c0 W : World} {p q r : Rp} {A B C : Rs}
    (ha : RunAt (fun k => k = p.P ∨ k = p.G) wa p.P p.G p.nm p.dl p.s p.xs A) (hb : RunAt (fun k => k = q.P ∨ k = q.G ∨ k < b0.heap.size) wb q.P q.G q.nm q.dl q.s q.xs B) (hc : RunAt (fun k => k = r.P ∨ k = r.G ∨ k < c0.heap.size) wc r.P r.G r.nm r.dl r.s r.xs C)
    (la : w1.heap.size ≤ p.P ∧ w1.heap.size ≤ p.G) (lb : wa.heap.size ≤ b0.heap.size ∧ b0.heap.size ≤ q.P ∧ b0.heap.size ≤ q.G) (lc : wb.heap.size ≤ c0.heap.size ∧ c0.heap.size ≤ r.P ∧ c0.heap.size ≤ r.G)
    (ka : Keep (fun _ => False) wa W) (kb : Keep (fun _ => False) wb W) (kc : Keep (fun _ => False) wc W) (hB : Below w1.heap.size w1 W) : Tr (T6b p q r) w1 p q r A B C W := by
  obtain ⟨a1, a2, a3⟩ := ha.lts2
  obtain ⟨b1, b2, b3⟩ := hb.lts2
  obtain ⟨c1, c2, c3⟩ := hc.lts2
  have s1 := ka.size
  have s2 := kb.size
  have s3 := kc.size
  refine ⟨ha.later2 _ W ka (fun k hk => ?_) (.inl (.inl rfl)) (.inl (.inr rfl)), hb.later2 _ W kb (fun k hk => ?_) (.inr (.inl (.inl rfl))) (.inr (.inl (.inr rfl))), hc.later2 _ W kc (fun k hk => ?_) (.inr (.inr (.inl rfl))) (.inr (.inr (.inr rfl))), hB, fun k hk => ?_, ?_, ?_, ?_, fun k hk => ?_⟩
  · rcases hk with (h | h) | (h | h) | h | h
    · exact .inl (.inl h)
    · exact .inl (.inr h)
    · right; omega
    · right; omega
    · right; omega
    · right; omega
  · rcases hk with (h | h) | (h | h) | h | h
    · left; right; right; omega
    · left; right; right; omega
    · exact .inl (.inl h)
    · exact .inl (.inr (.inl h))
    · right; omega
    · right; omega
  · rcases hk with (h | h) | (h | h) | h | h
    · left; right; right; omega
    · left; right; right; omega
    · left; right; right; omega
    · left; right; right; omega
    · exact .inl (.inl h)
    · exact .inl (.inr (.inl h))
  · rcases hk with (h | h) | (h | h) | h | h <;> omega
  · refine ⟨?_, ?_, ?_, ?_⟩ <;> omega
  · refine ⟨?_, ?_, ?_, ?_⟩ <;> omega
  · refine ⟨?_, ?_, ?_, ?_⟩ <;> omega
  · rcases hk with (h | h) | (h | h) | h | h <;> omega
/-- what was told stays while a run steps -/
theorem td_step {T : Nat → Prop} {w w' : World} {z : Rp} {Z : Rs} {v : Value} {ps : List Pt} (ht : ∃ b, TdAt b w v ps) (hz : z.At T w Z) (k : Keep (fun k => k = z.P ∨ k = z.G) w w') : ∃ b, TdAt b w' v ps := by
  obtain ⟨b, hb⟩ := ht
  obtain ⟨c, h1⟩ := hz.blk
  obtain ⟨c2, h2⟩ := hz.prt
  refine ⟨b, hb.keep k fun i cur hi => ?_⟩
  rcases hi with rfl | rfl
  · rw [h1]
    exact ⟨fun e => (by injection e with e; injection e with _ e _; exact absurd e (by decide)), fun e => (by injection e with e; injection e with _ e _; exact absurd e (by decide))⟩
  · rw [h2]
    exact ⟨fun e => (by injection e with e; injection e with _ e _; exact absurd e (by decide)), fun e => (by injection e with e; injection e with _ e _; exact absurd e (by decide))⟩
theorem td_new {w w' : World} {v : Value} {ps : List Pt} (ht : ∃ b, TdAt b w v ps) (k : Keep (fun _ => False) w w') : ∃ b, TdAt b w' v ps := by
  obtain ⟨b, hb⟩ := ht
  exact ⟨b, hb.new k⟩
/-- the run that steps alone -/
structure So (w1 : World) (p : Rp) (R : Rs) (w : World) : Prop where
  run : RunAt (fun k => k = p.P ∨ k = p.G) w p.P p.G p.nm p.dl p.s p.xs R
  bel : Below w1.heap.size w1 w
  hi : w1.heap.size ≤ p.P ∧ w1.heap.size ≤ p.G
theorem So.new {w1 w w' : World} {p : Rp} {R : Rs} (h : So w1 p R w) (k : Keep (fun _ => False) w w') : So w1 p R w' := ⟨h.run.new k, h.bel.trans (k.below h.bel.size fun _ f => f.elim), h.hi⟩
theorem So.step {w1 w w' : World} {p : Rp} {R X : Rs} (h : So w1 p R w) (k : Keep (fun k => k = p.P ∨ k = p.G) w w') (hr : RunAt (fun k => k = p.P ∨ k = p.G) w' p.P p.G p.nm p.dl p.s p.xs X) : So w1 p X w' := ⟨hr, h.bel.trans (k.below h.bel.size fun i hi => by have := h.hi; omega), h.hi⟩
theorem So.lt {w1 w : World} {p : Rp} {R : Rs} (h : So w1 p R w) : ∀ k, (k = p.P ∨ k = p.G) → k < w.heap.size := fun k hk => by have := h.run.lts2; omega
end Rn
end Go.Proofs.Ytiackejbpcjmeaa
