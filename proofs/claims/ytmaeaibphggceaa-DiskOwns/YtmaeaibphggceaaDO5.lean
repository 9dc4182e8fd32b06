/- DiskOwns: the second loop: the same steps, done to the disk e out of copies. -/
import Derived.Test.YtmaeaibphggceaaDOnx
namespace Go.Proofs.Ytmaeaibphggceaa
open Go.RowKit Go.Lib

/-- the same step, its lists copied -/
def Stp.cloned (q : Stp) (ba : Option Addr) (bc : Nat) (fa : Option Addr) (fc : Nat) : Stp := { q with ba := ba, bc := bc, fa := fa, fc := fc }
theorem Stp.cloned_like (q : Stp) (ba : Option Addr) (bc : Nat) (fa : Option Addr) (fc : Nat) : (q.cloned ba bc fa fc).like q := ⟨rfl, rfl, rfl, rfl, rfl, rfl, rfl, rfl⟩
theorem Stp.cloned_ok {W w : World} {q : Stp} (hs : StpOk W q) {ba fa : Option Addr} {bc fc : Nat} (rb : Rd w ba q.b.length q.b) (rf : Rz w fa q.fate.length q.fate) : StpOk w (q.cloned ba bc fa fc) := ⟨hs.which, hs.what, hs.seg, hs.n, hs.mask, rb, rf⟩
theorem Stp.cloned_out {q : Stp} {ba fa : Option Addr} {bc fc : Nat} {S : Nat → Prop} (h1 : ∀ g off, ba = some ⟨g, off, none⟩ → ¬ S g) (h2 : ∀ g off, fa = some ⟨g, off, none⟩ → ¬ S g) : (q.cloned ba bc fa fc).out S := ⟨fun g off e _ => h1 g off e, fun g off e _ => h2 g off e⟩
/-- between two steps of the second loop -/
structure Ow5 (w6 : World) (lo2 gR p2 : Nat) (s0 : St) (qs : List Stp) (cs : List Int) (j : Nat) (m : St) (w : World) : Prop where
  e : ∃ S, Dk S w p2 m ∧ ∀ k, S k → lo2 ≤ k ∧ (k < gR ∨ w6.heap.size ≤ k)
  g : Good j m
  run : RunTo s0 (qs.take j) (cs.take j) m
  k : Keep (fun k => lo2 ≤ k ∧ k < gR) w6 w
variable {W w6 : World} {lo1 lo2 : Nat} {w5 : World} {gR gY m2 l1 p p2 : Nat} {s0 : St} {qs : List Stp} {i j : Nat} {cs : List Int} {s m : St} {cv : Value} {wr : World}
theorem Ow5.begin_ (h : OwI W lo1 lo2 w5 gR gY m2 l1 p p2 s0 (fun i => lo2 ≤ i ∧ i < gR) qs i cs s cv w6) (g0 : Good 0 s0) : Ow5 w6 lo2 gR p2 s0 qs cs 0 s0 w6 :=
  ⟨⟨_, h.e, fun k e => ⟨e.1, .inl e.2⟩⟩, g0, by rw [List.take_zero, List.take_zero]; rfl, Keep.refl _ _⟩
/-- what came in, in the second loop -/
theorem Ow5.wk (h5 : Ow5 w6 lo2 gR p2 s0 qs cs j m wr) (h : OwI W lo1 lo2 w5 gR gY m2 l1 p p2 s0 (fun i => lo2 ≤ i ∧ i < gR) qs i cs s cv w6) (o : Ord5 W lo1 lo2 w5 gR gY) : Keep (fun k => W.heap.size ≤ k) W wr :=
  h.wk.low h5.k fun b _ hT => by have := o.a; have := o.b; omega
theorem Ow5.cd (h5 : Ow5 w6 lo2 gR p2 s0 qs cs j m wr) (h : OwI W lo1 lo2 w5 gR gY m2 l1 p p2 s0 (fun i => lo2 ≤ i ∧ i < gR) qs i cs s cv w6) (o : Ord5 W lo1 lo2 w5 gR gY) : wr.ownsRow w5.heap.size 31 1 cv i (Zv cs) :=
  ownsRow_keep h.cd h5.k fun k e hT => by have := (h.cd.lt k e).1; have := o.d; have := o.e; omega
theorem Ow5.next {S S' : Nat → Prop} {w10 w11 w12 : World} {t : St} {qq : Stp} {c' : Int} (h : Ow5 w6 lo2 gR p2 s0 qs cs j m wr) (hlo : lo2 ≤ w6.heap.size) (full : RunTo s0 qs cs s) (hq : qs[j]? = some qq)
    (hSr : ∀ k, S k → lo2 ≤ k ∧ (k < gR ∨ w6.heap.size ≤ k)) (k10 : Keep (fun _ => False) wr w10) (hn : Dn S w10 S' w11 p2 t (j + 1)) (hst : StepTo m qq c' t) (k12 : Keep (fun _ => False) w11 w12) :
    cs[j]? = some c' ∧ Ow5 w6 lo2 gR p2 s0 qs cs (j + 1) t w12 := by
  obtain ⟨e1, e2⟩ := full.next j hq h.run hst
  have h1 := h.k.size
  have h2 := k10.size
  refine ⟨e1, ⟨S', hn.d.new k12, fun k hk => ?_⟩, hn.g, e2, ((h.k.low k10 fun _ _ f => f.elim).low hn.k fun b hb hs => ?_).low k12 fun _ _ f => f.elim⟩
  · rcases hn.sub k hk with e | e
    · exact hSr k e
    · exact ⟨by omega, .inr (by omega)⟩
  · have := hSr b hs
    exact ⟨this.1, this.2.elim id fun e => by omega⟩
theorem Ow5.stay {w w' : World} (h : Ow5 w6 lo2 gR p2 s0 qs cs j m w) (k : Keep (fun _ => False) w w') : Ow5 w6 lo2 gR p2 s0 qs cs j m w' := by
  obtain ⟨S, hd, hr⟩ := h.e
  exact ⟨⟨S, hd.new k, hr⟩, h.g, h.run, h.k.low k fun _ _ f => f.elim⟩
/-- both disks behind the two loops, side by side -/
structure Ow6 (W w6 : World) (w : World) (p p2 n : Nat) (s : St) : Prop where
  de : ∃ S E : Nat → Prop, Dk S w p s ∧ Dk E w p2 s ∧ (∀ k, S k → ¬ E k) ∧ (∀ k, S k → W.heap.size ≤ k) ∧ ∀ k, E k → W.heap.size ≤ k
  g : Good n s
  wk : Keep (fun k => W.heap.size ≤ k) W w
theorem Ow5.end_ (h5 : Ow5 w6 lo2 gR p2 s0 qs cs j m wr) (h : OwI W lo1 lo2 w5 gR gY m2 l1 p p2 s0 (fun i => lo2 ≤ i ∧ i < gR) qs i cs s cv w6) (o : Ord5 W lo1 lo2 w5 gR gY) (hi : i = qs.length) (hj : j = qs.length) : Ow6 W w6 wr p p2 i s := by
  have hr := h.run
  have hr5 := h5.run
  rw [hi, List.take_length] at hr
  rw [hj, List.take_length] at hr5
  have hcl := hr.len
  rw [hcl, List.take_length] at hr5
  obtain ⟨_, e⟩ := hr5.uniq hr
  subst e
  obtain ⟨S, hd, hSr, _⟩ := h.d
  obtain ⟨E, he, hEr⟩ := h5.e
  obtain ⟨oa, ob, oc, od, oe⟩ := o
  have h56 := h.k.size
  refine ⟨⟨S, E, hd.stay h5.k fun k hk hT => ?_, he, fun k h1 h2 => ?_, fun k hk => ?_, fun k hk => ?_⟩, by rw [hi, ← hj]; exact h5.g, h5.wk h ⟨oa, ob, oc, od, oe⟩⟩
  · have := hSr k hk
    omega
  · have g1 := hSr k h1
    have g2 := hEr k h2
    have g3 := hd.lt k h1
    omega
  · have := hSr k hk; omega
  · have := hEr k hk; omega
/-- a disk crashes: the other one stays -/
theorem Dk.crashed {S : Nat → Prop} {w w' : World} {p : Nat} {t : St} (hl : ∀ i, S i → i < w.heap.size) (hd : DAt S w' p t) (k : Keep S w w') : Dk S w' p t := ⟨hd, fun i e => Nat.lt_of_lt_of_le (hl i e) k.size⟩
end Go.Proofs.Ytmaeaibphggceaa
