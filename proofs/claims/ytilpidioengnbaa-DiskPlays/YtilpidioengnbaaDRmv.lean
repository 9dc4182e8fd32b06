/- Package disk: Remove. -/
import Derived.Test.YtilpidioengnbaaDRem
namespace Go.Proofs.Ytilpidioengnbaa
open Go.RowKit Go.Lib

section
variable {S : Nat → Prop} {w w1 w2 w3 : World} {p : Nat} {s : St} {bt bo : Nat} {val : Int → Value} {k : Int} {l : List Nat}
/-- the disk behind drop and the change of what is open to loss -/
theorem DIn.removed (h : DIn S w p s bt bo val) (hS : ∀ i, w.heap.size ≤ i → S i) (ht : s.there k = some l) {W0 : World} (k0 : Keep (fun _ => False) w W0) {e : Ending} (hd : Dropped W0 p s bt bo val k l e w1)
    (v' : Value) (k2 : Keep (fun i => (val k).ownBlock = some i) w1 w2) (k3 : Keep (fun i => i = bo) w2 w3)
    (m3 : MapIs w3 bo (upd (fun j => pastOf (s.there j) (s.safe j) (val j)) k (pastOf none (s.safe k) v')))
    (hr : ∀ m, s.safe k = some m → Row w2 v' m) (hv : v'.ownBlock = (val k).ownBlock) : DIn S w3 p { s with there := upd s.there k none, used := s.used - (64 + l.length) } bt bo (upd val k v') := by
  obtain ⟨_, hb, mt, k1⟩ := hd
  have hh : s.held k = some l := by unfold St.held; rw [ht]
  have hg : ∀ g, (val k).ownBlock = some g → g ≠ p ∧ g ≠ bt ∧ g ≠ bo := fun g e => h.gne hh e
  refine h.change hS k v' _ (fun j e => ⟨upd_other _ _ e, rfl⟩) ?_ ?_ ?_ ?_ ?_ (.inl ⟨hv, by rw [hh]; simp⟩)
  · exact (((k0.mono fun _ f => f.elim).more (k1.mono fun i e => e.elim .inl fun e => .inr (.inl e))).more (k2.mono fun i e => .inr (.inr (.inr ⟨e, by rw [hh]; simp⟩)))).more (k3.mono fun i e => .inr (.inr (.inl e)))
  · exact k3.blk (k2.blk hb fun e => (hg p e).1 rfl) fun e => h.po e
  · have := (mt.keep k2 fun e => (hg bt e).2.1 rfl).keep k3 h.ne
    simpa [upd_same] using this
  · simpa [upd_same] using m3
  · intro m hm
    simp [St.held, upd_same] at hm
    exact (hr m hm).keep k3 fun g e e' => (hg g (by rw [← hv]; exact e)).2.2 e'
end

set_option maxRecDepth 10000 in
set_option maxHeartbeats 2000000 in
/-- a new one -/
theorem remove_new (S : Nat → Prop) (w : World) (p : Nat) (s : St) (bt bo : Nat) (val : Int → Value) (k : Int) (l : List Nat) (h : DIn S w p s bt bo val) (h1 : -9223372036854775808 ≤ k) (h2 : k ≤ 9223372036854775807) (hS : ∀ i, w.heap.size ≤ i → S i)
    (hd : s.down = false) (ht : s.there k = some l) (hs : s.safe k = none) (hu : 64 + l.length ≤ s.used) (hb : s.used < 1152921504606846976) (hlf : ∀ n, s.left = some n → n ≤ 9223372036854775807) :
    Calls Try.prog 31 #[.pointer (some ⟨p, 0, none⟩), .int .i64 k] w (Did S w p ({ s with there := upd s.there k none, used := s.used - (64 + l.length) } : St).spend) := by
  have c3 := h.c3
  have hl2 := (h.mo.look mapO zeroP h1 h2 0).1
  rw [show w.drewN 0 = w from rfl] at hl2
  have hpo : pastOf (some l) none (val k) = some (.agg #[.bool false, .int .i64 0, .slice none 0 0]) := by simp [pastOf]
  simp only [ht, hs, hpo, Option.getD_some, Option.isSome_some] at hl2
  have hfv : foundV s val k = val k := by simp [foundV, hd, ht]
  have hfc : s.find k = 0 := by simp [St.find, hd, ht]
  have HF := hide (find_any S w p s bt bo val k h h1 h2)
  rw [hfv, hfc] at HF
  have hk0 : Keep (fun _ => False) w (w.alloc (.cells #[.bool false, .int .i64 0, .slice none 0 0] 71)) := Keep.alloc _ _ _
  have H0 := hide (h.stay hk0 fun _ _ _ f => f)
  have HDr := hide (drop_any S _ p s bt bo val k l H0.out h1 h2 ht hu hb)
  have hne1 : w.heap.size ≠ p := fun e => by have := (Array.getElem?_eq_some_iff.1 h.blk).1; omega
  have hne2 : w.heap.size ≠ bt := fun e => by have := h.mt.lt; omega
  have a0 : (w.alloc (.cells #[.bool false, .int .i64 0, .slice none 0 0] 71)).cell? ⟨w.heap.size, 0, none⟩ = some (.bool false) := by
    rw [cell_of_row _ _ _ _ _ _ (heap_alloc_new w _)]; rfl
  obtain ⟨av, cv, hv⟩ := ownsRow_shape (h.row k l (by unfold St.held; rw [ht])).1
  rw [hv] at HF
  have H := hide h
  have HK0 := hide hk0
  have HS := hide hs
  have HT := hide ht
  have HSS := hide hS
  have HL := hide hlf
  clear h hS hd ht hs hu hb hlf hpo hfv hfc hk0 hv
  go_enter Try.func31, Try.ntmps31
  go_wp2_with (first
    | (go_at_call 49; refine HF.out.mono ?_; rintro e w' ⟨rfl, rfl⟩)
    | (go_at_call 52
       refine HDr.out.mono ?_
       rintro e w1 hdr
       obtain rfl := hdr.1
       have HD1 := hide hdr
       have b0 := hdr.2.2.2.cell a0 (fun e => e.elim hne1 hne2)
       have c3' : w1.cell? ⟨p, 3, none⟩ = some (.map (some bo)) := cell_blk hdr.2.1 3 rfl
       have M1 := hide (H0.out.mo.keep hdr.2.2.2 fun e => e.elim (fun e => H.out.po e.symm) fun e => H.out.ne e.symm)
       clear hdr)
    | (at_delete
       refine wpList_drop rfl _ _ 66 rfl 71 mapO bo _ k rfl rfl M1.out h1 h2 ?_
       intro w3 m3 k3 _
       have M3 := hide m3
       have K3 := hide k3
       clear m3 k3)
    | (go_at_call 48
       have HD := H.out.removed (w2 := w1) (k := k) HSS.out HT.out HK0.out HD1.out (val k) (Keep.refl _ _) K3.out (by rw [HS.out, pastOf_none]; exact M3.out) (fun m e => by rw [HS.out] at e; cases e) rfl
       refine (spend_any S _ p _ bt bo _ HD HL.out).mono ?_
       rintro e w5 ⟨rfl, H5, K5⟩
       have H5' := hide H5
       have K5' := hide K5
       clear H5 K5 HD))
  go_ret
  refine ⟨rfl, ⟨_, _, _, H5'.out⟩, ?_⟩
  exact (((HK0.out.mono fun _ f => f.elim).more (HD1.out.2.2.2.mono fun i e => e.elim (fun e => e ▸ H.out.sp) fun e => e ▸ H.out.st)).more (K3.out.mono fun i e => e ▸ H.out.so)).more (K5'.out.mono fun i e => e ▸ H.out.sp)

end Go.Proofs.Ytilpidioengnbaa
