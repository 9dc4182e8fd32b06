/- Package disk: a disk that changes at one segment; Create. -/
import Derived.Test.YtilpidioengnbaaDOp
namespace Go.Proofs.Ytilpidioengnbaa
open Go.RowKit Go.Lib

theorem pastOf_none {t : Option (List Nat)} {v : Value} : pastOf t t v = none := by simp [pastOf]
/-- the shape of what is said of one -/
theorem pastOf_shape (t s : Option (List Nat)) (v : Value) : ∃ x y u, (pastOf t s v).getD (.agg #[.bool false, .int .i64 0, .slice none 0 0]) = .agg #[.bool x, .int .i64 y, u] ∧ (u = .slice none 0 0 ∨ u = v ∧ t = none) := by
  unfold pastOf
  by_cases h : t = s
  · rw [if_pos h]; exact ⟨_, _, _, rfl, .inl rfl⟩
  · rw [if_neg h]
    cases t <;> cases s
    · exact absurd rfl h
    · exact ⟨_, _, _, rfl, .inr ⟨rfl, rfl⟩⟩
    · exact ⟨_, _, _, rfl, .inl rfl⟩
    · exact ⟨_, _, _, rfl, .inl rfl⟩
theorem pastOf_isSome {t s : Option (List Nat)} {v : Value} : (pastOf t s v).isSome = decide (t ≠ s) := by
  unfold pastOf
  by_cases h : t = s <;> simp [h]

section
variable {S : Nat → Prop} {w w' : World} {p : Nat} {s : St} {bt bo : Nat} {val : Int → Value}

theorem held_iff (s : St) (k : Int) : s.held k = none ↔ s.there k = none ∧ s.safe k = none := by
  unfold St.held
  cases s.there k <;> simp

theorem DIn.change (h : DIn S w p s bt bo val) (hS : ∀ i, w.heap.size ≤ i → S i) (k : Int) (v' : Value) (s' : St)
    (hj : ∀ j, j ≠ k → s'.there j = s.there j ∧ s'.safe j = s.safe j)
    (hk : Keep (fun i => i = p ∨ i = bt ∨ i = bo ∨ (val k).ownBlock = some i ∧ s.held k ≠ none) w w')
    (hb : w'.heap[p]? = some (.cells (dcells s' bt bo) 68 (0, 0)))
    (mt : MapIs w' bt (upd (fun j => (s.there j).map fun _ => val j) k ((s'.there k).map fun _ => v')))
    (mo : MapIs w' bo (upd (fun j => pastOf (s.there j) (s.safe j) (val j)) k (pastOf (s'.there k) (s'.safe k) v')))
    (hrow : ∀ l, s'.held k = some l → Row w' v' l)
    (hloc : (v'.ownBlock = (val k).ownBlock ∧ s.held k ≠ none) ∨ ∀ g, v'.ownBlock = some g → w.heap.size ≤ g) : DIn S w' p s' bt bo (upd val k v') := by
  have hh : ∀ j, j ≠ k → s'.held j = s.held j := fun j e => by unfold St.held; rw [(hj j e).1, (hj j e).2]
  have hloc' : ∀ j g, j ≠ k → s.held j ≠ none → (val j).ownBlock = some g → v'.ownBlock ≠ some g := fun j g hne hjn hg e => by
    obtain ⟨l, hl⟩ := Option.ne_none_iff_exists'.1 hjn
    rcases hloc with ⟨h1, h2⟩ | h1
    · exact hne (h.one j k g hjn h2 hg (by rw [← h1]; exact e))
    · have := h1 g e
      have := ((h.row j l hl).1.lt g hg).2
      omega
  refine ⟨hb, ?_, ?_, h.ne, fun j l hl => ?_, fun j j' g a b c d => ?_, fun j g a b => ?_, h.sp, h.st, h.so⟩
  · have e : (fun j => (s'.there j).map fun _ => upd val k v' j) = upd (fun j => (s.there j).map fun _ => val j) k ((s'.there k).map fun _ => v') := by
      funext j
      by_cases e : j = k
      · subst e; rw [upd_same, upd_same]
      · rw [upd_other _ _ e, upd_other _ _ e, (hj j e).1]
    rw [e]; exact mt
  · have e : (fun j => pastOf (s'.there j) (s'.safe j) (upd val k v' j)) = upd (fun j => pastOf (s.there j) (s.safe j) (val j)) k (pastOf (s'.there k) (s'.safe k) v') := by
      funext j
      by_cases e : j = k
      · subst e; rw [upd_same, upd_same]
      · rw [upd_other _ _ e, upd_other _ _ e, (hj j e).1, (hj j e).2]
    rw [e]; exact mo
  · by_cases e : j = k
    · subst e; rw [upd_same]; exact hrow l hl
    · rw [upd_other _ _ e]
      rw [hh j e] at hl
      refine (h.row j l hl).keep hk fun g hg hx => ?_
      obtain ⟨n1, n2, n3⟩ := h.gne hl hg
      rcases hx with hx | hx | hx | ⟨hx, hn⟩
      · exact n1 hx
      · exact n2 hx
      · exact n3 hx
      · exact e (h.one j k g (by rw [hl]; simp) hn hg hx)
  · by_cases e : j = k
    · subst e
      by_cases e' : j' = j
      · exact e'.symm
      · rw [upd_same] at c
        rw [upd_other _ _ e'] at d
        rw [hh j' e'] at b
        exact absurd c (hloc' j' g e' b d)
    · by_cases e' : j' = k
      · subst e'
        rw [upd_same] at d
        rw [upd_other _ _ e] at c
        rw [hh j e] at a
        exact absurd d (hloc' j g e a c)
      · rw [upd_other _ _ e] at c
        rw [upd_other _ _ e'] at d
        rw [hh j e] at a
        rw [hh j' e'] at b
        exact h.one j j' g a b c d
  · by_cases e : j = k
    · subst e
      rw [upd_same] at b
      rcases hloc with ⟨h1, h2⟩ | h1
      · exact h.own j g h2 (by rw [← h1]; exact b)
      · exact hS g (h1 g b)
    · rw [upd_other _ _ e] at b
      rw [hh j e] at a
      exact h.own j g a b

theorem segT (ok : Ok s) : Segs (fun k => (s.there k).map fun _ => val k) := fun k hk => ok.seg k (by
  intro e
  rw [held_iff] at e
  simp only [e.1] at hk
  exact hk rfl)
theorem segO (ok : Ok s) : Segs (fun k => pastOf (s.there k) (s.safe k) (val k)) := fun k hk => ok.seg k (by
  intro e
  rw [held_iff] at e
  simp only [e.1, e.2] at hk
  exact hk pastOf_none)
end

/-- what a call that changes leaves -/
def Did (S : Nat → Prop) (w : World) (p : Nat) (r : Int × St) (e : Ending) (w' : World) : Prop := e = .returned (.int .i64 r.1) ∧ DAt S w' p r.2 ∧ Keep S w w'

set_option maxRecDepth 10000 in
set_option maxHeartbeats 1000000 in
theorem create_ok (S : Nat → Prop) (w : World) (p : Nat) (s : St) (bt bo : Nat) (val : Int → Value) (k : Int) (h : DIn S w p s bt bo val) (ok : Ok s) (h1 : -9223372036854775808 ≤ k) (h2 : k ≤ 9223372036854775807) (hS : ∀ i, w.heap.size ≤ i → S i)
    (hd : s.down = false) (hk1 : ¬ k < 1) (hk2 : ¬ k > 1099511627776) (ht : s.there k = none) (hs : s.safe k = none) (hr : ¬ (s.room : Int) < 64) :
    Calls Try.prog 22 #[.pointer (some ⟨p, 0, none⟩), .int .i64 k] w (Did S w p ({ s with there := upd s.there k (some []), used := s.used + 64 } : St).spend) := by
  have c2 := h.c2
  have c3 := h.c3
  have c6 := h.c6
  rw [hd] at c6
  have hl1 := (h.mt.look mapT zeroS h1 h2 0).1
  have hl2 := (h.mo.look mapO zeroP h1 h2 0).1
  rw [show w.drewN 0 = w from rfl] at hl1 hl2
  simp only [ht, hs, Option.map_none, Option.getD_none, Option.isSome_none, pastOf_none] at hl1 hl2
  obtain ⟨w0, hw0⟩ : ∃ w0, w0 = w.alloc (.cells #[.bool false, .int .i64 0, .slice none 0 0] 71) := ⟨_, rfl⟩
  have hk0 : Keep (fun _ => False) w w0 := by rw [hw0]; exact Keep.alloc _ _ _
  have hsz0 : w.heap.size ≤ w0.heap.size := hk0.size
  have hw0' := hide hw0
  have H0 := hide (h.stay hk0 fun _ _ _ f => f)
  have HR := hide (room_any S w0 p s bt bo val H0.out ok.cap ok.big)
  rw [hw0] at HR
  have hu := ok.big
  have hwu := wrap_id (n := (s.used : Int) + 64) (by omega) (by omega)
  have HSg := hide (segT (val := val) ok)
  have HSo := hide (segO (val := val) ok)
  have HL := hide ok.left
  have HT := hide ht
  have HS := hide hs
  have HSS := hide hS
  have HK0 := hide hk0
  clear hd ht hs hw0 hk0 hsz0 ok h hS hu
  go_enter Try.func22, Try.ntmps22
  go_wp2_with (first
    | (go_at_call 47
       refine HR.out.mono ?_
       rintro e w1 ⟨rfl, n, hw1⟩
       obtain ⟨H1, K1⟩ : Hid (DIn S w1 p s bt bo val) ∧ Hid (Keep (fun _ => False) w w1) := by
         have kk : Keep (fun _ => False) w0 w1 := by rw [hw1, hw0'.out]; exact ⟨rfl, rfl, rfl, Nat.le_refl _, fun _ _ _ => rfl⟩
         exact ⟨H0.out.stay kk fun _ _ _ f => f, HK0.out.more kk⟩
       clear hw1
       have c2' := H1.out.c2
       have M1 := hide H1.out.mt)
    | (at_mapUpdate
       refine wpList_store rfl _ _ _ 65 rfl 33 mapT bt _ k (.slice none 0 0) rfl rfl rfl M1.out h1 h2 HSg.out ?_
       intro w2 m2 k2 _
       have M2 := hide m2
       have K2 := hide k2
       have c3' := k2.cell H1.out.c3 (fun e => H1.out.pt e)
       have M3 := hide (H1.out.mo.keep k2 fun e => H1.out.ne e.symm)
       clear m2 k2)
    | (at_mapUpdate
       refine wpList_store rfl _ _ _ 66 rfl 71 mapO bo _ k (.agg #[.bool false, .int .i64 0, .slice none 0 0]) rfl rfl rfl M3.out h1 h2 HSo.out ?_
       intro w3 m3 k3 _
       have M4 := hide m3
       have K3 := hide k3
       have c1' := k3.cell (K2.out.cell H1.out.c1 (fun e => H1.out.pt e)) (fun e => H1.out.po e)
       have B3 := hide (k3.blk (K2.out.blk H1.out.blk (fun e => H1.out.pt e)) (fun e => H1.out.po e))
       have f1' := frozen_blk B3.out 1
       clear m3 k3)
    | (go_at_call 48
       have HD : DIn S (w3.setCell ⟨p, 1, none⟩ (.int .i64 ((s.used : Int) + 64))) p { s with there := upd s.there k (some []), used := s.used + 64 } bt bo (upd val k (.slice none 0 0)) := by
         have hkc := keep_cell w3 p 1 (.int .i64 ((s.used : Int) + 64))
         refine H1.out.change (fun i hi => HSS.out i (Nat.le_trans K1.out.size hi)) k (.slice none 0 0) _ (fun j hj => ⟨upd_other _ _ hj, rfl⟩) ?_ ?_ ?_ ?_ ?_ (.inr fun g e => by cases e)
         · exact ((K2.out.mono fun i e => .inr (.inl e)).more (K3.out.mono fun i e => .inr (.inr (.inl e)))).more (hkc.mono fun i e => .inl e)
         · rw [set_blk B3.out 1 _]
           simp [dcells]
         · have := (M2.out.keep K3.out H1.out.ne).keep hkc (fun e => H1.out.pt e.symm)
           simpa [upd_same] using this
         · have := M4.out.keep hkc (fun e => H1.out.po e.symm)
           simpa [upd_same, HS.out, pastOf] using this
         · intro l hl
           simp [St.held, upd_same] at hl
           subst hl
           exact row_nil _
       refine (spend_any S _ p { s with there := upd s.there k (some []), used := s.used + 64 } bt bo (upd val k (.slice none 0 0)) HD HL.out).mono ?_
       rintro e w5 ⟨rfl, H5, K5⟩
       have H5' := hide H5
       have K5' := hide K5
       clear H5 K5 HD))
  go_ret
  have kS := K1.out.mono (T := S) fun _ f => f.elim
  refine ⟨rfl, ⟨_, _, _, H5'.out⟩, ?_⟩
  refine (((kS.more (K2.out.mono fun i e => e ▸ H1.out.st)).more (K3.out.mono fun i e => e ▸ H1.out.so)).more ((keep_cell w3 p 1 _).mono fun i e => e ▸ H1.out.sp)).more (K5'.out.mono fun i e => e ▸ H1.out.sp)

set_option maxRecDepth 10000 in
set_option maxHeartbeats 1000000 in
/-- Create, refused -/
theorem create_no (S : Nat → Prop) (w : World) (p : Nat) (s : St) (bt bo : Nat) (val : Int → Value) (k : Int) (h : DIn S w p s bt bo val) (ok : Ok s) (h1 : -9223372036854775808 ≤ k) (h2 : k ≤ 9223372036854775807)
    (hc : s.down = true ∨ s.down = false ∧ ((k < 1 ∨ 1099511627776 < k) ∨ ¬ k < 1 ∧ ¬ 1099511627776 < k ∧ (s.held k ≠ none ∨ s.held k = none ∧ s.room < 64))) (c : Int) (HC : Hid (c = if s.down then 56 else if k < 1 ∨ 1099511627776 < k then 51 else if s.held k ≠ none then 52 else 54)) :
    Calls Try.prog 22 #[.pointer (some ⟨p, 0, none⟩), .int .i64 k] w (Did S w p (c, s)) := by
  have c2 := h.c2
  have c3 := h.c3
  have c6 := h.c6
  have hl1 := (h.mt.look mapT zeroS h1 h2 0).1
  have hl2 := (h.mo.look mapO zeroP h1 h2 0).1
  rw [show w.drewN 0 = w from rfl] at hl1 hl2
  have H := hide h
  rcases hc with hd | ⟨hd, hb | ⟨hk1, hk2, hh | ⟨hh, hr⟩⟩⟩
  · rw [hd] at c6
    have HD := hide hd
    clear h ok hl1 hl2 hd
    go_enter Try.func22, Try.ntmps22
    go_wp2
    go_ret
    exact ⟨by show _ = Ending.returned (.int .i64 c); rw [HC.out, if_pos HD.out]; rfl, ⟨_, _, _, H.out⟩, Keep.refl _ _⟩
  · rw [hd] at c6
    have HD := hide hd
    have HB := hide hb
    clear h ok hl1 hl2 hd
    by_cases hk1 : k < 1
    · clear hb
      go_enter Try.func22, Try.ntmps22
      go_wp2
      go_ret
      exact ⟨by show _ = Ending.returned (.int .i64 c); rw [HC.out, if_neg (by rw [HD.out]; decide), if_pos HB.out]; rfl, ⟨_, _, _, H.out⟩, Keep.refl _ _⟩
    · have hk2 : k > 1099511627776 := by omega
      clear hb
      go_enter Try.func22, Try.ntmps22
      go_wp2
      go_ret
      exact ⟨by show _ = Ending.returned (.int .i64 c); rw [HC.out, if_neg (by rw [HD.out]; decide), if_pos HB.out]; rfl, ⟨_, _, _, H.out⟩, Keep.refl _ _⟩
  · rw [hd] at c6
    have HD := hide hd
    have HH := hide hh
    have hk3 : ¬ k > 1099511627776 := hk2
    have HK : Hid (¬ (k < 1 ∨ 1099511627776 < k)) := fun e => e.elim hk1 hk2
    have HI : Hid (s.there k = none → s.safe k ≠ none) := fun e1 e2 => hh ((held_iff s k).2 ⟨e1, e2⟩)
    obtain ⟨x, y, u, hsh, hu⟩ := pastOf_shape (s.there k) (s.safe k) (val k)
    have hu' : ∃ ua un uc, u = .slice ua un uc := by
      rcases hu with rfl | ⟨rfl, ht⟩
      · exact ⟨_, _, _, rfl⟩
      · obtain ⟨l, hl⟩ := Option.ne_none_iff_exists'.1 hh
        obtain ⟨a, c, e⟩ := ownsRow_shape (h.row k l hl).1
        exact ⟨_, _, _, e⟩
    obtain ⟨ua, un, uc, rfl⟩ := hu'
    rw [hsh, pastOf_isSome] at hl2
    clear h ok hd hh hk2 hu hsh
    cases ht : s.there k with
    | some l =>
      rw [ht] at hl1 hl2
      simp only [Option.map_some, Option.getD_some, Option.isSome_some] at hl1
      clear ht
      generalize decide (some l ≠ s.safe k) = b2 at hl2
      go_enter Try.func22, Try.ntmps22
      go_wp2
      go_ret
      exact ⟨by show _ = Ending.returned (.int .i64 c); rw [HC.out, if_neg (by rw [HD.out]; decide), if_neg HK.out, if_pos HH.out]; rfl, ⟨_, _, _, H.out.stay (T := fun _ => False) (Keep.alloc _ _ _) fun _ _ _ f => f⟩, Keep.alloc _ _ _⟩
    | none =>
      have hs := HI.out ht
      rw [ht] at hl1 hl2
      rw [decide_eq_true (Ne.symm hs)] at hl2
      simp only [Option.map_none, Option.getD_none, Option.isSome_none] at hl1
      clear ht hs
      go_enter Try.func22, Try.ntmps22
      go_wp2
      go_ret
      exact ⟨by show _ = Ending.returned (.int .i64 c); rw [HC.out, if_neg (by rw [HD.out]; decide), if_neg HK.out, if_pos HH.out]; rfl, ⟨_, _, _, H.out.stay (T := fun _ => False) (Keep.alloc _ _ _) fun _ _ _ f => f⟩, Keep.alloc _ _ _⟩
  · rw [hd] at c6
    have HD := hide hd
    have HH := hide hh
    have hk3 : ¬ k > 1099511627776 := hk2
    have hr' : (s.room : Int) < 64 := by omega
    have HK : Hid (¬ (k < 1 ∨ 1099511627776 < k)) := fun e => e.elim hk1 hk2
    obtain ⟨ht, hs⟩ := (held_iff s k).1 hh
    simp only [ht, hs, Option.map_none, Option.getD_none, Option.isSome_none, pastOf_none] at hl1 hl2
    have hst := hide (H.out.stay (w' := w.alloc (.cells #[.bool false, .int .i64 0, .slice none 0 0] 71)) (T := fun _ => False) (Keep.alloc _ _ _) fun _ _ _ f => f)
    have HR := hide (room_any S _ p s bt bo val hst.out ok.cap ok.big)
    clear h ok hd hh hk2 ht hs hr
    go_enter Try.func22, Try.ntmps22
    go_wp2_with (go_at_call 47; refine HR.out.mono ?_; rintro e w1 ⟨rfl, n, rfl⟩)
    go_ret
    exact ⟨by show _ = Ending.returned (.int .i64 c); rw [HC.out, if_neg (by rw [HD.out]; decide), if_neg HK.out, if_neg (by rw [HH.out]; simp)]; rfl, ⟨_, _, _, hst.out.stay (T := fun _ => False) ⟨rfl, rfl, rfl, Nat.le_refl _, fun _ _ _ => rfl⟩ fun _ _ _ f => f⟩, ((Keep.alloc S w (.cells #[.bool false, .int .i64 0, .slice none 0 0] 71)).more ⟨rfl, rfl, rfl, Nat.le_refl _, fun _ _ _ => rfl⟩)⟩

theorem create_any (S : Nat → Prop) (w : World) (p : Nat) (s : St) (k : Int) (h : DAt S w p s) (ok : Ok s) (h1 : -9223372036854775808 ≤ k) (h2 : k ≤ 9223372036854775807) (hS : ∀ i, w.heap.size ≤ i → S i) :
    Calls Try.prog 22 #[.pointer (some ⟨p, 0, none⟩), .int .i64 k] w (Did S w p (s.create k)) := by
  obtain ⟨bt, bo, val, h⟩ := h
  by_cases hd : s.down = true
  · have := create_no S w p s bt bo val k h ok h1 h2 (.inl hd) _ rfl
    rw [if_pos hd] at this
    unfold St.create
    rw [if_pos hd]
    exact this
  have hd' : s.down = false := by simpa using hd
  by_cases hb : k < 1 ∨ 1099511627776 < k
  · have := create_no S w p s bt bo val k h ok h1 h2 (.inr ⟨hd', .inl hb⟩) _ rfl
    rw [if_neg hd, if_pos hb] at this
    unfold St.create
    rw [if_neg hd, if_pos hb]
    exact this
  by_cases hh : s.held k ≠ none
  · have := create_no S w p s bt bo val k h ok h1 h2 (.inr ⟨hd', .inr ⟨fun e => hb (.inl e), fun e => hb (.inr e), .inl hh⟩⟩) _ rfl
    rw [if_neg hd, if_neg hb, if_pos hh] at this
    unfold St.create
    rw [if_neg hd, if_neg hb, if_pos hh]
    exact this
  have hh' : s.held k = none := by simpa using hh
  by_cases hr : s.room < 64
  · have := create_no S w p s bt bo val k h ok h1 h2 (.inr ⟨hd', .inr ⟨fun e => hb (.inl e), fun e => hb (.inr e), .inr ⟨hh', hr⟩⟩⟩) _ rfl
    rw [if_neg hd, if_neg hb, if_neg hh] at this
    unfold St.create
    rw [if_neg hd, if_neg hb, if_neg hh, if_pos hr]
    exact this
  unfold St.create
  rw [if_neg hd, if_neg hb, if_neg hh, if_neg hr]
  obtain ⟨ht, hs⟩ := (held_iff s k).1 hh'
  exact create_ok S w p s bt bo val k h ok h1 h2 hS hd' (fun e => hb (.inl e)) (fun e => hb (.inr e)) ht hs (by omega)

end Go.Proofs.Ytilpidioengnbaa
