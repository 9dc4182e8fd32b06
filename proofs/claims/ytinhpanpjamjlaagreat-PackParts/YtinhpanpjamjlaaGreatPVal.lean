/- Values that were read, put again. -/
import Derived.Test.YtinhpanpjamjlaaGreatPOneM
namespace Go.Proofs.YtinhpanpjamjlaaGreat
open Go.RowKit

theorem numV_le {s : K.RS} (h : Byt s) : numV s ≤ 9223372036854775807 := by
  unfold numV
  split
  · rename_i n z hp
    exact (K.pk_ok h.rest hp).2.2.2.2
  · decide

theorem vp_num (w : World) (l m : Nat) (least most : Int) (hl : w.cell? ⟨l, 0, none⟩ = some (.int .i64 least)) (hm : w.cell? ⟨m, 0, none⟩ = some (.int .i64 most)) (s : K.RS) (hb : Byt s) (v : Value) (hv : v = .int .i64 (numV s : Nat)) :
    PutsG (fun k => k < w.heap.size) w 78 #[.pointer (some ⟨l, 0, none⟩), .pointer (some ⟨m, 0, none⟩)] v (numW least most (numV s : Nat)) := by
  subst hv
  exact putsNum _ w l m least most _ (by have := numV_le hb; omega) hl hm (numForm_lt hl) (numForm_lt hm)

theorem rowV_byt {s : K.RS} (h : Byt s) (most : Int) : ∀ d ∈ rowV most s, d < 256 := by
  intro d hd
  unfold rowV at hd
  split at hd
  · exact h.rest d (List.mem_of_mem_take (List.mem_of_mem_drop hd))
  · cases hd

theorem rowV_len (most : Int) (s : K.RS) : (rowV most s).length ≤ s.data.length := by
  unfold rowV
  split
  · rw [List.length_drop, List.length_take, rest_len]; omega
  · exact Nat.zero_le _

theorem vp_text (w : World) (m : Nat) (most : Int) (hm : w.cell? ⟨m, 0, none⟩ = some (.int .i64 most)) (s : K.RS) (hb : Byt s) (ht : s.data.length ≤ 16777216) (v : Value) (hv : v = .string (str (rowV most s))) :
    PutsG (fun k => k < w.heap.size) w 91 #[.pointer (some ⟨m, 0, none⟩)] v (textW most (rowV most s)) := by
  subst hv
  have h := putsText (fun k => k < w.heap.size) w m most (str (rowV most s)) (by rw [← sb_len, sb_str _ (rowV_byt hb most)]; have := rowV_len most s; omega) hm (numForm_lt hm)
  rw [sb_str _ (rowV_byt hb most)] at h
  exact h

/-- the things of a list that was taken -/
theorem listV_els {T : TypeId} {most : Int} {g : K.RS → K.RS} {V : K.RS → World → Value → Prop} {s : K.RS} {w : World} {v : Value} {n z : Nat} (h : listV T most g V s w v) (hc : cnt most (rest s) = .ok (n, z)) (hn : n ≤ 16777216) :
    ∃ a c vs, v = .slice a n c ∧ Els (fun k => k < w.heap.size) w a n vs ∧ ∀ (i : Nat) x, vs[i]? = some x → V (allR g i (s.go z)) w x := by
  unfold listV at h
  rw [hc] at h
  obtain ⟨vs, hl, ho, hv⟩ := h
  rcases ho.2 with ⟨rfl, h0⟩ | ⟨g', cap, cur, rfl, _, hg, _⟩
  · exact ⟨none, 0, vs, by rw [h0], ⟨hl.symm, by omega, .inl h0⟩, hv⟩
  · refine ⟨_, cap, vs, rfl, ⟨hl.symm, by omega, .inr ⟨g', 0, rfl, (Array.getElem?_eq_some_iff.1 hg).1, fun i x hx => ?_⟩⟩, hv⟩
    have := ho.cells (g := g') rfl i x hx
    rw [Addr.add_lit] at this
    exact this

/-- good states: bytes, none too many -/
def Good (s : K.RS) : Prop := Byt s ∧ s.data.length ≤ 16777216 ∧ s.taken ≤ s.data.length ∧ s.fault = 0

theorem good_all {g : K.RS → K.RS} {W : K.RS → K.WS → K.WS} (h : RW g W) {s : K.RS} (hs : Good s) {n : Nat} (hz : (allR g n s).fault = 0) (i : Nat) (hi : i ≤ n) : Good (allR g i s) := by
  obtain ⟨z, _, hz2, hz3, _⟩ := rw_all h s hs.1 hs.2.2.1 i (allR_ok hz i hi)
  rw [hz3]
  rw [rest_len] at hz2
  exact ⟨hs.1, hs.2.1, by show s.taken + z ≤ s.data.length; have := hs.2.2.1; omega, hs.2.2.2⟩

theorem keepCell {w w' : World} {p : Addr} {v : Value} (h : w.cell? p = some v) (hb : Below w.heap.size w w') : w'.cell? p = some v :=
  (Keep.ofBelow (S := fun _ => False) hb (Nat.le_refl _)).cell h fun h => h
theorem keepBlk {w w' : World} {b : Nat} {o : Obj} (h : w.heap[b]? = some o) (hb : Below w.heap.size w w') : w'.heap[b]? = some o :=
  (Keep.ofBelow (S := fun _ => False) hb (Nat.le_refl _)).blk h fun h => h

theorem room_max : room 16777216 = 16777216 := by decide

theorem good_new {g : K.RS → K.RS} {l : List Nat} (hl : ∀ d ∈ l, d < 256) (he : endR (takeR g (newR l)) = 0) : Good (newR l) ∧ (g (newR l)).fault = 0 := by
  have hf := endR_ok he
  by_cases hn : l.length ≤ 16777216
  · have hnew : newR l = ⟨l, 0, 0⟩ := by unfold newR; rw [if_pos hn]
    have ht : takeR g (newR l) = g (newR l) := by unfold takeR; rw [hnew, if_pos rfl]
    rw [ht] at hf
    exact ⟨by rw [hnew]; exact ⟨hl, hn, Nat.zero_le _, rfl⟩, hf⟩
  · have hnew : newR l = ⟨[], 0, 20⟩ := by unfold newR; rw [if_neg hn]
    have : (takeR g (newR l)).fault = 20 := by unfold takeR; rw [hnew, if_neg (by decide)]
    omega

theorem els_nil (D : Nat → Prop) (w : World) : Els D w none 0 [] := ⟨rfl, by decide, .inl rfl⟩

theorem vp_listS (w : World) (m o : Nat) (most : Int) (hmost : most ≤ 16777216) (fn1 fn2 : FuncId) (cap1 cap2 : Array Value) (g : K.RS → K.RS) (V : K.RS → World → Value → Prop) (W : K.RS → K.WS → K.WS) (hRW : RW g W) (T : TypeId)
    (hc : ∀ args w, (callFunc fn1 args).run Tryz.prog w = .ok (.enter fn1 args) w) (hm : w.cell? ⟨m, 0, none⟩ = some (.int .i64 most)) (ho : w.heap[o]? = some (.cells #[.func (.func fn1) #[] cap1, .func (.func fn2) #[] cap2] 75 (0, 0)))
    (hVP : ∀ s, Good s → (g s).fault = 0 → ∀ v, V s w v → PutsG (fun k => k < w.heap.size) w fn1 cap1 v (W s))
    (s : K.RS) (hs : Good s) (hz : (listR most g s).fault = 0) (v : Value) (hv : listV T most g V s w v) :
    PutsG (fun k => k < w.heap.size) w 84 #[.pointer (some ⟨m, 0, none⟩), .pointer (some ⟨o, 0, none⟩)] v (listPut most g W s) := by
  unfold listR at hz
  cases hp : cnt most (rest s) with
  | error e => rw [hp] at hz; exact (fail_fault (cnt_err hp) hz hs.2.2.2).elim
  | ok r =>
    obtain ⟨n, z⟩ := r
    rw [hp] at hz
    obtain ⟨hpk, hnm, hzn⟩ := cnt_ok hp
    have hlen := rest_len s
    obtain ⟨a, c, vs, rfl, hels, hvs⟩ := listV_els hv hp (by omega)
    have hgo : Good (s.go z) := ⟨hs.1, hs.2.1, by show s.taken + z ≤ s.data.length; have := hs.2.2.1; omega, hs.2.2.2⟩
    have hput : listPut most g W s = listW most (putsOf g W n (s.go z)) := by unfold listPut; rw [hp]
    rw [hput]
    refine putsListS _ w m o most fn1 fn2 cap1 cap2 a n c vs (putsOf g W n (s.go z)) hels (putsOf_len _ _ _ _) (fun i x f hx hf => ?_) hc (numForm_lt hm) (blk_lt ho) hm ho
    rw [putsOf_at _ _ _ _ _ _ hf]
    have hin : i < n := by have := (List.getElem?_eq_some_iff.1 hx).1; have := hels.1; omega
    refine hVP _ (good_all hRW hgo hz i (by omega)) ?_ x (hvs i x hx)
    have h1 := allR_ok hz (i + 1) (by omega)
    have h2 := allR_ok hz i (by omega)
    have h3 : thingR g (allR g i (s.go z)) = if (g (allR g i (s.go z))).taken = (allR g i (s.go z)).taken then (g (allR g i (s.go z))).fail 22 else g (allR g i (s.go z)) := by unfold thingR; rw [if_pos h2]
    have h4 : (thingR g (allR g i (s.go z))).fault = 0 := h1
    rw [h3] at h4
    split at h4
    · rcases Nat.eq_zero_or_pos (g (allR g i (s.go z))).fault with h' | h'
      · exact h'
      · unfold K.RS.fail at h4
        rw [if_neg (by omega)] at h4
        exact h4
    · exact h4

theorem vp_listI (w : World) (m o : Nat) (most : Int) (hmost : most ≤ 16777216) (fn1 fn2 : FuncId) (cap1 cap2 : Array Value) (g : K.RS → K.RS) (V : K.RS → World → Value → Prop) (W : K.RS → K.WS → K.WS) (hRW : RW g W) (T : TypeId)
    (hc : ∀ args w, (callFunc fn1 args).run Tryz.prog w = .ok (.enter fn1 args) w) (hm : w.cell? ⟨m, 0, none⟩ = some (.int .i64 most)) (ho : w.heap[o]? = some (.cells #[.func (.func fn1) #[] cap1, .func (.func fn2) #[] cap2] 62 (0, 0)))
    (hVP : ∀ s, Good s → (g s).fault = 0 → ∀ v, V s w v → PutsG (fun k => k < w.heap.size) w fn1 cap1 v (W s))
    (s : K.RS) (hs : Good s) (hz : (listR most g s).fault = 0) (v : Value) (hv : listV T most g V s w v) :
    PutsG (fun k => k < w.heap.size) w 112 #[.pointer (some ⟨m, 0, none⟩), .pointer (some ⟨o, 0, none⟩)] v (listPut most g W s) := by
  unfold listR at hz
  cases hp : cnt most (rest s) with
  | error e => rw [hp] at hz; exact (fail_fault (cnt_err hp) hz hs.2.2.2).elim
  | ok r =>
    obtain ⟨n, z⟩ := r
    rw [hp] at hz
    obtain ⟨hpk, hnm, hzn⟩ := cnt_ok hp
    have hlen := rest_len s
    obtain ⟨a, c, vs, rfl, hels, hvs⟩ := listV_els hv hp (by omega)
    have hgo : Good (s.go z) := ⟨hs.1, hs.2.1, by show s.taken + z ≤ s.data.length; have := hs.2.2.1; omega, hs.2.2.2⟩
    have hput : listPut most g W s = listW most (putsOf g W n (s.go z)) := by unfold listPut; rw [hp]
    rw [hput]
    refine putsListI _ w m o most fn1 fn2 cap1 cap2 a n c vs (putsOf g W n (s.go z)) hels (putsOf_len _ _ _ _) (fun i x f hx hf => ?_) hc (numForm_lt hm) (blk_lt ho) hm ho
    rw [putsOf_at _ _ _ _ _ _ hf]
    have hin : i < n := by have := (List.getElem?_eq_some_iff.1 hx).1; have := hels.1; omega
    refine hVP _ (good_all hRW hgo hz i (by omega)) ?_ x (hvs i x hx)
    have h1 := allR_ok hz (i + 1) (by omega)
    have h2 := allR_ok hz i (by omega)
    have h3 : thingR g (allR g i (s.go z)) = if (g (allR g i (s.go z))).taken = (allR g i (s.go z)).taken then (g (allR g i (s.go z))).fail 22 else g (allR g i (s.go z)) := by unfold thingR; rw [if_pos h2]
    have h4 : (thingR g (allR g i (s.go z))).fault = 0 := h1
    rw [h3] at h4
    split at h4
    · rcases Nat.eq_zero_or_pos (g (allR g i (s.go z))).fault with h' | h'
      · exact h'
      · unfold K.RS.fail at h4
        rw [if_neg (by omega)] at h4
        exact h4
    · exact h4

theorem vp_listW (w : World) (m o : Nat) (most : Int) (hmost : most ≤ 16777216) (fn1 fn2 : FuncId) (cap1 cap2 : Array Value) (g : K.RS → K.RS) (V : K.RS → World → Value → Prop) (W : K.RS → K.WS → K.WS) (hRW : RW g W) (T : TypeId)
    (hc : ∀ args w, (callFunc fn1 args).run Tryz.prog w = .ok (.enter fn1 args) w) (hm : w.cell? ⟨m, 0, none⟩ = some (.int .i64 most)) (ho : w.heap[o]? = some (.cells #[.func (.func fn1) #[] cap1, .func (.func fn2) #[] cap2] 86 (0, 0)))
    (hVP : ∀ s, Good s → (g s).fault = 0 → ∀ v, V s w v → PutsG (fun k => k < w.heap.size) w fn1 cap1 v (W s))
    (s : K.RS) (hs : Good s) (hz : (listR most g s).fault = 0) (v : Value) (hv : listV T most g V s w v) :
    PutsG (fun k => k < w.heap.size) w 125 #[.pointer (some ⟨m, 0, none⟩), .pointer (some ⟨o, 0, none⟩)] v (listPut most g W s) := by
  unfold listR at hz
  cases hp : cnt most (rest s) with
  | error e => rw [hp] at hz; exact (fail_fault (cnt_err hp) hz hs.2.2.2).elim
  | ok r =>
    obtain ⟨n, z⟩ := r
    rw [hp] at hz
    obtain ⟨hpk, hnm, hzn⟩ := cnt_ok hp
    have hlen := rest_len s
    obtain ⟨a, c, vs, rfl, hels, hvs⟩ := listV_els hv hp (by omega)
    have hgo : Good (s.go z) := ⟨hs.1, hs.2.1, by show s.taken + z ≤ s.data.length; have := hs.2.2.1; omega, hs.2.2.2⟩
    have hput : listPut most g W s = listW most (putsOf g W n (s.go z)) := by unfold listPut; rw [hp]
    rw [hput]
    refine putsListW _ w m o most fn1 fn2 cap1 cap2 a n c vs (putsOf g W n (s.go z)) hels (putsOf_len _ _ _ _) (fun i x f hx hf => ?_) hc (numForm_lt hm) (blk_lt ho) hm ho
    rw [putsOf_at _ _ _ _ _ _ hf]
    have hin : i < n := by have := (List.getElem?_eq_some_iff.1 hx).1; have := hels.1; omega
    refine hVP _ (good_all hRW hgo hz i (by omega)) ?_ x (hvs i x hx)
    have h1 := allR_ok hz (i + 1) (by omega)
    have h2 := allR_ok hz i (by omega)
    have h3 : thingR g (allR g i (s.go z)) = if (g (allR g i (s.go z))).taken = (allR g i (s.go z)).taken then (g (allR g i (s.go z))).fail 22 else g (allR g i (s.go z)) := by unfold thingR; rw [if_pos h2]
    have h4 : (thingR g (allR g i (s.go z))).fault = 0 := h1
    rw [h3] at h4
    split at h4
    · rcases Nat.eq_zero_or_pos (g (allR g i (s.go z))).fault with h' | h'
      · exact h'
      · unfold K.RS.fail at h4
        rw [if_neg (by omega)] at h4
        exact h4
    · exact h4

theorem vp_listLi (w : World) (m o : Nat) (most : Int) (hmost : most ≤ 16777216) (fn1 fn2 : FuncId) (cap1 cap2 : Array Value) (g : K.RS → K.RS) (V : K.RS → World → Value → Prop) (W : K.RS → K.WS → K.WS) (hRW : RW g W) (T : TypeId)
    (hc : ∀ args w, (callFunc fn1 args).run Tryz.prog w = .ok (.enter fn1 args) w) (hm : w.cell? ⟨m, 0, none⟩ = some (.int .i64 most)) (ho : w.heap[o]? = some (.cells #[.func (.func fn1) #[] cap1, .func (.func fn2) #[] cap2] 101 (0, 0)))
    (hVP : ∀ s, Good s → (g s).fault = 0 → ∀ v, V s w v → PutsG (fun k => k < w.heap.size) w fn1 cap1 v (W s))
    (s : K.RS) (hs : Good s) (hz : (listR most g s).fault = 0) (v : Value) (hv : listV T most g V s w v) :
    PutsG (fun k => k < w.heap.size) w 119 #[.pointer (some ⟨m, 0, none⟩), .pointer (some ⟨o, 0, none⟩)] v (listPut most g W s) := by
  unfold listR at hz
  cases hp : cnt most (rest s) with
  | error e => rw [hp] at hz; exact (fail_fault (cnt_err hp) hz hs.2.2.2).elim
  | ok r =>
    obtain ⟨n, z⟩ := r
    rw [hp] at hz
    obtain ⟨hpk, hnm, hzn⟩ := cnt_ok hp
    have hlen := rest_len s
    obtain ⟨a, c, vs, rfl, hels, hvs⟩ := listV_els hv hp (by omega)
    have hgo : Good (s.go z) := ⟨hs.1, hs.2.1, by show s.taken + z ≤ s.data.length; have := hs.2.2.1; omega, hs.2.2.2⟩
    have hput : listPut most g W s = listW most (putsOf g W n (s.go z)) := by unfold listPut; rw [hp]
    rw [hput]
    refine putsListLi _ w m o most fn1 fn2 cap1 cap2 a n c vs (putsOf g W n (s.go z)) hels (putsOf_len _ _ _ _) (fun i x f hx hf => ?_) hc (numForm_lt hm) (blk_lt ho) hm ho
    rw [putsOf_at _ _ _ _ _ _ hf]
    have hin : i < n := by have := (List.getElem?_eq_some_iff.1 hx).1; have := hels.1; omega
    refine hVP _ (good_all hRW hgo hz i (by omega)) ?_ x (hvs i x hx)
    have h1 := allR_ok hz (i + 1) (by omega)
    have h2 := allR_ok hz i (by omega)
    have h3 : thingR g (allR g i (s.go z)) = if (g (allR g i (s.go z))).taken = (allR g i (s.go z)).taken then (g (allR g i (s.go z))).fail 22 else g (allR g i (s.go z)) := by unfold thingR; rw [if_pos h2]
    have h4 : (thingR g (allR g i (s.go z))).fault = 0 := h1
    rw [h3] at h4
    split at h4
    · rcases Nat.eq_zero_or_pos (g (allR g i (s.go z))).fault with h' | h'
      · exact h'
      · unfold K.RS.fail at h4
        rw [if_neg (by omega)] at h4
        exact h4
    · exact h4

end Go.Proofs.YtinhpanpjamjlaaGreat
