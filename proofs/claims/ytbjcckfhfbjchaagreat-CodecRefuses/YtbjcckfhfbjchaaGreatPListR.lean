import Derived.Test.YtbjcckfhfbjchaaGreatPRow
/- Package pack: takeRow; the take of Texts. -/
namespace Go.Proofs.YtbjcckfhfbjchaaGreat
open Go.RowKit

/-- bytes as a string -/
def str (l : List Nat) : ByteArray := strOfNums (l.map fun (d : Nat) => (d : Int))

theorem conv_rd {w : World} {a : Option Addr} {n : Nat} {l : List Nat} (h : Rd w a n l) (c : Nat) : (convert 24 9 (.slice a n c)).run Tryz.prog w = .ok (.string (str l)) w := by
  obtain ⟨hl, _, _, hrow⟩ := h
  rcases hrow with h0 | ⟨b, off, rfl, hrow⟩
  · have hnil : l = [] := List.length_eq_zero_iff.1 (by omega)
    subst h0 hnil
    cases a with
    | none => exact run_convert_bytes_nil w 24 5 Tryz.underlying24 Tryz.underlying5 0 c 9 Tryz.underlying9
    | some y =>
      have hl : (loadCells y 0).run Tryz.prog w = .ok (([] : List Int).map (Value.int .u8)).toArray w := by simpa using run_loadCells_list (P := Tryz.prog) w y [] (by simp)
      rw [run_convert_bytes_string w 24 9 5 _ 0 c Tryz.underlying24 Tryz.underlying5 Tryz.underlying9, run_bytesToString w _ 0 c [] hl]
      rfl
  · exact run_convert_bytes_arg w 24 5 Tryz.underlying24 Tryz.underlying5 b off n c (l.map fun (d : Nat) => (d : Int)) (by simp [hl]) (fun i hi => by
      rw [hrow i hi]
      congr 2
      rw [List.getD_eq_getElem?_getD, List.getD_eq_getElem?_getD, List.getElem?_map, List.getElem?_eq_getElem (show i < l.length by omega)]
      rfl) 9 Tryz.underlying9

theorem sb_str (l : List Nat) (h : ∀ d ∈ l, d < 256) : sb (str l) = l := by
  unfold sb str
  rw [strOfNums_data, List.map_map, List.map_map]
  conv => rhs; rw [← List.map_id l]
  apply List.map_congr_left
  intro d hd
  have := h d hd
  simp [Nat.mod_eq_of_lt this]

theorem str_sb (s : ByteArray) : str (sb s) = s := by
  unfold sb str strOfNums
  rw [List.map_map, List.map_map]
  have : (s.data.toList.map (((fun (n : Int) => UInt8.ofNat n.toNat) ∘ fun (d : Nat) => (d : Int)) ∘ fun b => b.toNat)) = s.data.toList := by
    conv => rhs; rw [← List.map_id s.data.toList]
    apply List.map_congr_left
    intro b _
    simp
  rw [this]

/-- bytes are none of the reader's own cells -/
theorem Rd.past {w w' : World} {a : Option Addr} {n q : Nat} {l : List Nat} {s : K.RS} (h : Rd w a n l) (hr : Rr w q s) (hk : Keep (fun k => k = q) w w') : Rd w' a n l := by
  obtain ⟨h1, h2, h3, h4⟩ := h
  refine ⟨h1, h2, h3, ?_⟩
  rcases h4 with h4 | ⟨b, off, rfl, h4⟩
  · exact .inl h4
  · refine .inr ⟨b, off, rfl, fun i hi => hk.cell (h4 i hi) ?_⟩
    rintro e
    have e' : b = q := e
    subst e'
    obtain ⟨a0, c0, hb, _⟩ := hr.ex
    have hc := h4 i hi
    rw [cell_of_row _ _ _ _ _ _ hb] at hc
    match off + i, hc with
    | 0, hc => simp at hc
    | 1, hc => simp at hc
    | 2, hc => simp at hc
    | j + 3, hc => simp at hc

def rowR (most : Int) (s : K.RS) : K.RS := match cnt most (rest s) with
  | .ok (n, z) => s.go (z + n)
  | .error e => s.fail e
def rowV (most : Int) (s : K.RS) : List Nat := match cnt most (rest s) with
  | .ok (n, z) => ((rest s).take (z + n)).drop z
  | .error _ => []

theorem rowV_lt {w : World} {q : Nat} {s : K.RS} (h : Rr w q s) (most : Int) : ∀ d ∈ rowV most s, d < 256 := by
  intro d hd
  unfold rowV at hd
  split at hd
  · exact h.byt d (List.mem_of_mem_take (List.mem_of_mem_drop hd))
  · cases hd

set_option maxRecDepth 10000 in
theorem takeRow_err (q : Nat) (most : Int) (s : K.RS) (w : World) (h : Rr w q s) (e : Nat) (hc : cnt most (rest s) = .error e) :
    Calls Tryz.prog 158 #[.pointer (some ⟨q, 0, none⟩), .int .i64 most] w fun en w' => en = gaveUp e ∧ Below w.heap.size w w' := by
  have HH := hide h
  have HC := hide hc
  clear h hc
  go_enter Tryz.func158, Tryz.ntmps158
  go_wp2_with fail
  refine (peekCount_any q most s _ HH.out).mono ?_
  rintro en w1 ⟨ho, hb⟩
  rw [HC.out] at ho
  have hen : en = gaveUp e := ho
  subst hen
  exact ⟨rfl, rfl, hb⟩

set_option maxRecDepth 10000 in
theorem takeRow_ok (q : Nat) (most : Int) (s : K.RS) (w : World) (h : Rr w q s) (n z : Nat) (hc : cnt most (rest s) = .ok (n, z)) :
    Calls Tryz.prog 158 #[.pointer (some ⟨q, 0, none⟩), .int .i64 most] w fun en w' => ∃ a c, en = .returned (.slice a n c) ∧ Rd w' a n (((rest s).take (z + n)).drop z) ∧ (a = none → c = 0) ∧ n ≤ c ∧ Rr w' q (s.go (z + n)) ∧ Keep (fun k => k = q) w w' := by
  have HH := hide h
  have HC := hide hc
  have htp := h.top
  have htk := h.tak
  obtain ⟨hpk, _, hzn⟩ := cnt_ok hc
  have HL := hide (rest_len s)
  have hl2 : z + n ≤ 16777216 := by rw [rest_len] at hzn; omega
  have HZN := hide hzn
  have hzn2 : s.taken + (z + n) ≤ s.data.length := by rw [rest_len] at hzn; omega
  clear h hc hpk hzn
  go_enter Tryz.func158, Tryz.ntmps158
  go_wp2_with fail
  refine (peekCount_any q most s _ HH.out).mono ?_
  rintro en w1 ⟨ho, hb⟩
  rw [HC.out] at ho
  have hen : en = .returned (.tuple #[.int .i64 (n : Nat), .int .i64 (z : Nat)]) := ho
  subst hen
  have HB1 := hide hb
  clear ho hb
  obtain ⟨t, ht⟩ : ∃ t, z + n = t := ⟨_, rfl⟩
  have hadd : (z : Int) + (n : Int) = (t : Int) := by omega
  have HT := hide ht
  have hzt : z ≤ t := by omega
  clear ht
  go_wp2_with fail
  refine (peek_yes q t s _ (HH.out.below HB1.out) (by have := HZN.out; have := HT.out; omega)).mono ?_
  rintro e w2 ⟨a, c, rfl, hr, h0, hc, hb2⟩
  obtain ⟨a', hsl, hr', h0', hc'⟩ := slice_lo_rd hr c z h0 hc hzt
  have HB := hide (further HB1.out hb2)
  have HR2 := hide (HH.out.below HB.out)
  obtain ⟨_, _, _, c1, _, hf⟩ := HR2.out.see
  have hf1 := hf 1
  have HRR := hide hr'
  have H0 := hide h0'
  clear hr h0 hb2 hr' h0' hf
  have htb : t ≤ 16777216 := by have := HT.out; omega
  have htt : s.taken + t ≤ s.data.length := by have := HT.out; omega
  clear hl2 hzn2
  go_wp2
  go_ret
  have hset := HR2.out.set1 (s.taken + t) htt
  have hk : Keep (fun k => k = q) w2 (w2.setCell ⟨q, 1, none⟩ (.int .i64 ((s.taken + t : Nat) : Int))) := Keep.setCell (S := fun k => k = q) w2 (p := ⟨q, 1, none⟩) rfl _
  have hnt : t - z = n := by have := HT.out; omega
  refine ⟨a', c - z, ?_, ?_, H0.out, by omega, ?_, ?_⟩
  · rw [← hnt]; rfl
  · have hp := HRR.out.past HR2.out hk
    rw [hnt] at hp
    rw [HT.out]
    exact hp
  · rw [HT.out]; exact hset
  · exact (Keep.ofBelow HB.out (Nat.le_refl _)).more hk

set_option maxRecDepth 10000 in
theorem takeText (q m : Nat) (most : Int) (s : K.RS) (w : World) (h : Rr w q s) (hz : s.fault = 0) (hm : w.cell? ⟨m, 0, none⟩ = some (.int .i64 most)) :
    Takes w q 157 #[.pointer (some ⟨m, 0, none⟩)] (rowR most s) (fun _ v => v = .string (str (rowV most s))) := by
  have HH := hide h
  have HZ := hide hz
  unfold Takes
  show Calls Tryz.prog 157 #[.pointer (some ⟨q, 0, none⟩), .pointer (some ⟨m, 0, none⟩)] w _
  generalize hs' : rowR most s = s'
  generalize hx : rowV most s = x
  have HS := hide hs'
  have HX := hide hx
  clear hs' hx h hz
  cases hc : cnt most (rest s) with
  | error e =>
    have HC := hide hc
    have HS' : Hid (s.fail e = s') := by show _ = _; rw [← HS.out]; unfold rowR; rw [hc]
    clear hc
    go_enter Tryz.func157, Tryz.ntmps157
    go_wp2_with fail
    refine (takeRow_err q most s _ HH.out e HC.out).mono ?_
    rintro en w1 ⟨rfl, hb⟩
    exact ⟨rfl, Keep.ofBelow hb (Nat.le_refl _), .inr ⟨by rw [← HS'.out]; exact fail_ne HZ.out (cnt_err HC.out), e, s, rfl, HH.out.below hb, HS'.out⟩⟩
  | ok r =>
    obtain ⟨n, z⟩ := r
    have HC := hide hc
    have HS' : Hid (s.go (z + n) = s') := by show _ = _; rw [← HS.out]; unfold rowR; rw [hc]
    have HX' : Hid (((rest s).take (z + n)).drop z = x) := by show _ = _; rw [← HX.out]; unfold rowV; rw [hc]
    clear hc
    go_enter Tryz.func157, Tryz.ntmps157
    go_wp2_with fail
    refine (takeRow_ok q most s _ HH.out n z HC.out).mono ?_
    rintro en w1 ⟨a, c, rfl, hr, h0, hcc, hrr, hk⟩
    rw [HX'.out] at hr
    rw [HS'.out] at hrr
    have kc := conv_rd hr c
    have HRR := hide hrr
    have HK := hide hk
    clear hr h0 hrr hk
    generalize hst : str x = st at *
    have HST := hide hst
    clear hst
    go_wp2
    go_ret
    exact ⟨HK.out, .inl ⟨by rw [← HS'.out]; exact HZ.out, _, rfl, HRR.out, by rw [HST.out]; rfl⟩⟩

theorem ent_takeText (args : Array Value) (w : World) : (callFunc 157 args).run Tryz.prog w = .ok (.enter 157 args) w :=
  callFunc_enter Tryz.func157 (by kernel_rfl) (by kernel_rfl) args w

theorem takesText (D : Nat → Prop) (w : World) (m : Nat) (most : Int) (hm : w.cell? ⟨m, 0, none⟩ = some (.int .i64 most)) (dm : D m) :
    TakesG D w 157 #[.pointer (some ⟨m, 0, none⟩)] (rowR most) (fun s _ v => v = .string (str (rowV most s))) :=
  fun q s w1 ha _ h hz => takeText q m most s w1 h hz (ha.cell hm dm)

end Go.Proofs.YtbjcckfhfbjchaaGreat

/- Package pack: the take of Lists. -/
namespace Go.Proofs.YtbjcckfhfbjchaaGreat
open Go.RowKit

/-- one thing of a list -/
def thingR (g : K.RS → K.RS) (s : K.RS) : K.RS := if s.fault = 0 then (if (g s).taken = s.taken then (g s).fail 22 else g s) else s
def allR (g : K.RS → K.RS) : Nat → K.RS → K.RS
  | 0, s => s
  | n + 1, s => thingR g (allR g n s)
theorem allR_stick (g : K.RS → K.RS) (s : K.RS) (k : Nat) (h : (allR g k s).fault ≠ 0) : ∀ n, k ≤ n → allR g n s = allR g k s := by
  intro n hn
  induction n with
  | zero => obtain rfl : k = 0 := by omega
            rfl
  | succ n ih =>
    rcases Nat.lt_or_ge n k with h' | h'
    · obtain rfl : k = n + 1 := by omega
      rfl
    · show thingR g (allR g n s) = _
      rw [ih h']
      unfold thingR
      rw [if_neg h]

/-- a value's property that stays where blocks of readers and rows of T are written -/
def StableT (T : TypeId) (V : World → Value → Prop) : Prop :=
  ∀ w1 w2 v S, V w1 v → Keep S w1 w2 → (∀ k, S k → ∃ cs t, w1.heap[k]? = some (.cells cs t (0, 0)) ∧ (t = 136 ∨ t = T)) → V w2 v

theorem StableT.stable {T : TypeId} {V : World → Value → Prop} (h : StableT T V) : Stable V :=
  fun w1 w2 v hv hb => h w1 w2 v (fun _ => False) hv (Keep.ofBelow hb (Nat.le_refl _)) fun _ hk => hk.elim

theorem stableT_plain {T : TypeId} {P : Value → Prop} : StableT T (fun _ v => P v) := fun _ _ _ _ h _ _ => h

theorem ownsRow_keepT {w w' : World} {B : Nat} {T : TypeId} {v : Value} {n : Nat} {xs : List Value} (h : w.ownsRow B T 1 v n xs) {q : Nat} {s : K.RS} (hr : Rr w q s) (hk : Keep (fun k => k = q) w w') (hT : T ≠ 136) : w'.ownsRow B T 1 v n xs := by
  refine ⟨h.1, ?_⟩
  rcases h.2 with h' | ⟨g, cap, cur, rfl, hb, hg, rest⟩
  · exact .inl h'
  · refine .inr ⟨g, cap, cur, rfl, hb, hk.blk hg (fun e => ?_), rest⟩
    have e' : g = q := e
    subst e'
    obtain ⟨a0, c0, hb, _⟩ := hr.ex
    rw [hg] at hb
    simp only [Option.some.injEq, Obj.cells.injEq] at hb
    exact hT hb.2.1

/-- what a list of things is -/
def ListV (T : TypeId) (g : K.RS → K.RS) (V : K.RS → World → Value → Prop) (n : Nat) (s : K.RS) (w : World) (v : Value) : Prop :=
  ∃ vs : List Value, vs.length = n ∧ w.ownsRow 0 T 1 v n vs ∧ ∀ (i : Nat) x, vs[i]? = some x → V (allR g i s) w x

theorem box_ne {w : World} {q b : Nat} {s : K.RS} (hr : Rr w q s) {cs : Array Value} {t : TypeId} (hb : w.heap[b]? = some (.cells cs t (0, 0))) (ht : t ≠ 136) : ¬ b = q := by
  rintro rfl
  obtain ⟨a0, c0, hb', _⟩ := hr.ex
  rw [hb] at hb'
  simp only [Option.some.injEq, Obj.cells.injEq] at hb'
  exact ht hb'.2.1

theorem row_ne {w : World} {B : Nat} {T : TypeId} {v : Value} {n : Nat} {xs : List Value} (h : w.ownsRow B T 1 v n xs) {b : Nat} {cs : Array Value} {t : TypeId} (hb : w.heap[b]? = some (.cells cs t (0, 0))) (ht : t ≠ T) : v.ownBlock ≠ some b := by
  intro e
  rcases h.2 with ⟨rfl, _⟩ | ⟨g, cap, cur, rfl, _, hg, _⟩
  · cases e
  · simp only [Value.ownBlock, Option.some.injEq] at e
    subst e
    rw [hg] at hb
    simp only [Option.some.injEq, Obj.cells.injEq] at hb
    exact ht hb.2.1.symm

theorem grow_facts {w w2 w3 : World} {o : Obj} {q B k bx : Nat} {T t : TypeId} {v : Value} {vs : List Value} {cs : Array Value} {s : K.RS} (hk : Keep (fun k => k = q) w w2) (hr : Rr w2 q s) (ho : w2.ownsRow B T 1 v k vs) (hB : w.heap.size ≤ B) (hq : q < B)
    (hg : (w2.alloc o).grownBy w3 v.ownBlock) (hbx : w2.heap[bx]? = some (.cells cs t (0, 0))) (ht : t ≠ T) :
    Rr w3 q s ∧ Keep (fun k => k = q) w w3 ∧ w3.heap[bx]? = some (.cells cs t (0, 0)) ∧ ∀ V, StableT T V → ∀ x, V w2 x → V w3 x := by
  have hal : Below w2.heap.size w2 (w2.alloc o) := (Below.refl _ _).alloc (Nat.le_refl _) o
  have hk3 : Keep (fun j => v.ownBlock = some j) (w2.alloc o) w3 := Keep.grown hg fun _ e => e
  refine ⟨(hr.below hal).stay hk3 fun j hj e => ?_, ?_, ?_, ?_⟩
  · have := (ho.lt j e).1; omega
  · exact (hk.trans (T := fun _ => False) (Keep.ofBelow hal (Nat.le_refl _)) fun _ h => h.elim).grownNew hg fun j e => .inr (by have := (ho.lt j e).1; omega)
  · exact hk3.blk ((Keep.ofBelow (S := fun _ => False) hal (Nat.le_refl _)).blk hbx fun h => h) (row_ne ho hbx ht)
  · intro V hV x hx
    refine hV _ _ _ _ (hV.stable _ _ _ hx hal) hk3 fun j hj => ?_
    rcases (ho.alloc o).2 with ⟨rfl, _⟩ | ⟨g, cap, cur, rfl, _, hgg, _⟩
    · cases hj
    · simp only [Value.ownBlock, Option.some.injEq] at hj
      subst hj
      exact ⟨_, _, hgg, .inr rfl⟩

def listR (most : Int) (g : K.RS → K.RS) (s : K.RS) : K.RS := match cnt most (rest s) with
  | .ok (n, z) => allR g n (s.go z)
  | .error e => s.fail e
def listV (T : TypeId) (most : Int) (g : K.RS → K.RS) (V : K.RS → World → Value → Prop) (s : K.RS) (w : World) (v : Value) : Prop := match cnt most (rest s) with
  | .ok (n, z) => ListV T g V n (s.go z) w v
  | .error _ => False

theorem listV_shape {T : TypeId} {most : Int} {g : K.RS → K.RS} {V : K.RS → World → Value → Prop} {s : K.RS} {w : World} {v : Value} (h : listV T most g V s w v) : ∃ y1 y2 y3, v = .slice y1 y2 y3 := by
  unfold listV at h
  split at h
  · obtain ⟨vs, _, ho, _⟩ := h
    obtain ⟨a, c, e⟩ := ownsRow_shape ho
    exact ⟨_, _, _, e⟩
  · cases h

theorem ListV_stable {T T' : TypeId} (h1 : T ≠ 136) (h2 : T ≠ T') {g : K.RS → K.RS} {V : K.RS → World → Value → Prop} (hV : ∀ s, StableT T' (V s)) (n : Nat) (s : K.RS) : StableT T' (ListV T g V n s) := by
  rintro w1 w2 v S ⟨vs, hl, ho, hv⟩ hk hS
  refine ⟨vs, hl, ⟨ho.1, ?_⟩, fun i x hx => hV _ _ _ _ _ (hv i x hx) hk hS⟩
  rcases ho.2 with h' | ⟨g, cap, cur, rfl, hb, hg, rest⟩
  · exact .inl h'
  · refine .inr ⟨g, cap, cur, rfl, hb, hk.blk hg (fun hs => ?_), rest⟩
    obtain ⟨cs, t, hb, ht⟩ := hS g hs
    rw [hg] at hb
    simp only [Option.some.injEq, Obj.cells.injEq] at hb
    rcases ht with ht | ht
    · exact h1 (hb.2.1.trans ht)
    · exact h2 (hb.2.1.trans ht)

theorem listV_stable {T T' : TypeId} (h1 : T ≠ 136) (h2 : T ≠ T') {most : Int} {g : K.RS → K.RS} {V : K.RS → World → Value → Prop} (hV : ∀ s, StableT T' (V s)) (s : K.RS) : StableT T' (listV T most g V s) := by
  intro w1 w2 v S h hk hS
  unfold listV at h ⊢
  split
  · rename_i n z hc
    rw [hc] at h
    exact ListV_stable h1 h2 hV n (s.go z) w1 w2 v S h hk hS
  · rename_i e hc
    rw [hc] at h
    exact h.elim

theorem infoI : (Tryz.prog.info? 3).map (fun i => (i.zero, i.size, i.bytes)) = some (some (.int .i64 0), 1, 8) := by kernel_rfl

set_option maxRecDepth 10000 in
set_option maxHeartbeats 1000000 in
theorem takeAllI (D : Nat → Prop) (wf : World) (q : Nat) (fn1 fn2 : FuncId) (cap1 cap2 : Array Value) (n : Nat) (hn : n ≤ 16777216) (g : K.RS → K.RS) (V : K.RS → World → Value → Prop) (hV : ∀ s, StableT 3 (V s)) (hone : ∀ s w v, V s w v → ∃ y1, v = .int .i64 y1) (s : K.RS) (hs : s.fault = 0) (w : World)
    (ha : Agree D wf w) (hd : ¬ D q) (h : Rr w q s) (ht : TakesG D wf fn2 cap2 g V) (hc : ∀ args w, (callFunc fn2 args).run Tryz.prog w = .ok (.enter fn2 args) w) :
    Calls Tryz.prog 165 #[.pointer (some ⟨q, 0, none⟩), .agg #[.func (.func fn1) #[] cap1, .func (.func fn2) #[] cap2], .int .i64 (n : Nat)] w fun en w' => Keep (fun k => k = q) w w' ∧
      (((allR g n s).fault = 0 ∧ ∃ v, en = .returned v ∧ Rr w' q (allR g n s) ∧ ListV 3 g V n s w' v) ∨ ((allR g n s).fault ≠ 0 ∧ ∃ e s1, en = gaveUp e ∧ Rr w' q s1 ∧ s1.fail e = allR g n s)) := by
  obtain ⟨i0, hi, hz0, hz1, hz2⟩ := info_parts infoI
  have HI := hide hi
  have HA := hide ha
  have HD := hide hd
  have HT := hide ht
  have HC := hide hc
  have HV := hide hV
  have H1 := hide hone
  have hba := (Below.refl w.heap.size w).alloc (Nat.le_refl _) (.cells #[.func (.func fn1) #[] cap1, .func (.func fn2) #[] cap2] 90)
  have HH := hide (h.below hba)
  have HX := hide (heap_alloc_new w (.cells #[.func (.func fn1) #[] cap1, .func (.func fn2) #[] cap2] 90))
  have HK0 := hide (Keep.ofBelow (S := fun k => k = q) hba (Nat.le_refl _))
  have HQ := hide h.lt
  have HS0 := hide hs
  clear ha hd ht hc hV hone h hba hi hs
  go_enter Tryz.func165, Tryz.ntmps165
  go_wp2
  generalize w.alloc (.cells #[.func (.func fn1) #[] cap1, .func (.func fn2) #[] cap2] 90) = wa at *
  have HBX0 : Hid (w.heap.size ≤ w.heap.size) := Nat.le_refl _
  generalize hbx : w.heap.size = bx at HX HQ HBX0 ⊢
  have HBX := hide hbx
  clear hbx
  go_loopw [7, 11] (fun v i wx => ∃ (k : Nat) (vs : List Value), k ≤ n ∧ i = .int .i64 (k : Nat) ∧ vs.length = k ∧ Rr wx q (allR g k s) ∧ (allR g k s).fault = 0 ∧ wx.ownsRow bx 3 1 v k vs ∧ (∀ (i : Nat) x, vs[i]? = some x → V (allR g i s) wx x) ∧ Keep (fun k => k = q) w wx ∧ wx.heap[bx]? = some (.cells #[.func (.func fn1) #[] cap1, .func (.func fn2) #[] cap2] 90 (0, 0))) (fun _ i _ => n - (intOf i).toNat)
  case atStart => exact ⟨0, [], Nat.zero_le _, rfl, rfl, HH.out, HS0.out, World.ownsRow_nil _ _ _ _, (fun i x hx => by cases hx), HK0.out, HX.out⟩
  case round =>
    obtain ⟨k, vs, hk, rfl, hvs, hr, hz, ho, hv, hkp, hbx⟩ := hrel
    have HR := hide hr
    have HZ := hide hz
    have HO := hide ho
    have HVS := hide hv
    have HKP := hide hkp
    have HBB := hide hbx
    have HL := hide hvs
    obtain ⟨_, _, _, c1, _, _⟩ := hr.see
    have htk : (allR g k s).taken ≤ 16777216 := Nat.le_trans hr.tak hr.top
    have e0 : wr.cell? ⟨bx, 0, none⟩ = some (.func (.func fn1) #[] cap1) := by rw [cell_of_row _ _ _ _ _ _ hbx]; rfl
    have e1 : wr.cell? ⟨bx, 1, none⟩ = some (.func (.func fn2) #[] cap2) := by rw [cell_of_row _ _ _ _ _ _ hbx]; rfl
    clear hr hz ho hv hkp hbx hvs
    by_cases hlt : k < n
    · have HST := hide (allR_stick g s (k + 1))
      have HSU : Hid (allR g (k + 1) s = if (g (allR g k s)).taken = (allR g k s).taken then (g (allR g k s)).fail 22 else g (allR g k s)) := by show thingR g (allR g k s) = _; unfold thingR; rw [if_pos HZ.out]
      have HAG := hide (HA.out.keep HKP.out (fun j hj e => HD.out (e ▸ hj)))
      generalize hsk : allR g k s = sk at *
      have HSK := hide hsk
      clear hsk
      go_wp2_with fail
      refine (TakeI q fn1 fn2 cap1 cap2 sk (g sk) (V sk) (HV.out sk).stable wr HR.out (fun hz w1 hb => HT.out q sk w1 (HAG.out.keep (Keep.ofBelow (S := fun _ => False) hb (Nat.le_refl _)) (fun _ _ h => h)) HD.out (HR.out.below hb) hz) (fun hz => absurd HZ.out hz) HC.out).mono ?_
      rintro e w2 ⟨x, rfl, hr2, hk2, hx, hnx⟩
      obtain ⟨_, _, _, d1, d2, _⟩ := hr2.see
      have htk2 : (g sk).taken ≤ 16777216 := Nat.le_trans hr2.tak hr2.top
      have HR2 := hide hr2
      have HK2 := hide (HKP.out.more hk2)
      have HX2 := hide hx
      have HO2 := hide (ownsRow_keepT HO.out HR.out hk2 (by decide))
      have HB2 := hide (hk2.blk HBB.out (box_ne HR.out HBB.out (by decide)))
      have HVS2 : Hid (∀ (i : Nat) x, vs[i]? = some x → V (allR g i s) w2 x) := fun i y hy => HV.out _ _ _ _ _ (HVS.out i y hy) hk2 (fun j hj => by
        obtain ⟨a0, c0, hb', _⟩ := HR.out.ex
        have hj' : j = q := hj
        subst hj'
        exact ⟨_, _, hb', .inl rfl⟩)
      clear hr2 hk2 hx hnx
      by_cases hq : (g sk).taken = sk.taken
      · have hqq : (((g sk).taken : Int) == (sk.taken : Int)) = true := by rw [hq]; exact beq_self_eq_true _
        have HS1 : Hid (allR g (k + 1) s = (g sk).fail 22) := by show _ = _; rw [HSU.out, if_pos hq]
        have hff : ((g sk).fail 22).fault ≠ 0 := by
          unfold K.RS.fail
          split
          · show 22 ≠ 0; decide
          · assumption
        have HFF := hide hff
        have HSN : Hid (allR g n s = (g sk).fail 22) := by show _ = _; rw [HST.out (by rw [HS1.out]; exact hff) n (by omega), HS1.out]
        clear hq hff
        go_wp2_with fail
        refine (rFail_any q (g sk) _ HR2.out).mono ?_
        rintro e w3 ⟨rfl, hr3, hk3⟩
        generalize hs3 : (g sk).fail 22 = s3 at *
        obtain ⟨_, _, _, _, f2, _⟩ := hr3.see
        have hzz : ((s3.fault : Int) == 0) = false := by rw [beq_eq_false_iff_ne]; have := HFF.out; omega
        have HR3 := hide hr3
        have HK3 := hide (HK2.out.more hk3)
        clear hr3 hk3 hs3 c1 d1 d2
        go_wp2
        refine ⟨rfl, HK3.out, .inr ⟨by rw [HSN.out]; exact HFF.out, s3.fault, s3, rfl, HR3.out, ?_⟩⟩
        rw [HSN.out]
        unfold K.RS.fail
        rw [if_neg HFF.out]
      · have hqq : (((g sk).taken : Int) == (sk.taken : Int)) = false := by rw [beq_eq_false_iff_ne]; omega
        have HS1 : Hid (allR g (k + 1) s = g sk) := by show _ = _; rw [HSU.out, if_neg hq]
        clear hq
        by_cases hzf : (g sk).fault = 0
        · have d2' : w2.cell? ⟨q, 2, none⟩ = some (.int .i64 0) := by rw [d2, hzf]; rfl
          have HZ2 := hide hzf
          have HVX := hide (HX2.out hzf)
          obtain ⟨y1, rfl⟩ := H1.out _ _ _ HVX.out
          clear d2 hzf
          have HOA := hide (HO2.out.alloc (.cells #[.int .i64 y1] 3))
          have HCX : Hid (∀ j u, ([.int .i64 y1] : List Value)[j]? = some u → (w2.alloc (.cells #[.int .i64 y1] 3)).cell? ((⟨w2.heap.size, 0, none⟩ : Addr).add j) = some u) := by
            intro j u hu
            match j, hu with
            | 0, hu =>
              simp only [List.getElem?_cons_zero, Option.some.injEq] at hu
              subst hu
              rw [add_zero, cell_of_row _ _ _ _ _ _ (heap_alloc_new w2 _)]
              rfl
            | j + 1, hu => simp at hu
          go_wp2_with (at_builtin; refine wpList_append_own2 rfl _ _ 52 rfl bx 3 i0 (.int .i64 0) 1 8 Tryz.underlying52 HI.out hz0 hz1 hz2 rfl (by decide) _ k vs rfl HOA.out ⟨w2.heap.size, 0, none⟩ 1 1 [.int .i64 y1] rfl rfl HCX.out (fun u hu => by rw [List.mem_singleton.1 hu]; rfl) (by unfold maxLen; omega) (by omega) (by have := HK2.out.size; have := HBX.out; simp; omega) ?_; intro v' w3 ho hg hnb; have HO3 := hide ho; have HG3 := hide hg; have HN3 := hide hnb; clear ho hg hnb)
          go_roundw
          case rel =>
            have hsz : w.heap.size ≤ bx := by have := HBX.out; omega
            obtain ⟨g1, g2, g3, g4⟩ := grow_facts HK2.out HR2.out HO2.out hsz HQ.out HG3.out HB2.out (by decide)
            refine ⟨k + 1, vs ++ [.int .i64 y1], by omega, by go_num, by rw [List.length_append, HL.out]; rfl, ?_, ?_, HO3.out, ?_, g2, g3⟩
            · rw [HS1.out]; exact g1
            · rw [HS1.out]; exact HZ2.out
            · intro i y hy
              rcases Nat.lt_or_ge i vs.length with hi' | hi'
              · rw [List.getElem?_append_left hi'] at hy
                exact g4 _ (HV.out _) _ (HVS2.out i y hy)
              · rw [List.getElem?_append_right hi'] at hy
                obtain ⟨h0, h1⟩ := List.getElem?_eq_some_iff.1 hy
                have hik : i = k := by have := HL.out; simp at h0; omega
                subst hik
                have hy2 : y = .int .i64 y1 := by rw [← h1]; simp
                subst hy2
                rw [HSK.out]
                exact g4 _ (HV.out _) _ HVX.out
          case measure => simp [intOf]; omega
        · have hzz : (((g sk).fault : Int) == 0) = false := by rw [beq_eq_false_iff_ne]; omega
          have HZ2 := hide hzf
          have HSN : Hid (allR g n s = g sk) := by show _ = _; rw [HST.out (by rw [HS1.out]; exact hzf) n (by omega), HS1.out]
          clear hzf
          go_wp2
          refine ⟨rfl, HK2.out, .inr ⟨by rw [HSN.out]; exact HZ2.out, (g sk).fault, g sk, rfl, HR2.out, ?_⟩⟩
          rw [HSN.out]
          unfold K.RS.fail
          rw [if_neg HZ2.out]
    · obtain rfl : k = n := by omega
      go_wp2
      go_ret
      exact ⟨HKP.out, .inl ⟨HZ.out, _, rfl, HR.out, vs, HL.out, ownsRow_base HO.out (Nat.zero_le _), HVS.out⟩⟩

set_option maxRecDepth 10000 in
theorem takeListI (D : Nat → Prop) (wf : World) (q m o : Nat) (most : Int) (hmost : most ≤ 16777216) (fn1 fn2 : FuncId) (cap1 cap2 : Array Value) (g : K.RS → K.RS) (V : K.RS → World → Value → Prop) (hV : ∀ s, StableT 3 (V s)) (hone : ∀ s w v, V s w v → ∃ y1, v = .int .i64 y1) (s : K.RS) (hs : s.fault = 0) (w : World)
    (ha : Agree D wf w) (hd : ¬ D q) (h : Rr w q s) (ht : TakesG D wf fn2 cap2 g V) (hc : ∀ args w, (callFunc fn2 args).run Tryz.prog w = .ok (.enter fn2 args) w) (dm : D m) (dO : D o) (hm : wf.cell? ⟨m, 0, none⟩ = some (.int .i64 most)) (ho : wf.heap[o]? = some (.cells #[.func (.func fn1) #[] cap1, .func (.func fn2) #[] cap2] 90 (0, 0))) :
    Takes w q 164 #[.pointer (some ⟨m, 0, none⟩), .pointer (some ⟨o, 0, none⟩)] (listR most g s) (listV 3 most g V s) := by
  have hm' := ha.cell hm dm
  have HO := hide ho
  have HA := hide ha
  have HD := hide hd
  have HT := hide ht
  have HC := hide hc
  have HV := hide hV
  have H1 := hide hone
  have HH := hide h
  have HDO := hide dO
  have HZ := hide hs
  have htp := h.top
  have htk := h.tak
  have hbyt := h.byt
  clear ha hd ht hc h hm ho dm dO hV hone hs
  unfold Takes
  show Calls Tryz.prog 164 #[.pointer (some ⟨q, 0, none⟩), .pointer (some ⟨m, 0, none⟩), .pointer (some ⟨o, 0, none⟩)] w _
  generalize hs' : listR most g s = s'
  generalize hx : listV 3 most g V s = VV
  have HS := hide hs'
  have HX := hide hx
  clear hs' hx
  cases hcn : cnt most (rest s) with
  | error e =>
    have HCN := hide hcn
    have HS' : Hid (s.fail e = s') := by show _ = _; rw [← HS.out]; unfold listR; rw [hcn]
    clear hcn
    go_enter Tryz.func164, Tryz.ntmps164
    go_wp2_with fail
    refine (peekCount_any q most s _ HH.out).mono ?_
    rintro en w1 ⟨hout, hb⟩
    rw [HCN.out] at hout
    have hen : en = gaveUp e := hout
    subst hen
    exact ⟨rfl, Keep.ofBelow hb (Nat.le_refl _), .inr ⟨by rw [← HS'.out]; exact fail_ne HZ.out (cnt_err HCN.out), e, s, rfl, HH.out.below hb, HS'.out⟩⟩
  | ok r =>
    obtain ⟨n, z⟩ := r
    have HCN := hide hcn
    have HS' : Hid (allR g n (s.go z) = s') := by show _ = _; rw [← HS.out]; unfold listR; rw [hcn]
    have HX' : Hid (ListV 3 g V n (s.go z) = VV) := by
      show _ = _
      rw [← HX.out]
      funext w v
      unfold listV
      rw [hcn]
    obtain ⟨hpk, hnm, hzn⟩ := cnt_ok hcn
    obtain ⟨k1, k2, k3, _, k5⟩ := K.pk_ok hbyt hpk
    rw [rest_len] at k3 hzn
    clear hcn hpk
    go_enter Tryz.func164, Tryz.ntmps164
    go_wp2_with fail
    refine (peekCount_any q most s _ HH.out).mono ?_
    rintro en w1 ⟨hout, hb⟩
    rw [HCN.out] at hout
    have hen : en = .returned (.tuple #[.int .i64 (n : Nat), .int .i64 (z : Nat)]) := hout
    subst hen
    have HB := hide hb
    have HR1 := hide (HH.out.below hb)
    obtain ⟨_, _, _, c1, _, hf⟩ := HR1.out.see
    have hf1 := hf 1
    have hqo : ¬ o = q := fun e => HD.out (e ▸ HDO.out)
    have HAG := hide (HA.out.keep (Keep.ofBelow (S := fun _ => False) hb (Nat.le_refl _)) fun _ _ h => h)
    have hbo := (HAG.out o HDO.out).2.trans HO.out
    have e0 : w1.cell? ⟨o, 0, none⟩ = some (.func (.func fn1) #[] cap1) := by rw [cell_of_row _ _ _ _ _ _ hbo]; rfl
    have e1 : w1.cell? ⟨o, 1, none⟩ = some (.func (.func fn2) #[] cap2) := by rw [cell_of_row _ _ _ _ _ _ hbo]; rfl
    clear hout hb hf hbo hbyt
    have HSET := hide (HR1.out.set1 (s.taken + z) (by omega))
    have HKS : Hid (Keep (fun k => k = q) w1 (w1.setCell ⟨q, 1, none⟩ (.int .i64 ((s.taken + z : Nat) : Int)))) := Keep.setCell (S := fun k => k = q) w1 (p := ⟨q, 1, none⟩) rfl _
    have hne1 : (⟨o, 0, none⟩ : Addr) ≠ ⟨q, 1, none⟩ := fun e => by injection e; omega
    have hne2 : (⟨o, 1, none⟩ : Addr) ≠ ⟨q, 1, none⟩ := fun e => by injection e; omega
    have hzz : s.taken + z ≤ 16777216 := by omega
    go_wp2_with fail
    refine (takeAllI D wf q fn1 fn2 cap1 cap2 n (by omega) g V HV.out H1.out (s.go z) HZ.out _ (HAG.out.keep HKS.out fun j hj e => HD.out (e ▸ hj)) HD.out HSET.out HT.out HC.out).mono ?_
    rintro en w2 ⟨hk2, hcase⟩
    have HK2 := hide (((Keep.ofBelow (S := fun k => k = q) HB.out (Nat.le_refl _)).more HKS.out).more hk2)
    rw [HS'.out, HX'.out] at hcase
    clear hk2
    rcases hcase with ⟨hz0, v, rfl, hr, hv⟩ | ⟨hz0, e, s1, rfl, hr, hfl⟩
    · have HR := hide hr
      have HVV := hide hv
      have HZ0 := hide hz0
      clear hr hv hz0
      go_wp2
      go_ret
      exact ⟨HK2.out, .inl ⟨HZ0.out, v, rfl, HR.out, HVV.out⟩⟩
    · exact ⟨rfl, HK2.out, .inr ⟨hz0, e, s1, rfl, hr, hfl⟩⟩

theorem ent_takeListI (args : Array Value) (w : World) : (callFunc 164 args).run Tryz.prog w = .ok (.enter 164 args) w :=
  callFunc_enter Tryz.func164 (by kernel_rfl) (by kernel_rfl) args w

theorem takesListI (D : Nat → Prop) (wf : World) (m o : Nat) (most : Int) (hmost : most ≤ 16777216) (fn1 fn2 : FuncId) (cap1 cap2 : Array Value) (g : K.RS → K.RS) (V : K.RS → World → Value → Prop) (hV : ∀ s, StableT 3 (V s)) (hone : ∀ s w v, V s w v → ∃ y1, v = .int .i64 y1)
    (ht : TakesG D wf fn2 cap2 g V) (hc : ∀ args w, (callFunc fn2 args).run Tryz.prog w = .ok (.enter fn2 args) w) (dm : D m) (dO : D o) (hm : wf.cell? ⟨m, 0, none⟩ = some (.int .i64 most)) (ho : wf.heap[o]? = some (.cells #[.func (.func fn1) #[] cap1, .func (.func fn2) #[] cap2] 90 (0, 0))) :
    TakesG D wf 164 #[.pointer (some ⟨m, 0, none⟩), .pointer (some ⟨o, 0, none⟩)] (listR most g) (listV 3 most g V) :=
  fun q s w1 ha hd h hz => takeListI D wf q m o most hmost fn1 fn2 cap1 cap2 g V hV hone s hz w1 ha hd h ht hc dm dO hm ho

end Go.Proofs.YtbjcckfhfbjchaaGreat
