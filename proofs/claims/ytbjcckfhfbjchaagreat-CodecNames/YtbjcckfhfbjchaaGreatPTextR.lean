/- Package pack: takeRow; the take of Texts. -/
import Derived.Test.YtbjcckfhfbjchaaGreatPRow
namespace Go.Proofs.YtbjcckfhfbjchaaGreat
open Go.RowKit

/-- bytes as a string -/
def str (l : List Nat) : ByteArray := strOfNums (l.map fun (d : Nat) => (d : Int))

theorem conv_rd {w : World} {a : Option Addr} {n : Nat} {l : List Nat} (h : Rd w a n l) (c : Nat) : (convert 24 9 (.slice a n c)).run Tryz.prog w = .ok (.string (str l)) w := by
  obtain ⟨hl, _, _, hrow⟩ := h
  rcases hrow with h0 | ⟨b, off, rfl, hrow⟩
  · have hnil : l = [] := List.length_eq_zero_iff.1 (by omega)
    subst h0 hnil
    cases a with
    | none => exact run_convert_bytes_nil w 24 5 Tryz.underlying24 Tryz.underlying5 0 c 9 Tryz.underlying9
    | some y =>
      have hl : (loadCells y 0).run Tryz.prog w = .ok (([] : List Int).map (Value.int .u8)).toArray w := by simpa using run_loadCells_list (P := Tryz.prog) w y [] (by simp)
      rw [run_convert_bytes_string w 24 9 5 _ 0 c Tryz.underlying24 Tryz.underlying5 Tryz.underlying9, run_bytesToString w _ 0 c [] hl]
      rfl
  · exact run_convert_bytes_arg w 24 5 Tryz.underlying24 Tryz.underlying5 b off n c (l.map fun (d : Nat) => (d : Int)) (by simp [hl]) (fun i hi => by
      rw [hrow i hi]
      congr 2
      rw [List.getD_eq_getElem?_getD, List.getD_eq_getElem?_getD, List.getElem?_map, List.getElem?_eq_getElem (show i < l.length by omega)]
      rfl) 9 Tryz.underlying9

theorem sb_str (l : List Nat) (h : ∀ d ∈ l, d < 256) : sb (str l) = l := by
  unfold sb str
  rw [strOfNums_data, List.map_map, List.map_map]
  conv => rhs; rw [← List.map_id l]
  apply List.map_congr_left
  intro d hd
  have := h d hd
  simp [Nat.mod_eq_of_lt this]

theorem str_sb (s : ByteArray) : str (sb s) = s := by
  unfold sb str strOfNums
  rw [List.map_map, List.map_map]
  have : (s.data.toList.map (((fun (n : Int) => UInt8.ofNat n.toNat) ∘ fun (d : Nat) => (d : Int)) ∘ fun b => b.toNat)) = s.data.toList := by
    conv => rhs; rw [← List.map_id s.data.toList]
    apply List.map_congr_left
    intro b _
    simp
  rw [this]

/-- bytes are none of the reader's own cells -/
theorem Rd.past {w w' : World} {a : Option Addr} {n q : Nat} {l : List Nat} {s : K.RS} (h : Rd w a n l) (hr : Rr w q s) (hk : Keep (fun k => k = q) w w') : Rd w' a n l := by
  obtain ⟨h1, h2, h3, h4⟩ := h
  refine ⟨h1, h2, h3, ?_⟩
  rcases h4 with h4 | ⟨b, off, rfl, h4⟩
  · exact .inl h4
  · refine .inr ⟨b, off, rfl, fun i hi => hk.cell (h4 i hi) ?_⟩
    rintro e
    have e' : b = q := e
    subst e'
    obtain ⟨a0, c0, hb, _⟩ := hr.ex
    have hc := h4 i hi
    rw [cell_of_row _ _ _ _ _ _ hb] at hc
    match off + i, hc with
    | 0, hc => simp at hc
    | 1, hc => simp at hc
    | 2, hc => simp at hc
    | j + 3, hc => simp at hc

def rowR (most : Int) (s : K.RS) : K.RS := match cnt most (rest s) with
  | .ok (n, z) => s.go (z + n)
  | .error e => s.fail e
def rowV (most : Int) (s : K.RS) : List Nat := match cnt most (rest s) with
  | .ok (n, z) => ((rest s).take (z + n)).drop z
  | .error _ => []

theorem rowV_lt {w : World} {q : Nat} {s : K.RS} (h : Rr w q s) (most : Int) : ∀ d ∈ rowV most s, d < 256 := by
  intro d hd
  unfold rowV at hd
  split at hd
  · exact h.byt d (List.mem_of_mem_take (List.mem_of_mem_drop hd))
  · cases hd

set_option maxRecDepth 10000 in
theorem takeRow_err (q : Nat) (most : Int) (s : K.RS) (w : World) (h : Rr w q s) (e : Nat) (hc : cnt most (rest s) = .error e) :
    Calls Tryz.prog 158 #[.pointer (some ⟨q, 0, none⟩), .int .i64 most] w fun en w' => en = gaveUp e ∧ Below w.heap.size w w' := by
  have HH := hide h
  have HC := hide hc
  clear h hc
  go_enter Tryz.func158, Tryz.ntmps158
  go_wp2_with fail
  refine (peekCount_any q most s _ HH.out).mono ?_
  rintro en w1 ⟨ho, hb⟩
  rw [HC.out] at ho
  have hen : en = gaveUp e := ho
  subst hen
  exact ⟨rfl, rfl, hb⟩

set_option maxRecDepth 10000 in
theorem takeRow_ok (q : Nat) (most : Int) (s : K.RS) (w : World) (h : Rr w q s) (n z : Nat) (hc : cnt most (rest s) = .ok (n, z)) :
    Calls Tryz.prog 158 #[.pointer (some ⟨q, 0, none⟩), .int .i64 most] w fun en w' => ∃ a c, en = .returned (.slice a n c) ∧ Rd w' a n (((rest s).take (z + n)).drop z) ∧ (a = none → c = 0) ∧ n ≤ c ∧ Rr w' q (s.go (z + n)) ∧ Keep (fun k => k = q) w w' := by
  have HH := hide h
  have HC := hide hc
  have htp := h.top
  have htk := h.tak
  obtain ⟨hpk, _, hzn⟩ := cnt_ok hc
  have HL := hide (rest_len s)
  have hl2 : z + n ≤ 16777216 := by rw [rest_len] at hzn; omega
  have HZN := hide hzn
  have hzn2 : s.taken + (z + n) ≤ s.data.length := by rw [rest_len] at hzn; omega
  clear h hc hpk hzn
  go_enter Tryz.func158, Tryz.ntmps158
  go_wp2_with fail
  refine (peekCount_any q most s _ HH.out).mono ?_
  rintro en w1 ⟨ho, hb⟩
  rw [HC.out] at ho
  have hen : en = .returned (.tuple #[.int .i64 (n : Nat), .int .i64 (z : Nat)]) := ho
  subst hen
  have HB1 := hide hb
  clear ho hb
  obtain ⟨t, ht⟩ : ∃ t, z + n = t := ⟨_, rfl⟩
  have hadd : (z : Int) + (n : Int) = (t : Int) := by omega
  have HT := hide ht
  have hzt : z ≤ t := by omega
  clear ht
  go_wp2_with fail
  refine (peek_yes q t s _ (HH.out.below HB1.out) (by have := HZN.out; have := HT.out; omega)).mono ?_
  rintro e w2 ⟨a, c, rfl, hr, h0, hc, hb2⟩
  obtain ⟨a', hsl, hr', h0', hc'⟩ := slice_lo_rd hr c z h0 hc hzt
  have HB := hide (further HB1.out hb2)
  have HR2 := hide (HH.out.below HB.out)
  obtain ⟨_, _, _, c1, _, hf⟩ := HR2.out.see
  have hf1 := hf 1
  have HRR := hide hr'
  have H0 := hide h0'
  clear hr h0 hb2 hr' h0' hf
  have htb : t ≤ 16777216 := by have := HT.out; omega
  have htt : s.taken + t ≤ s.data.length := by have := HT.out; omega
  clear hl2 hzn2
  go_wp2
  go_ret
  have hset := HR2.out.set1 (s.taken + t) htt
  have hk : Keep (fun k => k = q) w2 (w2.setCell ⟨q, 1, none⟩ (.int .i64 ((s.taken + t : Nat) : Int))) := Keep.setCell (S := fun k => k = q) w2 (p := ⟨q, 1, none⟩) rfl _
  have hnt : t - z = n := by have := HT.out; omega
  refine ⟨a', c - z, ?_, ?_, H0.out, by omega, ?_, ?_⟩
  · rw [← hnt]; rfl
  · have hp := HRR.out.past HR2.out hk
    rw [hnt] at hp
    rw [HT.out]
    exact hp
  · rw [HT.out]; exact hset
  · exact (Keep.ofBelow HB.out (Nat.le_refl _)).more hk

set_option maxRecDepth 10000 in
theorem takeText (q m : Nat) (most : Int) (s : K.RS) (w : World) (h : Rr w q s) (hz : s.fault = 0) (hm : w.cell? ⟨m, 0, none⟩ = some (.int .i64 most)) :
    Takes w q 157 #[.pointer (some ⟨m, 0, none⟩)] (rowR most s) (fun _ v => v = .string (str (rowV most s))) := by
  have HH := hide h
  have HZ := hide hz
  unfold Takes
  show Calls Tryz.prog 157 #[.pointer (some ⟨q, 0, none⟩), .pointer (some ⟨m, 0, none⟩)] w _
  generalize hs' : rowR most s = s'
  generalize hx : rowV most s = x
  have HS := hide hs'
  have HX := hide hx
  clear hs' hx h hz
  cases hc : cnt most (rest s) with
  | error e =>
    have HC := hide hc
    have HS' : Hid (s.fail e = s') := by show _ = _; rw [← HS.out]; unfold rowR; rw [hc]
    clear hc
    go_enter Tryz.func157, Tryz.ntmps157
    go_wp2_with fail
    refine (takeRow_err q most s _ HH.out e HC.out).mono ?_
    rintro en w1 ⟨rfl, hb⟩
    exact ⟨rfl, Keep.ofBelow hb (Nat.le_refl _), .inr ⟨by rw [← HS'.out]; exact fail_ne HZ.out (cnt_err HC.out), e, s, rfl, HH.out.below hb, HS'.out⟩⟩
  | ok r =>
    obtain ⟨n, z⟩ := r
    have HC := hide hc
    have HS' : Hid (s.go (z + n) = s') := by show _ = _; rw [← HS.out]; unfold rowR; rw [hc]
    have HX' : Hid (((rest s).take (z + n)).drop z = x) := by show _ = _; rw [← HX.out]; unfold rowV; rw [hc]
    clear hc
    go_enter Tryz.func157, Tryz.ntmps157
    go_wp2_with fail
    refine (takeRow_ok q most s _ HH.out n z HC.out).mono ?_
    rintro en w1 ⟨a, c, rfl, hr, h0, hcc, hrr, hk⟩
    rw [HX'.out] at hr
    rw [HS'.out] at hrr
    have kc := conv_rd hr c
    have HRR := hide hrr
    have HK := hide hk
    clear hr h0 hrr hk
    generalize hst : str x = st at *
    have HST := hide hst
    clear hst
    go_wp2
    go_ret
    exact ⟨HK.out, .inl ⟨by rw [← HS'.out]; exact HZ.out, _, rfl, HRR.out, by rw [HST.out]; rfl⟩⟩

theorem ent_takeText (args : Array Value) (w : World) : (callFunc 157 args).run Tryz.prog w = .ok (.enter 157 args) w :=
  callFunc_enter Tryz.func157 (by kernel_rfl) (by kernel_rfl) args w

theorem takesText (D : Nat → Prop) (w : World) (m : Nat) (most : Int) (hm : w.cell? ⟨m, 0, none⟩ = some (.int .i64 most)) (dm : D m) :
    TakesG D w 157 #[.pointer (some ⟨m, 0, none⟩)] (rowR most) (fun s _ v => v = .string (str (rowV most s))) :=
  fun q s w1 ha _ h hz => takeText q m most s w1 h hz (ha.cell hm dm)

end Go.Proofs.YtbjcckfhfbjchaaGreat
