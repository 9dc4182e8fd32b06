/- The law's bounded. -/
import Derived.Test.YtfnndnceaddhgaaVLen
import Derived.Test.YtfnndnceaddhgaaVRfB
import Derived.Test.YtfnndnceaddhgaaVKno
import Derived.Deep.RegionLaw
namespace Go.Proofs.Ytfnndnceaddhgaa
open Go.RowKit

/-- a question -/
structure V.Ak where
  kind : Int
  base : Int
  most : Int
  k : Int
  luck : Nat
  run : Int
  node : Int
  att : Int
  nd : V.Nd
  nm : ByteArray
  dl : Int
  sl : Option Addr × Nat × Nat
  gap : Int
  ahead : Int
def V.Ak.row (q : V.Ak) : List Value := [.int .i64 q.kind, .int .i64 q.base, .int .i64 q.most, .int .i64 q.k, .int .u64 (q.luck : Int), .int .i64 q.run, .int .i64 q.node, .int .i64 q.att] ++ q.nd.row ++ [.string q.nm, .int .i64 q.dl, .slice q.sl.1 q.sl.2.1 q.sl.2.2, .int .i64 q.gap, .int .i64 q.ahead]

/-- what of a question's box a bound reads -/
structure AskBox (w : World) (b : Nat) (nm : ByteArray) (dl : Int) (sa : Option Addr) (sn sc : Nat) (gap ahead : Int) : Prop where
  box : ∃ cs, w.heap[b]? = some (.cells cs 36 (0, 0)) ∧ cs[18]? = some (.string nm) ∧ cs[19]? = some (.int .i64 dl) ∧ cs[20]? = some (.slice sa sn sc) ∧ cs[21]? = some (.int .i64 gap) ∧ cs[22]? = some (.int .i64 ahead)
theorem AskBox.keep {w w' : World} {b : Nat} {nm : ByteArray} {dl : Int} {sa : Option Addr} {sn sc : Nat} {gap ahead : Int} (h : AskBox w b nm dl sa sn sc gap ahead) (hb : Below w.heap.size w w') : AskBox w' b nm dl sa sn sc gap ahead := by
  obtain ⟨cs, h0, h1⟩ := h
  exact ⟨cs, (hb.block b (Array.getElem?_eq_some_iff.1 h0).1).trans h0, h1⟩
theorem AskBox.other {w w' : World} {b : Nat} {nm : ByteArray} {dl : Int} {sa : Option Addr} {sn sc : Nat} {gap ahead : Int} (h : AskBox w b nm dl sa sn sc gap ahead) (hb : w'.heap[b]? = w.heap[b]?) : AskBox w' b nm dl sa sn sc gap ahead := by
  obtain ⟨cs, h0, h1⟩ := h
  exact ⟨cs, hb.trans h0, h1⟩
theorem AskBox.cells {w : World} {b : Nat} {nm : ByteArray} {dl : Int} {sa : Option Addr} {sn sc : Nat} {gap ahead : Int} (h : AskBox w b nm dl sa sn sc gap ahead) : w.cell? ⟨b, 18, none⟩ = some (.string nm) ∧ w.cell? ⟨b, 19, none⟩ = some (.int .i64 dl) ∧ w.cell? ⟨b, 20, none⟩ = some (.slice sa sn sc) ∧ w.cell? ⟨b, 21, none⟩ = some (.int .i64 gap) ∧ w.cell? ⟨b, 22, none⟩ = some (.int .i64 ahead) := by
  obtain ⟨cs, h0, h1, h2, h3, h4, h5⟩ := h
  exact ⟨cell_blk h0 18 h1, cell_blk h0 19 h2, cell_blk h0 20 h3, cell_blk h0 21 h4, cell_blk h0 22 h5⟩

/-- all that 'bounded' holds in memory -/
structure BdAt (w0 w : World) (b Pb B : Nat) (nm : ByteArray) (dl : Int) (sa : Option Addr) (sn sc : Nat) (gap ahead : Int) (qs rs : List V.Nd) : Prop where
  ask : AskBox w b nm dl sa sn sc gap ahead
  rd : RdN w sa sn qs
  rows : RowsAt w B rs
  plan : w.heap[Pb]? = some (.cells #[.string nm, .int .i64 dl, .slice (some ⟨B, 0, none⟩) sn (sn + 2)] 34 (0, 0))
  bel : Below w0.heap.size w0 w
theorem BdAt.keep {w0 w w' : World} {b Pb B : Nat} {nm : ByteArray} {dl : Int} {sa : Option Addr} {sn sc : Nat} {gap ahead : Int} {qs rs : List V.Nd} (h : BdAt w0 w b Pb B nm dl sa sn sc gap ahead qs rs) (hb : Below w.heap.size w w') : BdAt w0 w' b Pb B nm dl sa sn sc gap ahead qs rs :=
  ⟨h.ask.keep hb, h.rd.keep hb, h.rows.below hb, (hb.block Pb (Array.getElem?_eq_some_iff.1 h.plan).1).trans h.plan, h.bel.trans (hb.mono h.bel.size)⟩
theorem BdAt.pcells {w0 w : World} {b Pb B : Nat} {nm : ByteArray} {dl : Int} {sa : Option Addr} {sn sc : Nat} {gap ahead : Int} {qs rs : List V.Nd} (h : BdAt w0 w b Pb B nm dl sa sn sc gap ahead qs rs) : w.cell? ⟨Pb, 0, none⟩ = some (.string nm) ∧ w.cell? ⟨Pb, 1, none⟩ = some (.int .i64 dl) ∧ w.cell? ⟨Pb, 2, none⟩ = some (.slice (some ⟨B, 0, none⟩) sn (sn + 2)) :=
  ⟨cell_blk h.plan 0 rfl, cell_blk h.plan 1 rfl, cell_blk h.plan 2 rfl⟩
theorem BdAt.lent {w0 w : World} {b Pb B : Nat} {nm : ByteArray} {dl : Int} {sa : Option Addr} {sn sc : Nat} {gap ahead : Int} {qs rs : List V.Nd} (h : BdAt w0 w b Pb B nm dl sa sn sc gap ahead qs rs) (ps : List V.Nd) (hp : ps <+: rs) (hl : ps.length = sn) (hin : ∀ q ∈ ps, V.Nd.In q) : RdN w (some ⟨B, 0, none⟩) sn ps := by
  have := h.rows.rd ps hp hin (by rw [hl]; exact h.rd.2.1)
  rw [hl] at this; exact this

set_option maxRecDepth 100000 in
set_option maxHeartbeats 4000000 in
theorem bounded_any (q : V.Ak) (qs : List V.Nd) (w : World) (hqs : RdN w q.sl.1 q.sl.2.1 qs) (hsm : q.sl.2.1 ≤ 1172812402926) :
    Calls Try.prog 23 #[.agg q.row.toArray] w fun e w' => e = .returned (.bool true) ∧ Below w.heap.size w w' := by
  obtain ⟨kd, bs, ms, kk, lu, rn, no, att, nd, nm, dl, ⟨sa, sn, sc⟩, gap, ahead⟩ := q
  obtain ⟨nq, la, bu, cl, be, ba, ca, ji, ⟨ne1, ne2, ne3⟩, ⟨af1, af2, af3⟩⟩ := nd
  simp only [V.Ak.row, V.Nd.row, List.cons_append, List.nil_append] at *
  have A0 := hide (show AskBox (w.alloc (.cells #[.int .i64 kd, .int .i64 bs, .int .i64 ms, .int .i64 kk, .int .u64 (lu : Int), .int .i64 rn, .int .i64 no, .int .i64 att, .string nq, .int .i64 la, .int .i64 bu, .int .i64 cl, .int .i64 be, .int .i64 ba, .int .i64 ca, .int .i64 ji, .slice ne1 ne2 ne3, .slice af1 af2 af3, .string nm, .int .i64 dl, .slice sa sn sc, .int .i64 gap, .int .i64 ahead] 36)) w.heap.size nm dl sa sn sc gap ahead from ⟨_, heap_alloc_new _ _, rfl, rfl, rfl, rfl, rfl⟩)
  have K0 := hide ((Below.refl w.heap.size w).alloc (Nat.le_refl _) (.cells #[.int .i64 kd, .int .i64 bs, .int .i64 ms, .int .i64 kk, .int .u64 (lu : Int), .int .i64 rn, .int .i64 no, .int .i64 att, .string nq, .int .i64 la, .int .i64 bu, .int .i64 cl, .int .i64 be, .int .i64 ba, .int .i64 ca, .int .i64 ji, .slice ne1 ne2 ne3, .slice af1 af2 af3, .string nm, .int .i64 dl, .slice sa sn sc, .int .i64 gap, .int .i64 ahead] 36))
  have Q0 := hide (hqs.keep ((Below.refl w.heap.size w).alloc (Nat.le_refl _) (.cells #[.int .i64 kd, .int .i64 bs, .int .i64 ms, .int .i64 kk, .int .u64 (lu : Int), .int .i64 rn, .int .i64 no, .int .i64 att, .string nq, .int .i64 la, .int .i64 bu, .int .i64 cl, .int .i64 be, .int .i64 ba, .int .i64 ca, .int .i64 ji, .slice ne1 ne2 ne3, .slice af1 af2 af3, .string nm, .int .i64 dl, .slice sa sn sc, .int .i64 gap, .int .i64 ahead] 36)))
  have Z0 := hide (show (w.alloc (.cells #[.int .i64 kd, .int .i64 bs, .int .i64 ms, .int .i64 kk, .int .u64 (lu : Int), .int .i64 rn, .int .i64 no, .int .i64 att, .string nq, .int .i64 la, .int .i64 bu, .int .i64 cl, .int .i64 be, .int .i64 ba, .int .i64 ca, .int .i64 ji, .slice ne1 ne2 ne3, .slice af1 af2 af3, .string nm, .int .i64 dl, .slice sa sn sc, .int .i64 gap, .int .i64 ahead] 36)).heap.size = w.heap.size + 1 by simp)
  clear hqs
  go_enter Try.func23, Try.ntmps23
  go_wp2_with fail
  go_at_call 28
  refine (lent_any nm dl sa sn sc qs _ Q0.out hsm).mono ?_
  rintro e w2 ⟨B, rfl, hR2, hB2, hb2⟩
  have A2 := hide (A0.out.keep hb2)
  have K2 := hide (K0.out.trans (hb2.mono K0.out.size))
  have Q2 := hide (Q0.out.keep hb2)
  have R2 := hide hR2
  have HB2 := hide (show w.heap.size < B by have := Z0.out; omega)
  clear hb2 hR2 hB2 A0 K0 Q0 Z0
  have D3 := hide (show BdAt w (w2.alloc (.cells #[.string nm, .int .i64 dl, .slice (some ⟨B, 0, none⟩) sn (sn + 2)] 34)) w.heap.size w2.heap.size B nm dl sa sn sc gap ahead qs (qs ++ [V.zN 701, V.zN 702]) from
    ⟨A2.out.keep ((Below.refl _ w2).alloc (Nat.le_refl _) _), Q2.out.keep ((Below.refl _ w2).alloc (Nat.le_refl _) _), R2.out.below ((Below.refl _ w2).alloc (Nat.le_refl _) _), heap_alloc_new _ _, K2.out.alloc K2.out.size _⟩)
  have HBw := hide (R2.out.lt)
  have HIN := hide Q2.out.2.2.1
  have HSN := hide Q2.out.1
  go_upto_region 2 with fail
  generalize w2.alloc (.cells #[.string nm, .int .i64 dl, .slice (some ⟨B, 0, none⟩) sn (sn + 2)] 34) = w3 at *
  clear A2 K2 Q2 R2
  have B1 := hide (bound_all nm dl (some ⟨B, 0, none⟩) sn (sn + 2) qs gap ahead w3 (D3.out.lent qs (List.prefix_append _ _) HSN.out.symm HIN.out))
  have B2 := hide (fun w4 h => rbound_all nm dl sa sn sc qs gap ahead w4 h)
  generalize V.bndI dl qs gap ahead = R at *
  obtain ⟨rt, rc⟩ := R
  obtain ⟨a18, a19, a20, a21, a22⟩ := D3.out.ask.cells
  obtain ⟨p0, p1, p2⟩ := D3.out.pcells
  go_wp2_with fail
  go_at_call 29
  refine B1.out.mono ?_
  rintro e w4 ⟨rfl, hb4⟩
  have D4 := hide (D3.out.keep hb4)
  clear hb4 D3 B1 a18 a19 a20 a21 a22 p0 p1 p2
  obtain ⟨a18, a19, a20, a21, a22⟩ := D4.out.ask.cells
  go_wp2_with fail
  go_at_call 30
  refine (B2.out _ D4.out.rd).mono ?_
  rintro e w5 ⟨rfl, hb5⟩
  have D5 := hide (D4.out.keep hb5)
  clear hb5 D4 B2 a18 a19 a20 a21 a22
  obtain ⟨a18, a19, a20, a21, a22⟩ := D5.out.ask.cells
  go_wp2_with fail
  have hL : ∀ wx, BdAt w wx w.heap.size w2.heap.size B nm dl sa sn sc gap ahead qs (qs ++ [V.zN 701, V.zN 702]) → wx.cell? ⟨w.heap.size, 20, none⟩ = some (.slice sa sn sc) ∧ wx.cell? ⟨B, sn * 10 + 1, none⟩ = some (.int .i64 701) ∧ wx.cell? ⟨B, (sn + 1) * 10 + 1, none⟩ = some (.int .i64 702) := fun wx h => by
    have hs := HSN.out
    refine ⟨h.ask.cells.2.2.1, (h.rows.node sn (V.zN 701) ?_).all.2.1, (h.rows.node (sn + 1) (V.zN 702) ?_).all.2.1⟩
    · rw [List.getElem?_append_right (by omega), show sn - qs.length = 0 by omega]; rfl
    · rw [List.getElem?_append_right (by omega), show sn + 1 - qs.length = 1 by omega]; rfl
  have HL := hide hL
  clear hL
  have hsn2 : (sn : Int) ≤ (sn : Int) + 2 := by omega
  have hs1 : (0 : Int) ≤ (sn : Int) := by omega
  have hs2 : (sn : Int) < (sn : Int) + 2 := by omega
  have hs3 : IntKind.i64.wrap ((sn : Int) + 1) = (sn : Int) + 1 := by rw [IntKind.wrap_i64]; omega
  have hs4 : (0 : Int) ≤ (sn : Int) + 1 := by omega
  have hs5 : (sn : Int) + 1 < (sn : Int) + 2 := by omega
  have hs6 : ((sn : Int) + 1).toNat = sn + 1 := by omega
  have SM := hide (fun wx (h : BdAt w wx w.heap.size w2.heap.size B nm dl sa sn sc gap ahead qs (qs ++ [V.zN 701, V.zN 702])) => same_any (some ⟨B, 0, none⟩) sa sn (sn + 2) sc qs wx (h.lent qs (List.prefix_append _ _) HSN.out.symm HIN.out) h.rd)
  go_region_held3 (fun wx => wx.cell? ⟨w.heap.size, 20, none⟩ = some (.slice sa sn sc) ∧ wx.cell? ⟨B, sn * 10 + 1, none⟩ = some (.int .i64 701) ∧ wx.cell? ⟨B, (sn + 1) * 10 + 1, none⟩ = some (.int .i64 702)) (first | (exact HL.out _ (D5.out.keep (Below.refl _ w5).drew)) | (exact HL.out _ D6.out) | go_keep) (first
    | (go_at_call 31
       refine (SM.out _ (D5.out.keep (Below.refl _ w5).drew)).mono ?_
       rintro e w6 ⟨rfl, hb6⟩
       have D6 := hide ((D5.out.keep (Below.refl _ w5).drew).keep hb6)
       clear hb6))
  have E6 := hide (show ∃ rs : List V.Nd, rs.length = sn + 2 ∧ (∀ q ∈ rs, V.Nd.In q) ∧ RowsAt w6 B rs from ⟨_, by have := HSN.out; simp; omega, fun q hq => by
    rcases List.mem_append.1 hq with h | h
    · exact HIN.out q h
    · simp only [List.mem_cons, List.not_mem_nil, or_false] at h
      rcases h with rfl | rfl <;> (unfold V.Nd.In V.zN V.i64; simp), D6.out.rows⟩)
  go_wp2_with fail
  clear HL SM D5 a18 a19 a20 a21 a22 hs2 hs3 hs4 hs5 hs6 hsn2
  go_loopw [10] (fun iv wr => ∃ (i : Nat), iv = .int .i64 (i : Nat) ∧ i ≤ sn ∧ Hid ((∃ rs : List V.Nd, rs.length = sn + 2 ∧ (∀ q ∈ rs, V.Nd.In q) ∧ RowsAt wr B rs) ∧ AskBox wr w.heap.size nm dl sa sn sc gap ahead ∧ wr.heap[w2.heap.size]? = some (.cells #[.string nm, .int .i64 dl, .slice (some ⟨B, 0, none⟩) sn (sn + 2)] 34 (0, 0)) ∧ Below w.heap.size w wr)) (fun iv _ => sn - (intOf iv).toNat)
  case atStart => exact ⟨0, rfl, Nat.zero_le _, E6.out, D6.out.ask, D6.out.plan, D6.out.bel⟩
  case round =>
    obtain ⟨i, rfl, hi, HI⟩ := hrel
    rcases Nat.lt_or_ge i sn with hlt | hlt
    · obtain ⟨⟨rs, hl, hin, hrow⟩, hask, hplan, hbel⟩ := HI.out
      obtain ⟨q, hq⟩ : ∃ q, rs[i]? = some q := ⟨_, List.getElem?_eq_getElem (by omega)⟩
      have hqi := hin q (List.mem_of_getElem? hq)
      have PK := hide (fun w => pick_any q.cl 1000 hqi.2.2.1.1 hqi.2.2.1.2 (by decide) (by decide) w)
      have lp := V.pk_lt q.cl 1000 (by decide)
      have t3 := (hrow.node i q hq).all.2.2.2.1
      have f3 := hrow.froz (i * 10 + 3)
      generalize V.pk q.cl 1000 = P at *
      have hr1 := hrow.set1 hq 3 (by decide) { q with cl := 1 + (P : Int) } (.int .i64 (1 + (P : Int))) rfl
      have hq1 : (rs.set i { q with cl := 1 + (P : Int) })[i]? = some { q with cl := 1 + (P : Int) } := List.getElem?_set_self (by omega)
      have t2 := (hr1.node i _ hq1).all.2.2.1
      have f2 := hr1.froz (i * 10 + 2)
      have hr2 := hr1.set1 hq1 2 (by decide) { q with cl := 1 + (P : Int), bu := 1 + (i : Int) % 100 } (.int .i64 (1 + (i : Int) % 100)) rfl
      simp only at t2 t3
      have hi2 : (i : Int) < (sn : Int) + 2 := by omega
      have HLI := hide (And.intro hl hin)
      have HR2 := hide hr2
      have HQI := hide hqi
      have HAP := hide (And.intro hask (And.intro hplan hbel))
      clear hl hin hrow hask hplan hbel hr1 hr2 hq1 hqi
      generalize hqb : q.bu = qb at *
      generalize hqc : q.cl = qc at *
      go_wp2_with fail
      go_at_call 14
      refine (PK.out _).mono ?_
      rintro e wq ⟨rfl, hwq⟩
      subst hwq
      go_wp2_with fail
      have hz1 := HB2.out
      have hz2 := HBw.out
      have ho : ∀ k, k ≠ B → ((wq.setCell ⟨B, i * 10 + 3, none⟩ (.int .i64 (1 + (P : Int)))).setCell ⟨B, i * 10 + 2, none⟩ (.int .i64 (1 + (i : Int) % 100))).heap[k]? = wq.heap[k]? := fun k hk => (Below.heap_setCell _ _ _ _ hk).trans (Below.heap_setCell _ _ _ _ hk)
      refine ⟨⟨i + 1, by go_num, by omega, ⟨_, ?_, ?_, HR2.out⟩, HAP.out.1.other (ho _ (by omega)), (ho _ (by omega)).trans HAP.out.2.1, (HAP.out.2.2.setCell (p := ⟨B, i * 10 + 3, none⟩) (by show w.heap.size ≤ B; omega) _).setCell (p := ⟨B, i * 10 + 2, none⟩) (by show w.heap.size ≤ B; omega) _⟩, by simp [intOf]; omega⟩
      · have := HLI.out.1
        simp only [List.length_set]; omega
      · intro x hx
        rcases List.mem_or_eq_of_mem_set hx with h | rfl
        · rcases List.mem_or_eq_of_mem_set h with h | rfl
          · exact HLI.out.2 x h
          · have := HQI.out
            unfold V.Nd.In V.i64 at *
            simp only
            omega
        · have := HQI.out
          unfold V.Nd.In V.i64 at *
          simp only
          omega
    · obtain rfl : i = sn := by omega
      obtain ⟨⟨rs, hl, hin, hrow⟩, hask, hplan, hbel⟩ := HI.out
      have hps : RdN wr (some ⟨B, 0, none⟩) i (rs.take i) := by
        have := hrow.rd (rs.take i) (List.take_prefix _ _) (fun q hq => hin q (List.mem_of_mem_take hq)) (by simp; omega)
        rw [show (rs.take i).length = i by simp; omega] at this; exact this
      have B1 := hide (bound_all nm dl (some ⟨B, 0, none⟩) i (i + 2) (rs.take i) gap ahead wr hps)
      have B2 := hide (fun w4 h => rbound_all nm dl (some ⟨B, 0, none⟩) i (i + 2) (rs.take i) gap ahead w4 h)
      have HPS := hide hps
      have HA := hide hask
      have HP := hide hplan
      have HBE := hide hbel
      clear hl hin hrow hps hbel
      generalize V.bndI dl (rs.take i) gap ahead = R2 at *
      obtain ⟨ut, uc⟩ := R2
      obtain ⟨a18, a19, a20, a21, a22⟩ := hask.cells
      have p0 := cell_blk hplan 0 (v := .string nm) rfl
      have p1 := cell_blk hplan 1 (v := .int .i64 dl) rfl
      have p2 := cell_blk hplan 2 (v := .slice (some ⟨B, 0, none⟩) i (i + 2)) rfl
      clear hask hplan
      go_wp2_with fail
      go_at_call 29
      refine B1.out.mono ?_
      rintro e w7 ⟨rfl, hb7⟩
      have A7 := hide (HA.out.keep hb7)
      have P7 := hide ((hb7.block w2.heap.size (Array.getElem?_eq_some_iff.1 HP.out).1).trans HP.out)
      have S7 := hide (HPS.out.keep hb7)
      have K7 := hide (HBE.out.trans (hb7.mono HBE.out.size))
      clear hb7 B1 HA HP HPS HBE a18 a19 a20 a21 a22 p0 p1 p2
      obtain ⟨a18, a19, a20, a21, a22⟩ := A7.out.cells
      have p0 := cell_blk P7.out 0 (v := .string nm) rfl
      have p1 := cell_blk P7.out 1 (v := .int .i64 dl) rfl
      have p2 := cell_blk P7.out 2 (v := .slice (some ⟨B, 0, none⟩) i (i + 2)) rfl
      go_wp2_with fail
      go_at_call 30
      refine (B2.out _ S7.out).mono ?_
      rintro e w8 ⟨rfl, hb8⟩
      have K8 := hide (K7.out.trans (hb8.mono K7.out.size))
      clear hb8 B2
      go_wp2_with fail
      go_ret
      exact ⟨rfl, K8.out⟩
end Go.Proofs.Ytfnndnceaddhgaa
