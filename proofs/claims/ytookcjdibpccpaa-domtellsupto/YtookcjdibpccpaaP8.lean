/-
  OWN WORK: Dsb, Idl, Dse, Dsm, Dix, Dta, Dp1, Dpa.
-/
import Derived.Test.YtookcjdibpccpaaP7
import Derived.Test.YtookcjdibpccpaaP5
import Derived.Test.YtookcjdibpccpaaP6
/-
  THE WALK of dom.setAttr, in a document of the call's own.
-/
namespace Go.Proofs.Ytookcjdibpccpaa
open Go.RowKit

theorem insA_any {w : World} {B : Nat} {v : Value} {l : List Tn.At} {vb : Nat} {n u : ByteArray} (hown : OwnA w B v l) (hB : B ≤ w.heap.size) (hl : l.length ≤ 1000) (i : Nat) (hi : i ≤ l.length) (hvb : w.heap[vb]? = some (.cells #[.string n, .string u] 62 (0, 0))) (hne : v.ownBlock ≠ some vb) :
    Calls Try.prog 85 #[v, .int .i64 (i : Int), .slice (some ⟨vb, 0, none⟩) 1 1] w fun e w' => ∃ v', e = .returned v' ∧ OwnA w' B v' (insA l i (n, u)) ∧ w.grownBy w' v.ownBlock ∧ (v'.ownBlock = v.ownBlock ∨ ∃ g, w.heap.size ≤ g ∧ v'.ownBlock = some g) := by
  by_cases h : i < l.length
  · exact insA_mid hown hB hl i h hvb hne
  · obtain rfl : i = l.length := by omega
    have := insA_end hown hB hl hvb
    unfold insA
    simpa using this

theorem ins_len {l : List Tn.At} {i : Nat} {a : Tn.At} (hi : i ≤ l.length) : (insA l i a).length = l.length + 1 := by
  unfold insA
  simp
  omega
theorem ins_at {l : List Tn.At} {i : Nat} {a : Tn.At} (hi : i ≤ l.length) : ∃ h : i < (insA l i a).length, (insA l i a)[i] = a := by
  have e : (insA l i a)[i]? = some a := by
    unfold insA
    rw [List.append_assoc, List.getElem?_append_right (by simp; omega), List.length_take, Nat.min_eq_left hi, Nat.sub_self]
    rfl
  exact List.getElem?_eq_some_iff.mp e
theorem ins_set {l : List Tn.At} {i : Nat} {a b : Tn.At} (hi : i ≤ l.length) : (insA l i a).set i b = insA l i b := by
  unfold insA
  rw [List.append_assoc, List.append_assoc, List.set_append_right _ _ (by simp; omega), List.length_take, Nat.min_eq_left hi, Nat.sub_self]
  rfl

theorem Owned.attrVal {w : World} {B g c : Nat} {rs : List Raw} {d : Tn.Dc} (h : Owned w B g c rs d) {k : Nat} (hk : k < rs.length) (hkd : k < d.length) {l : List Tn.At} (hl : d[k].attrs = l) {i : Nat} (hi : i < l.length) {y m cc : Nat} (hy : rs[k].a = ⟨some ⟨y, 0, none⟩, m, cc⟩) (vl : ByteArray) :
    Owned (w.setCell ⟨y, i * 2 + 1, none⟩ (.string vl)) B g c rs (d.set k { d[k] with attrs := l.set i (l[i].1, vl) }) ∧ Fr g rs w g rs (w.setCell ⟨y, i * 2 + 1, none⟩ (.string vl)) := by
  have hbk : blk rs[k] 0 = some y := by unfold blk sblk lst; rw [hy]; rfl
  have ndk := h.nds k hk hkd
  have hat := ndk.attrs
  have hm : m = l.length := by
    have := al_of (attrs_of_owns hat)
    rw [hy, hl] at this
    exact this
  have nd6 : OwnNd (w.setCell ⟨y, i * 2 + 1, none⟩ (.string vl)) B rs[k] { d[k] with attrs := l.set i (l[i].1, vl) } := by
    refine ⟨ndk.live, ndk.tag, ndk.text, ndk.up, ndk.hasS, ndk.inS, ?_, ?_, ?_⟩
    · rw [hy] at hat ⊢
      rw [hl, hm] at hat
      have := owns_set hat (i * 2 + 1) (.string vl)
      rw [flat_set2 vl l i hi] at this
      show OwnA _ _ (.slice (some ⟨y, 0, none⟩) m cc) (l.set i (l[i].1, vl))
      unfold OwnA
      rw [hm, List.length_set]
      exact this
    · refine owns_other ndk.kids (fun e => ?_) _
      rw [sblk_own] at e
      have := (h.sep.one k hk 0 k hk 1 y hbk e).2
      cases this
    · refine owns_other ndk.shadow (fun e => ?_) _
      rw [sblk_own] at e
      have := (h.sep.one k hk 0 k hk 2 y hbk e).2
      cases this
  exact ⟨h.inner hk hbk (i * 2 + 1) (.string vl) nd6, Fr.inner hk hbk (i * 2 + 1) _⟩

set_option maxHeartbeats 400000 in
set_option maxRecDepth 100000 in
theorem dsetattr_any {w : World} {B g c : Nat} {rs : List Raw} {d : Tn.Dc} (h : Owned w B g c rs d) (hB : B ≤ w.heap.size) {k : Nat} (hk : k < rs.length) (hr : Rising (Tn.nd d k).attrs) (h8 : (Tn.nd d k).attrs.length ≤ 8) (nm vl : ByteArray) (hsz : nm.size ≤ 4194304) (hvs : vl.size ≤ 4194304) :
    Calls Try.prog 70 #[.pointer (some ⟨g, k * 9, none⟩), .string nm, .string vl] w fun e w' => e = .returned (.int .i64 (setE (Tn.nd d k).attrs nm vl)) ∧ Below B w w' ∧ (setE (Tn.nd d k).attrs nm vl = 0 → ∃ rs', rs'.length = rs.length ∧ Owned w' B g c rs' (d.set k { Tn.nd d k with attrs := Tn.attrsD (Tn.nd d k).attrs nm vl }) ∧ Fr g rs w g rs' w') ∧ Kpt g rs w w' := by
  have H : Hid (Owned w B g c rs d) := h
  have hd := h.doc (by omega)
  have hkd : k < d.length := by rw [← h.len]; exact hk
  have c3 := hd.row.c3 k hk
  have own := (h.nds k hk hkd).attrs
  rw [nd_at hkd] at hr h8 ⊢
  have hA : AttrsAt w (.slice rs[k].a.p rs[k].a.n rs[k].a.c) d[k].attrs := attrs_of_owns own
  have e0 : rs[k].a.n = d[k].attrs.length := al_of hA
  rw [e0] at c3 hA own
  have hcap : d[k].attrs.length ≤ rs[k].a.c ∧ rs[k].a.c ≤ 9223372036854775807 := by
    obtain ⟨_, _, he, q1, q2, _⟩ := hA.at
    cases he
    exact ⟨q1, q2⟩
  have HI := dattrAt_any hA hr (by omega) nm
  have HI : Hid (Calls Try.prog 55 #[.slice rs[k].a.p d[k].attrs.length rs[k].a.c, .string nm] w fun e w' => ∃ i, Stands d[k].attrs nm i ∧ e = .returned (.tuple #[.int .i64 (i : Int), .bool (Tn.attrOf d[k].attrs nm).isSome]) ∧ Below w.heap.size w w') := HI
  clear hd hA h
  obtain ⟨l, hl⟩ : ∃ l, l = d[k].attrs := ⟨_, rfl⟩
  have HLL : Hid (d[k].attrs = l) := hl.symm
  rw [← hl] at hr h8 c3 own e0 hcap HI ⊢
  clear hl
  simp only [Nat.zero_add] at c3
  have HOW : Hid (OwnA w B (.slice rs[k].a.p l.length rs[k].a.c) l) := own
  have HRA : Hid (rs[k].a = ⟨rs[k].a.p, l.length, rs[k].a.c⟩) := by
    show _ = _
    rw [← e0]
  clear own e0
  have HLR : Hid (rs.length = d.length) := H.out.len
  obtain ⟨hcap1, hcap2⟩ := hcap
  generalize hap : rs[k].a.p = ap at *
  generalize hac : rs[k].a.c = ac at *
  have HAP : Hid (rs[k].a.p = ap) := hap
  have HAC : Hid (rs[k].a.c = ac) := hac
  clear hap hac
  have okN : Tn.okName nm = Tn.nameL nm.data.toList := rfl
  cases hnm : Tn.nameL nm.data.toList with
  | false =>
    have E : Hid (setE l nm vl = 7) := by show _ = _; unfold setE; rw [okN, hnm]; rfl
    clear okN
    go_enter Try.func70, Try.ntmps70
    go_wp2_with fail
    refine HI.out.mono ?_
    rintro e w1 ⟨i, ST, rfl, b1⟩
    have HST : Hid (Stands l nm i) := ST
    clear ST
    generalize (Tn.attrOf l nm).isSome = hs at *
    go_wp2_with fail
    refine (name_any nm _ hsz).mono ?_
    rintro e w2 ⟨rfl, b2⟩
    rw [hnm]
    have B2 : Below w.heap.size w w2 := b1.trans (b2.mono b1.size)
    go_wp2_with fail
    go_ret
    exact ⟨by rw [E.out]; rfl, B2.mono hB, (fun e => by rw [E.out] at e; cases e), fun x hx _ => B2.block x hx⟩
  | true =>
    by_cases hv : 60 < vl.size
    · have E : Hid (setE l nm vl = 4) := by show _ = _; unfold setE; rw [okN, hnm, if_neg (by simp), if_pos hv]
      clear okN
      go_enter Try.func70, Try.ntmps70
      go_wp2_with fail
      refine HI.out.mono ?_
      rintro e w1 ⟨i, ST, rfl, b1⟩
      have HST : Hid (Stands l nm i) := ST
      clear ST
      generalize (Tn.attrOf l nm).isSome = hs at *
      go_wp2_with fail
      refine (name_any nm _ hsz).mono ?_
      rintro e w2 ⟨rfl, b2⟩
      rw [hnm]
      have B2 : Below w.heap.size w w2 := b1.trans (b2.mono b1.size)
      go_wp2_with fail
      go_ret
      exact ⟨by rw [E.out]; rfl, B2.mono hB, (fun e => by rw [E.out] at e; cases e), fun x hx _ => B2.block x hx⟩
    · cases hhas : (Tn.attrOf l nm).isSome with
      | true =>
        rw [hhas] at HI
        go_enter Try.func70, Try.ntmps70
        go_wp2_with fail
        refine HI.out.mono ?_
        rintro e w1 ⟨i, ST, rfl, b1⟩
        obtain ⟨hil, hq⟩ := (stands_eq hr ST).mp hhas
        have hD := attrs_has (vl := vl) hr ST hil hq
        have E : Hid (setE l nm vl = 0) := by show _ = _; unfold setE; rw [okN, hnm, if_neg (by simp), if_neg hv, hD, List.length_set, if_neg (by omega)]
        have HD : Hid (Tn.attrsD l nm vl = l.set i (l[i].1, vl)) := hD
        clear hD hq ST okN
        go_wp2_with fail
        refine (name_any nm _ hsz).mono ?_
        rintro e w2 ⟨rfl, b2⟩
        rw [hnm]
        have B2 : Below w.heap.size w w2 := b1.trans (b2.mono b1.size)
        have d3 := keeps_below B2 (Nat.le_refl _) _ _ c3
        have OW2 := HOW.out.below B2 (Nat.le_refl _)
        obtain ⟨y, c', e3, hy1, hy2, hyf, hyc⟩ := ownA_at OW2 (by omega)
        injection e3 with e4 _ e5
        subst e4
        subst e5
        have y1 := hyc (i * 2 + 1) (.string l[i].2) (by rw [flat_at av 2 av_len l i 1 (by decide), List.getElem?_eq_getElem hil]; rfl)
        have f1 := hyf (i * 2 + 1)
        have O2 : Owned w2 B g c rs d := H.out.below B2 (Nat.le_refl _)
        have hF2 : Fr g rs w g rs w2 := (Fr.refl g rs w).below B2
        have hkd' : k < d.length := hkd
        obtain ⟨O6, F6⟩ := O2.attrVal hk hkd' HLL.out hil HRA.out vl
        have F7 : Hid (Fr g rs w g rs (w2.setCell ⟨y, i * 2 + 1, none⟩ (.string vl))) := hF2.trans F6
        have O7 : Hid (Owned (w2.setCell ⟨y, i * 2 + 1, none⟩ (.string vl)) B g c rs (d.set k { d[k] with attrs := l.set i (l[i].1, vl) })) := O6
        have BB : Hid (Below B w (w2.setCell ⟨y, i * 2 + 1, none⟩ (.string vl))) := (B2.mono hB).setCell (p := ⟨y, i * 2 + 1, none⟩) hy1 _
        clear O6 F6 hF2 O2 OW2 hyc hyf b1 b2 B2 HI HOW HLL
        go_wp2_with fail
        go_ret
        exact ⟨by rw [E.out]; rfl, BB.out, fun _ => ⟨rs, rfl, by rw [HD.out]; exact O7.out, F7.out⟩, F7.out.block⟩
      | false =>
        rw [hhas] at HI
        by_cases h7 : 8 ≤ l.length
        · go_enter Try.func70, Try.ntmps70
          go_wp2_with fail
          refine HI.out.mono ?_
          rintro e w1 ⟨i, ST, rfl, b1⟩
          have hD := attrs_not (vl := vl) hr ST (fun h => by rw [(stands_eq hr ST).mpr h] at hhas; cases hhas)
          have E : Hid (setE l nm vl = 5) := by show _ = _; unfold setE; rw [okN, hnm, if_neg (by simp), if_neg hv, hD, ins_len ST.le, if_pos (by omega)]
          clear hD ST okN
          go_wp2_with fail
          refine (name_any nm _ hsz).mono ?_
          rintro e w2 ⟨rfl, b2⟩
          rw [hnm]
          have B2 : Below w.heap.size w w2 := b1.trans (b2.mono b1.size)
          have d3 := keeps_below B2 (Nat.le_refl _) _ _ c3
          go_wp2_with fail
          go_ret
          exact ⟨by rw [E.out]; rfl, B2.mono hB, (fun e => by rw [E.out] at e; cases e), fun x hx _ => B2.block x hx⟩
        · go_enter Try.func70, Try.ntmps70
          go_wp2_with fail
          refine HI.out.mono ?_
          rintro e w1 ⟨i, ST, rfl, b1⟩
          have hile := ST.le
          have hD := attrs_not (vl := vl) hr ST (fun h => by rw [(stands_eq hr ST).mpr h] at hhas; cases hhas)
          have E : Hid (setE l nm vl = 0) := by show _ = _; unfold setE; rw [okN, hnm, if_neg (by simp), if_neg hv, hD, ins_len hile, if_neg (by omega)]
          have HD : Hid (Tn.attrsD l nm vl = insA l i (nm, vl)) := hD
          clear hD ST okN
          go_wp2_with fail
          refine (name_any nm _ hsz).mono ?_
          rintro e w2 ⟨rfl, b2⟩
          rw [hnm]
          have B2 : Below w.heap.size w w2 := b1.trans (b2.mono b1.size)
          have d3 := keeps_below B2 (Nat.le_refl _) _ _ c3
          have OW2 := HOW.out.below B2 (Nat.le_refl _)
          clear b1 b2 c3
          have fg : ∀ j, w2.frozen? ⟨g, j, none⟩ = false := below_frozen B2 (H.out.at (by omega)).2.1 (H.out.at (by omega)).2.2
          have O2 : Hid (Owned (w2.alloc (.cells #[.string nm, .string ⟨#[]⟩] 62)) B g c rs d) := (H.out.below B2 (Nat.le_refl _)).below ((Below.refl _ _).alloc (Nat.le_refl _) _) (Nat.le_refl _)
          have F2 : Hid (Fr g rs w g rs (w2.alloc (.cells #[.string nm, .string ⟨#[]⟩] 62))) := ((Fr.refl g rs w).below B2).below ((Below.refl _ _).alloc (Nat.le_refl _) _)
          have hw2 : B ≤ w2.heap.size := Nat.le_trans hB B2.size
          have BB2 : Hid (Below B w (w2.alloc (.cells #[.string nm, .string ⟨#[]⟩] 62))) := (B2.mono hB).alloc hw2 _
          have OW3 : OwnA (w2.alloc (.cells #[.string nm, .string ⟨#[]⟩] 62)) B (.slice ap l.length ac) l := OW2.below ((Below.refl w2.heap.size _).alloc (Nat.le_refl _) _) (Nat.le_refl _)
          have hob : (Value.slice ap l.length ac).ownBlock = blk rs[k] 0 := by
            have := sblk_own rs[k].a
            rw [HRA.out] at this
            exact this.trans (by show _ = sblk rs[k].a; rw [HRA.out])
          have hin := insA_any (vb := w2.heap.size) (n := nm) (u := ⟨#[]⟩) OW3 (by simp; omega) (by omega) i hile (by show (w2.heap.push _)[w2.heap.size]? = _; simp) (by
            rw [hob]
            intro e
            have := H.out.low k hk 0 _ e
            have := B2.size
            omega)
          rw [hob] at hin
          have HIN : Hid (Calls Try.prog 85 #[.slice ap l.length ac, .int .i64 (i : Int), .slice (some ⟨w2.heap.size, 0, none⟩) 1 1] (w2.alloc (.cells #[.string nm, .string ⟨#[]⟩] 62)) fun e w' => ∃ v', e = .returned v' ∧ OwnA w' B v' (insA l i (nm, ⟨#[]⟩)) ∧ (w2.alloc (.cells #[.string nm, .string ⟨#[]⟩] 62)).grownBy w' (blk rs[k] 0) ∧ (v'.ownBlock = blk rs[k] 0 ∨ ∃ g, (w2.alloc (.cells #[.string nm, .string ⟨#[]⟩] 62)).heap.size ≤ g ∧ v'.ownBlock = some g)) := hin
          clear hin OW3 OW2 B2 HI
          go_wp2_with fail
          refine HIN.out.mono ?_
          rintro e w4 ⟨v', rfl, o4, gr4, hb4⟩
          obtain ⟨hi', hat'⟩ := ins_at (a := (nm, (⟨#[]⟩ : ByteArray))) hile
          have hlen' := ins_len (a := (nm, (⟨#[]⟩ : ByteArray))) hile
          have HSET : Hid ((insA l i (nm, ⟨#[]⟩)).set i (nm, vl) = insA l i (nm, vl)) := ins_set hile
          generalize hL : insA l i (nm, (⟨#[]⟩ : ByteArray)) = L at *
          clear hL
          obtain ⟨y, c', rfl, hy1, hy2, hyf, hyc⟩ := ownA_at o4 (by omega)
          have y1 := hyc (i * 2 + 1) (.string L[i].2) (by rw [flat_at av 2 av_len L i 1 (by decide), List.getElem?_eq_getElem hi']; rfl)
          rw [hat'] at y1
          have f1 := hyf (i * 2 + 1)
          have hgl : g < (w2.alloc (.cells #[.string nm, .string ⟨#[]⟩] 62)).heap.size := (O2.out.at (by omega)).2.1
          have hgne : some g ≠ blk rs[k] 0 := fun e => O2.out.sep.row k hk 0 e.symm
          have hblg := gr4.block g hgl hgne
          have d4 : w4.cell? ⟨g, k * 9 + 3, none⟩ = some (.slice ap l.length ac) := by
            rw [World.cell?_of_block (a := ⟨g, k * 9 + 3, none⟩) hblg]
            exact (keeps_alloc w2 _) _ _ d3
          have fg4 : w4.frozen? ⟨g, k * 9 + 3, none⟩ = false := by
            rw [World.frozen?_of_block (a := ⟨g, k * 9 + 3, none⟩) hblg]
            exact below_frozen ((Below.refl w2.heap.size w2).alloc (Nat.le_refl _) _) (lt_of_cell d3) fg _
          have hyb : blk rs[k] 0 = some y ∨ (w2.alloc (.cells #[.string nm, .string ⟨#[]⟩] 62)).heap.size ≤ y := by
            rcases hb4 with e | ⟨z, hz, e⟩
            · exact Or.inl e.symm
            · right
              have : y = z := by simpa [Value.ownBlock] using e
              omega
          have hyg : y ≠ g := by
            intro e
            rcases hyb with h | h
            · exact hgne (by rw [h, e])
            · omega
          obtain ⟨r', hr'⟩ : ∃ r' : Raw, r' = { rs[k] with a := ⟨some ⟨y, 0, none⟩, L.length, c'⟩ } := ⟨_, rfl⟩
          have ndk := O2.out.nds k hk hkd
          have nd4 : OwnNd w4 B r' { d[k] with attrs := L } := by
            rw [hr']
            exact ⟨ndk.live, ndk.tag, ndk.text, ndk.up, ndk.hasS, ndk.inS, o4, owns_grown ndk.kids gr4 (fun x hx e => by have := (O2.out.sep.one k hk 0 k hk 1 x e hx).2; cases this), owns_grown ndk.shadow gr4 (fun x hx e => by have := (O2.out.sep.one k hk 0 k hk 2 x e hx).2; cases this)⟩
          have hoth : ∀ t', t' ≠ (0 : Fin 3) → lst r' t' = lst rs[k] t' := by
            intro t' ht
            rw [hr']
            match t', ht with
            | 1, _ => rfl
            | 2, _ => rfl
          have hnew : blk r' 0 = blk rs[k] 0 ∨ ∃ x, (w2.alloc (.cells #[.string nm, .string ⟨#[]⟩] 62)).heap.size ≤ x ∧ x < w4.heap.size ∧ blk r' 0 = some x := by
            have e : blk r' 0 = some y := by rw [hr']; rfl
            rcases hyb with h | h
            · exact Or.inl (by rw [e, h])
            · exact Or.inr ⟨y, h, hy2, e⟩
          have hcel : r'.cells = rs[k].cells.set 3 (.slice (some ⟨y, 0, none⟩) L.length c') := by rw [hr']; rfl
          have O5 : Owned (w4.setCell ⟨g, k * 9 + 3, none⟩ (.slice (some ⟨y, 0, none⟩) L.length c')) B g c (rs.set k r') (d.set k { d[k] with attrs := L }) :=
            O2.out.list hk 0 gr4 hoth hnew nd4 3 (by decide) _ hcel
          have F5 : Fr g rs w g (rs.set k r') (w4.setCell ⟨g, k * 9 + 3, none⟩ (.slice (some ⟨y, 0, none⟩) L.length c')) := F2.out.trans (Fr.list hk 0 gr4 hoth hnew _ _)
          have hk' : k < (rs.set k r').length := by simpa using hk
          have hkd' : k < (d.set k { d[k] with attrs := L }).length := by simpa using hkd
          have hgs : (rs.set k r')[k].a = ⟨some ⟨y, 0, none⟩, L.length, c'⟩ := by rw [List.getElem_set_self, hr']
          obtain ⟨O6', F6'⟩ := O5.attrVal hk' hkd' (l := L) (by rw [List.getElem_set_self]) hi' hgs vl
          have O6 : Hid (Owned ((w4.setCell ⟨g, k * 9 + 3, none⟩ (.slice (some ⟨y, 0, none⟩) L.length c')).setCell ⟨y, i * 2 + 1, none⟩ (.string vl)) B g c (rs.set k r') (d.set k { d[k] with attrs := insA l i (nm, vl) })) := by
            rw [List.getElem_set_self, List.set_set, hat', HSET.out] at O6'
            exact O6'
          have F6 : Hid (Fr g rs w g (rs.set k r') ((w4.setCell ⟨g, k * 9 + 3, none⟩ (.slice (some ⟨y, 0, none⟩) L.length c')).setCell ⟨y, i * 2 + 1, none⟩ (.string vl))) := F5.trans F6'
          have BB6 : Hid (Below B w ((w4.setCell ⟨g, k * 9 + 3, none⟩ (.slice (some ⟨y, 0, none⟩) L.length c')).setCell ⟨y, i * 2 + 1, none⟩ (.string vl))) := by
            have hBg : B ≤ g := (O2.out.at (by omega)).1
            have b4 := BB2.out.grown gr4 (by simp; omega) (fun j hj => by
              have := World.ownsRow.lt ndk.attrs j (by rw [sblk_own]; exact hj.symm ▸ rfl)
              exact this.1)
            exact (b4.setCell (p := ⟨g, k * 9 + 3, none⟩) hBg _).setCell (p := ⟨y, i * 2 + 1, none⟩) hy1 _
          have hlen : Hid ((rs.set k r').length = rs.length) := by show _ = _; simp
          have hLm : L.length ≤ 9223372036854775807 ∧ L.length ≤ c' ∧ c' ≤ 9223372036854775807 := by
            obtain ⟨_, _, he, q1, q2, _⟩ := (attrs_of_owns o4).at
            cases he
            exact ⟨by omega, q1, q2⟩
          obtain ⟨hLm1, hLm2, hLm3⟩ := hLm
          have hyg' : g ≠ y := fun e => hyg e.symm
          rw [hlen'] at hi' hLm1 hLm2
          have HL' : Hid (L.length = l.length + 1) := hlen'
          clear O5 F5 hk' hkd' hgs nd4 hoth hnew hcel ndk hyb hblg hgne hgl hob gr4 hb4 o4 hyc hyf hr' HIN BB2 F2 O2 d3 fg H O6' F6' hat' HSET hlen' HOW HLL HRA HAP HAC HLR
          rw [HL'.out]
          rw [HL'.out] at O6 F6 BB6
          go_wp2_with fail
          go_ret
          exact ⟨by rw [E.out]; rfl, BB6.out, fun _ => ⟨rs.set k r', hlen.out, by rw [HD.out]; exact O6.out, F6.out⟩, F6.out.block⟩
end Go.Proofs.Ytookcjdibpccpaa

/-
  THE WALK of slices.Delete at []Attr: one element of a row of the call's own goes.
-/
namespace Go.Proofs.Ytookcjdibpccpaa
open Go.RowKit

theorem clearA1 (w : World) (ty : TypeId) (b o c : Nat) (hc : ∀ j, j < 2 → (w.cell? ⟨b, o + j, none⟩).isSome = true) (hf : ∀ j, j < 2 → w.frozen? ⟨b, o + j, none⟩ = false) :
    (Builtin.clear_ #[54] ty #[.slice (some ⟨b, o, none⟩) 1 c]).run Try.prog w = .ok (.tuple #[]) (w.setCells b o [.string ⟨#[]⟩, .string ⟨#[]⟩]) := by
  have hst := run_storeCells_cells (P := Try.prog) b o [.string ⟨#[]⟩, .string ⟨#[]⟩] 0 w (by simpa using hc) (by simpa using hf) (by intro v hv; simp at hv; rw [hv]; rfl)
  simp only [Nat.add_zero] at hst
  have hzc : (Builtin.zeroCells (Value.agg #[.string ⟨#[]⟩, .string ⟨#[]⟩]).cells 1).toList = [.string ⟨#[]⟩, .string ⟨#[]⟩] := by kernel_rfl
  simp [Builtin.clear_, run_underlying Try.underlying54, Try.zeroValue62, hzc, hst]

theorem step_append_at {P : Program} {ops : Array Oper} {o : Oper} {a : Act} {w : World} {K : Act → World → Prop} {Q : Exit → Act → World → Prop} {E : Prop}
    (hg : o.guard = none) (d x : Operand) (dT sT : TypeId) (hop : o.op = Op.call { callee := Callee.builtin Builtin.append, args := #[d, x], argTypes := #[dT, sT] })
    (v u : Value) (hd : a.eval d = v) (hx : a.eval x = u) {v' : Value} {w' : World} (hr : (Builtin.append_ #[dT, sT] o.type #[v, u]).run P w = .ok v' w') (hK : K (a.put o.dst v') w') :
    if Region.wanted o (yielded ops a.tmps) = true then Oper.wp P o a w K Q else E := by
  have hw : Region.wanted o (yielded ops a.tmps) = true := by simp [Region.wanted, hg]
  rw [if_pos hw]
  unfold Oper.wp
  simp [execOp, hop, resolve, invoke, builtin, hd, hx, hr, Result.andThen]
  exact hK

theorem owns_behindA {B g c i : Nat} {l : List Tn.At} (hn : i = l.length) : ∀ (vs : List Value) (w : World) (s : Nat), l.length * 2 ≤ s → OwnA w B (.slice (some ⟨g, 0, none⟩) i c) l → OwnA (w.setCells g s vs) B (.slice (some ⟨g, 0, none⟩) i c) l
  | [], _, _, _, h => h
  | x :: vs, w, s, hs, h => by
    subst hn
    refine owns_behindA rfl vs (w.setCell ⟨g, s, none⟩ x) (s + 1) (by omega) ?_
    have := owns_set h s x
    unfold OwnA
    rw [List.set_eq_of_length_le (by rw [flat_len av 2 av_len]; exact hs)] at this
    exact this

set_option maxHeartbeats 3200000 in
set_option maxRecDepth 100000 in
theorem delA_any {w : World} {B : Nat} {v : Value} {l : List Tn.At} (hown : OwnA w B v l) (hl : l.length ≤ 1000) (i : Nat) (hi : i < l.length) :
    Calls Try.prog 86 #[v, .int .i64 (i : Int), .int .i64 ((i : Int) + 1)] w fun e w' => ∃ v', e = .returned v' ∧ OwnA w' B v' (l.eraseIdx i) ∧ v'.ownBlock = v.ownBlock ∧ w.grownBy w' v.ownBlock := by
  obtain ⟨i0, hi0, hz0, hz1, hz2⟩ := info_parts infoA
  have hxl : (l.flatMap av).length = l.length * 2 := flat_len av 2 av_len l
  rcases hown.2 with ⟨_, h0⟩ | ⟨g, cap, cur, rfl, hBg, hg, hnc, hcm, hcs, htake⟩
  · omega
  · have hcl0 : cur.toList.length = cur.size := Array.length_toList
    have hob : (Value.slice (some ⟨g, 0, none⟩) l.length cap).ownBlock = some g := rfl
    have hcm' : cap ≤ 9223372036854775807 := by unfold maxLen at hcm; omega
    have hone : ∀ y ∈ l.flatMap av, y.oneCell' = true := by
      intro y hy
      obtain ⟨q, _, hq⟩ := List.mem_flatMap.mp hy
      simp [av] at hq
      rcases hq with rfl | rfl <;> rfl
    obtain ⟨D, hD⟩ : ∃ D : List Value, D = (l.flatMap av).drop ((i + 1) * 2) := ⟨_, rfl⟩
    have hDl : D.length = (l.length - (i + 1)) * 2 := by rw [hD, List.length_drop, hxl]; omega
    obtain ⟨A1, hA1⟩ : ∃ A1 : List Value, A1 = cur.toList.take (i * 2) ++ D ++ cur.toList.drop (i * 2 + D.length) := ⟨_, rfl⟩
    have hA1l : A1.length = cur.size := by
      rw [hA1, List.length_append, List.length_append, List.length_take, List.length_drop, hcl0, hcs, hDl]
      omega
    have hr : ∀ ty a c', (a = (⟨g, (i + 1) * 2, none⟩ : Addr) ∨ l.length = i + 1) → (Builtin.append_ #[54, 54] ty #[.slice (some ⟨g, 0, none⟩) i cap, .slice (some a) (l.length - (i + 1)) c']).run Try.prog w.drew = .ok (.slice (some ⟨g, 0, none⟩) (l.length - 1) cap) (w.drew.setRow g A1.toArray) := by
      intro ty a c' ha
      have := run_append_room (P := Try.prog) w.drew 54 ty 62 i0 Try.underlying54 hi0 g i cap cur hg a (l.length - (i + 1)) c' D (by rw [hz1]; exact hDl) (fun j y hy => by
        rcases ha with rfl | ha
        · have hc := World.ownsRow.cells hown (g := g) rfl ((i + 1) * 2 + j) y (by rw [hD, List.getElem?_drop] at hy; exact hy)
          rw [add_at] at hc ⊢
          rw [Nat.zero_add] at hc
          rw [World.cell?_drew]
          exact hc
        · have : D = [] := List.length_eq_zero_iff.mp (by rw [hDl, ha]; omega)
          rw [this] at hy
          simp at hy) (fun y hy => hone y (List.mem_of_mem_drop (by rw [← hD]; exact hy))) (by omega) (by rw [hz1, hDl, hcs]; omega)
      rw [hz1] at this
      rw [this, hA1]
      congr 2
      omega
    have hg1 : (w.drew.setRow g A1.toArray).heap[g]? = some (.cells A1.toArray 62 (0, 0)) := setRow_heap w.drew g cur _ 62 _ hg
    have hclr : ∀ ty c', (Builtin.clear_ #[54] ty #[.slice (some ⟨g, (l.length - 1) * 2, none⟩) 1 c']).run Try.prog (w.drew.setRow g A1.toArray) = .ok (.tuple #[]) ((w.drew.setRow g A1.toArray).setCells g ((l.length - 1) * 2) [.string ⟨#[]⟩, .string ⟨#[]⟩]) := by
      intro ty c'
      refine clearA1 _ ty g _ c' (fun j hj => ?_) (fun j hj => ?_)
      · simp [World.cell?, hg1, hA1l, hcs]
        omega
      · simp [World.frozen?, hg1]
    have hel : (l.eraseIdx i).length = l.length - 1 := by rw [List.length_eraseIdx, if_pos hi]
    have R : Hid (OwnA ((w.drew.setRow g A1.toArray).setCells g ((l.length - 1) * 2) [.string ⟨#[]⟩, .string ⟨#[]⟩]) B (.slice (some ⟨g, 0, none⟩) (l.length - 1) cap) (l.eraseIdx i)) := by
      refine owns_behindA hel.symm _ _ _ (by rw [hel]; exact Nat.le_refl _) ?_
      unfold OwnA
      rw [hel]
      refine ⟨by rw [flat_len av 2 av_len, hel], Or.inr ⟨g, cap, A1.toArray, rfl, hBg, hg1, by omega, hcm, by simp [hA1l, hcs], ?_⟩⟩
      show A1.take _ = _
      have e1 : cur.toList.take (i * 2) = (l.flatMap av).take (i * 2) := by
        rw [← htake, List.take_take]
        congr 1
        omega
      have e2 : (l.eraseIdx i).flatMap av = (l.flatMap av).take (i * 2) ++ D := by
        rw [List.eraseIdx_eq_take_drop_succ, List.flatMap_append, flat_take, flat_drop, hD]
      rw [hA1, e1, e2]
      have e3 : ((l.flatMap av).take (i * 2) ++ D).length = (l.length - 1) * 2 := by
        rw [List.length_append, List.length_take, hxl, hDl]
        omega
      rw [← e3]
      exact List.take_left
    have hgr : Hid (w.grownBy ((w.drew.setRow g A1.toArray).setCells g ((l.length - 1) * 2) [.string ⟨#[]⟩, .string ⟨#[]⟩]) (some g)) := by
      refine grown_setCells _ _ _ ?_
      refine ⟨rfl, rfl, rfl, by simp [World.setRow], fun k _ hk => ?_⟩
      exact setRow_other _ g k _ (fun e => hk (by rw [e]))
    have R0 : Hid (cap = i + 1 → OwnA (w.drew.setCells g (i * 2) [.string ⟨#[]⟩, .string ⟨#[]⟩]) B (.slice (some ⟨g, 0, none⟩) i cap) (l.eraseIdx i)) := by
      intro hc1
      have e1 : l.length - 1 = i := by omega
      rw [e1] at hel
      refine owns_behindA hel.symm _ _ _ (by rw [hel]; exact Nat.le_refl _) ?_
      unfold OwnA
      rw [hel]
      refine ⟨by rw [flat_len av 2 av_len, hel], Or.inr ⟨g, cap, cur, rfl, hBg, hg, by omega, hcm, hcs, ?_⟩⟩
      have e2 : (l.eraseIdx i).flatMap av = (l.flatMap av).take (i * 2) ++ D := by
        rw [List.eraseIdx_eq_take_drop_succ, List.flatMap_append, flat_take, flat_drop, hD]
      have e4 : D = [] := List.length_eq_zero_iff.mp (by rw [hDl]; omega)
      rw [e2, e4, List.append_nil, ← htake, List.take_take]
      congr 1
      omega
    have hclr0 : cap = i + 1 → ∀ ty c', (Builtin.clear_ #[54] ty #[.slice (some ⟨g, i * 2, none⟩) 1 c']).run Try.prog w.drew = .ok (.tuple #[]) (w.drew.setCells g (i * 2) [.string ⟨#[]⟩, .string ⟨#[]⟩]) := by
      intro hc1 ty c'
      have hgd : w.drew.heap[g]? = some (.cells cur 62 (0, 0)) := hg
      refine clearA1 _ ty g _ c' (fun j hj => ?_) (fun j hj => ?_)
      · simp [World.cell?, hgd, hcs]
        omega
      · simp [World.frozen?, hgd]
    have hgr0 : Hid (w.grownBy (w.drew.setCells g (i * 2) [.string ⟨#[]⟩, .string ⟨#[]⟩]) (some g)) := grown_setCells _ _ _ ⟨rfl, rfl, rfl, Nat.le_refl _, fun _ _ _ => rfl⟩
    rw [hob]
    have hb1 : (0 : Int) ≤ (i : Int) + 1 := by omega
    have hb2 : (i : Int) + 1 ≤ (l.length : Int) := by omega
    have hb3 : ¬ ((i : Int) = (i : Int) + 1) := by omega
    have htn : ((i : Int) + 1).toNat = i + 1 := by omega
    have hci : ¬ (cap = i) := by omega
    have hcl1 : ¬ (cap = l.length - 1) := by omega
    have hn1 : l.length - (l.length - 1) = 1 := by omega
    have mixed : Try.prog.follows Departure.mixedOrders = true := by kernel_rfl
    clear hown hone hD hDl hA1 hA1l hg1 htake hob hxl hcl0 hg hcs hel hz0 hz1 hz2
    generalize A1.toArray = R1 at *
    by_cases hc1 : cap = i + 1
    · have hli : l.length = i + 1 := by omega
      have R0' := R0.out hc1
      have hcl' := hclr0 hc1
      have R2 : Hid _ := R0'
      clear hr hclr hclr0 R0 R hgr R0'
      subst hc1
      rw [hli]
      clear hli hi hl hnc hcm hn1 hcl1 hb2 hci
      have hx1 : (i : Int) ≤ (i : Int) + 1 := by omega
      have hx2 : i ≤ i + 1 := by omega
      go_enter Try.func86, Try.ntmps86
      go_wp2_with fail
      go_region_law_o fail
      go_wp2_with fail
      go_ret
      exact ⟨_, rfl, R2.out, rfl, hgr0.out⟩
    · have hr' : ∀ ty c', (Builtin.append_ #[54, 54] ty #[.slice (some ⟨g, 0, none⟩) i cap, .slice (some ⟨g, (i + 1) * 2, none⟩) (l.length - (i + 1)) c']).run Try.prog w.drew = .ok (.slice (some ⟨g, 0, none⟩) (l.length - 1) cap) (w.drew.setRow g R1) := fun ty c' => hr ty _ c' (Or.inl rfl)
      clear hr R0 hclr0 hgr0
      have hic : i ≤ cap := by omega
      go_enter Try.func86, Try.ntmps86
      go_wp2_with fail
      go_region_law_o (refine step_append_at rfl _ _ 54 54 rfl _ _ (by simp [Act.eval, Act.put]) (by simp [Act.eval, Act.put]) (hr' _ (cap - (i + 1))) ?_)
      go_wp2_with fail
      go_ret
      exact ⟨_, rfl, R.out, rfl, hgr.out⟩
end Go.Proofs.Ytookcjdibpccpaa

/-
  THE WALK of dom.clearAttr, in a document of the call's own.
-/
namespace Go.Proofs.Ytookcjdibpccpaa
open Go.RowKit

def clrE (l : List Tn.At) (nm : ByteArray) : Int := if (Tn.attrOf l nm).isSome then 0 else 6

set_option maxHeartbeats 400000 in
set_option maxRecDepth 100000 in
theorem dclear_any {w : World} {B g c : Nat} {rs : List Raw} {d : Tn.Dc} (h : Owned w B g c rs d) (hB : B ≤ w.heap.size) {k : Nat} (hk : k < rs.length) (hr : Rising (Tn.nd d k).attrs) (h8 : (Tn.nd d k).attrs.length ≤ 8) (nm : ByteArray) :
    Calls Try.prog 71 #[.pointer (some ⟨g, k * 9, none⟩), .string nm] w fun e w' => e = .returned (.int .i64 (clrE (Tn.nd d k).attrs nm)) ∧ Below B w w' ∧ (clrE (Tn.nd d k).attrs nm = 0 → ∃ rs', rs'.length = rs.length ∧ Owned w' B g c rs' (d.set k { Tn.nd d k with attrs := Tn.attrsOff (Tn.nd d k).attrs nm }) ∧ Fr g rs w g rs' w') ∧ Kpt g rs w w' := by
  have H : Hid (Owned w B g c rs d) := h
  have hd := h.doc (by omega)
  have hkd : k < d.length := by rw [← h.len]; exact hk
  have c3 := hd.row.c3 k hk
  have own := (h.nds k hk hkd).attrs
  rw [nd_at hkd] at hr h8 ⊢
  have hA : AttrsAt w (.slice rs[k].a.p rs[k].a.n rs[k].a.c) d[k].attrs := attrs_of_owns own
  have e0 : rs[k].a.n = d[k].attrs.length := al_of hA
  rw [e0] at c3 hA own
  have hcap : d[k].attrs.length ≤ rs[k].a.c ∧ rs[k].a.c ≤ 9223372036854775807 := by
    obtain ⟨_, _, he, q1, q2, _⟩ := hA.at
    cases he
    exact ⟨q1, q2⟩
  have HI := dattrAt_any hA hr (by omega) nm
  have HI : Hid (Calls Try.prog 55 #[.slice rs[k].a.p d[k].attrs.length rs[k].a.c, .string nm] w fun e w' => ∃ i, Stands d[k].attrs nm i ∧ e = .returned (.tuple #[.int .i64 (i : Int), .bool (Tn.attrOf d[k].attrs nm).isSome]) ∧ Below w.heap.size w w') := HI
  clear hd hA h
  obtain ⟨l, hl⟩ : ∃ l, l = d[k].attrs := ⟨_, rfl⟩
  rw [← hl] at hr h8 c3 own e0 hcap HI ⊢
  have HLL : Hid (d[k].attrs = l) := hl.symm
  clear hl
  simp only [Nat.zero_add] at c3
  have HOW : Hid (OwnA w B (.slice rs[k].a.p l.length rs[k].a.c) l) := own
  have HRA : Hid (rs[k].a = ⟨rs[k].a.p, l.length, rs[k].a.c⟩) := by
    show _ = _
    rw [← e0]
  clear own e0
  obtain ⟨hcap1, hcap2⟩ := hcap
  generalize rs[k].a.p = ap at *
  generalize rs[k].a.c = ac at *
  cases hhas : (Tn.attrOf l nm).isSome with
  | false =>
    have E : Hid (clrE l nm = 6) := by show _ = _; unfold clrE; rw [hhas]; rfl
    rw [hhas] at HI
    go_enter Try.func71, Try.ntmps71
    go_wp2_with fail
    refine HI.out.mono ?_
    rintro e w1 ⟨i, ST, rfl, b1⟩
    have HST : Hid (Stands l nm i) := ST
    clear ST
    go_wp2_with fail
    go_ret
    exact ⟨by rw [E.out]; rfl, b1.mono hB, (fun e => by rw [E.out] at e; cases e), fun x hx _ => b1.block x hx⟩
  | true =>
    have E : Hid (clrE l nm = 0) := by show _ = _; unfold clrE; rw [hhas]; rfl
    rw [hhas] at HI
    go_enter Try.func71, Try.ntmps71
    go_wp2_with fail
    refine HI.out.mono ?_
    rintro e w1 ⟨i, ST, rfl, b1⟩
    obtain ⟨hil, hq⟩ := (stands_eq hr ST).mp hhas
    have HD : Hid (Tn.attrsOff l nm = l.eraseIdx i) := attrs_off hr ST hil hq
    clear hq ST
    have d3 := keeps_below b1 (Nat.le_refl _) _ _ c3
    have OW2 := HOW.out.below b1 (Nat.le_refl _)
    have fg : ∀ j, w1.frozen? ⟨g, j, none⟩ = false := below_frozen b1 (H.out.at (by omega)).2.1 (H.out.at (by omega)).2.2
    have O2 : Hid (Owned w1 B g c rs d) := H.out.below b1 (Nat.le_refl _)
    have F2 : Hid (Fr g rs w g rs w1) := (Fr.refl g rs w).below b1
    have BB2 : Hid (Below B w w1) := b1.mono hB
    have hw1 : B ≤ w1.heap.size := Nat.le_trans hB b1.size
    have hob : (Value.slice ap l.length ac).ownBlock = blk rs[k] 0 := by
      have := sblk_own rs[k].a
      rw [HRA.out] at this
      exact this.trans (by show _ = sblk rs[k].a; rw [HRA.out])
    have hdel := delA_any OW2 (by omega) i hil
    rw [hob] at hdel
    have HIN : Hid (Calls Try.prog 86 #[.slice ap l.length ac, .int .i64 (i : Int), .int .i64 ((i : Int) + 1)] w1 fun e w' => ∃ v', e = .returned v' ∧ OwnA w' B v' (l.eraseIdx i) ∧ v'.ownBlock = blk rs[k] 0 ∧ w1.grownBy w' (blk rs[k] 0)) := hdel
    clear hdel OW2 HI c3 b1
    go_wp2_with fail
    refine HIN.out.mono ?_
    rintro e w4 ⟨v', rfl, o4, hb4, gr4⟩
    obtain ⟨p', c', rfl⟩ := o4.shape
    generalize hL : l.eraseIdx i = L at *
    have HLE : Hid (l.eraseIdx i = L) := hL
    clear hL
    have hgl : g < w1.heap.size := (O2.out.at (by omega)).2.1
    have hgne : some g ≠ blk rs[k] 0 := fun e => O2.out.sep.row k hk 0 e.symm
    have hblg := gr4.block g hgl hgne
    have d4 : w4.cell? ⟨g, k * 9 + 3, none⟩ = some (.slice ap l.length ac) := by
      rw [World.cell?_of_block (a := ⟨g, k * 9 + 3, none⟩) hblg]
      exact d3
    have fg4 : w4.frozen? ⟨g, k * 9 + 3, none⟩ = false := by
      rw [World.frozen?_of_block (a := ⟨g, k * 9 + 3, none⟩) hblg]
      exact fg _
    obtain ⟨r', hr'⟩ : ∃ r' : Raw, r' = { rs[k] with a := ⟨p', L.length, c'⟩ } := ⟨_, rfl⟩
    have ndk := O2.out.nds k hk hkd
    have nd4 : OwnNd w4 B r' { d[k] with attrs := L } := by
      rw [hr']
      exact ⟨ndk.live, ndk.tag, ndk.text, ndk.up, ndk.hasS, ndk.inS, o4, owns_grown ndk.kids gr4 (fun x hx e => by have := (O2.out.sep.one k hk 0 k hk 1 x e hx).2; cases this), owns_grown ndk.shadow gr4 (fun x hx e => by have := (O2.out.sep.one k hk 0 k hk 2 x e hx).2; cases this)⟩
    have hoth : ∀ t', t' ≠ (0 : Fin 3) → lst r' t' = lst rs[k] t' := by
      intro t' ht
      rw [hr']
      match t', ht with
      | 1, _ => rfl
      | 2, _ => rfl
    have hnew : blk r' 0 = blk rs[k] 0 ∨ ∃ x, w1.heap.size ≤ x ∧ x < w4.heap.size ∧ blk r' 0 = some x := by
      left
      rw [← hb4]
      have : blk r' 0 = sblk ⟨p', L.length, c'⟩ := by rw [hr']; rfl
      rw [this, ← sblk_own]
    have hcel : r'.cells = rs[k].cells.set 3 (.slice p' L.length c') := by rw [hr']; rfl
    have O5 : Hid (Owned (w4.setCell ⟨g, k * 9 + 3, none⟩ (.slice p' L.length c')) B g c (rs.set k r') (d.set k { d[k] with attrs := L })) :=
      O2.out.list hk 0 gr4 hoth hnew nd4 3 (by decide) _ hcel
    have F5 : Hid (Fr g rs w g (rs.set k r') (w4.setCell ⟨g, k * 9 + 3, none⟩ (.slice p' L.length c'))) := F2.out.trans (Fr.list hk 0 gr4 hoth hnew _ _)
    have BB6 : Hid (Below B w (w4.setCell ⟨g, k * 9 + 3, none⟩ (.slice p' L.length c'))) := by
      have hBg : B ≤ g := (O2.out.at (by omega)).1
      have b4 := BB2.out.grown gr4 hw1 (fun j hj => by
        have := World.ownsRow.lt ndk.attrs j (by rw [sblk_own]; exact hj.symm ▸ rfl)
        exact this.1)
      exact b4.setCell (p := ⟨g, k * 9 + 3, none⟩) hBg _
    have hlen : Hid ((rs.set k r').length = rs.length) := by show _ = _; simp
    clear nd4 hoth hnew hcel ndk hblg hgne hgl hob gr4 hb4 o4 hr' HIN BB2 F2 O2 d3 fg H HOW HLL HRA
    go_wp2_with fail
    go_ret
    exact ⟨by rw [E.out]; rfl, BB6.out, fun _ => ⟨rs.set k r', hlen.out, by rw [HD.out]; exact O5.out, F5.out⟩, F5.out.block⟩
end Go.Proofs.Ytookcjdibpccpaa

/-
  THE WALKS of dom's small functions: trim, listOf, say, giveShadow.
-/
namespace Go.Proofs.Ytookcjdibpccpaa
open Go.RowKit

theorem last_here (d : Tn.Dc) (m : Nat) (h : (Tn.nd d m).live = true) : Tn.lastLive d (m + 1) = m + 1 := by
  rw [Tn.lastLive]
  by_cases hm : m = 0
  · subst hm
    simp [Tn.lastLive]
  · have := lastLive_le d m
    rw [if_pos ⟨h, by omega⟩]

set_option maxHeartbeats 1600000 in
theorem dtrim_any {w : World} {b o c : Nat} {rs : List Raw} {d : Tn.Dc} (hd : DocAt w b o c rs d) (h0 : 0 < rs.length) (hl : Tn.lvD d 0 = true) :
    Calls Try.prog 58 #[.slice (some ⟨b, o, none⟩) rs.length c] w fun e w' => ∃ rs', e = .returned (.slice (some ⟨b, o, none⟩) rs'.length c) ∧ DocAt w b o c rs' (Tn.trimD d) ∧ 0 < rs'.length ∧ w' = w := by
  have H : Hid (DocAt w b o c rs d) := hd
  have LN : Hid (d.length = rs.length) := hd.len.symm
  have hcap := hd.cap
  have hcM : c ≤ 9223372036854775807 := by have := hd.capM; unfold maxLen at this; omega
  have h00 : Hid ((Tn.nd d 0).live = true) := hl
  clear hd hl
  go_enter Try.func58, Try.ntmps58
  go_wp2_with fail
  go_loop [0] (fun dv => ∃ m : Nat, m + 1 ≤ rs.length ∧ dv = .slice (some ⟨b, o, none⟩) (m + 1) c ∧ Hid (Tn.lastLive d rs.length = Tn.lastLive d (m + 1))) (fun v => match v with | .slice _ n _ => n | _ => 0)
  case atStart => exact ⟨rs.length - 1, by omega, by congr 1; omega, by show _ = _; congr 1; omega⟩
  case round =>
    obtain ⟨m, hm, rfl, L⟩ := hrel
    have c0 := H.out.row.c0 m (by omega)
    have hnl : Hid (rs[m].live = (Tn.nd d m).live) := by
      have hmd : m < d.length := by rw [LN.out]; omega
      show _ = _
      rw [nd_at hmd]
      exact (H.out.nds m (by omega) hmd).live
    generalize rs[m].live = lv at *
    cases lv with
    | true =>
      have E : Hid (Tn.lastLive d rs.length = m + 1) := by show _ = _; rw [L.out]; exact last_here d m hnl.out.symm
      go_wp2_with fail
      go_ret
      refine ⟨rs.take (m + 1), by rw [List.length_take, Nat.min_eq_left hm]; rfl, ?_, by rw [List.length_take]; omega, rfl⟩
      unfold Tn.trimD
      rw [LN.out, E.out]
      exact doc_take H.out _
    | false =>
      have hm0 : 0 < m := by
        rcases Nat.eq_zero_or_pos m with rfl | h
        · have := h00.out; rw [← hnl.out] at this; cases this
        · exact h
      obtain ⟨k, rfl⟩ : ∃ k, m = k + 1 := ⟨m - 1, by omega⟩
      have L2 : Hid (Tn.lastLive d rs.length = Tn.lastLive d (k + 1)) := by
        show _ = _
        rw [L.out, Tn.lastLive, if_neg (by rw [← hnl.out]; simp)]
      clear hnl L
      go_wp2_with fail
      exact ⟨⟨k, by omega, rfl, L2⟩, by simp⟩

/-- where a node has its list -/
def lof : Bool → Nat
  | true => 7
  | false => 5

set_option maxHeartbeats 1600000 in
theorem dlistOf_any {w : World} {b o c : Nat} {rs : List Raw} {d : Tn.Dc} (hd : DocAt w b o c rs d) (k : Nat) (hk : k < rs.length) (s : Bool) :
    Calls Try.prog 93 #[.slice (some ⟨b, o, none⟩) rs.length c, .int .i64 (k : Int), .bool s] w fun e w' => e = .returned (.pointer (some ⟨b, o + k * 9 + lof s, none⟩)) ∧ w' = w := by
  have h5 := hd.row.c5 k hk
  have h7 := hd.row.c7 k hk
  clear hd
  cases s with
  | false =>
    go_enter Try.func93, Try.ntmps93
    go_wp2_with fail
    go_ret
    exact ⟨rfl, rfl⟩
  | true =>
    go_enter Try.func93, Try.ntmps93
    go_wp2_with fail
    go_ret
    exact ⟨rfl, rfl⟩

set_option maxHeartbeats 1600000 in
theorem dsay_any {w : World} {g i : Nat} {tag text v : ByteArray} (h1 : w.cell? ⟨g, i + 1, none⟩ = some (.string tag)) (h2 : w.cell? ⟨g, i + 2, none⟩ = some (.string text)) (hf : w.frozen? ⟨g, i + 2, none⟩ = false) (hv : v.size ≤ 4194304) :
    Calls Try.prog 69 #[.pointer (some ⟨g, i, none⟩), .string v] w fun e w' => (e = .returned (.int .i64 8) ∧ w' = w ∧ (tag.toList ≠ [] ∨ 60 < v.size)) ∨ (e = .returned (.int .i64 0) ∧ w' = w.setCell ⟨g, i + 2, none⟩ (.string v) ∧ tag.toList = [] ∧ v.size ≤ 60) := by
  cases ht : tag.toList.isEmpty with
  | false =>
    go_enter Try.func69, Try.ntmps69
    go_wp2_with fail
    go_ret
    exact Or.inl ⟨rfl, rfl, Or.inl (by intro e; simp [e] at ht)⟩
  | true =>
    by_cases hs : 60 < v.size
    · go_enter Try.func69, Try.ntmps69
      go_wp2_with fail
      go_ret
      exact Or.inl ⟨rfl, rfl, Or.inr hs⟩
    · go_enter Try.func69, Try.ntmps69
      go_wp2_with fail
      go_ret
      exact Or.inr ⟨rfl, rfl, by simpa using ht, by omega⟩

set_option maxHeartbeats 1600000 in
theorem dgive_any {w : World} {g c : Nat} {rs : List Raw} {d : Tn.Dc} (hd : DocAt w g 0 c rs d) (hf : ∀ j, w.frozen? ⟨g, j, none⟩ = false) (k : Nat) (hk : k < rs.length) :
    Calls Try.prog 72 #[.slice (some ⟨g, 0, none⟩) rs.length c, .int .i64 (k : Int)] w fun e w' =>
      (e = .returned (.int .i64 8) ∧ w' = w ∧ (k = 0 ∨ rs[k].hasS = true ∨ rs[k].tag.toList = [115, 108, 111, 116])) ∨
      (e = .returned (.int .i64 0) ∧ w' = w.setCell ⟨g, k * 9 + 6, none⟩ (.bool true) ∧ ¬ (k = 0 ∨ rs[k].hasS = true ∨ rs[k].tag.toList = [115, 108, 111, 116])) := by
  have h1 := hd.row.c1 k hk
  have h6 := hd.row.c6 k hk
  have f6 := hf (k * 9 + 6)
  rw [Nat.zero_add] at h1 h6
  clear hd hf
  generalize rs[k].hasS = hs at *
  generalize rs[k].tag = tg at *
  by_cases h0 : k = 0
  · subst h0
    go_enter Try.func72, Try.ntmps72
    go_wp2_with fail
    go_ret
    exact Or.inl ⟨rfl, rfl, Or.inl trivial⟩
  · have hk0 : ((k : Int) == 0) = false := by simpa using h0
    cases hs with
    | true =>
      go_enter Try.func72, Try.ntmps72
      go_wp2_with fail
      go_ret
      exact Or.inl ⟨rfl, rfl, Or.inr (Or.inl trivial)⟩
    | false =>
      cases ht : (tg.toList == [115, 108, 111, 116]) with
      | true =>
        go_enter Try.func72, Try.ntmps72
        go_wp2_with fail
        go_ret
        exact Or.inl ⟨rfl, rfl, Or.inr (Or.inr (by simpa using ht))⟩
      | false =>
        go_enter Try.func72, Try.ntmps72
        go_wp2_with fail
        go_ret
        exact Or.inr ⟨rfl, rfl, by rintro (h | h | h); exact h0 h; cases h; simp [h] at ht⟩
end Go.Proofs.Ytookcjdibpccpaa

/-
  THE WALKS of slices.Index at []int, and of dom.firstFree.
-/
namespace Go.Proofs.Ytookcjdibpccpaa
open Go.RowKit

set_option maxHeartbeats 1600000 in
theorem free1_any {w : World} (lv : Bool) (tg tx : ByteArray) (a k s : Value) (u : Int) (hs is : Bool) :
    Calls Try.prog 103 #[.agg #[.bool lv, .string tg, .string tx, a, .int .i64 u, k, .bool hs, s, .bool is]] w fun e w' => e = .returned (.bool (!lv)) ∧ Below w.heap.size w w' := by
  cases lv with
  | false =>
    go_enter Try.func103, Try.ntmps103
    go_wp2_with fail
    go_ret
    exact ⟨rfl, (Below.refl _ _).alloc (Nat.le_refl _) _⟩
  | true =>
    go_enter Try.func103, Try.ntmps103
    go_wp2_with fail
    go_ret
    exact ⟨rfl, (Below.refl _ _).alloc (Nat.le_refl _) _⟩

set_option maxHeartbeats 1600000 in
theorem indexNode_any {w : World} {b o c : Nat} {rs : List Raw} {d : Tn.Dc} (hd : DocAt w b o c rs d) (hlr : rs.length ≤ 1000) :
    Calls Try.prog 102 #[.slice (some ⟨b, o, none⟩) rs.length c, .func (.func 103) #[] #[]] w fun e w' => ∃ i : Int, e = .returned (.int .i64 i) ∧ ((i = -1 ∧ Tn.free d = rs.length) ∨ (i = (Tn.free d : Int) ∧ Tn.free d < rs.length)) ∧ Below w.heap.size w w' := by
  have H : Hid (DocAt w b o c rs d) := hd
  have LN : Hid (d.length = rs.length) := hd.len.symm
  clear hd
  go_enter Try.func102, Try.ntmps102
  go_wp2_with fail
  go_loopw [8] (fun i wr => ∃ j : Nat, j ≤ rs.length ∧ i = .int .i64 j ∧ Hid (Tn.free d = Tn.freeAt d (d.length - j)) ∧ Below w.heap.size w wr) (fun i _ => rs.length - (intOf i).toNat)
  case atStart => exact ⟨0, Nat.zero_le _, rfl, rfl, Below.refl _ _⟩
  case round =>
    obtain ⟨j, hj, rfl, F, hnx⟩ := hrel
    have hbz := hnx.size
    by_cases hlt : j < rs.length
    · have hjd : j < d.length := by rw [LN.out]; exact hlt
      have hD := H.out.keeps (keeps_below hnx (Nat.le_refl _))
      have c0 := hD.row.c0 j hlt
      have c1 := hD.row.c1 j hlt
      have c2 := hD.row.c2 j hlt
      have c3 := hD.row.c3 j hlt
      have c4 := hD.row.c4 j hlt
      have c5 := hD.row.c5 j hlt
      have c6 := hD.row.c6 j hlt
      have c7 := hD.row.c7 j hlt
      have c8 := hD.row.c8 j hlt
      have hlv : Hid (rs[j].live = (Tn.nd d j).live) := by
        show _ = _
        rw [nd_at hjd]
        exact (hD.nds j hlt hjd).live
      have F2 : Hid (Tn.free d = if rs[j].live then Tn.freeAt d (d.length - (j + 1)) else j) := by
        show _ = _
        have e : d.length - j = (d.length - (j + 1)) + 1 := by omega
        rw [F.out, e, freeAt_step, hlv.out]
        have e2 : d.length - (d.length - (j + 1) + 1) = j := by omega
        rw [e2]
      clear hD hlv F
      generalize rs[j] = r at *
      obtain ⟨rl, rt, rx, ⟨ap, an, ac⟩, ru, ⟨kp, kn, kc⟩, rh, ⟨sp, sn, sc⟩, ri⟩ := r
      simp only at c0 c1 c2 c3 c4 c5 c6 c7 c8 F2
      cases rl with
      | false =>
        have E : Hid (Tn.free d = j) := by show _ = _; rw [F2.out]; rfl
        go_wp2_with (go_at_call 103; refine (free1_any false rt rx (.slice ap an ac) (.slice kp kn kc) (.slice sp sn sc) ru rh ri).mono ?_; rintro e w9 ⟨rfl, hb9⟩)
        go_ret
        exact ⟨_, rfl, Or.inr ⟨by rw [E.out], by rw [E.out]; exact hlt⟩, hnx.trans (hb9.mono hbz)⟩
      | true =>
        have E : Hid (Tn.free d = Tn.freeAt d (d.length - (j + 1))) := by show _ = _; rw [F2.out]; rfl
        go_wp2_with (go_at_call 103; refine (free1_any true rt rx (.slice ap an ac) (.slice kp kn kc) (.slice sp sn sc) ru rh ri).mono ?_; rintro e w9 ⟨rfl, hb9⟩)
        go_roundw
        case rel => exact ⟨j + 1, by omega, by go_num, E, hnx.trans (hb9.mono hbz)⟩
        case measure => simp [intOf]; omega
    · obtain rfl : j = rs.length := by omega
      have E : Hid (Tn.free d = rs.length) := by
        show _ = _
        rw [F.out, LN.out, Nat.sub_self, Tn.freeAt, LN.out]
      go_wp2_with fail
      go_ret
      exact ⟨_, rfl, Or.inl ⟨rfl, E.out⟩, hnx⟩

set_option maxHeartbeats 1600000 in
theorem dfree_any {w : World} {b o c : Nat} {rs : List Raw} {d : Tn.Dc} (hd : DocAt w b o c rs d) (hlr : rs.length ≤ 1000) :
    Calls Try.prog 88 #[.slice (some ⟨b, o, none⟩) rs.length c] w fun e w' => e = .returned (.int .i64 (Tn.free d : Int)) ∧ Below w.heap.size w w' := by
  have hI := indexNode_any hd hlr
  clear hd
  go_enter Try.func88, Try.ntmps88
  go_wp2_with (go_at_call 102; refine hI.mono ?_; rintro e w9 ⟨i, rfl, hi, hb9⟩; rcases hi with ⟨rfl, hi⟩ | ⟨rfl, hi⟩)
  · go_ret
    exact ⟨by rw [hi]; rfl, hb9⟩
  · go_ret
    exact ⟨rfl, hb9⟩
end Go.Proofs.Ytookcjdibpccpaa

/-
  THE WALK of dom.takeOut, in a document of the call's own.
-/
namespace Go.Proofs.Ytookcjdibpccpaa
open Go.RowKit

theorem below_drewN (C : Nat) (w : World) (n : Nat) : Below C w (w.drewN n) := ⟨rfl, rfl, rfl, Nat.le_refl _, fun _ _ => rfl⟩

theorem take1_enters : ∀ args w, (callFunc 95 args).run Try.prog w = .ok (.enter 95 args) w := enters_of Try.func95 (by kernel_rfl) rfl

set_option maxHeartbeats 800000 in
theorem take1_any {w : World} {K n : Nat} (hK : w.cell? ⟨K, 0, none⟩ = some (.int .i64 (n : Int))) (k : Nat) :
    Calls Try.prog 95 #[.int .i64 (k : Int), .pointer (some ⟨K, 0, none⟩)] w fun e w' => e = .returned (.bool (k == n)) ∧ w' = w := by
  have e : ((k : Int) == (n : Int)) = (k == n) := by rw [Bool.eq_iff_iff]; simp; omega
  go_enter Try.func95, Try.ntmps95
  go_wp2_with fail
  go_ret
  exact ⟨by rw [← e]; rfl, rfl⟩

theorem take1_tests {w : World} {K n : Nat} (hK : w.cell? ⟨K, 0, none⟩ = some (.int .i64 (n : Int))) : Tests 95 #[.pointer (some ⟨K, 0, none⟩)] (fun k => k == n) w := by
  intro k
  have e : (#[.int .i64 (k : Int)] ++ #[.pointer (some ⟨K, 0, none⟩)] : Array Value) = #[.int .i64 (k : Int), .pointer (some ⟨K, 0, none⟩)] := by simp
  rw [e]
  refine (take1_any hK k).mono ?_
  rintro e w' ⟨rfl, rfl⟩
  exact ⟨rfl, Below.refl _ _⟩

theorem rowN_at {w : World} {B g c : Nat} {rs : List Raw} (h : OwnN w B (.slice (some ⟨g, 0, none⟩) rs.length c) rs) (k : Nat) (hk : k < rs.length) :
    w.cell? ⟨g, k * 9 + 3, none⟩ = some (.slice rs[k].a.p rs[k].a.n rs[k].a.c) ∧ w.cell? ⟨g, k * 9 + 5, none⟩ = some (.slice rs[k].k.p rs[k].k.n rs[k].k.c) ∧ w.cell? ⟨g, k * 9 + 7, none⟩ = some (.slice rs[k].s.p rs[k].s.n rs[k].s.c) ∧ ∀ j, w.frozen? ⟨g, j, none⟩ = false := by
  obtain ⟨g', c', e, _, _, _, _, h4, h6⟩ := own_at h (by omega)
  cases e
  have c3 := h4.c3 k hk
  have c5 := h4.c5 k hk
  have c7 := h4.c7 k hk
  rw [Nat.zero_add] at c3 c5 c7
  exact ⟨c3, c5, c7, h6⟩
theorem Owned.rowGrown {w w1 : World} {B g c : Nat} {rs : List Raw} {d : Tn.Dc} (h : Owned w B g c rs d) {k : Nat} (hk : k < rs.length) (t : Fin 3) (hgr : w.grownBy w1 (blk rs[k] t)) : OwnN w1 B (.slice (some ⟨g, 0, none⟩) rs.length c) rs :=
  owns_grown (s := ⟨some ⟨g, 0, none⟩, rs.length, c⟩) h.row hgr (fun x hx e => by
    have hx' : g = x := by simpa [sblk] using hx
    rw [← hx'] at e
    exact h.sep.row k hk t e)

/-- a document without k in u's list -/
def takeS (d : Tn.Dc) (u : Nat) (s : Bool) (n : Nat) : Tn.Dc := d.set u (Tn.setList (Tn.nd d u) s ((Tn.listOf (Tn.nd d u) s).filter fun k => !(k == n)))

set_option maxHeartbeats 3200000 in
theorem dtake_any {w : World} {B g c : Nat} {rs : List Raw} {d : Tn.Dc} (h : Owned w B g c rs d) (hB : B ≤ w.heap.size) {n u : Nat} (hn : n < rs.length) (hu : u < rs.length) (hup : (Tn.nd d n).up = (u : Int)) (hls : ∀ s, (Tn.liD d u s).length ≤ 1000) :
    Calls Try.prog 83 #[.slice (some ⟨g, 0, none⟩) rs.length c, .int .i64 (n : Int)] w fun e w' => e = .returned (.tuple #[]) ∧ (∃ rs', rs'.length = rs.length ∧ Owned w' B g c rs' (takeS d u (Tn.nd d n).inS n) ∧ Fr g rs w g rs' w') ∧ Below B w w' := by
  have h0 : 0 < rs.length := by omega
  obtain ⟨hBg, hgl, hfz⟩ := h.at h0
  have hnd : n < d.length := by rw [← h.len]; exact hn
  have hud : u < d.length := by rw [← h.len]; exact hu
  have hD := h.doc h0
  have W1 : Below w.heap.size w (w.alloc (.cells #[.int .i64 (n : Int)] 3)) := (Below.refl _ _).alloc (Nat.le_refl _) _
  have D1 : Hid (DocAt (w.alloc (.cells #[.int .i64 (n : Int)] 3)) g 0 c rs d) := hD.keeps (keeps_below W1 (Nat.le_refl _))
  have O1 : Hid (Owned (w.alloc (.cells #[.int .i64 (n : Int)] 3)) B g c rs d) := h.below W1 (Nat.le_refl _)
  have h4 := D1.out.row.c4 n hn
  have h8 := D1.out.row.c8 n hn
  have hk0 := cell_box w (.int .i64 (n : Int)) (t := 3)
  have e4 : rs[n].up = (u : Int) := by rw [(hD.nds n hn hnd).up, ← nd_at hnd, hup]
  have e8 : rs[n].inS = (Tn.nd d n).inS := by rw [(hD.nds n hn hnd).inS, ← nd_at hnd]
  rw [e4, Nat.zero_add] at h4
  rw [e8, Nat.zero_add] at h8
  have BA : Below B w (w.alloc (.cells #[.int .i64 (n : Int)] 3)) := (Below.refl B w).alloc hB _
  have hgA : g < (w.alloc (.cells #[.int .i64 (n : Int)] 3)).heap.size := by simp; omega
  have hBA : B ≤ (w.alloc (.cells #[.int .i64 (n : Int)] 3)).heap.size := by simp; omega
  have hKA : w.heap.size < (w.alloc (.cells #[.int .i64 (n : Int)] 3)).heap.size := by simp
  have FA : Fr g rs w g rs (w.alloc (.cells #[.int .i64 (n : Int)] 3)) := (Fr.refl g rs w).below W1
  have hlowK : ∀ k (hk : k < rs.length) t, blk rs[k] t ≠ some w.heap.size := fun k hk t e => by have := h.low k hk t _ e; omega
  clear e4 e8 hD hfz W1 h
  generalize (Tn.nd d n).inS = s at *
  cases s with
  | false =>
    have hl := hls false
    have hlist : OwnI (w.alloc (.cells #[.int .i64 (n : Int)] 3)) B (.slice rs[u].k.p rs[u].k.n rs[u].k.c) (Tn.nd d u).kids := by rw [nd_at hud]; exact (O1.out.nds u hu hud).kids
    have hL := D1.out.row.c5 u hu
    rw [Nat.zero_add] at hL
    go_enter Try.func83, Try.ntmps83
    go_upto_region 1 with fail
    generalize w.alloc (.cells #[.int .i64 (n : Int)] 3) = w1 at *
    generalize hKs : w.heap.size = K at *
    go_quiet ((go_at_call 93; exact Calls.quiet_of_same (dlistOf_any (D1.out.keeps (keeps_drewN _ _)) u hu false)))
    have OQ : Hid (Owned (w1.drewN nq) B g c rs d) := O1.out.below (below_drewN w1.heap.size w1 nq) (Nat.le_refl _)
    have hlq : OwnI (w1.drewN nq) B (.slice rs[u].k.p rs[u].k.n rs[u].k.c) (Tn.nd d u).kids := hlist.below (below_drewN w1.heap.size w1 nq) (Nat.le_refl _)
    have hLq : (w1.drewN nq).cell? ⟨g, u * 9 + 5, none⟩ = some (.slice rs[u].k.p rs[u].k.n rs[u].k.c) := hL
    have hkq : (w1.drewN nq).cell? ⟨K, 0, none⟩ = some (.int .i64 (n : Int)) := hk0
    have hdel := del_any take1_enters hlq hl (fun W hgr => take1_tests (K := K) (n := n) (World.grownBy.cell hgr hkq (by
      rw [sblk_own]
      exact fun e => hlowK u hu 1 e.symm)))
    have hof : 0 + u * 9 + lof false = u * 9 + 5 := by simp [lof]
    rw [hof]
    have BQ : Below B w (w1.drewN nq) := BA.trans (below_drewN B w1 nq)
    have FQ : Fr g rs w g rs (w1.drewN nq) := FA.below (below_drewN _ w1 nq)
    have hgQ : g < (w1.drewN nq).heap.size := hgA
    generalize w1.drewN nq = W at *
    have hob : (Value.slice rs[u].k.p rs[u].k.n rs[u].k.c).ownBlock = blk rs[u] 1 := sblk_own _
    rw [hob] at hdel
    clear hL hlist hk0 hkq
    go_wp2_with (go_at_call 94; refine hdel.mono ?_; rintro e w9 ⟨v9, rfl, ho9, hob9, hg9⟩; have ho9' := ho9; obtain ⟨p9, c9, rfl⟩ := ho9'.shape; have R9 := rowN_at (OQ.out.rowGrown hu 1 hg9) u hu; have L9 := R9.2.1; have F9 := R9.2.2.2 (u * 9 + 5))
    go_end0
    have hoth : ∀ t', t' ≠ (1 : Fin 3) → lst { rs[u] with k := ⟨p9, ((Tn.nd d u).kids.filter fun k => !(k == n)).length, c9⟩ } t' = lst rs[u] t' := by
      intro t' ht'
      match t' with
      | 0 => rfl
      | 2 => rfl
      | 1 => exact absurd rfl ht'
    have hsame : blk { rs[u] with k := ⟨p9, ((Tn.nd d u).kids.filter fun k => !(k == n)).length, c9⟩ } 1 = blk rs[u] 1 := by
      rw [← hob9, sblk_own ⟨p9, _, c9⟩]
      rfl
    refine ⟨rfl, ⟨_, ?_, OQ.out.list hu 1 (r' := { rs[u] with k := ⟨p9, ((Tn.nd d u).kids.filter fun k => !(k == n)).length, c9⟩ }) (n' := Tn.setList (Tn.nd d u) false ((Tn.listOf (Tn.nd d u) false).filter fun k => !(k == n))) hg9 hoth (Or.inl hsame) ?_ 5 (by decide) _ rfl, FQ.trans (Fr.list hu 1 hg9 hoth (Or.inl hsame) _ _)⟩, ?_⟩
    · simp
    · have hN := OQ.out.nds u hu hud
      rw [← nd_at hud] at hN
      have hne : ∀ t', t' ≠ 1 → ∀ x, blk rs[u] t' = some x → blk rs[u] 1 ≠ some x := fun t' ht' x h1 h2 => ht' (OQ.out.sep.one u hu t' u hu 1 x h1 h2).2
      exact ⟨hN.live, hN.tag, hN.text, hN.up, hN.hasS, hN.inS, owns_grown hN.attrs hg9 (hne 0 (by decide)), ho9, owns_grown hN.shadow hg9 (hne 2 (by decide))⟩
    · have hB9 : Below B w w9 := BQ.grown hg9 (by have := BQ.size; omega) (fun k hk => ?_)
      · exact hB9.setCell (p := ⟨g, u * 9 + 5, none⟩) hBg _
      · have := (World.ownsRow.lt hlq k (by rw [hob]; exact hk)).1
        exact this
  | true =>
    have hl := hls true
    have hlist : OwnI (w.alloc (.cells #[.int .i64 (n : Int)] 3)) B (.slice rs[u].s.p rs[u].s.n rs[u].s.c) (Tn.nd d u).shadow := by rw [nd_at hud]; exact (O1.out.nds u hu hud).shadow
    have hL := D1.out.row.c7 u hu
    rw [Nat.zero_add] at hL
    go_enter Try.func83, Try.ntmps83
    go_upto_region 1 with fail
    generalize w.alloc (.cells #[.int .i64 (n : Int)] 3) = w1 at *
    generalize hKs : w.heap.size = K at *
    go_quiet ((go_at_call 93; exact Calls.quiet_of_same (dlistOf_any (D1.out.keeps (keeps_drewN _ _)) u hu true)))
    have OQ : Hid (Owned (w1.drewN nq) B g c rs d) := O1.out.below (below_drewN w1.heap.size w1 nq) (Nat.le_refl _)
    have hlq : OwnI (w1.drewN nq) B (.slice rs[u].s.p rs[u].s.n rs[u].s.c) (Tn.nd d u).shadow := hlist.below (below_drewN w1.heap.size w1 nq) (Nat.le_refl _)
    have hLq : (w1.drewN nq).cell? ⟨g, u * 9 + 7, none⟩ = some (.slice rs[u].s.p rs[u].s.n rs[u].s.c) := hL
    have hkq : (w1.drewN nq).cell? ⟨K, 0, none⟩ = some (.int .i64 (n : Int)) := hk0
    have hdel := del_any take1_enters hlq hl (fun W hgr => take1_tests (K := K) (n := n) (World.grownBy.cell hgr hkq (by
      rw [sblk_own]
      exact fun e => hlowK u hu 2 e.symm)))
    have hof : 0 + u * 9 + lof true = u * 9 + 7 := by simp [lof]
    rw [hof]
    have BQ : Below B w (w1.drewN nq) := BA.trans (below_drewN B w1 nq)
    have FQ : Fr g rs w g rs (w1.drewN nq) := FA.below (below_drewN _ w1 nq)
    have hgQ : g < (w1.drewN nq).heap.size := hgA
    generalize w1.drewN nq = W at *
    have hob : (Value.slice rs[u].s.p rs[u].s.n rs[u].s.c).ownBlock = blk rs[u] 2 := sblk_own _
    rw [hob] at hdel
    clear hL hlist hk0 hkq
    go_wp2_with (go_at_call 94; refine hdel.mono ?_; rintro e w9 ⟨v9, rfl, ho9, hob9, hg9⟩; have ho9' := ho9; obtain ⟨p9, c9, rfl⟩ := ho9'.shape; have R9 := rowN_at (OQ.out.rowGrown hu 2 hg9) u hu; have L9 := R9.2.2.1; have F9 := R9.2.2.2 (u * 9 + 7))
    go_end0
    have hoth : ∀ t', t' ≠ (2 : Fin 3) → lst { rs[u] with s := ⟨p9, ((Tn.nd d u).shadow.filter fun k => !(k == n)).length, c9⟩ } t' = lst rs[u] t' := by
      intro t' ht'
      match t' with
      | 0 => rfl
      | 1 => rfl
      | 2 => exact absurd rfl ht'
    have hsame : blk { rs[u] with s := ⟨p9, ((Tn.nd d u).shadow.filter fun k => !(k == n)).length, c9⟩ } 2 = blk rs[u] 2 := by
      rw [← hob9, sblk_own ⟨p9, _, c9⟩]
      rfl
    refine ⟨rfl, ⟨_, ?_, OQ.out.list hu 2 (r' := { rs[u] with s := ⟨p9, ((Tn.nd d u).shadow.filter fun k => !(k == n)).length, c9⟩ }) (n' := Tn.setList (Tn.nd d u) true ((Tn.listOf (Tn.nd d u) true).filter fun k => !(k == n))) hg9 hoth (Or.inl hsame) ?_ 7 (by decide) _ rfl, FQ.trans (Fr.list hu 2 hg9 hoth (Or.inl hsame) _ _)⟩, ?_⟩
    · simp
    · have hN := OQ.out.nds u hu hud
      rw [← nd_at hud] at hN
      have hne : ∀ t', t' ≠ 2 → ∀ x, blk rs[u] t' = some x → blk rs[u] 2 ≠ some x := fun t' ht' x h1 h2 => ht' (OQ.out.sep.one u hu t' u hu 2 x h1 h2).2
      exact ⟨hN.live, hN.tag, hN.text, hN.up, hN.hasS, hN.inS, owns_grown hN.attrs hg9 (hne 0 (by decide)), owns_grown hN.kids hg9 (hne 1 (by decide)), ho9⟩
    · have hB9 : Below B w w9 := BQ.grown hg9 (by have := BQ.size; omega) (fun k hk => ?_)
      · exact hB9.setCell (p := ⟨g, u * 9 + 7, none⟩) hBg _
      · have := (World.ownsRow.lt hlq k (by rw [hob]; exact hk)).1
        exact this
end Go.Proofs.Ytookcjdibpccpaa

/-
  THE WALKS of slices.ContainsFunc at ints, and of the function in dom.put.
-/
namespace Go.Proofs.Ytookcjdibpccpaa
open Go.RowKit

set_option maxHeartbeats 800000 in
theorem contF_any {g : Nat} {lb : Array Value} {p : Nat → Bool} (eg : ∀ args w, (callFunc g args).run Try.prog w = .ok (.enter g args) w) {w : World} {vl : Value} {l : List Nat} (hl : IntsAt w vl l) (hF : ∀ W, Below w.heap.size w W → Tests g lb p W) :
    Calls Try.prog 98 #[vl, .func (.func g) #[] lb] w fun e w' => e = .returned (.bool (l.any p)) ∧ Below w.heap.size w w' := by
  have hI := idxF_any eg hl hF
  clear hl hF
  rcases idx_cases2 p l with ⟨e1, e2⟩ | ⟨j, hj, e1, e2, _⟩
  · have E : Hid (l.any p = false) := by show _ = _; rw [List.any_eq_false]; intro x hx; simp [e2 x hx]
    rw [e1] at hI
    clear e1 e2
    go_enter Try.func98, Try.ntmps98
    go_wp2_with (go_at_call 51; refine hI.mono ?_; rintro e w9 ⟨rfl, hb9⟩)
    go_ret
    exact ⟨by rw [E.out]; rfl, hb9⟩
  · have E : Hid (l.any p = true) := by show _ = _; exact List.any_eq_true.mpr ⟨l[j], List.getElem_mem hj, e2⟩
    rw [e1] at hI
    clear e1 e2
    go_enter Try.func98, Try.ntmps98
    go_wp2_with (go_at_call 51; refine hI.mono ?_; rintro e w9 ⟨rfl, hb9⟩)
    go_ret
    exact ⟨by rw [E.out]; simp, hb9⟩

/-- is a node too deep? -/
def tooDeep (d : Tn.Dc) (k : Nat) : Bool := decide ((16 : Int) < (((Tn.pathOf d (k : Int)).length - 1 : Nat) : Int))

theorem put1_enters : ∀ args w, (callFunc 99 args).run Try.prog w = .ok (.enter 99 args) w := enters_of Try.func99 (by kernel_rfl) rfl

set_option maxHeartbeats 800000 in
theorem put1_any {w : World} {b o c K : Nat} {rs : List Raw} {d : Tn.Dc} (hd : DocAt w b o c rs d) (hg : Tame d) (hK : w.cell? ⟨K, 0, none⟩ = some (.slice (some ⟨b, o, none⟩) rs.length c)) (k : Nat) :
    Calls Try.prog 99 #[.int .i64 (k : Int), .pointer (some ⟨K, 0, none⟩)] w fun e w' => e = .returned (.bool (tooDeep d k)) ∧ Below w.heap.size w w' := by
  have hC := ddeep_any hd hg (k : Int)
  have E : Hid (tooDeep d k = decide ((16 : Int) < (((Tn.pathOf d (k : Int)).length - 1 : Nat) : Int))) := rfl
  clear hd
  generalize (Tn.pathOf d (k : Int)).length - 1 = x at *
  go_enter Try.func99, Try.ntmps99
  go_wp2_with (go_at_call 39; refine hC.mono ?_; rintro e w9 ⟨rfl, hb9⟩)
  go_ret
  exact ⟨by rw [E.out]; rfl, hb9⟩

theorem put1_tests {w : World} {b o c K : Nat} {rs : List Raw} {d : Tn.Dc} (hd : DocAt w b o c rs d) (hg : Tame d) (hK : w.cell? ⟨K, 0, none⟩ = some (.slice (some ⟨b, o, none⟩) rs.length c)) : Tests 99 #[.pointer (some ⟨K, 0, none⟩)] (tooDeep d) w := by
  intro k
  have e : (#[.int .i64 (k : Int)] ++ #[.pointer (some ⟨K, 0, none⟩)] : Array Value) = #[.int .i64 (k : Int), .pointer (some ⟨K, 0, none⟩)] := by simp
  rw [e]
  exact put1_any hd hg hK k

theorem Owned.up {w : World} {B g c : Nat} {rs : List Raw} {d : Tn.Dc} (h : Owned w B g c rs d) {k : Nat} (hk : k < rs.length) (hd : k < d.length) (m : Int) : Owned (w.setCell ⟨g, k * 9 + 4, none⟩ (.int .i64 m)) B g c (rs.set k { rs[k] with up := m }) (d.set k { d[k] with up := m }) := by
  have hN := h.nds k hk hd
  exact h.scal hk (r' := { rs[k] with up := m }) (n' := { d[k] with up := m }) (fun t => by match t with | 0 => rfl | 1 => rfl | 2 => rfl) ⟨hN.live, hN.tag, hN.text, rfl, hN.hasS, hN.inS, hN.attrs, hN.kids, hN.shadow⟩ 4 (by decide) _ rfl
theorem Owned.ins {w : World} {B g c : Nat} {rs : List Raw} {d : Tn.Dc} (h : Owned w B g c rs d) {k : Nat} (hk : k < rs.length) (hd : k < d.length) (s : Bool) : Owned (w.setCell ⟨g, k * 9 + 8, none⟩ (.bool s)) B g c (rs.set k { rs[k] with inS := s }) (d.set k { d[k] with inS := s }) := by
  have hN := h.nds k hk hd
  exact h.scal hk (r' := { rs[k] with inS := s }) (n' := { d[k] with inS := s }) (fun t => by match t with | 0 => rfl | 1 => rfl | 2 => rfl) ⟨hN.live, hN.tag, hN.text, hN.up, hN.hasS, rfl, hN.attrs, hN.kids, hN.shadow⟩ 8 (by decide) _ rfl
theorem Owned.upIns {w : World} {B g c : Nat} {rs : List Raw} {d : Tn.Dc} (h : Owned w B g c rs d) {k : Nat} (hk : k < rs.length) (m : Int) (s : Bool) :
    (∃ rs', rs'.length = rs.length ∧ Owned ((w.setCell ⟨g, k * 9 + 4, none⟩ (.int .i64 m)).setCell ⟨g, k * 9 + 8, none⟩ (.bool s)) B g c rs' (d.set k { Tn.nd d k with up := m, inS := s }) ∧ Fr g rs w g rs' ((w.setCell ⟨g, k * 9 + 4, none⟩ (.int .i64 m)).setCell ⟨g, k * 9 + 8, none⟩ (.bool s))) ∧
    (∃ rs', rs'.length = rs.length ∧ Owned ((w.setCell ⟨g, k * 9 + 8, none⟩ (.bool s)).setCell ⟨g, k * 9 + 4, none⟩ (.int .i64 m)) B g c rs' (d.set k { Tn.nd d k with up := m, inS := s })) := by
  have hd : k < d.length := by rw [← h.len]; exact hk
  rw [nd_at hd]
  constructor
  · have h1 := (h.up hk hd m).ins (k := k) (by simpa using hk) (by simpa using hd) s
    simp only [List.getElem_set_self, List.set_set] at h1
    have f1 : Fr g rs w g (rs.set k { rs[k] with up := m }) (w.setCell ⟨g, k * 9 + 4, none⟩ (.int .i64 m)) := Fr.scal hk (fun t => by match t with | 0 => rfl | 1 => rfl | 2 => rfl) _ _
    have f2 := Fr.scal (w := w.setCell ⟨g, k * 9 + 4, none⟩ (.int .i64 m)) (g := g) (rs := rs.set k { rs[k] with up := m }) (k := k) (by simpa using hk) (r' := { (rs.set k { rs[k] with up := m })[k]'(by simpa using hk) with inS := s }) (fun t => by match t with | 0 => rfl | 1 => rfl | 2 => rfl) (k * 9 + 8) (.bool s)
    have f3 := f1.trans f2
    simp only [List.getElem_set_self, List.set_set] at f3
    exact ⟨_, by simp, h1, f3⟩
  · have h1 := (h.ins hk hd s).up (k := k) (by simpa using hk) (by simpa using hd) m
    simp only [List.getElem_set_self, List.set_set] at h1
    exact ⟨_, by simp, h1⟩

/-- where it is put -/
def putAt (l : List Nat) (before : Int) : Int := if 0 ≤ before then idxI (fun k => (k : Int) == before) l else (l.length : Int)
/-- the document behind put -/
def putIn (d : Tn.Dc) (n m : Nat) (before : Int) (s : Bool) : Tn.Dc := d.set m (Tn.setList (Tn.nd d m) s (Tn.insertAt (Tn.listOf (Tn.nd d m) s) (putAt (Tn.listOf (Tn.nd d m) s) before).toNat n))
def putDoc (d : Tn.Dc) (n m : Nat) (before : Int) (s : Bool) : Tn.Dc := (putIn d n m before s).set n { Tn.nd (putIn d n m before s) n with up := (m : Int), inS := s }
def putCode (d : Tn.Dc) (n m : Nat) (before : Int) (s : Bool) : Int :=
  if putAt (Tn.listOf (Tn.nd d m) s) before < 0 then 8
  else if 12 ≤ (Tn.listOf (Tn.nd d m) s).length then 5
  else if (Tn.all Tn.fuel (putDoc d n m before s) n).any (tooDeep (putDoc d n m before s)) then 3 else 0

theorem putAt_cases (l : List Nat) (before : Int) : putAt l before = -1 ∨ ∃ i : Nat, i ≤ l.length ∧ putAt l before = (i : Int) := by
  unfold putAt
  split
  · rcases idx_cases2 (fun k => (k : Int) == before) l with ⟨e, _⟩ | ⟨j, hj, e, _⟩
    · exact Or.inl e
    · exact Or.inr ⟨j, by omega, e⟩
  · exact Or.inr ⟨l.length, Nat.le_refl _, rfl⟩
theorem putAt_nat (l : List Nat) (x : Nat) : putAt l (x : Int) = idxI (fun k => k == x) l := by
  unfold putAt
  rw [if_pos (by omega)]
  congr 1
  funext k
  rw [Bool.eq_iff_iff]
  simp
  omega
theorem putAt_end (l : List Nat) (b : Int) (h : b < 0) : putAt l b = (l.length : Int) := by
  unfold putAt
  rw [if_neg (by omega)]
end Go.Proofs.Ytookcjdibpccpaa

/-
  THE WALK of dom.put, in a document of the call's own.
-/
namespace Go.Proofs.Ytookcjdibpccpaa
open Go.RowKit

set_option maxHeartbeats 6400000 in
set_option maxRecDepth 100000 in
theorem dput_AtfalseK {w : World} {B g c : Nat} {rs : List Raw} {d : Tn.Dc} (h : Owned w B g c rs d) (hB : B ≤ w.heap.size) {n m : Nat} (hn : n < rs.length) (hm : m < rs.length) (hls : ∀ s, (Tn.liD d m s).length ≤ 1000) (x : Nat)
    (hT : 0 ≤ putAt (Tn.listOf (Tn.nd d m) false) (x : Int) → (Tn.listOf (Tn.nd d m) false).length < 12 → Tame (putDoc d n m (x : Int) false) ∧ (∀ j s, (Tn.liD (putDoc d n m (x : Int) false) j s).length ≤ 1000) ∧ Tn.lvD (putDoc d n m (x : Int) false) n = true) :
    Calls Try.prog 84 #[.slice (some ⟨g, 0, none⟩) rs.length c, .int .i64 (n : Int), .int .i64 (m : Int), .int .i64 (x : Int), .bool false] w fun e w' => e = .returned (.int .i64 (putCode d n m (x : Int) false)) ∧ Below B w w' ∧ (putCode d n m (x : Int) false = 0 → ∃ rs', rs'.length = rs.length ∧ Owned w' B g c rs' (putDoc d n m (x : Int) false) ∧ Fr g rs w g rs' w') ∧ Kpt g rs w w' := by
  have h0 : 0 < rs.length := by omega
  obtain ⟨hBg, hgl, hfz⟩ := h.at h0
  have hnd : n < d.length := by rw [← h.len]; exact hn
  have hmd : m < d.length := by rw [← h.len]; exact hm
  have W1 : Below w.heap.size w (w.alloc (.cells #[.slice (some ⟨g, 0, none⟩) rs.length c] 34)) := (Below.refl _ _).alloc (Nat.le_refl _) _
  have O1 : Hid (Owned (w.alloc (.cells #[.slice (some ⟨g, 0, none⟩) rs.length c] 34)) B g c rs d) := h.below W1 (Nat.le_refl _)
  have D1 : Hid (DocAt (w.alloc (.cells #[.slice (some ⟨g, 0, none⟩) rs.length c] 34)) g 0 c rs d) := O1.out.doc h0
  have FA : Fr g rs w g rs (w.alloc (.cells #[.slice (some ⟨g, 0, none⟩) rs.length c] 34)) := (Fr.refl g rs w).below W1
  have BA : Below B w (w.alloc (.cells #[.slice (some ⟨g, 0, none⟩) rs.length c] 34)) := (Below.refl B w).alloc hB _
  have hk0 := cell_box w (.slice (some ⟨g, 0, none⟩) rs.length c) (t := 34)
  have hlowK : ∀ k (hk : k < rs.length) t, blk rs[k] t ≠ some w.heap.size := fun k hk t e => by have := h.low k hk t _ e; omega
  have hKA : w.heap.size < (w.alloc (.cells #[.slice (some ⟨g, 0, none⟩) rs.length c] 34)).heap.size := by simp
  have hlist : OwnI (w.alloc (.cells #[.slice (some ⟨g, 0, none⟩) rs.length c] 34)) B (.slice rs[m].k.p rs[m].k.n rs[m].k.c) (Tn.nd d m).kids := by rw [nd_at hmd]; exact (O1.out.nds m hm hmd).kids
  have hL := (rowN_at O1.out.row m hm).2.1
  have hl : (Tn.nd d m).kids.length ≤ 1000 := hls false
  have hKn : rs[m].k.n = (Tn.nd d m).kids.length := hl_of (ints_of_owns hlist)
  have PC : Hid (putCode d n m (x : Int) false = if putAt (Tn.nd d m).kids (x : Int) < 0 then 8 else if 12 ≤ (Tn.nd d m).kids.length then 5 else if (Tn.all Tn.fuel (putDoc d n m (x : Int) false) n).any (tooDeep (putDoc d n m (x : Int) false)) then 3 else 0) := rfl
  have PI : Hid (putIn d n m (x : Int) false = d.set m (Tn.setList (Tn.nd d m) false (Tn.insertAt (Tn.nd d m).kids (putAt (Tn.nd d m).kids (x : Int)).toNat n))) := rfl
  have PD : Hid (putDoc d n m (x : Int) false = (putIn d n m (x : Int) false).set n { Tn.nd (putIn d n m (x : Int) false) n with up := (m : Int), inS := false }) := rfl
  have HT : Hid (0 ≤ putAt (Tn.nd d m).kids (x : Int) → (Tn.nd d m).kids.length < 12 → Tame (putDoc d n m (x : Int) false) ∧ (∀ j s, (Tn.liD (putDoc d n m (x : Int) false) j s).length ≤ 1000) ∧ Tn.lvD (putDoc d n m (x : Int) false) n = true) := hT
  have hIX : ∀ vl, IntsAt (w.alloc (.cells #[.slice (some ⟨g, 0, none⟩) rs.length c] 34)) vl (Tn.nd d m).kids → Calls Try.prog 96 #[vl, .int .i64 (x : Int)] (w.alloc (.cells #[.slice (some ⟨g, 0, none⟩) rs.length c] 34)) fun e w' => e = .returned (.int .i64 (putAt (Tn.nd d m).kids (x : Int))) ∧ w' = (w.alloc (.cells #[.slice (some ⟨g, 0, none⟩) rs.length c] 34)) := fun vl hv => by rw [putAt_nat]; exact index_any hv x
  rw [hKn] at hL hlist
  clear hT hls hfz W1 h hKn
  have QL : Hid _ := hlist
  clear hlist
  have hof : 0 + m * 9 + lof false = m * 9 + 5 := by simp [lof]
  have hLO := dlistOf_any D1.out m hm false
  rw [hof] at hLO
  rcases putAt_cases (Tn.nd d m).kids (x : Int) with hat | ⟨i, hil, hat⟩
  · have E : Hid (putCode d n m (x : Int) false = 8) := by show _ = _; rw [PC.out, hat]; rfl
    have hI := hIX _ (ints_of_owns QL.out)
    rw [hat] at hI
    clear hIX HT PC PI PD
    go_enter Try.func84, Try.ntmps84
    go_wp2_with (first
      | (go_at_call 93; refine hLO.mono ?_; rintro e w' ⟨rfl, hww⟩; subst hww)
      | (go_at_call 96; refine hI.mono ?_; rintro e w' ⟨rfl, hww⟩; subst hww))
    go_ret
    exact ⟨by rw [E.out]; rfl, BA, (fun hc => by rw [E.out] at hc; cases hc), FA.block⟩
  · by_cases h12 : 12 ≤ (Tn.nd d m).kids.length
    · have E : Hid (putCode d n m (x : Int) false = 5) := by show _ = _; rw [PC.out, if_neg (by omega), if_pos h12]
      have hI := hIX _ (ints_of_owns QL.out)
      rw [hat] at hI
      clear hIX
      go_enter Try.func84, Try.ntmps84
      go_wp2_with (first
        | (go_at_call 93; refine hLO.mono ?_; rintro e w' ⟨rfl, hww⟩; subst hww)
        | (go_at_call 96; refine hI.mono ?_; rintro e w' ⟨rfl, hww⟩; subst hww))
      go_ret
      exact ⟨by rw [E.out]; rfl, BA, (fun hc => by rw [E.out] at hc; cases hc), FA.block⟩
    · obtain ⟨t1, t2, t3⟩ := HT.out (by omega) (by omega)
      have hI := hIX _ (ints_of_owns QL.out)
      rw [hat] at hI
      clear hIX
      go_enter Try.func84, Try.ntmps84
      go_upto_region 9 with (first
        | (go_at_call 93; refine hLO.mono ?_; rintro e w' ⟨rfl, hww⟩; subst hww)
        | (go_at_call 96; refine hI.mono ?_; rintro e w' ⟨rfl, hww⟩; subst hww))
      generalize hWA : w.alloc (.cells #[.slice (some ⟨g, 0, none⟩) rs.length c] 34) = wA at *
      have hob : (Value.slice rs[m].k.p (Tn.nd d m).kids.length rs[m].k.c).ownBlock = blk rs[m] 1 := by
        unfold blk sblk lst
        cases rs[m].k.p <;> rfl
      have BB : Below wA.heap.size wA (wA.alloc (.cells #[.int .i64 (n : Int)] 3)) := (Below.refl _ _).alloc (Nat.le_refl _) _
      have OB : Hid (Owned (wA.alloc (.cells #[.int .i64 (n : Int)] 3)) B g c rs d) := O1.out.below BB (Nat.le_refl _)
      have hBA : B ≤ wA.heap.size := Nat.le_trans hB BA.size
      have hIns := insI_any (vb := wA.heap.size) (x := n) (OwnI.below QL.out BB (Nat.le_refl _)) (by simp; omega) hl i hil (heap_alloc_new wA _) (by
        rw [hob]
        intro e
        have := O1.out.low m hm 1 _ e
        omega)
      rw [hob] at hIns
      have hLB := keeps_below BB (Nat.le_refl _) _ _ hL
      have hkB := keeps_below BB (Nat.le_refl _) _ _ hk0
      have hBw : Below B w (wA.alloc (.cells #[.int .i64 (n : Int)] 3)) := BA.alloc (by omega) _
      have hBz : B ≤ (wA.alloc (.cells #[.int .i64 (n : Int)] 3)).heap.size := by simp; omega
      go_upto_region 10 with (go_at_call 97; refine hIns.mono ?_; rintro e w9 ⟨v9, rfl, ho9, hg9, hb9⟩; have ho9' := ho9; obtain ⟨p9, c9, rfl⟩ := ho9'.shape; have R9 := rowN_at (OB.out.rowGrown hm 1 hg9) m hm; have L9 := R9.2.1; have F9 := R9.2.2.2 (m * 9 + 5))
      have hblk9 : sblk ⟨p9, (Tn.insertAt (Tn.nd d m).kids i n).length, c9⟩ = blk rs[m] 1 ∨ ∃ x, (wA.alloc (.cells #[.int .i64 (n : Int)] 3)).heap.size ≤ x ∧ x < w9.heap.size ∧ sblk ⟨p9, (Tn.insertAt (Tn.nd d m).kids i n).length, c9⟩ = some x := by
        rw [sblk_own ⟨p9, _, c9⟩] at hb9
        rcases hb9 with e | ⟨y, hy, e⟩
        · exact Or.inl e
        · exact Or.inr ⟨y, hy, (World.ownsRow.lt ho9 y (by rw [sblk_own ⟨p9, _, c9⟩]; exact e)).2, e⟩
      have hN := OB.out.nds m hm hmd
      rw [← nd_at hmd] at hN
      have hne : ∀ t', t' ≠ 1 → ∀ y, blk rs[m] t' = some y → blk rs[m] 1 ≠ some y := fun t' ht' y h1 h2 => ht' (OB.out.sep.one m hm t' m hm 1 y h1 h2).2
      have F2 : Fr g rs w g (rs.set m { rs[m] with k := ⟨p9, (Tn.insertAt (Tn.nd d m).kids i n).length, c9⟩ }) (w9.setCell ⟨g, m * 9 + 5, none⟩ (.slice p9 (Tn.insertAt (Tn.nd d m).kids i n).length c9)) :=
        (FA.below BB).trans (Fr.list hm 1 (r' := { rs[m] with k := ⟨p9, (Tn.insertAt (Tn.nd d m).kids i n).length, c9⟩ }) hg9 (fun t' ht' => by match t' with | 0 => rfl | 2 => rfl | 1 => exact absurd rfl ht') hblk9 _ _)
      have O2 := OB.out.list hm 1 (r' := { rs[m] with k := ⟨p9, (Tn.insertAt (Tn.nd d m).kids i n).length, c9⟩ }) (n' := Tn.setList (Tn.nd d m) false (Tn.insertAt (Tn.nd d m).kids i n)) hg9
        (fun t' ht' => by match t' with | 0 => rfl | 2 => rfl | 1 => exact absurd rfl ht') hblk9
        ⟨hN.live, hN.tag, hN.text, hN.up, hN.hasS, hN.inS, owns_grown hN.attrs hg9 (hne 0 (by decide)), ho9, owns_grown hN.shadow hg9 (hne 2 (by decide))⟩ 5 (by decide) (.slice p9 (Tn.insertAt (Tn.nd d m).kids i n).length c9) rfl
      have PI2 := PI.out
      rw [hat, Int.toNat_natCast] at PI2
      rw [← PI2] at O2
      have hkw : (w9.setCell ⟨g, m * 9 + 5, none⟩ (.slice p9 (Tn.insertAt (Tn.nd d m).kids i n).length c9)).cell? ⟨w.heap.size, 0, none⟩ = some (.slice (some ⟨g, 0, none⟩) rs.length c) := by
        rw [World.cell?_setCell_other _ _ _ _ (by intro e; injection e with e; omega)]
        exact World.grownBy.cell hg9 hkB (fun e => hlowK m hm 1 e.symm)
      have B9 : Below B w w9 := hBw.grown hg9 hBz (fun k hk => (World.ownsRow.lt QL.out k (by rw [hob]; exact hk)).1)
      have B2 : Below B w (w9.setCell ⟨g, m * 9 + 5, none⟩ (.slice p9 (Tn.insertAt (Tn.nd d m).kids i n).length c9)) := B9.setCell (p := ⟨g, m * 9 + 5, none⟩) hBg _
      generalize w9.setCell ⟨g, m * 9 + 5, none⟩ (.slice p9 (Tn.insertAt (Tn.nd d m).kids i n).length c9) = W2 at *
      have hr2 : (rs.set m { rs[m] with k := ⟨p9, (Tn.insertAt (Tn.nd d m).kids i n).length, c9⟩ }).length = rs.length := by simp
      generalize rs.set m { rs[m] with k := ⟨p9, (Tn.insertAt (Tn.nd d m).kids i n).length, c9⟩ } = rs2 at *
      have hn2 : n < rs2.length := by omega
      obtain ⟨U1, U2⟩ := O2.upIns hn2 (m : Int) false
      rw [← PD.out] at U1 U2
      obtain ⟨_, _, hf2⟩ := O2.at (by omega)
      have Dw2 := O2.doc (by omega)
      have q4 := Dw2.row.c4 n hn2
      have q8 := Dw2.row.c8 n hn2
      rw [Nat.zero_add] at q4 q8
      have f4 := hf2 (n * 9 + 4)
      have f8 := hf2 (n * 9 + 8)
      have QU1 : Hid _ := U1
      have QU2 : Hid _ := U2
      have hgK : g ≠ w.heap.size := by omega
      have hn2' : (n : Int) < (rs.length : Int) := by omega
      clear U1 U2 hf2 Dw2 O2 PI2 hne hN hblk9 hb9 hg9 ho9 ho9' R9 L9 F9 hIns hLB hkB OB O1 D1 BA BB hI hLO hL hk0 QL HT
      obtain ⟨d3, hd3⟩ : ∃ d3, d3 = putDoc d n m (x : Int) false := ⟨_, rfl⟩
      rw [← hd3] at QU1 t1 t2 t3 PC
      have QD : Hid (d3 = putDoc d n m (x : Int) false) := hd3
      clear hd3 PD
      generalize rs2[n].up = uu at *
      generalize rs2[n].inS = ii at *
      go_region
      obtain ⟨rs3, hr3, O3, F3⟩ := QU1.out
      have F4 := (F2.trans F3).below (Below.drew (Below.refl _ _))
      have hr : rs3.length = rs.length := by omega
      have B3 : Below B w ((W2.setCell ⟨g, n * 9 + 4, none⟩ (.int .i64 (m : Int))).setCell ⟨g, n * 9 + 8, none⟩ (.bool false)).drew := ((B2.setCell (p := ⟨g, n * 9 + 4, none⟩) hBg _).setCell (p := ⟨g, n * 9 + 8, none⟩) hBg _).drew
      have O4 : Owned ((W2.setCell ⟨g, n * 9 + 4, none⟩ (.int .i64 (m : Int))).setCell ⟨g, n * 9 + 8, none⟩ (.bool false)).drew B g c rs3 d3 := O3.below (Below.drew (Below.refl _ _)) (Nat.le_refl _)
      have hkw3 : ((W2.setCell ⟨g, n * 9 + 4, none⟩ (.int .i64 (m : Int))).setCell ⟨g, n * 9 + 8, none⟩ (.bool false)).drew.cell? ⟨w.heap.size, 0, none⟩ = some (.slice (some ⟨g, 0, none⟩) rs.length c) := by
        rw [World.cell?_drew, World.cell?_setCell_other _ _ _ _ (by intro e; injection e with e; omega), World.cell?_setCell_other _ _ _ _ (by intro e; injection e with e; omega)]
        exact hkw
      have D4 : Hid (DocAt ((W2.setCell ⟨g, n * 9 + 4, none⟩ (.int .i64 (m : Int))).setCell ⟨g, n * 9 + 8, none⟩ (.bool false)).drew g 0 c rs3 d3) := O4.doc (by omega)
      generalize ((W2.setCell ⟨g, n * 9 + 4, none⟩ (.int .i64 (m : Int))).setCell ⟨g, n * 9 + 8, none⟩ (.bool false)).drew = W3 at *
      have hAll := dall_any D4.out t1 t2 n t3
      rw [hr] at hAll
      have HCF : Hid (∀ (W : World) (v : Value), Below W3.heap.size W3 W → OwnI W W3.heap.size v (Tn.all Tn.fuel d3 n) → Calls Try.prog 98 #[v, .func (.func 99) #[] #[.pointer (some ⟨w.heap.size, 0, none⟩)]] W fun e w' => e = .returned (.bool ((Tn.all Tn.fuel d3 n).any (tooDeep d3))) ∧ Below W.heap.size W w') := by
        intro W v hW ho
        refine contF_any put1_enters (ints_of_owns ho) (fun V hV => ?_)
        have hK := (keeps_below hW (Nat.le_refl _)).trans (keeps_below hV (Nat.le_refl _))
        have hc := hK _ _ hkw3
        rw [← hr] at hc
        exact put1_tests (D4.out.keeps hK) t1 hc
      have O5 : Hid _ := O4
      clear QU1 QU2 O3 O4 hkw q4 q8 f4 f8 D4 F2 F3
      cases hany : (Tn.all Tn.fuel d3 n).any (tooDeep d3) with
      | true =>
        have E : Hid (putCode d n m (x : Int) false = 3) := by show _ = _; rw [PC.out, if_neg (by omega), if_neg h12, hany]; rfl
        rw [hany] at HCF
        clear PC PI
        go_wp2_with (first
          | (go_at_call 35; refine hAll.mono ?_; rintro e w5 ⟨v5, rfl, ho5, hb5⟩)
          | (go_at_call 98; refine (HCF.out _ _ hb5 ho5).mono ?_; rintro e w6 ⟨rfl, hb6⟩))
        go_ret
        exact ⟨by rw [E.out]; rfl, (B3.trans (hb5.mono (Nat.le_trans hB B3.size))).trans (hb6.mono (Nat.le_trans (Nat.le_trans hB B3.size) hb5.size)), (fun hc => by rw [E.out] at hc; cases hc), ((F4.below hb5).below hb6).block⟩
      | false =>
        have E : Hid (putCode d n m (x : Int) false = 0) := by show _ = _; rw [PC.out, if_neg (by omega), if_neg h12, hany]; rfl
        rw [hany] at HCF
        clear PC PI
        go_wp2_with (first
          | (go_at_call 35; refine hAll.mono ?_; rintro e w5 ⟨v5, rfl, ho5, hb5⟩)
          | (go_at_call 98; refine (HCF.out _ _ hb5 ho5).mono ?_; rintro e w6 ⟨rfl, hb6⟩))
        go_ret
        exact ⟨by rw [E.out]; rfl, (B3.trans (hb5.mono (Nat.le_trans hB B3.size))).trans (hb6.mono (Nat.le_trans (Nat.le_trans hB B3.size) hb5.size)), fun _ => ⟨rs3, hr, by rw [← QD.out]; exact (O5.out.below hb5 (Nat.le_refl _)).below hb6 (Nat.le_refl _), (F4.below hb5).below hb6⟩, ((F4.below hb5).below hb6).block⟩

theorem dput_Atfalse {w : World} {B g c : Nat} {rs : List Raw} {d : Tn.Dc} (h : Owned w B g c rs d) (hB : B ≤ w.heap.size) {n m : Nat} (hn : n < rs.length) (hm : m < rs.length) (hls : ∀ s, (Tn.liD d m s).length ≤ 1000) (x : Nat)
    (hT : 0 ≤ putAt (Tn.listOf (Tn.nd d m) false) (x : Int) → (Tn.listOf (Tn.nd d m) false).length < 12 → Tame (putDoc d n m (x : Int) false) ∧ (∀ j s, (Tn.liD (putDoc d n m (x : Int) false) j s).length ≤ 1000) ∧ Tn.lvD (putDoc d n m (x : Int) false) n = true) :
    Calls Try.prog 84 #[.slice (some ⟨g, 0, none⟩) rs.length c, .int .i64 (n : Int), .int .i64 (m : Int), .int .i64 (x : Int), .bool false] w fun e w' => e = .returned (.int .i64 (putCode d n m (x : Int) false)) ∧ Below B w w' ∧ (putCode d n m (x : Int) false = 0 → ∃ rs', rs'.length = rs.length ∧ Owned w' B g c rs' (putDoc d n m (x : Int) false) ∧ Fr g rs w g rs' w') :=
  (dput_AtfalseK h hB hn hm hls x hT).mono fun _ _ h => ⟨h.1, h.2.1, h.2.2.1⟩
end Go.Proofs.Ytookcjdibpccpaa
