/-
  OWN WORK: Dmv, Drm, Dsx, Dcm, Dcx, Opu, Dfr, Da0.
-/
import Derived.Test.YtookcjdibpccpaaP8
import Derived.Test.YtookcjdibpccpaaP7
import Derived.Deep.RegionHeld3
/-
  THE WALKS of dom.put, whatever is asked, and of dom.move.
-/
namespace Go.Proofs.Ytookcjdibpccpaa
open Go.RowKit

theorem dput_anyK {w : World} {B g c : Nat} {rs : List Raw} {d : Tn.Dc} (h : Owned w B g c rs d) (hB : B ≤ w.heap.size) {n m : Nat} (hn : n < rs.length) (hm : m < rs.length) (hls : ∀ s, (Tn.liD d m s).length ≤ 1000) (before : Int) (s : Bool)
    (hT : 0 ≤ putAt (Tn.listOf (Tn.nd d m) s) before → (Tn.listOf (Tn.nd d m) s).length < 12 → Tame (putDoc d n m before s) ∧ (∀ j t, (Tn.liD (putDoc d n m before s) j t).length ≤ 1000) ∧ Tn.lvD (putDoc d n m before s) n = true) :
    Calls Try.prog 84 #[.slice (some ⟨g, 0, none⟩) rs.length c, .int .i64 (n : Int), .int .i64 (m : Int), .int .i64 before, .bool s] w fun e w' => e = .returned (.int .i64 (putCode d n m before s)) ∧ Below B w w' ∧ (putCode d n m before s = 0 → ∃ rs', rs'.length = rs.length ∧ Owned w' B g c rs' (putDoc d n m before s) ∧ Fr g rs w g rs' w') ∧ Kpt g rs w w' := by
  by_cases hb : before < 0
  · cases s with
    | false => exact dput_EndfalseK h hB hn hm hls before hb hT
    | true => exact dput_EndtrueK h hB hn hm hls before hb hT
  · obtain ⟨x, rfl⟩ := Int.eq_ofNat_of_zero_le (show 0 ≤ before by omega)
    cases s with
    | false => exact dput_AtfalseK h hB hn hm hls x hT
    | true => exact dput_AttrueK h hB hn hm hls x hT

theorem dput_any {w : World} {B g c : Nat} {rs : List Raw} {d : Tn.Dc} (h : Owned w B g c rs d) (hB : B ≤ w.heap.size) {n m : Nat} (hn : n < rs.length) (hm : m < rs.length) (hls : ∀ s, (Tn.liD d m s).length ≤ 1000) (before : Int) (s : Bool)
    (hT : 0 ≤ putAt (Tn.listOf (Tn.nd d m) s) before → (Tn.listOf (Tn.nd d m) s).length < 12 → Tame (putDoc d n m before s) ∧ (∀ j t, (Tn.liD (putDoc d n m before s) j t).length ≤ 1000) ∧ Tn.lvD (putDoc d n m before s) n = true) :
    Calls Try.prog 84 #[.slice (some ⟨g, 0, none⟩) rs.length c, .int .i64 (n : Int), .int .i64 (m : Int), .int .i64 before, .bool s] w fun e w' => e = .returned (.int .i64 (putCode d n m before s)) ∧ Below B w w' ∧ (putCode d n m before s = 0 → ∃ rs', rs'.length = rs.length ∧ Owned w' B g c rs' (putDoc d n m before s) ∧ Fr g rs w g rs' w') :=
  (dput_anyK h hB hn hm hls before s hT).mono fun _ _ h => ⟨h.1, h.2.1, h.2.2.1⟩

def chg6 (x : Tn.Chg) : Value := .agg #[.int .i64 x.kind, .int .i64 x.node, .int .i64 x.to, .int .i64 x.before, .string x.name, .string x.value]

/-- the document behind takeOut, in a move -/
def moveIn (d : Tn.Dc) (n : Nat) : Tn.Dc := takeS d (Tn.upD d n) (Tn.nd d n).inS n
def moveCode (d : Tn.Dc) (n : Nat) (x : Tn.Chg) : Int :=
  if n = 0 ∨ Tn.isN d x.to true = false then 8
  else if Tn.within d x.to (n : Int) then 9
  else if x.before = (n : Int) then 8
  else putCode (moveIn d n) n x.to.toNat x.before false

set_option maxHeartbeats 3200000 in
set_option maxRecDepth 100000 in
theorem dmove_anyK {w : World} {B g c : Nat} {rs : List Raw} {d : Tn.Dc} (h : Owned w B g c rs d) (hB : B ≤ w.heap.size) (hT : Tame d) (x : Tn.Chg) {n : Nat} (hxn : x.node = (n : Int)) (hn : n < rs.length)
    (hup : n ≠ 0 → ∃ u : Nat, (Tn.nd d n).up = (u : Int) ∧ u < rs.length) (hls : ∀ j s, (Tn.liD d j s).length ≤ 1000)
    (hls2 : n ≠ 0 → ∀ j s, (Tn.liD (moveIn d n) j s).length ≤ 1000)
    (hT2 : n ≠ 0 → Tn.isN d x.to true = true → Tn.within d x.to (n : Int) = false → 0 ≤ putAt (Tn.listOf (Tn.nd (moveIn d n) x.to.toNat) false) x.before → (Tn.listOf (Tn.nd (moveIn d n) x.to.toNat) false).length < 12 → Tame (putDoc (moveIn d n) n x.to.toNat x.before false) ∧ (∀ j t, (Tn.liD (putDoc (moveIn d n) n x.to.toNat x.before false) j t).length ≤ 1000) ∧ Tn.lvD (putDoc (moveIn d n) n x.to.toNat x.before false) n = true) :
    Calls Try.prog 67 #[.slice (some ⟨g, 0, none⟩) rs.length c, chg6 x] w fun e w' => e = .returned (.int .i64 (moveCode d n x)) ∧ Below B w w' ∧ (moveCode d n x = 0 → ∃ rs', rs'.length = rs.length ∧ Owned w' B g c rs' (putDoc (moveIn d n) n x.to.toNat x.before false) ∧ Fr g rs w g rs' w') ∧ Kpt g rs w w' := by
  have h0 : 0 < rs.length := by omega
  obtain ⟨kd, nd0, tt, bf, nm, vl⟩ := x
  simp only at hxn hT2
  subst hxn
  have W1 : Below w.heap.size w (w.alloc (.cells #[.int .i64 kd, .int .i64 (n : Int), .int .i64 tt, .int .i64 bf, .string nm, .string vl] 32)) := (Below.refl _ _).alloc (Nat.le_refl _) _
  have O1 : Hid (Owned (w.alloc (.cells #[.int .i64 kd, .int .i64 (n : Int), .int .i64 tt, .int .i64 bf, .string nm, .string vl] 32)) B g c rs d) := h.below W1 (Nat.le_refl _)
  have D1 : Hid (DocAt (w.alloc (.cells #[.int .i64 kd, .int .i64 (n : Int), .int .i64 tt, .int .i64 bf, .string nm, .string vl] 32)) g 0 c rs d) := O1.out.doc h0
  have BA : Below B w (w.alloc (.cells #[.int .i64 kd, .int .i64 (n : Int), .int .i64 tt, .int .i64 bf, .string nm, .string vl] 32)) := (Below.refl B w).alloc hB _
  have MC : Hid (moveCode d n ⟨kd, (n : Int), tt, bf, nm, vl⟩ = if n = 0 ∨ Tn.isN d tt true = false then 8 else if Tn.within d tt (n : Int) then 9 else if bf = (n : Int) then 8 else putCode (moveIn d n) n tt.toNat bf false) := rfl
  have hwi := dwithin_any D1.out hT tt (n : Int)
  unfold chg6
  simp only
  have HF : Hid (∀ {y : Nat}, w.heap.size ≤ y → ¬ DB g rs y) := fun hy => h.free h0 hy
  have HW1 : Hid (Below w.heap.size w (w.alloc (.cells #[.int .i64 kd, .int .i64 (n : Int), .int .i64 tt, .int .i64 bf, .string nm, .string vl] 32))) := W1
  clear h W1
  by_cases hn0 : n = 0
  · subst hn0
    have E : Hid (moveCode d 0 ⟨kd, ((0 : Nat) : Int), tt, bf, nm, vl⟩ = 8) := by show _ = _; rw [MC.out, if_pos (Or.inl rfl)]
    clear MC hT2 hls2 hwi
    go_enter Try.func67, Try.ntmps67
    go_wp2_with fail
    go_ret
    exact ⟨by rw [E.out]; rfl, BA, (fun hc => by rw [E.out] at hc; cases hc), fun x hx _ => HW1.out.block x hx⟩
  · have hq0 : ((n : Int) == 0) = false := by simp; omega
    cases hto : Tn.isN d tt true with
    | false =>
      have E : Hid (moveCode d n ⟨kd, (n : Int), tt, bf, nm, vl⟩ = 8) := by show _ = _; rw [MC.out, if_pos (Or.inr hto)]
      clear MC hT2 hls2 hwi
      go_enter Try.func67, Try.ntmps67
      go_wp2_with (go_at_call 26; refine (dis_any D1.out _ _).mono ?_; rintro e w' ⟨rfl, hww⟩; subst hww; rw [hto])
      go_ret
      exact ⟨by rw [E.out]; rfl, BA, (fun hc => by rw [E.out] at hc; cases hc), fun x hx _ => HW1.out.block x hx⟩
    | true =>
      cases hwt : Tn.within d tt (n : Int) with
      | true =>
        have E : Hid (moveCode d n ⟨kd, (n : Int), tt, bf, nm, vl⟩ = 9) := by show _ = _; rw [MC.out, if_neg (by simp [hn0, hto]), if_pos hwt]
        rw [hwt] at hwi
        clear MC hT2 hls2
        go_enter Try.func67, Try.ntmps67
        go_wp2_with (first
          | (go_at_call 26; refine (dis_any D1.out _ _).mono ?_; rintro e w' ⟨rfl, hww⟩; subst hww; rw [hto])
          | (go_at_call 28; refine hwi.mono ?_; rintro e w2 ⟨rfl, hb2⟩))
        go_ret
        exact ⟨by rw [E.out]; rfl, BA.trans (hb2.mono (by simp; omega)), (fun hc => by rw [E.out] at hc; cases hc), fun x hx _ => (HW1.out.trans (hb2.mono HW1.out.size)).block x hx⟩
      | false =>
        obtain ⟨u, hu, hul⟩ := hup hn0
        obtain ⟨t, ht, htl, _⟩ := isN_nat (isN_true hto)
        subst ht
        have htr : t < rs.length := by rw [O1.out.len]; exact htl
        have hz1 : w.heap.size < (w.alloc (.cells #[.int .i64 kd, .int .i64 (n : Int), .int .i64 (t : Int), .int .i64 bf, .string nm, .string vl] 32)).heap.size := by simp
        have FA : Fr g rs w g rs (w.alloc (.cells #[.int .i64 kd, .int .i64 (n : Int), .int .i64 (t : Int), .int .i64 bf, .string nm, .string vl] 32)) := (Fr.refl g rs w).below ((Below.refl _ _).alloc (Nat.le_refl _) _)
        have hfree : ¬ DB g rs w.heap.size := HF.out (Nat.le_refl _)
        have hud : Tn.upD d n = u := by unfold Tn.upD; rw [hu]; simp
        have x1 : (w.alloc (.cells #[.int .i64 kd, .int .i64 (n : Int), .int .i64 (t : Int), .int .i64 bf, .string nm, .string vl] 32)).cell? ⟨w.heap.size, 1, none⟩ = some (.int .i64 (n : Int)) := by rw [World.cell?_alloc_new]; rfl
        have x2 : (w.alloc (.cells #[.int .i64 kd, .int .i64 (n : Int), .int .i64 (t : Int), .int .i64 bf, .string nm, .string vl] 32)).cell? ⟨w.heap.size, 2, none⟩ = some (.int .i64 (t : Int)) := by rw [World.cell?_alloc_new]; rfl
        have x3 : (w.alloc (.cells #[.int .i64 kd, .int .i64 (n : Int), .int .i64 (t : Int), .int .i64 bf, .string nm, .string vl] 32)).cell? ⟨w.heap.size, 3, none⟩ = some (.int .i64 bf) := by rw [World.cell?_alloc_new]; rfl
        rw [hwt] at hwi
        by_cases hbf : bf = (n : Int)
        · have E : Hid (moveCode d n ⟨kd, (n : Int), (t : Int), bf, nm, vl⟩ = 8) := by show _ = _; rw [MC.out, if_neg (by simp [hn0, hto]), hwt, if_neg (by simp), if_pos hbf]
          have hq : (bf == (n : Int)) = true := by simpa using hbf
          clear MC hT2 hls2 hbf
          go_enter Try.func67, Try.ntmps67
          go_wp2_with (first
            | (go_at_call 26; refine (dis_any D1.out _ _).mono ?_; rintro e w' ⟨rfl, hww⟩; subst hww; rw [hto])
            | (go_at_call 28; refine hwi.mono ?_; rintro e w2 ⟨rfl, hb2⟩; have K2 := keeps_below hb2 (Nat.le_refl _); have y1 := K2 _ _ x1; have y3 := K2 _ _ x3))
          go_ret
          exact ⟨by rw [E.out]; rfl, BA.trans (hb2.mono (by omega)), (fun hc => by rw [E.out] at hc; cases hc), fun x hx _ => (HW1.out.trans (hb2.mono HW1.out.size)).block x hx⟩
        · have E : Hid (moveCode d n ⟨kd, (n : Int), (t : Int), bf, nm, vl⟩ = putCode (moveIn d n) n t bf false) := by show _ = _; rw [MC.out, if_neg (by simp [hn0, hto]), hwt, if_neg (by simp), if_neg hbf]; rfl
          have hq : (bf == (n : Int)) = false := by simpa using hbf
          have hT3 := hT2 hn0 hto hwt
          simp only [Int.toNat_natCast] at hT3
          have QT : Hid _ := hT3
          have HTk : Hid (∀ W, Owned W B g c rs d → B ≤ W.heap.size → Calls Try.prog 83 #[.slice (some ⟨g, 0, none⟩) rs.length c, .int .i64 (n : Int)] W fun e w' => e = .returned (.tuple #[]) ∧ (∃ rs', rs'.length = rs.length ∧ Owned w' B g c rs' (moveIn d n) ∧ Fr g rs W g rs' w') ∧ Below B W w') := by
            intro W hW hBW
            have := dtake_any hW hBW hn hul hu (fun s => hls u s)
            unfold moveIn
            rw [hud]
            exact this
          have HPu : Hid (∀ (W : World) (rs' : List Raw), rs'.length = rs.length → Owned W B g c rs' (moveIn d n) → B ≤ W.heap.size → Calls Try.prog 84 #[.slice (some ⟨g, 0, none⟩) rs.length c, .int .i64 (n : Int), .int .i64 (t : Int), .int .i64 bf, .bool false] W fun e w' => e = .returned (.int .i64 (putCode (moveIn d n) n t bf false)) ∧ Below B W w' ∧ (putCode (moveIn d n) n t bf false = 0 → ∃ rs'', rs''.length = rs.length ∧ Owned w' B g c rs'' (putDoc (moveIn d n) n t bf false) ∧ Fr g rs' W g rs'' w') ∧ Kpt g rs' W w') := by
            intro W rs' hr hW hBW
            have := dput_anyK hW hBW (n := n) (m := t) (by omega) (by omega) (fun s => hls2 hn0 t s) bf false QT.out
            rw [hr] at this
            exact this
          clear MC hT2 hls2 hbf hT3 QT
          have Q1 : Hid _ := hfree
          have Q2 : Hid _ := FA
          clear hfree FA
          generalize moveIn d n = dm at *
          go_enter Try.func67, Try.ntmps67
          go_wp2_with (first
            | (go_at_call 26; refine (dis_any D1.out _ _).mono ?_; rintro e w' ⟨rfl, hww⟩; subst hww; rw [hto])
            | (go_at_call 28; refine hwi.mono ?_; rintro e w2 ⟨rfl, hb2⟩; have K2 := keeps_below hb2 (Nat.le_refl _); have y1 := K2 _ _ x1; have y2 := K2 _ _ x2; have y3 := K2 _ _ x3; have B2 := BA.trans (hb2.mono (show B ≤ _ by omega)); have O2 := O1.out.below hb2 (Nat.le_refl _); have F2 := Q2.out.below hb2)
            | (go_at_call 83; refine (HTk.out _ O2 (Nat.le_trans hB B2.size)).mono ?_; rintro e w3 ⟨rfl, ⟨rs3, hr3, O3, F3⟩, hb3⟩; have z1 := F3.cell y1 Q1.out; have z2 := F3.cell y2 Q1.out; have z3 := F3.cell y3 Q1.out; have B3 := B2.trans hb3)
            | (go_at_call 84; refine (HPu.out _ rs3 hr3 O3 (Nat.le_trans hB B3.size)).mono ?_; rintro e w4 ⟨rfl, hb4, hO4, hK4⟩))
          go_ret
          refine ⟨by rw [E.out]; rfl, B3.trans hb4, fun hc => ?_, fun x hx hnx => (hK4 x (Nat.lt_of_lt_of_le hx (F2.trans F3).size) (fun e => hnx ((F2.trans F3).back x hx e))).trans ((F2.trans F3).block x hx hnx)⟩
          rw [E.out] at hc
          obtain ⟨rs4, hr4, O4, F4⟩ := hO4 hc
          exact ⟨rs4, by omega, by simpa using O4, (F2.trans F3).trans F4⟩

theorem dmove_any {w : World} {B g c : Nat} {rs : List Raw} {d : Tn.Dc} (h : Owned w B g c rs d) (hB : B ≤ w.heap.size) (hT : Tame d) (x : Tn.Chg) {n : Nat} (hxn : x.node = (n : Int)) (hn : n < rs.length)
    (hup : n ≠ 0 → ∃ u : Nat, (Tn.nd d n).up = (u : Int) ∧ u < rs.length) (hls : ∀ j s, (Tn.liD d j s).length ≤ 1000)
    (hls2 : n ≠ 0 → ∀ j s, (Tn.liD (moveIn d n) j s).length ≤ 1000)
    (hT2 : n ≠ 0 → Tn.isN d x.to true = true → Tn.within d x.to (n : Int) = false → 0 ≤ putAt (Tn.listOf (Tn.nd (moveIn d n) x.to.toNat) false) x.before → (Tn.listOf (Tn.nd (moveIn d n) x.to.toNat) false).length < 12 → Tame (putDoc (moveIn d n) n x.to.toNat x.before false) ∧ (∀ j t, (Tn.liD (putDoc (moveIn d n) n x.to.toNat x.before false) j t).length ≤ 1000) ∧ Tn.lvD (putDoc (moveIn d n) n x.to.toNat x.before false) n = true) :
    Calls Try.prog 67 #[.slice (some ⟨g, 0, none⟩) rs.length c, chg6 x] w fun e w' => e = .returned (.int .i64 (moveCode d n x)) ∧ Below B w w' ∧ (moveCode d n x = 0 → ∃ rs', rs'.length = rs.length ∧ Owned w' B g c rs' (putDoc (moveIn d n) n x.to.toNat x.before false) ∧ Fr g rs w g rs' w') :=
  (dmove_anyK h hB hT x hxn hn hup hls hls2 hT2).mono fun _ _ h => ⟨h.1, h.2.1, h.2.2.1⟩
end Go.Proofs.Ytookcjdibpccpaa

/-
  THE WALK of dom.remove, in a document of the call's own.
-/
namespace Go.Proofs.Ytookcjdibpccpaa
open Go.RowKit

/-- a node's nine cells are written -/
def set9 (w : World) (g k : Nat) (r : Raw) : World :=
  (((((((((w.setCell ⟨g, k * 9, none⟩ (.bool r.live)).setCell ⟨g, k * 9 + 1, none⟩ (.string r.tag)).setCell ⟨g, k * 9 + 2, none⟩ (.string r.text)).setCell ⟨g, k * 9 + 3, none⟩ (.slice r.a.p r.a.n r.a.c)).setCell ⟨g, k * 9 + 4, none⟩ (.int .i64 r.up)).setCell
    ⟨g, k * 9 + 5, none⟩ (.slice r.k.p r.k.n r.k.c)).setCell ⟨g, k * 9 + 6, none⟩ (.bool r.hasS)).setCell ⟨g, k * 9 + 7, none⟩ (.slice r.s.p r.s.n r.s.c)).setCell ⟨g, k * 9 + 8, none⟩ (.bool r.inS))

theorem set9_grown (w : World) (g k : Nat) (r : Raw) : w.grownBy (set9 w g k r) (some g) :=
  grow_set (grow_set (grow_set (grow_set (grow_set (grow_set (grow_set (grow_set (grow_set (grown_refl w (some g)) _ _) _ _) _ _) _ _) _ _) _ _) _ _) _ _) _ _

/-- a node without lists -/
structure Bare (r : Raw) (n : Tn.Nd) : Prop where
  live : r.live = n.live
  tag : r.tag = n.tag
  text : r.text = n.text
  up : r.up = n.up
  hasS : r.hasS = n.hasS
  inS : r.inS = n.inS
  a : r.a = ⟨none, 0, 0⟩
  k : r.k = ⟨none, 0, 0⟩
  s : r.s = ⟨none, 0, 0⟩
  attrs : n.attrs = []
  kids : n.kids = []
  shadow : n.shadow = []

theorem Bare.own {r : Raw} {n : Tn.Nd} (h : Bare r n) (w : World) (B : Nat) : OwnNd w B r n := by
  refine ⟨h.live, h.tag, h.text, h.up, h.hasS, h.inS, ?_, ?_, ?_⟩
  · rw [h.a, h.attrs]; exact OwnA.nil _ _
  · rw [h.k, h.kids]; exact OwnI.nil _ _
  · rw [h.s, h.shadow]; exact OwnI.nil _ _
theorem Bare.blk {r : Raw} {n : Tn.Nd} (h : Bare r n) (t : Fin 3) : blk r t = none := by
  unfold Go.Proofs.Ytookcjdibpccpaa.blk sblk
  match t with
  | 0 => show (r.a).p.map _ = none; rw [h.a]; rfl
  | 1 => show (r.k).p.map _ = none; rw [h.k]; rfl
  | 2 => show (r.s).p.map _ = none; rw [h.s]; rfl

theorem Owned.bare {w : World} {B g c : Nat} {rs : List Raw} {d : Tn.Dc} (h : Owned w B g c rs d) {k : Nat} (hk : k < rs.length) {r : Raw} {n : Tn.Nd} (hb : Bare r n) : Owned (set9 w g k r) B g c (rs.set k r) (d.set k n) ∧ Fr g rs w g (rs.set k r) (set9 w g k r) := by
  have hgr := set9_grown w g k r
  have hbk : ∀ j (hj : j < (rs.set k r).length) t x, Go.Proofs.Ytookcjdibpccpaa.blk (rs.set k r)[j] t = some x → ∃ hj1 : j < rs.length, Go.Proofs.Ytookcjdibpccpaa.blk rs[j] t = some x := by
    intro j hj t x e
    have hj1 : j < rs.length := by simpa using hj
    by_cases ejk : j = k
    · subst ejk
      rw [List.getElem_set_self, hb.blk t] at e
      cases e
    · rw [List.getElem_set_ne (fun x => ejk x.symm)] at e
      exact ⟨hj1, e⟩
  refine ⟨⟨?_, by simpa using h.len, ?_, ⟨?_, ?_⟩, ?_⟩, hgr.size, ?_, ?_⟩
  · have := own_setN rfl h.row r k hk
    simpa [set9] using this
  · intro j hj hj'
    have hj1 : j < rs.length := by simpa using hj
    have hj2 : j < d.length := by simpa using hj'
    by_cases e : j = k
    · subst e
      simp only [List.getElem_set_self]
      exact hb.own _ _
    · rw [List.getElem_set_ne (fun x => e x.symm), List.getElem_set_ne (fun x => e x.symm)]
      exact (h.nds j hj1 hj2).grown hgr (fun t x hx e2 => h.sep.row j hj1 t (by rw [hx]; exact e2.symm))
  · intro j hj t e
    obtain ⟨hj1, e2⟩ := hbk j hj t g e
    exact h.sep.row j hj1 t e2
  · intro j hj t j' hj' t' x e1 e2
    obtain ⟨hj1, g1⟩ := hbk j hj t x e1
    obtain ⟨hj2, g2⟩ := hbk j' hj' t' x e2
    exact h.sep.one j hj1 t j' hj2 t' x g1 g2
  · intro j hj t x e
    obtain ⟨hj1, e2⟩ := hbk j hj t x e
    exact Nat.lt_of_lt_of_le (h.low j hj1 t x e2) hgr.size
  · intro x hx hn
    exact hgr.block x hx (fun e => hn (Or.inl (by cases e; rfl)))
  · rintro x hx (e | ⟨j, hj, t, e⟩)
    · exact Or.inl e
    · obtain ⟨hj1, e2⟩ := hbk j hj t x e
      exact Or.inr ⟨j, hj1, t, e2⟩

def zeroR : Raw := ⟨false, ⟨#[]⟩, ⟨#[]⟩, ⟨none, 0, 0⟩, 0, ⟨none, 0, 0⟩, false, ⟨none, 0, 0⟩, false⟩
theorem bare_zero : Bare zeroR Tn.zero := ⟨rfl, rfl, rfl, rfl, rfl, rfl, rfl, rfl, rfl, rfl, rfl, rfl⟩

/-- the document without the nodes of l -/
def killD (l : List Nat) (d : Tn.Dc) : Tn.Dc := l.foldl (fun d k => d.set k Tn.zero) d
theorem killD_len (l : List Nat) : ∀ d : Tn.Dc, (killD l d).length = d.length := by
  induction l with
  | nil => intro d; rfl
  | cons a l ih => intro d; show (killD l (d.set a Tn.zero)).length = _; rw [ih]; simp
theorem killD_succ (l : List Nat) (d : Tn.Dc) (j : Nat) (h : j < l.length) : killD (l.take (j + 1)) d = (killD (l.take j) d).set l[j] Tn.zero := by
  unfold killD
  rw [List.take_succ_eq_append_getElem h, List.foldl_append]
  rfl

def remCode (n : Nat) : Int := if n = 0 then 8 else 0

set_option maxHeartbeats 3200000 in
set_option maxRecDepth 100000 in
theorem dremove_any {w : World} {B g c : Nat} {rs : List Raw} {d : Tn.Dc} (h : Owned w B g c rs d) (hB : B ≤ w.heap.size) {n : Nat} (hn : n < rs.length) (hup : n ≠ 0 → ∃ u : Nat, (Tn.nd d n).up = (u : Int) ∧ u < rs.length) (hls : ∀ j s, (Tn.liD d j s).length ≤ 1000)
    (hT : n ≠ 0 → Tame (moveIn d n) ∧ (∀ j s, (Tn.liD (moveIn d n) j s).length ≤ 1000) ∧ Tn.lvD (moveIn d n) n = true) (hlt : n ≠ 0 → ∀ k ∈ Tn.all Tn.fuel (moveIn d n) n, k < rs.length) :
    Calls Try.prog 68 #[.slice (some ⟨g, 0, none⟩) rs.length c, .int .i64 (n : Int)] w fun e w' => e = .returned (.int .i64 (remCode n)) ∧ Below B w w' ∧ (remCode n = 0 → ∃ rs', rs'.length = rs.length ∧ Owned w' B g c rs' (killD (Tn.all Tn.fuel (moveIn d n) n) (moveIn d n)) ∧ Fr g rs w g rs' w') := by
  have h0 : 0 < rs.length := by omega
  by_cases hn0 : n = 0
  · subst hn0
    have E : Hid (remCode 0 = 8) := rfl
    clear hT hlt
    go_enter Try.func68, Try.ntmps68
    go_wp2_with fail
    go_ret
    exact ⟨by rw [E.out]; rfl, Below.refl _ _, fun hc => by rw [E.out] at hc; cases hc⟩
  · have E : Hid (remCode n = 0) := by show _ = _; unfold remCode; rw [if_neg hn0]
    have hq0 : ((n : Int) == 0) = false := by simp; omega
    obtain ⟨u, hu, hul⟩ := hup hn0
    obtain ⟨t1, t2, t3⟩ := hT hn0
    have hud : Tn.upD d n = u := by unfold Tn.upD; rw [hu]; simp
    have hTk := dtake_any h hB hn hul hu (fun s => hls u s)
    have hmv : takeS d u (Tn.nd d n).inS n = moveIn d n := by unfold moveIn; rw [hud]
    rw [hmv] at hTk
    have LT : Hid (∀ k ∈ Tn.all Tn.fuel (moveIn d n) n, k < rs.length) := hlt hn0
    obtain ⟨hBg, hgl, _⟩ := h.at h0
    have hfew := t1.few Tn.fuel n
    have hlen := t1.len.2
    clear hT hlt hup hmv h
    generalize moveIn d n = dm at *
    go_enter Try.func68, Try.ntmps68
    go_upto_region 4 with (go_at_call 83; refine hTk.mono ?_; rintro e w3 ⟨rfl, ⟨rs3, hr3, O3, F3⟩, hb3⟩)
    have h30 : 0 < rs3.length := by omega
    have D3 : Hid (DocAt w3 g 0 c rs3 dm) := O3.doc h30
    have hAll := dall_any D3.out t1 t2 n t3
    rw [hr3] at hAll
    have hg3 : g < w3.heap.size := (O3.at h30).2.1
    have QF : Hid (∀ {y : Nat}, w3.heap.size ≤ y → ¬ DB g rs3 y) := fun hy => O3.free h30 hy
    have QO : Hid _ := O3
    clear O3
    obtain ⟨L, hL⟩ : ∃ L, L = Tn.all Tn.fuel dm n := ⟨_, rfl⟩
    rw [← hL] at hAll LT hfew
    have QL : Hid (L = Tn.all Tn.fuel dm n) := hL
    clear hL
    go_upto_region 5 with (go_at_call 35; refine hAll.mono ?_; rintro e w5 ⟨v5, rfl, ho5, hb5⟩; have ho5' := ho5; obtain ⟨p5, c5, rfl⟩ := ho5'.shape)
    obtain ⟨_, _, he, hlc, hcm, _, hat⟩ := (ints_of_owns ho5).at
    cases he
    have T : Hid (∀ j (hj : j < L.length), ∃ b1 o1, p5 = some ⟨b1, o1, none⟩ ∧ w3.heap.size ≤ b1 ∧ w5.cell? ⟨b1, o1 + j, none⟩ = some (.int .i64 (L[j] : Int))) := by
      intro j hj
      obtain ⟨b1, o1, e1, e2⟩ := hat j hj
      exact ⟨b1, o1, e1, OwnI.off ho5 _ e1, e2⟩
    have O5 : Owned w5 B g c rs3 dm := QO.out.below hb5 (Nat.le_refl _)
    have F5 : Fr g rs w g rs3 w5 := F3.below hb5
    have B3 : Below B w w5 := hb3.trans (hb5.mono (Nat.le_trans hB hb3.size))
    clear ho5 ho5' hat hAll QO D3 hTk F3 hb5 hb3
    go_loopw [16] (fun i wr => ∃ (j : Nat) (rj : List Raw), j ≤ L.length ∧ i = .int .i64 j ∧ rj.length = rs.length ∧ Owned wr B g c rj (killD (L.take j) dm) ∧ Fr g rs3 w5 g rj wr ∧ Below B w wr) (fun i _ => L.length - (intOf i).toNat)
    case atStart => exact ⟨0, rs3, Nat.zero_le _, rfl, hr3, O5, Fr.refl _ _ _, B3⟩
    case round =>
      obtain ⟨j, rj, hj, rfl, hrj, OJ, FJ, BJ⟩ := hrel
      by_cases hjl : j < L.length
      · obtain ⟨b1, o1, rfl, hb1, hc⟩ := T.out j hjl
        have hcr := FJ.cell hc (QF.out hb1)
        have hkl := LT.out _ (List.getElem_mem hjl)
        have F : Hid _ := killD_succ L dm j hjl
        have hkr : L[j] < rj.length := by omega
        obtain ⟨O6, F6⟩ := OJ.bare hkr bare_zero
        rw [← F.out] at O6
        have DJ := OJ.doc (by omega)
        obtain ⟨_, _, hfz⟩ := OJ.at (by omega)
        have q0 := DJ.row.c0 _ hkr
        have q1 := DJ.row.c1 _ hkr
        have q2 := DJ.row.c2 _ hkr
        have q3 := DJ.row.c3 _ hkr
        have q4 := DJ.row.c4 _ hkr
        have q5 := DJ.row.c5 _ hkr
        have q6 := DJ.row.c6 _ hkr
        have q7 := DJ.row.c7 _ hkr
        have q8 := DJ.row.c8 _ hkr
        rw [Nat.zero_add] at q0 q1 q2 q3 q4 q5 q6 q7 q8
        have B6 : Below B w (set9 wr g L[j] zeroR) := BJ.grown (set9_grown wr g L[j] zeroR) (Nat.le_trans hB BJ.size) (fun k hk => by cases hk; exact hBg)
        have QO6 : Hid _ := O6
        have QF6 : Hid _ := FJ.trans F6
        have QB6 : Hid _ := B6
        clear O6 F6 B6 OJ DJ FJ hc F
        generalize L[j] = x at *
        generalize rj[x] = rx at *
        obtain ⟨lv, tg, tx, ⟨ap, an, ac⟩, up, ⟨kp, kn, kc⟩, hs, ⟨sp, sn, sc⟩, ins⟩ := rx
        simp only at q0 q1 q2 q3 q4 q5 q6 q7 q8
        have hxl : (x : Int) < (rs.length : Int) := by omega
        go_wp2_with fail
        go_roundw
        case rel => exact ⟨j + 1, _, by omega, by go_num, by simpa using hrj, QO6.out, QF6.out, QB6.out⟩
        case measure => simp [intOf]; omega
      · obtain rfl : j = L.length := by omega
        rw [List.take_length] at OJ
        go_wp2_with fail
        go_ret
        exact ⟨by rw [E.out]; rfl, BJ, fun _ => ⟨rj, hrj, by rw [← QL.out]; exact OJ, F5.trans FJ⟩⟩
end Go.Proofs.Ytookcjdibpccpaa

/-
  dom.say and dom.giveShadow, in a document of the call's own.
-/
namespace Go.Proofs.Ytookcjdibpccpaa
open Go.RowKit

def sayC (n : Tn.Nd) (v : ByteArray) : Int := if Tn.has n.tag ∨ 60 < v.size then 8 else 0
def shadC (k : Nat) (n : Tn.Nd) : Int := if k = 0 ∨ n.hasS = true ∨ n.tag.toList = Tn.slotT then 8 else 0

theorem dsayO {w : World} {B g c : Nat} {rs : List Raw} {d : Tn.Dc} (h : Owned w B g c rs d) {k : Nat} (hk : k < rs.length) (v : ByteArray) (hv : v.size ≤ 4194304) :
    Calls Try.prog 69 #[.pointer (some ⟨g, k * 9, none⟩), .string v] w fun e w' => e = .returned (.int .i64 (sayC (Tn.nd d k) v)) ∧ Below B w w' ∧ (sayC (Tn.nd d k) v = 0 → ∃ rs', rs'.length = rs.length ∧ Owned w' B g c rs' (d.set k { Tn.nd d k with text := v }) ∧ Fr g rs w g rs' w') ∧ Kpt g rs w w' := by
  have hd := h.doc (by omega)
  have hkd : k < d.length := by rw [← h.len]; exact hk
  have c1 := hd.row.c1 k hk
  have c2 := hd.row.c2 k hk
  rw [Nat.zero_add] at c1 c2
  obtain ⟨hBg, _, hf⟩ := h.at (by omega)
  have hN := h.nds k hk hkd
  rw [nd_at hkd]
  refine (dsay_any c1 c2 (hf _) hv).mono ?_
  rintro e w' (⟨rfl, hw, hc⟩ | ⟨rfl, hw, hc1, hc2⟩)
  · subst hw
    have E : sayC d[k] v = 8 := by
      unfold sayC
      rw [if_pos]
      rcases hc with h1 | h1
      · left
        unfold Tn.has
        rw [← hN.tag]
        cases hq : rs[k].tag.toList with
        | nil => exact absurd hq h1
        | cons a b => rfl
      · exact Or.inr h1
    exact ⟨by rw [E], Below.refl _ _, (fun e => by rw [E] at e; cases e), fun _ _ _ => rfl⟩
  · subst hw
    have E : sayC d[k] v = 0 := by
      unfold sayC
      rw [if_neg]
      rintro (h1 | h1)
      · unfold Tn.has at h1
        rw [← hN.tag, hc1] at h1
        cases h1
      · omega
    have hoth : ∀ t', lst { rs[k] with text := v } t' = lst rs[k] t' := fun t => by match t with | 0 => rfl | 1 => rfl | 2 => rfl
    have O := h.scal hk (r' := { rs[k] with text := v }) (n' := { d[k] with text := v }) hoth ⟨hN.live, hN.tag, rfl, hN.up, hN.hasS, hN.inS, hN.attrs, hN.kids, hN.shadow⟩ 2 (by decide) (.string v) rfl
    have F : Fr g rs w g (rs.set k { rs[k] with text := v }) (w.setCell ⟨g, k * 9 + 2, none⟩ (.string v)) := Fr.scal hk hoth _ _
    exact ⟨by rw [E], (Below.refl B w).setCell (p := ⟨g, k * 9 + 2, none⟩) hBg _, fun _ => ⟨_, by simp, O, F⟩, F.block⟩

theorem dgiveO {w : World} {B g c : Nat} {rs : List Raw} {d : Tn.Dc} (h : Owned w B g c rs d) {k : Nat} (hk : k < rs.length) :
    Calls Try.prog 72 #[.slice (some ⟨g, 0, none⟩) rs.length c, .int .i64 (k : Int)] w fun e w' => e = .returned (.int .i64 (shadC k (Tn.nd d k))) ∧ Below B w w' ∧ (shadC k (Tn.nd d k) = 0 → ∃ rs', rs'.length = rs.length ∧ Owned w' B g c rs' (d.set k { Tn.nd d k with hasS := true }) ∧ Fr g rs w g rs' w') ∧ Kpt g rs w w' := by
  have hd := h.doc (by omega)
  have hkd : k < d.length := by rw [← h.len]; exact hk
  obtain ⟨hBg, _, hf⟩ := h.at (by omega)
  have hN := h.nds k hk hkd
  rw [nd_at hkd]
  refine (dgive_any hd hf k hk).mono ?_
  rw [hN.hasS, hN.tag]
  rintro e w' (⟨rfl, hw, hc⟩ | ⟨rfl, hw, hc⟩)
  · subst hw
    have E : shadC k d[k] = 8 := by unfold shadC; exact if_pos hc
    exact ⟨by rw [E], Below.refl _ _, (fun e => by rw [E] at e; cases e), fun _ _ _ => rfl⟩
  · subst hw
    have E : shadC k d[k] = 0 := by unfold shadC; exact if_neg hc
    have hoth : ∀ t', lst { rs[k] with hasS := true } t' = lst rs[k] t' := fun t => by match t with | 0 => rfl | 1 => rfl | 2 => rfl
    have O := h.scal hk (r' := { rs[k] with hasS := true }) (n' := { d[k] with hasS := true }) hoth ⟨hN.live, hN.tag, hN.text, hN.up, rfl, hN.inS, hN.attrs, hN.kids, hN.shadow⟩ 6 (by decide) (.bool true) rfl
    have F : Fr g rs w g (rs.set k { rs[k] with hasS := true }) (w.setCell ⟨g, k * 9 + 6, none⟩ (.bool true)) := Fr.scal hk hoth _ _
    exact ⟨by rw [E], (Below.refl B w).setCell (p := ⟨g, k * 9 + 6, none⟩) hBg _, fun _ => ⟨_, by simp, O, F⟩, F.block⟩
end Go.Proofs.Ytookcjdibpccpaa

/-
  THE WALK of dom.change, in a document of the call's own: a node moves.
-/
namespace Go.Proofs.Ytookcjdibpccpaa
open Go.RowKit

set_option maxHeartbeats 400000 in
set_option maxRecDepth 100000 in
theorem dchange_move {w : World} {B g c : Nat} {rs : List Raw} {d : Tn.Dc} (h : Owned w B g c rs d) (hB : B ≤ w.heap.size) (hT : Tame d) (tt bf : Int) (nm vl : ByteArray) {m : Nat} (hn : m < rs.length)
    (hup : m ≠ 0 → ∃ u : Nat, (Tn.nd d m).up = (u : Int) ∧ u < rs.length) (hls : ∀ j s, (Tn.liD d j s).length ≤ 1000)
    (hls2 : m ≠ 0 → ∀ j s, (Tn.liD (moveIn d m) j s).length ≤ 1000)
    (hT2 : m ≠ 0 → Tn.isN d tt true = true → Tn.within d tt (m : Int) = false → 0 ≤ putAt (Tn.listOf (Tn.nd (moveIn d m) tt.toNat) false) bf → (Tn.listOf (Tn.nd (moveIn d m) tt.toNat) false).length < 12 → Tame (putDoc (moveIn d m) m tt.toNat bf false) ∧ (∀ j t, (Tn.liD (putDoc (moveIn d m) m tt.toNat bf false) j t).length ≤ 1000) ∧ Tn.lvD (putDoc (moveIn d m) m tt.toNat bf false) m = true) :
    Calls Try.prog 57 #[.slice (some ⟨g, 0, none⟩) rs.length c, chg6 ⟨3, (m : Int), tt, bf, nm, vl⟩] w fun e w' => ∃ rs' : List Raw, e = .returned (.tuple #[.slice (some ⟨g, 0, none⟩) rs'.length c, .int .i64 (m : Int), .int .i64 (moveCode d m ⟨3, (m : Int), tt, bf, nm, vl⟩)]) ∧ Below B w w' ∧ (moveCode d m ⟨3, (m : Int), tt, bf, nm, vl⟩ = 0 → Owned w' B g c rs' (putDoc (moveIn d m) m tt.toNat bf false)) := by
  have W1 : Below w.heap.size w (w.alloc (.cells #[.int .i64 3, .int .i64 (m : Int), .int .i64 tt, .int .i64 bf, .string nm, .string vl] 32)).drew := ((Below.refl _ _).alloc (Nat.le_refl _) _).drew
  have O1 := h.below W1 (Nat.le_refl _)
  have S0 : (fun w'' : World => w''.cell? ⟨w.heap.size, 0, none⟩ = some (.int .i64 3) ∧ w''.cell? ⟨w.heap.size, 1, none⟩ = some (.int .i64 (m : Int)) ∧ w''.cell? ⟨w.heap.size, 2, none⟩ = some (.int .i64 tt) ∧ w''.cell? ⟨w.heap.size, 3, none⟩ = some (.int .i64 bf) ∧ w''.cell? ⟨w.heap.size, 4, none⟩ = some (.string nm) ∧ w''.cell? ⟨w.heap.size, 5, none⟩ = some (.string vl)) (w.alloc (.cells #[.int .i64 3, .int .i64 (m : Int), .int .i64 tt, .int .i64 bf, .string nm, .string vl] 32)) := by
    refine ⟨?_, ?_, ?_, ?_, ?_, ?_⟩ <;> (rw [World.cell?_alloc_new]; rfl)
  have HA : Hid (Calls Try.prog 67 #[.slice (some ⟨g, 0, none⟩) rs.length c, .agg #[.int .i64 3, .int .i64 (m : Int), .int .i64 tt, .int .i64 bf, .string nm, .string vl]] (w.alloc (.cells #[.int .i64 3, .int .i64 (m : Int), .int .i64 tt, .int .i64 bf, .string nm, .string vl] 32)).drew fun e w' => e = .returned (.int .i64 (moveCode d m ⟨3, (m : Int), tt, bf, nm, vl⟩)) ∧ Below B w w' ∧ (fun w'' : World => w''.cell? ⟨w.heap.size, 0, none⟩ = some (.int .i64 3) ∧ w''.cell? ⟨w.heap.size, 1, none⟩ = some (.int .i64 (m : Int)) ∧ w''.cell? ⟨w.heap.size, 2, none⟩ = some (.int .i64 tt) ∧ w''.cell? ⟨w.heap.size, 3, none⟩ = some (.int .i64 bf) ∧ w''.cell? ⟨w.heap.size, 4, none⟩ = some (.string nm) ∧ w''.cell? ⟨w.heap.size, 5, none⟩ = some (.string vl)) w' ∧ Hid (moveCode d m ⟨3, (m : Int), tt, bf, nm, vl⟩ = 0 → ∃ rs' : List Raw, rs'.length = rs.length ∧ Owned w' B g c rs' (putDoc (moveIn d m) m tt.toNat bf false))) := by
    refine (dmove_anyK O1 (Nat.le_trans hB W1.size) hT ⟨3, (m : Int), tt, bf, nm, vl⟩ rfl hn hup hls hls2 hT2).mono ?_
    rintro e w' ⟨e1, e2, e3, e4⟩
    have nf := h.free (by omega) (Nat.le_refl _)
    have kc : ∀ j v, (w.alloc (.cells #[.int .i64 3, .int .i64 (m : Int), .int .i64 tt, .int .i64 bf, .string nm, .string vl] 32)).cell? ⟨w.heap.size, j, none⟩ = some v → w'.cell? ⟨w.heap.size, j, none⟩ = some v := fun j v hv => e4.cell (p := ⟨w.heap.size, j, none⟩) (by rw [World.cell?_drew]; exact hv) nf
    obtain ⟨s0, s1, s2, s3, s4, s5⟩ := S0
    refine ⟨e1, ((Below.refl B w).alloc hB _).drew.trans e2, ⟨kc _ _ s0, kc _ _ s1, kc _ _ s2, kc _ _ s3, kc _ _ s4, kc _ _ s5⟩, fun hc => ?_⟩
    obtain ⟨rs', q1, q2, _⟩ := e3 hc
    exact ⟨rs', q1, q2⟩
  clear hup hls hls2 hT2 W1 O1 h hT
  generalize moveCode d m ⟨3, (m : Int), tt, bf, nm, vl⟩ = cd at *
  generalize putDoc (moveIn d m) m tt.toNat bf false = d' at *
  unfold chg6
  simp only
  go_enter Try.func57, Try.ntmps57
  go_wp2_with fail
  have SS : ∀ w'', Keeps (w.alloc (.cells #[.int .i64 3, .int .i64 (m : Int), .int .i64 tt, .int .i64 bf, .string nm, .string vl] 32)) w'' → (fun w'' : World => w''.cell? ⟨w.heap.size, 0, none⟩ = some (.int .i64 3) ∧ w''.cell? ⟨w.heap.size, 1, none⟩ = some (.int .i64 (m : Int)) ∧ w''.cell? ⟨w.heap.size, 2, none⟩ = some (.int .i64 tt) ∧ w''.cell? ⟨w.heap.size, 3, none⟩ = some (.int .i64 bf) ∧ w''.cell? ⟨w.heap.size, 4, none⟩ = some (.string nm) ∧ w''.cell? ⟨w.heap.size, 5, none⟩ = some (.string vl)) w'' := fun w'' hk => by
    obtain ⟨s0, s1, s2, s3, s4, s5⟩ := S0
    exact ⟨hk _ _ s0, hk _ _ s1, hk _ _ s2, hk _ _ s3, hk _ _ s4, hk _ _ s5⟩
  go_region_held3 (fun w'' : World => w''.cell? ⟨w.heap.size, 0, none⟩ = some (.int .i64 3) ∧ w''.cell? ⟨w.heap.size, 1, none⟩ = some (.int .i64 (m : Int)) ∧ w''.cell? ⟨w.heap.size, 2, none⟩ = some (.int .i64 tt) ∧ w''.cell? ⟨w.heap.size, 3, none⟩ = some (.int .i64 bf) ∧ w''.cell? ⟨w.heap.size, 4, none⟩ = some (.string nm) ∧ w''.cell? ⟨w.heap.size, 5, none⟩ = some (.string vl))
    ((first | assumption | (apply SS; first | exact Keeps.refl _ | exact keeps_drew (Keeps.refl _))))
    (first
      | (go_at_call 67; refine HA.out.mono ?_; rintro e w2 ⟨rfl, b2, q2, HZ⟩))
  all_goals
    go_wp2_with fail
    go_ret3
    by_cases hc : cd = 0
    · obtain ⟨rs', e1, e2⟩ := HZ.out hc
      exact ⟨rs', by rw [e1]; rfl, b2, fun _ => e2⟩
    · exact ⟨rs, rfl, b2, fun h => absurd h hc⟩
end Go.Proofs.Ytookcjdibpccpaa

/-
  THE WALKS of dom.change, in a document of the call's own: an attribute is set, one goes, a text, a shadow tree; the root does not go.
-/
namespace Go.Proofs.Ytookcjdibpccpaa
open Go.RowKit

set_option maxHeartbeats 400000 in
set_option maxRecDepth 100000 in
theorem dchange_attr5 {w : World} {B g c : Nat} {rs : List Raw} {d : Tn.Dc} (h : Owned w B g c rs d) (hB : B ≤ w.heap.size) (tt bf : Int) (nm vl : ByteArray) {m : Nat} (hm : m < rs.length) (hrl : rs.length ≤ 900) (hr : Rising (Tn.nd d m).attrs) (h8 : (Tn.nd d m).attrs.length ≤ 8) (hnm : nm.size ≤ 4194304) (hvl : vl.size ≤ 4194304) :
    Calls Try.prog 57 #[.slice (some ⟨g, 0, none⟩) rs.length c, chg6 ⟨5, (m : Int), tt, bf, nm, vl⟩] w fun e w' => ∃ dv nv cd, e = .returned (.tuple #[dv, .int .i64 nv, .int .i64 cd]) ∧ Below B w w' ∧ cd = (if Tn.isN d (m : Int) true = true then setE (Tn.nd d m).attrs nm vl else 8) ∧ (cd = 0 → nv = (m : Int) ∧ ∃ (g' c' : Nat) (rs' : List Raw), dv = .slice (some ⟨g', 0, none⟩) rs'.length c' ∧ Owned w' B g' c' rs' (d.set m { Tn.nd d m with attrs := Tn.attrsD (Tn.nd d m).attrs nm vl })) := by
  have W0 : Below w.heap.size w (w.alloc (.cells #[.int .i64 5, .int .i64 (m : Int), .int .i64 tt, .int .i64 bf, .string nm, .string vl] 32)) := (Below.refl _ _).alloc (Nat.le_refl _) _
  have W1 : Below w.heap.size w (w.alloc (.cells #[.int .i64 5, .int .i64 (m : Int), .int .i64 tt, .int .i64 bf, .string nm, .string vl] 32)).drew := W0.drew
  have O1 := h.below W1 (Nat.le_refl _)
  have HD : Hid (DocAt (w.alloc (.cells #[.int .i64 5, .int .i64 (m : Int), .int .i64 tt, .int .i64 bf, .string nm, .string vl] 32)) g 0 c rs d) := (h.below W0 (Nat.le_refl _)).doc (by omega)
  have HB1 : Hid (Below B w (w.alloc (.cells #[.int .i64 5, .int .i64 (m : Int), .int .i64 tt, .int .i64 bf, .string nm, .string vl] 32))) := (Below.refl B w).alloc hB _
  have S0 : (fun w'' : World => w''.cell? ⟨w.heap.size, 0, none⟩ = some (.int .i64 5) ∧ w''.cell? ⟨w.heap.size, 1, none⟩ = some (.int .i64 (m : Int)) ∧ w''.cell? ⟨w.heap.size, 2, none⟩ = some (.int .i64 tt) ∧ w''.cell? ⟨w.heap.size, 3, none⟩ = some (.int .i64 bf) ∧ w''.cell? ⟨w.heap.size, 4, none⟩ = some (.string nm) ∧ w''.cell? ⟨w.heap.size, 5, none⟩ = some (.string vl)) (w.alloc (.cells #[.int .i64 5, .int .i64 (m : Int), .int .i64 tt, .int .i64 bf, .string nm, .string vl] 32)) := by
    refine ⟨?_, ?_, ?_, ?_, ?_, ?_⟩ <;> (rw [World.cell?_alloc_new]; rfl)
  have HA : Hid (Calls Try.prog 70 #[.pointer (some ⟨g, m * 9, none⟩), .string nm, .string vl] (w.alloc (.cells #[.int .i64 5, .int .i64 (m : Int), .int .i64 tt, .int .i64 bf, .string nm, .string vl] 32)).drew fun e w' => e = .returned (.int .i64 (setE (Tn.nd d m).attrs nm vl)) ∧ Below B w w' ∧ (fun w'' : World => w''.cell? ⟨w.heap.size, 0, none⟩ = some (.int .i64 5) ∧ w''.cell? ⟨w.heap.size, 1, none⟩ = some (.int .i64 (m : Int)) ∧ w''.cell? ⟨w.heap.size, 2, none⟩ = some (.int .i64 tt) ∧ w''.cell? ⟨w.heap.size, 3, none⟩ = some (.int .i64 bf) ∧ w''.cell? ⟨w.heap.size, 4, none⟩ = some (.string nm) ∧ w''.cell? ⟨w.heap.size, 5, none⟩ = some (.string vl)) w' ∧ Hid (setE (Tn.nd d m).attrs nm vl = 0 → ∃ rs' : List Raw, rs'.length = rs.length ∧ Owned w' B g c rs' (d.set m { Tn.nd d m with attrs := Tn.attrsD (Tn.nd d m).attrs nm vl }))) := by
    refine (dsetattr_any O1 (Nat.le_trans hB W1.size) hm hr h8 nm vl hnm hvl).mono ?_
    rintro e w' ⟨e1, e2, e3, e4⟩
    have nf := h.free (by omega) (Nat.le_refl _)
    have kc : ∀ j v, (w.alloc (.cells #[.int .i64 5, .int .i64 (m : Int), .int .i64 tt, .int .i64 bf, .string nm, .string vl] 32)).cell? ⟨w.heap.size, j, none⟩ = some v → w'.cell? ⟨w.heap.size, j, none⟩ = some v := fun j v hv => e4.cell (p := ⟨w.heap.size, j, none⟩) (by rw [World.cell?_drew]; exact hv) nf
    obtain ⟨s0, s1, s2, s3, s4, s5⟩ := S0
    refine ⟨e1, ((Below.refl B w).alloc hB _).drew.trans e2, ⟨kc _ _ s0, kc _ _ s1, kc _ _ s2, kc _ _ s3, kc _ _ s4, kc _ _ s5⟩, fun hc => ?_⟩
    obtain ⟨rs', q1, q2, _⟩ := e3 hc
    exact ⟨rs', q1, q2⟩
  clear W0 W1 O1 h
  generalize setE (Tn.nd d m).attrs nm vl = cd0 at *
  generalize d.set m { Tn.nd d m with attrs := Tn.attrsD (Tn.nd d m).attrs nm vl } = d' at *
  cases hi : Tn.isN d (m : Int) true with
  | true =>
    unfold chg6
    simp only
    go_enter Try.func57, Try.ntmps57
    go_wp2_with fail
    refine (dis_any HD.out (m : Int) true).mono ?_
    rintro e w1 ⟨rfl, hw1⟩
    subst hw1
    rw [hi]
    go_wp2_with fail
    have SS : ∀ w'', Keeps (w.alloc (.cells #[.int .i64 5, .int .i64 (m : Int), .int .i64 tt, .int .i64 bf, .string nm, .string vl] 32)) w'' → (fun w'' : World => w''.cell? ⟨w.heap.size, 0, none⟩ = some (.int .i64 5) ∧ w''.cell? ⟨w.heap.size, 1, none⟩ = some (.int .i64 (m : Int)) ∧ w''.cell? ⟨w.heap.size, 2, none⟩ = some (.int .i64 tt) ∧ w''.cell? ⟨w.heap.size, 3, none⟩ = some (.int .i64 bf) ∧ w''.cell? ⟨w.heap.size, 4, none⟩ = some (.string nm) ∧ w''.cell? ⟨w.heap.size, 5, none⟩ = some (.string vl)) w'' := fun w'' hk => by
      obtain ⟨s0, s1, s2, s3, s4, s5⟩ := S0
      exact ⟨hk _ _ s0, hk _ _ s1, hk _ _ s2, hk _ _ s3, hk _ _ s4, hk _ _ s5⟩
    go_region_held3 (fun w'' : World => w''.cell? ⟨w.heap.size, 0, none⟩ = some (.int .i64 5) ∧ w''.cell? ⟨w.heap.size, 1, none⟩ = some (.int .i64 (m : Int)) ∧ w''.cell? ⟨w.heap.size, 2, none⟩ = some (.int .i64 tt) ∧ w''.cell? ⟨w.heap.size, 3, none⟩ = some (.int .i64 bf) ∧ w''.cell? ⟨w.heap.size, 4, none⟩ = some (.string nm) ∧ w''.cell? ⟨w.heap.size, 5, none⟩ = some (.string vl))
      ((first | assumption | (apply SS; first | exact Keeps.refl _ | exact keeps_drew (Keeps.refl _))))
      (first
        | (go_at_call 70; refine HA.out.mono ?_; rintro e w2 ⟨rfl, b2, q2, HZ⟩))
    all_goals
      go_wp2_with fail
      go_ret3
      refine ⟨_, _, _, rfl, b2, rfl, fun hc => ?_⟩
      obtain ⟨rs', e1, e2⟩ := HZ.out hc
      exact ⟨rfl, g, c, rs', by rw [e1]; rfl, e2⟩
  | false =>
    unfold chg6
    simp only
    go_enter Try.func57, Try.ntmps57
    go_wp2_with fail
    refine (dis_any HD.out (m : Int) true).mono ?_
    rintro e w1 ⟨rfl, hw1⟩
    subst hw1
    rw [hi]
    go_wp2_with fail
    go_ret3
    exact ⟨_, _, _, rfl, HB1.out, rfl, fun h => by cases h⟩

set_option maxHeartbeats 400000 in
set_option maxRecDepth 100000 in
theorem dchange_clear6 {w : World} {B g c : Nat} {rs : List Raw} {d : Tn.Dc} (h : Owned w B g c rs d) (hB : B ≤ w.heap.size) (tt bf : Int) (nm vl : ByteArray) {m : Nat} (hm : m < rs.length) (hrl : rs.length ≤ 900) (hr : Rising (Tn.nd d m).attrs) (h8 : (Tn.nd d m).attrs.length ≤ 8) :
    Calls Try.prog 57 #[.slice (some ⟨g, 0, none⟩) rs.length c, chg6 ⟨6, (m : Int), tt, bf, nm, vl⟩] w fun e w' => ∃ dv nv cd, e = .returned (.tuple #[dv, .int .i64 nv, .int .i64 cd]) ∧ Below B w w' ∧ cd = (if Tn.isN d (m : Int) true = true then clrE (Tn.nd d m).attrs nm else 8) ∧ (cd = 0 → nv = (m : Int) ∧ ∃ (g' c' : Nat) (rs' : List Raw), dv = .slice (some ⟨g', 0, none⟩) rs'.length c' ∧ Owned w' B g' c' rs' (d.set m { Tn.nd d m with attrs := Tn.attrsOff (Tn.nd d m).attrs nm })) := by
  have W0 : Below w.heap.size w (w.alloc (.cells #[.int .i64 6, .int .i64 (m : Int), .int .i64 tt, .int .i64 bf, .string nm, .string vl] 32)) := (Below.refl _ _).alloc (Nat.le_refl _) _
  have W1 : Below w.heap.size w (w.alloc (.cells #[.int .i64 6, .int .i64 (m : Int), .int .i64 tt, .int .i64 bf, .string nm, .string vl] 32)).drew := W0.drew
  have O1 := h.below W1 (Nat.le_refl _)
  have HD : Hid (DocAt (w.alloc (.cells #[.int .i64 6, .int .i64 (m : Int), .int .i64 tt, .int .i64 bf, .string nm, .string vl] 32)) g 0 c rs d) := (h.below W0 (Nat.le_refl _)).doc (by omega)
  have HB1 : Hid (Below B w (w.alloc (.cells #[.int .i64 6, .int .i64 (m : Int), .int .i64 tt, .int .i64 bf, .string nm, .string vl] 32))) := (Below.refl B w).alloc hB _
  have S0 : (fun w'' : World => w''.cell? ⟨w.heap.size, 0, none⟩ = some (.int .i64 6) ∧ w''.cell? ⟨w.heap.size, 1, none⟩ = some (.int .i64 (m : Int)) ∧ w''.cell? ⟨w.heap.size, 2, none⟩ = some (.int .i64 tt) ∧ w''.cell? ⟨w.heap.size, 3, none⟩ = some (.int .i64 bf) ∧ w''.cell? ⟨w.heap.size, 4, none⟩ = some (.string nm) ∧ w''.cell? ⟨w.heap.size, 5, none⟩ = some (.string vl)) (w.alloc (.cells #[.int .i64 6, .int .i64 (m : Int), .int .i64 tt, .int .i64 bf, .string nm, .string vl] 32)) := by
    refine ⟨?_, ?_, ?_, ?_, ?_, ?_⟩ <;> (rw [World.cell?_alloc_new]; rfl)
  have HA : Hid (Calls Try.prog 71 #[.pointer (some ⟨g, m * 9, none⟩), .string nm] (w.alloc (.cells #[.int .i64 6, .int .i64 (m : Int), .int .i64 tt, .int .i64 bf, .string nm, .string vl] 32)).drew fun e w' => e = .returned (.int .i64 (clrE (Tn.nd d m).attrs nm)) ∧ Below B w w' ∧ (fun w'' : World => w''.cell? ⟨w.heap.size, 0, none⟩ = some (.int .i64 6) ∧ w''.cell? ⟨w.heap.size, 1, none⟩ = some (.int .i64 (m : Int)) ∧ w''.cell? ⟨w.heap.size, 2, none⟩ = some (.int .i64 tt) ∧ w''.cell? ⟨w.heap.size, 3, none⟩ = some (.int .i64 bf) ∧ w''.cell? ⟨w.heap.size, 4, none⟩ = some (.string nm) ∧ w''.cell? ⟨w.heap.size, 5, none⟩ = some (.string vl)) w' ∧ Hid (clrE (Tn.nd d m).attrs nm = 0 → ∃ rs' : List Raw, rs'.length = rs.length ∧ Owned w' B g c rs' (d.set m { Tn.nd d m with attrs := Tn.attrsOff (Tn.nd d m).attrs nm }))) := by
    refine (dclear_any O1 (Nat.le_trans hB W1.size) hm hr h8 nm).mono ?_
    rintro e w' ⟨e1, e2, e3, e4⟩
    have nf := h.free (by omega) (Nat.le_refl _)
    have kc : ∀ j v, (w.alloc (.cells #[.int .i64 6, .int .i64 (m : Int), .int .i64 tt, .int .i64 bf, .string nm, .string vl] 32)).cell? ⟨w.heap.size, j, none⟩ = some v → w'.cell? ⟨w.heap.size, j, none⟩ = some v := fun j v hv => e4.cell (p := ⟨w.heap.size, j, none⟩) (by rw [World.cell?_drew]; exact hv) nf
    obtain ⟨s0, s1, s2, s3, s4, s5⟩ := S0
    refine ⟨e1, ((Below.refl B w).alloc hB _).drew.trans e2, ⟨kc _ _ s0, kc _ _ s1, kc _ _ s2, kc _ _ s3, kc _ _ s4, kc _ _ s5⟩, fun hc => ?_⟩
    obtain ⟨rs', q1, q2, _⟩ := e3 hc
    exact ⟨rs', q1, q2⟩
  clear W0 W1 O1 h
  generalize clrE (Tn.nd d m).attrs nm = cd0 at *
  generalize d.set m { Tn.nd d m with attrs := Tn.attrsOff (Tn.nd d m).attrs nm } = d' at *
  cases hi : Tn.isN d (m : Int) true with
  | true =>
    unfold chg6
    simp only
    go_enter Try.func57, Try.ntmps57
    go_wp2_with fail
    refine (dis_any HD.out (m : Int) true).mono ?_
    rintro e w1 ⟨rfl, hw1⟩
    subst hw1
    rw [hi]
    go_wp2_with fail
    have SS : ∀ w'', Keeps (w.alloc (.cells #[.int .i64 6, .int .i64 (m : Int), .int .i64 tt, .int .i64 bf, .string nm, .string vl] 32)) w'' → (fun w'' : World => w''.cell? ⟨w.heap.size, 0, none⟩ = some (.int .i64 6) ∧ w''.cell? ⟨w.heap.size, 1, none⟩ = some (.int .i64 (m : Int)) ∧ w''.cell? ⟨w.heap.size, 2, none⟩ = some (.int .i64 tt) ∧ w''.cell? ⟨w.heap.size, 3, none⟩ = some (.int .i64 bf) ∧ w''.cell? ⟨w.heap.size, 4, none⟩ = some (.string nm) ∧ w''.cell? ⟨w.heap.size, 5, none⟩ = some (.string vl)) w'' := fun w'' hk => by
      obtain ⟨s0, s1, s2, s3, s4, s5⟩ := S0
      exact ⟨hk _ _ s0, hk _ _ s1, hk _ _ s2, hk _ _ s3, hk _ _ s4, hk _ _ s5⟩
    go_region_held3 (fun w'' : World => w''.cell? ⟨w.heap.size, 0, none⟩ = some (.int .i64 6) ∧ w''.cell? ⟨w.heap.size, 1, none⟩ = some (.int .i64 (m : Int)) ∧ w''.cell? ⟨w.heap.size, 2, none⟩ = some (.int .i64 tt) ∧ w''.cell? ⟨w.heap.size, 3, none⟩ = some (.int .i64 bf) ∧ w''.cell? ⟨w.heap.size, 4, none⟩ = some (.string nm) ∧ w''.cell? ⟨w.heap.size, 5, none⟩ = some (.string vl))
      ((first | assumption | (apply SS; first | exact Keeps.refl _ | exact keeps_drew (Keeps.refl _))))
      (first
        | (go_at_call 71; refine HA.out.mono ?_; rintro e w2 ⟨rfl, b2, q2, HZ⟩))
    all_goals
      go_wp2_with fail
      go_ret3
      refine ⟨_, _, _, rfl, b2, rfl, fun hc => ?_⟩
      obtain ⟨rs', e1, e2⟩ := HZ.out hc
      exact ⟨rfl, g, c, rs', by rw [e1]; rfl, e2⟩
  | false =>
    unfold chg6
    simp only
    go_enter Try.func57, Try.ntmps57
    go_wp2_with fail
    refine (dis_any HD.out (m : Int) true).mono ?_
    rintro e w1 ⟨rfl, hw1⟩
    subst hw1
    rw [hi]
    go_wp2_with fail
    go_ret3
    exact ⟨_, _, _, rfl, HB1.out, rfl, fun h => by cases h⟩

set_option maxHeartbeats 400000 in
set_option maxRecDepth 100000 in
theorem dchange_say7 {w : World} {B g c : Nat} {rs : List Raw} {d : Tn.Dc} (h : Owned w B g c rs d) (hB : B ≤ w.heap.size) (tt bf : Int) (nm vl : ByteArray) {m : Nat} (hm : m < rs.length) (hrl : rs.length ≤ 900) (hvl : vl.size ≤ 4194304) :
    Calls Try.prog 57 #[.slice (some ⟨g, 0, none⟩) rs.length c, chg6 ⟨7, (m : Int), tt, bf, nm, vl⟩] w fun e w' => ∃ dv nv cd, e = .returned (.tuple #[dv, .int .i64 nv, .int .i64 cd]) ∧ Below B w w' ∧ cd = (sayC (Tn.nd d m) vl) ∧ (cd = 0 → nv = (m : Int) ∧ ∃ (g' c' : Nat) (rs' : List Raw), dv = .slice (some ⟨g', 0, none⟩) rs'.length c' ∧ Owned w' B g' c' rs' (d.set m { Tn.nd d m with text := vl })) := by
  have W0 : Below w.heap.size w (w.alloc (.cells #[.int .i64 7, .int .i64 (m : Int), .int .i64 tt, .int .i64 bf, .string nm, .string vl] 32)) := (Below.refl _ _).alloc (Nat.le_refl _) _
  have W1 : Below w.heap.size w (w.alloc (.cells #[.int .i64 7, .int .i64 (m : Int), .int .i64 tt, .int .i64 bf, .string nm, .string vl] 32)).drew := W0.drew
  have O1 := h.below W1 (Nat.le_refl _)
  have HD : Hid (DocAt (w.alloc (.cells #[.int .i64 7, .int .i64 (m : Int), .int .i64 tt, .int .i64 bf, .string nm, .string vl] 32)) g 0 c rs d) := (h.below W0 (Nat.le_refl _)).doc (by omega)
  have HB1 : Hid (Below B w (w.alloc (.cells #[.int .i64 7, .int .i64 (m : Int), .int .i64 tt, .int .i64 bf, .string nm, .string vl] 32))) := (Below.refl B w).alloc hB _
  have S0 : (fun w'' : World => w''.cell? ⟨w.heap.size, 0, none⟩ = some (.int .i64 7) ∧ w''.cell? ⟨w.heap.size, 1, none⟩ = some (.int .i64 (m : Int)) ∧ w''.cell? ⟨w.heap.size, 2, none⟩ = some (.int .i64 tt) ∧ w''.cell? ⟨w.heap.size, 3, none⟩ = some (.int .i64 bf) ∧ w''.cell? ⟨w.heap.size, 4, none⟩ = some (.string nm) ∧ w''.cell? ⟨w.heap.size, 5, none⟩ = some (.string vl)) (w.alloc (.cells #[.int .i64 7, .int .i64 (m : Int), .int .i64 tt, .int .i64 bf, .string nm, .string vl] 32)) := by
    refine ⟨?_, ?_, ?_, ?_, ?_, ?_⟩ <;> (rw [World.cell?_alloc_new]; rfl)
  have HA : Hid (Calls Try.prog 69 #[.pointer (some ⟨g, m * 9, none⟩), .string vl] (w.alloc (.cells #[.int .i64 7, .int .i64 (m : Int), .int .i64 tt, .int .i64 bf, .string nm, .string vl] 32)).drew fun e w' => e = .returned (.int .i64 (sayC (Tn.nd d m) vl)) ∧ Below B w w' ∧ (fun w'' : World => w''.cell? ⟨w.heap.size, 0, none⟩ = some (.int .i64 7) ∧ w''.cell? ⟨w.heap.size, 1, none⟩ = some (.int .i64 (m : Int)) ∧ w''.cell? ⟨w.heap.size, 2, none⟩ = some (.int .i64 tt) ∧ w''.cell? ⟨w.heap.size, 3, none⟩ = some (.int .i64 bf) ∧ w''.cell? ⟨w.heap.size, 4, none⟩ = some (.string nm) ∧ w''.cell? ⟨w.heap.size, 5, none⟩ = some (.string vl)) w' ∧ Hid (sayC (Tn.nd d m) vl = 0 → ∃ rs' : List Raw, rs'.length = rs.length ∧ Owned w' B g c rs' (d.set m { Tn.nd d m with text := vl }))) := by
    refine (dsayO O1 hm vl hvl).mono ?_
    rintro e w' ⟨e1, e2, e3, e4⟩
    have nf := h.free (by omega) (Nat.le_refl _)
    have kc : ∀ j v, (w.alloc (.cells #[.int .i64 7, .int .i64 (m : Int), .int .i64 tt, .int .i64 bf, .string nm, .string vl] 32)).cell? ⟨w.heap.size, j, none⟩ = some v → w'.cell? ⟨w.heap.size, j, none⟩ = some v := fun j v hv => e4.cell (p := ⟨w.heap.size, j, none⟩) (by rw [World.cell?_drew]; exact hv) nf
    obtain ⟨s0, s1, s2, s3, s4, s5⟩ := S0
    refine ⟨e1, ((Below.refl B w).alloc hB _).drew.trans e2, ⟨kc _ _ s0, kc _ _ s1, kc _ _ s2, kc _ _ s3, kc _ _ s4, kc _ _ s5⟩, fun hc => ?_⟩
    obtain ⟨rs', q1, q2, _⟩ := e3 hc
    exact ⟨rs', q1, q2⟩
  clear W0 W1 O1 h
  generalize sayC (Tn.nd d m) vl = cd0 at *
  generalize d.set m { Tn.nd d m with text := vl } = d' at *
  unfold chg6
  simp only
  go_enter Try.func57, Try.ntmps57
  go_wp2_with fail
  have SS : ∀ w'', Keeps (w.alloc (.cells #[.int .i64 7, .int .i64 (m : Int), .int .i64 tt, .int .i64 bf, .string nm, .string vl] 32)) w'' → (fun w'' : World => w''.cell? ⟨w.heap.size, 0, none⟩ = some (.int .i64 7) ∧ w''.cell? ⟨w.heap.size, 1, none⟩ = some (.int .i64 (m : Int)) ∧ w''.cell? ⟨w.heap.size, 2, none⟩ = some (.int .i64 tt) ∧ w''.cell? ⟨w.heap.size, 3, none⟩ = some (.int .i64 bf) ∧ w''.cell? ⟨w.heap.size, 4, none⟩ = some (.string nm) ∧ w''.cell? ⟨w.heap.size, 5, none⟩ = some (.string vl)) w'' := fun w'' hk => by
    obtain ⟨s0, s1, s2, s3, s4, s5⟩ := S0
    exact ⟨hk _ _ s0, hk _ _ s1, hk _ _ s2, hk _ _ s3, hk _ _ s4, hk _ _ s5⟩
  go_region_held3 (fun w'' : World => w''.cell? ⟨w.heap.size, 0, none⟩ = some (.int .i64 7) ∧ w''.cell? ⟨w.heap.size, 1, none⟩ = some (.int .i64 (m : Int)) ∧ w''.cell? ⟨w.heap.size, 2, none⟩ = some (.int .i64 tt) ∧ w''.cell? ⟨w.heap.size, 3, none⟩ = some (.int .i64 bf) ∧ w''.cell? ⟨w.heap.size, 4, none⟩ = some (.string nm) ∧ w''.cell? ⟨w.heap.size, 5, none⟩ = some (.string vl))
    ((first | assumption | (apply SS; first | exact Keeps.refl _ | exact keeps_drew (Keeps.refl _))))
    (first
      | (go_at_call 69; refine HA.out.mono ?_; rintro e w2 ⟨rfl, b2, q2, HZ⟩))
  all_goals
    go_wp2_with fail
    go_ret3
    refine ⟨_, _, _, rfl, b2, rfl, fun hc => ?_⟩
    obtain ⟨rs', e1, e2⟩ := HZ.out hc
    exact ⟨rfl, g, c, rs', by rw [e1]; rfl, e2⟩

set_option maxHeartbeats 400000 in
set_option maxRecDepth 100000 in
theorem dchange_shad8 {w : World} {B g c : Nat} {rs : List Raw} {d : Tn.Dc} (h : Owned w B g c rs d) (hB : B ≤ w.heap.size) (tt bf : Int) (nm vl : ByteArray) {m : Nat} (hm : m < rs.length) (hrl : rs.length ≤ 900)  :
    Calls Try.prog 57 #[.slice (some ⟨g, 0, none⟩) rs.length c, chg6 ⟨8, (m : Int), tt, bf, nm, vl⟩] w fun e w' => ∃ dv nv cd, e = .returned (.tuple #[dv, .int .i64 nv, .int .i64 cd]) ∧ Below B w w' ∧ cd = (if Tn.isN d (m : Int) true = true then shadC m (Tn.nd d m) else 8) ∧ (cd = 0 → nv = (m : Int) ∧ ∃ (g' c' : Nat) (rs' : List Raw), dv = .slice (some ⟨g', 0, none⟩) rs'.length c' ∧ Owned w' B g' c' rs' (d.set m { Tn.nd d m with hasS := true })) := by
  have W0 : Below w.heap.size w (w.alloc (.cells #[.int .i64 8, .int .i64 (m : Int), .int .i64 tt, .int .i64 bf, .string nm, .string vl] 32)) := (Below.refl _ _).alloc (Nat.le_refl _) _
  have W1 : Below w.heap.size w (w.alloc (.cells #[.int .i64 8, .int .i64 (m : Int), .int .i64 tt, .int .i64 bf, .string nm, .string vl] 32)).drew := W0.drew
  have O1 := h.below W1 (Nat.le_refl _)
  have HD : Hid (DocAt (w.alloc (.cells #[.int .i64 8, .int .i64 (m : Int), .int .i64 tt, .int .i64 bf, .string nm, .string vl] 32)) g 0 c rs d) := (h.below W0 (Nat.le_refl _)).doc (by omega)
  have HB1 : Hid (Below B w (w.alloc (.cells #[.int .i64 8, .int .i64 (m : Int), .int .i64 tt, .int .i64 bf, .string nm, .string vl] 32))) := (Below.refl B w).alloc hB _
  have S0 : (fun w'' : World => w''.cell? ⟨w.heap.size, 0, none⟩ = some (.int .i64 8) ∧ w''.cell? ⟨w.heap.size, 1, none⟩ = some (.int .i64 (m : Int)) ∧ w''.cell? ⟨w.heap.size, 2, none⟩ = some (.int .i64 tt) ∧ w''.cell? ⟨w.heap.size, 3, none⟩ = some (.int .i64 bf) ∧ w''.cell? ⟨w.heap.size, 4, none⟩ = some (.string nm) ∧ w''.cell? ⟨w.heap.size, 5, none⟩ = some (.string vl)) (w.alloc (.cells #[.int .i64 8, .int .i64 (m : Int), .int .i64 tt, .int .i64 bf, .string nm, .string vl] 32)) := by
    refine ⟨?_, ?_, ?_, ?_, ?_, ?_⟩ <;> (rw [World.cell?_alloc_new]; rfl)
  have HA : Hid (Calls Try.prog 72 #[.slice (some ⟨g, 0, none⟩) rs.length c, .int .i64 (m : Int)] (w.alloc (.cells #[.int .i64 8, .int .i64 (m : Int), .int .i64 tt, .int .i64 bf, .string nm, .string vl] 32)).drew fun e w' => e = .returned (.int .i64 (shadC m (Tn.nd d m))) ∧ Below B w w' ∧ (fun w'' : World => w''.cell? ⟨w.heap.size, 0, none⟩ = some (.int .i64 8) ∧ w''.cell? ⟨w.heap.size, 1, none⟩ = some (.int .i64 (m : Int)) ∧ w''.cell? ⟨w.heap.size, 2, none⟩ = some (.int .i64 tt) ∧ w''.cell? ⟨w.heap.size, 3, none⟩ = some (.int .i64 bf) ∧ w''.cell? ⟨w.heap.size, 4, none⟩ = some (.string nm) ∧ w''.cell? ⟨w.heap.size, 5, none⟩ = some (.string vl)) w' ∧ Hid (shadC m (Tn.nd d m) = 0 → ∃ rs' : List Raw, rs'.length = rs.length ∧ Owned w' B g c rs' (d.set m { Tn.nd d m with hasS := true }))) := by
    refine (dgiveO O1 hm).mono ?_
    rintro e w' ⟨e1, e2, e3, e4⟩
    have nf := h.free (by omega) (Nat.le_refl _)
    have kc : ∀ j v, (w.alloc (.cells #[.int .i64 8, .int .i64 (m : Int), .int .i64 tt, .int .i64 bf, .string nm, .string vl] 32)).cell? ⟨w.heap.size, j, none⟩ = some v → w'.cell? ⟨w.heap.size, j, none⟩ = some v := fun j v hv => e4.cell (p := ⟨w.heap.size, j, none⟩) (by rw [World.cell?_drew]; exact hv) nf
    obtain ⟨s0, s1, s2, s3, s4, s5⟩ := S0
    refine ⟨e1, ((Below.refl B w).alloc hB _).drew.trans e2, ⟨kc _ _ s0, kc _ _ s1, kc _ _ s2, kc _ _ s3, kc _ _ s4, kc _ _ s5⟩, fun hc => ?_⟩
    obtain ⟨rs', q1, q2, _⟩ := e3 hc
    exact ⟨rs', q1, q2⟩
  clear W0 W1 O1 h
  generalize shadC m (Tn.nd d m) = cd0 at *
  generalize d.set m { Tn.nd d m with hasS := true } = d' at *
  cases hi : Tn.isN d (m : Int) true with
  | true =>
    unfold chg6
    simp only
    go_enter Try.func57, Try.ntmps57
    go_wp2_with fail
    refine (dis_any HD.out (m : Int) true).mono ?_
    rintro e w1 ⟨rfl, hw1⟩
    subst hw1
    rw [hi]
    go_wp2_with fail
    have SS : ∀ w'', Keeps (w.alloc (.cells #[.int .i64 8, .int .i64 (m : Int), .int .i64 tt, .int .i64 bf, .string nm, .string vl] 32)) w'' → (fun w'' : World => w''.cell? ⟨w.heap.size, 0, none⟩ = some (.int .i64 8) ∧ w''.cell? ⟨w.heap.size, 1, none⟩ = some (.int .i64 (m : Int)) ∧ w''.cell? ⟨w.heap.size, 2, none⟩ = some (.int .i64 tt) ∧ w''.cell? ⟨w.heap.size, 3, none⟩ = some (.int .i64 bf) ∧ w''.cell? ⟨w.heap.size, 4, none⟩ = some (.string nm) ∧ w''.cell? ⟨w.heap.size, 5, none⟩ = some (.string vl)) w'' := fun w'' hk => by
      obtain ⟨s0, s1, s2, s3, s4, s5⟩ := S0
      exact ⟨hk _ _ s0, hk _ _ s1, hk _ _ s2, hk _ _ s3, hk _ _ s4, hk _ _ s5⟩
    go_region_held3 (fun w'' : World => w''.cell? ⟨w.heap.size, 0, none⟩ = some (.int .i64 8) ∧ w''.cell? ⟨w.heap.size, 1, none⟩ = some (.int .i64 (m : Int)) ∧ w''.cell? ⟨w.heap.size, 2, none⟩ = some (.int .i64 tt) ∧ w''.cell? ⟨w.heap.size, 3, none⟩ = some (.int .i64 bf) ∧ w''.cell? ⟨w.heap.size, 4, none⟩ = some (.string nm) ∧ w''.cell? ⟨w.heap.size, 5, none⟩ = some (.string vl))
      ((first | assumption | (apply SS; first | exact Keeps.refl _ | exact keeps_drew (Keeps.refl _))))
      (first
        | (go_at_call 72; refine HA.out.mono ?_; rintro e w2 ⟨rfl, b2, q2, HZ⟩))
    all_goals
      go_wp2_with fail
      go_ret3
      refine ⟨_, _, _, rfl, b2, rfl, fun hc => ?_⟩
      obtain ⟨rs', e1, e2⟩ := HZ.out hc
      exact ⟨rfl, g, c, rs', by rw [e1]; rfl, e2⟩
  | false =>
    unfold chg6
    simp only
    go_enter Try.func57, Try.ntmps57
    go_wp2_with fail
    refine (dis_any HD.out (m : Int) true).mono ?_
    rintro e w1 ⟨rfl, hw1⟩
    subst hw1
    rw [hi]
    go_wp2_with fail
    go_ret3
    exact ⟨_, _, _, rfl, HB1.out, rfl, fun h => by cases h⟩
end Go.Proofs.Ytookcjdibpccpaa

/-
  A DOCUMENT OF THE CALL's OWN, and one node more.
-/
namespace Go.Proofs.Ytookcjdibpccpaa
open Go.RowKit

theorem zeroR_one : ∀ u ∈ zeroR.cells, u.oneCell' = true := by
  intro u hu
  have := oneCells_mem [zeroR] u (by simpa using hu)
  exact this

/-- append of the zero node -/
theorem Owned.push {w : World} {B g c : Nat} {rs : List Raw} {d : Tn.Dc} (h : Owned w B g c rs d) (hB : B ≤ w.heap.size) (h0 : 0 < rs.length) (hl : rs.length ≤ 1000) (ty : TypeId) {a : Nat} (ha : w.heap[a]? = some (.cells zeroR.cells.toArray 56 (0, 0))) :
    ∃ g' c' w', (Builtin.append_ #[34, 34] ty #[.slice (some ⟨g, 0, none⟩) rs.length c, .slice (some ⟨a, 0, none⟩) 1 1]).run Try.prog w = .ok (.slice (some ⟨g', 0, none⟩) (rs ++ [zeroR]).length c') w' ∧ Owned w' B g' c' (rs ++ [zeroR]) (d ++ [Tn.zero]) ∧ Fr g rs w g' (rs ++ [zeroR]) w' ∧ Below B w w' := by
  obtain ⟨i0, hi, hz0, hz1, hz2⟩ := info_parts infoN
  obtain ⟨hBg, hgl, _⟩ := h.at h0
  have hnews : ∀ j u, zeroR.cells[j]? = some u → w.cell? ((⟨a, 0, none⟩ : Addr).add j) = some u := by
    intro j u hu
    rw [add_at, Nat.zero_add]
    simp [World.cell?, ha, hu]
  obtain ⟨v', w', hr, ho, hgr, hb⟩ := run_append_blk ty Try.underlying34 hi hz0 hz1 hz2 rfl (by decide) (by decide) h.row hB ⟨a, 0, none⟩ 1 1 zeroR.cells rfl (by decide) hnews zeroR_one (by omega)
  have hob : (Value.slice (some ⟨g, 0, none⟩) rs.length c).ownBlock = some g := rfl
  rw [hob] at hgr hb
  have ho2 : OwnN w' B v' (rs ++ [zeroR]) := by
    unfold OwnN
    simpa using ho
  obtain ⟨g', c', rfl, h1, h2, h3, h4, _, _⟩ := own_at ho2 (by simp)
  have hg' : g' = g ∨ w.heap.size ≤ g' := by
    rcases hb with e | ⟨y, hy, e⟩
    · left
      simpa [Value.ownBlock] using e
    · right
      have e' : g' = y := by simpa [Value.ownBlock] using e
      omega
  have hbk : ∀ j (hj : j < (rs ++ [zeroR]).length) t x, blk (rs ++ [zeroR])[j] t = some x → ∃ hj1 : j < rs.length, blk rs[j] t = some x := by
    intro j hj t x e
    by_cases hj1 : j < rs.length
    · rw [List.getElem_append_left hj1] at e
      exact ⟨hj1, e⟩
    · have hj2 : j = rs.length := by simp at hj; omega
      subst hj2
      simp only [List.getElem_append_right (Nat.le_refl _), Nat.sub_self, List.getElem_cons_zero] at e
      rw [bare_zero.blk t] at e
      cases e
  refine ⟨g', c', w', hr, ⟨ho2, by simp [h.len], ?_, ⟨?_, ?_⟩, ?_⟩, ⟨hgr.size, ?_, ?_⟩, ?_⟩
  · intro j hj hj'
    by_cases hj1 : j < rs.length
    · have hj2 : j < d.length := by rw [← h.len]; exact hj1
      rw [List.getElem_append_left hj1, List.getElem_append_left hj2]
      exact (h.nds j hj1 hj2).grown hgr (fun t x hx e2 => h.sep.row j hj1 t (by rw [hx]; exact e2.symm))
    · have hj2 : j = rs.length := by simp at hj; omega
      subst hj2
      have e1 : (rs ++ [zeroR])[rs.length]'hj = zeroR := by simp
      have e2 : (d ++ [Tn.zero])[rs.length]'hj' = Tn.zero := by
        have := h.len
        simp [this]
      rw [e1, e2]
      exact bare_zero.own _ _
  · intro j hj t e
    obtain ⟨hj1, e2⟩ := hbk j hj t g' e
    rcases hg' with rfl | hg'
    · exact h.sep.row j hj1 t e2
    · have := h.low j hj1 t _ e2
      omega
  · intro j hj t j' hj' t' x e1 e2
    obtain ⟨hj1, g1⟩ := hbk j hj t x e1
    obtain ⟨hj2, g2⟩ := hbk j' hj' t' x e2
    exact h.sep.one j hj1 t j' hj2 t' x g1 g2
  · intro j hj t x e
    obtain ⟨hj1, e2⟩ := hbk j hj t x e
    exact Nat.lt_of_lt_of_le (h.low j hj1 t x e2) hgr.size
  · intro x hx hn
    exact hgr.block x hx (fun e => hn (Or.inl (by cases e; rfl)))
  · rintro x hx (e | ⟨j, hj, t, e⟩)
    · rcases hg' with e2 | e2
      · exact Or.inl (by rw [e, e2])
      · omega
    · obtain ⟨hj1, e2⟩ := hbk j hj t x e
      exact Or.inr ⟨j, hj1, t, e2⟩
  · exact (Below.refl B w).grown hgr hB (fun k hk => by cases hk; exact hBg)
end Go.Proofs.Ytookcjdibpccpaa

/-
  THE WALK of dom.fresh.
-/
namespace Go.Proofs.Ytookcjdibpccpaa
open Go.RowKit

def freshV (x : Tn.Chg) : Value :=
  if x.kind = 1 ∨ x.kind = 9 then
    if Tn.nameL x.name.data.toList = true then .tuple #[.agg #[.bool true, .string x.name, .string ⟨#[]⟩, .slice none 0 0, .int .i64 0, .slice none 0 0, .bool false, .slice none 0 0, .bool false], .int .i64 0]
    else .tuple #[zeroN, .int .i64 7]
  else if 60 < x.value.size then .tuple #[zeroN, .int .i64 4]
  else .tuple #[.agg #[.bool true, .string ⟨#[]⟩, .string x.value, .slice none 0 0, .int .i64 0, .slice none 0 0, .bool false, .slice none 0 0, .bool false], .int .i64 0]

theorem below9 {B g : Nat} {w0 w : World} (h : Below B w0 w) (hg : B ≤ g) (x0 x1 x2 x3 x4 x5 x6 x7 x8 : Value) :
    Below B w0 (((((((((w.setCell ⟨g, 0, none⟩ x0).setCell ⟨g, 1, none⟩ x1).setCell ⟨g, 2, none⟩ x2).setCell ⟨g, 3, none⟩ x3).setCell ⟨g, 4, none⟩ x4).setCell ⟨g, 5, none⟩ x5).setCell ⟨g, 6, none⟩ x6).setCell ⟨g, 7, none⟩ x7).setCell ⟨g, 8, none⟩ x8) :=
  ((((((((h.setCell hg _).setCell hg _).setCell hg _).setCell hg _).setCell hg _).setCell hg _).setCell hg _).setCell hg _).setCell hg _

set_option maxHeartbeats 1600000 in
theorem dfresh_any {w : World} (x : Tn.Chg) (hn : x.name.size ≤ 4194304) (hv : x.value.size ≤ 4194304) :
    Calls Try.prog 87 #[.agg #[.int .i64 x.kind, .int .i64 x.node, .int .i64 x.to, .int .i64 x.before, .string x.name, .string x.value]] w fun e w' => e = .returned (freshV x) ∧ Below w.heap.size w w' := by
  obtain ⟨kd, nk, tt, bf, nm, vl⟩ := x
  simp only at hn hv
  have hB : Below w.heap.size w ((w.alloc (.cells #[.int .i64 kd, .int .i64 nk, .int .i64 tt, .int .i64 bf, .string nm, .string vl] 32)).alloc (.cells #[.bool false, .string ⟨#[]⟩, .string ⟨#[]⟩, .slice none 0 0, .int .i64 0, .slice none 0 0, .bool false, .slice none 0 0, .bool false] 56)) := ((Below.refl _ _).alloc (Nat.le_refl _) _).alloc (by simp) _
  by_cases hk : kd = 1 ∨ kd = 9
  · have hN := name_any nm ((w.alloc (.cells #[.int .i64 kd, .int .i64 nk, .int .i64 tt, .int .i64 bf, .string nm, .string vl] 32)).alloc (.cells #[.bool false, .string ⟨#[]⟩, .string ⟨#[]⟩, .slice none 0 0, .int .i64 0, .slice none 0 0, .bool false, .slice none 0 0, .bool false] 56)) hn
    cases hb : Tn.nameL nm.data.toList with
    | true =>
      rw [hb] at hN
      have E : Hid (freshV ⟨kd, nk, tt, bf, nm, vl⟩ = .tuple #[.agg #[.bool true, .string nm, .string ⟨#[]⟩, .slice none 0 0, .int .i64 0, .slice none 0 0, .bool false, .slice none 0 0, .bool false], .int .i64 0]) := by
        show _ = _; unfold freshV; rw [if_pos hk, if_pos hb]
      clear hb
      rcases hk with rfl | rfl
      · go_enter Try.func87, Try.ntmps87
        go_wp2_with (go_at_call 17; refine hN.mono ?_; rintro e w9 ⟨rfl, hb9⟩; have J := keeps_below hb9 (Nat.le_refl _); have x4 := J ⟨w.heap.size, 4, none⟩ _ (by rw [World.cell?_alloc2_first]; try rfl); have x5 := J ⟨w.heap.size, 5, none⟩ _ (by rw [World.cell?_alloc2_first]; try rfl); have r0 := J ⟨w.heap.size + 1, 0, none⟩ _ (by rw [World.cell?_alloc2_new]; try rfl); have f0 : w9.frozen? ⟨w.heap.size + 1, 0, none⟩ = false := (hb9.frozen (p := ⟨w.heap.size + 1, 0, none⟩) (by simp)).trans (World.frozen?_alloc2_new _ _ _ _); have r1 := J ⟨w.heap.size + 1, 1, none⟩ _ (by rw [World.cell?_alloc2_new]; try rfl); have f1 : w9.frozen? ⟨w.heap.size + 1, 1, none⟩ = false := (hb9.frozen (p := ⟨w.heap.size + 1, 1, none⟩) (by simp)).trans (World.frozen?_alloc2_new _ _ _ _); have r2 := J ⟨w.heap.size + 1, 2, none⟩ _ (by rw [World.cell?_alloc2_new]; try rfl); have f2 : w9.frozen? ⟨w.heap.size + 1, 2, none⟩ = false := (hb9.frozen (p := ⟨w.heap.size + 1, 2, none⟩) (by simp)).trans (World.frozen?_alloc2_new _ _ _ _); have r3 := J ⟨w.heap.size + 1, 3, none⟩ _ (by rw [World.cell?_alloc2_new]; try rfl); have f3 : w9.frozen? ⟨w.heap.size + 1, 3, none⟩ = false := (hb9.frozen (p := ⟨w.heap.size + 1, 3, none⟩) (by simp)).trans (World.frozen?_alloc2_new _ _ _ _); have r4 := J ⟨w.heap.size + 1, 4, none⟩ _ (by rw [World.cell?_alloc2_new]; try rfl); have f4 : w9.frozen? ⟨w.heap.size + 1, 4, none⟩ = false := (hb9.frozen (p := ⟨w.heap.size + 1, 4, none⟩) (by simp)).trans (World.frozen?_alloc2_new _ _ _ _); have r5 := J ⟨w.heap.size + 1, 5, none⟩ _ (by rw [World.cell?_alloc2_new]; try rfl); have f5 : w9.frozen? ⟨w.heap.size + 1, 5, none⟩ = false := (hb9.frozen (p := ⟨w.heap.size + 1, 5, none⟩) (by simp)).trans (World.frozen?_alloc2_new _ _ _ _); have r6 := J ⟨w.heap.size + 1, 6, none⟩ _ (by rw [World.cell?_alloc2_new]; try rfl); have f6 : w9.frozen? ⟨w.heap.size + 1, 6, none⟩ = false := (hb9.frozen (p := ⟨w.heap.size + 1, 6, none⟩) (by simp)).trans (World.frozen?_alloc2_new _ _ _ _); have r7 := J ⟨w.heap.size + 1, 7, none⟩ _ (by rw [World.cell?_alloc2_new]; try rfl); have f7 : w9.frozen? ⟨w.heap.size + 1, 7, none⟩ = false := (hb9.frozen (p := ⟨w.heap.size + 1, 7, none⟩) (by simp)).trans (World.frozen?_alloc2_new _ _ _ _); have r8 := J ⟨w.heap.size + 1, 8, none⟩ _ (by rw [World.cell?_alloc2_new]; try rfl); have f8 : w9.frozen? ⟨w.heap.size + 1, 8, none⟩ = false := (hb9.frozen (p := ⟨w.heap.size + 1, 8, none⟩) (by simp)).trans (World.frozen?_alloc2_new _ _ _ _))
        refine bodyPost_ret (v := .tuple #[.agg #[.bool true, .string nm, .string ⟨#[]⟩, .slice none 0 0, .int .i64 0, .slice none 0 0, .bool false, .slice none 0 0, .bool false], .int .i64 0]) (by simp [results, Try.results87, go_sem, r0, r1, r2, r3, r4, r5, r6, r7, r8]) rfl ⟨by rw [E.out], ?_⟩
        exact below9 (hB.trans (hb9.mono (by simp; omega))) (by omega) _ _ _ _ _ _ _ _ _
      · go_enter Try.func87, Try.ntmps87
        go_wp2_with (go_at_call 17; refine hN.mono ?_; rintro e w9 ⟨rfl, hb9⟩; have J := keeps_below hb9 (Nat.le_refl _); have x4 := J ⟨w.heap.size, 4, none⟩ _ (by rw [World.cell?_alloc2_first]; try rfl); have x5 := J ⟨w.heap.size, 5, none⟩ _ (by rw [World.cell?_alloc2_first]; try rfl); have r0 := J ⟨w.heap.size + 1, 0, none⟩ _ (by rw [World.cell?_alloc2_new]; try rfl); have f0 : w9.frozen? ⟨w.heap.size + 1, 0, none⟩ = false := (hb9.frozen (p := ⟨w.heap.size + 1, 0, none⟩) (by simp)).trans (World.frozen?_alloc2_new _ _ _ _); have r1 := J ⟨w.heap.size + 1, 1, none⟩ _ (by rw [World.cell?_alloc2_new]; try rfl); have f1 : w9.frozen? ⟨w.heap.size + 1, 1, none⟩ = false := (hb9.frozen (p := ⟨w.heap.size + 1, 1, none⟩) (by simp)).trans (World.frozen?_alloc2_new _ _ _ _); have r2 := J ⟨w.heap.size + 1, 2, none⟩ _ (by rw [World.cell?_alloc2_new]; try rfl); have f2 : w9.frozen? ⟨w.heap.size + 1, 2, none⟩ = false := (hb9.frozen (p := ⟨w.heap.size + 1, 2, none⟩) (by simp)).trans (World.frozen?_alloc2_new _ _ _ _); have r3 := J ⟨w.heap.size + 1, 3, none⟩ _ (by rw [World.cell?_alloc2_new]; try rfl); have f3 : w9.frozen? ⟨w.heap.size + 1, 3, none⟩ = false := (hb9.frozen (p := ⟨w.heap.size + 1, 3, none⟩) (by simp)).trans (World.frozen?_alloc2_new _ _ _ _); have r4 := J ⟨w.heap.size + 1, 4, none⟩ _ (by rw [World.cell?_alloc2_new]; try rfl); have f4 : w9.frozen? ⟨w.heap.size + 1, 4, none⟩ = false := (hb9.frozen (p := ⟨w.heap.size + 1, 4, none⟩) (by simp)).trans (World.frozen?_alloc2_new _ _ _ _); have r5 := J ⟨w.heap.size + 1, 5, none⟩ _ (by rw [World.cell?_alloc2_new]; try rfl); have f5 : w9.frozen? ⟨w.heap.size + 1, 5, none⟩ = false := (hb9.frozen (p := ⟨w.heap.size + 1, 5, none⟩) (by simp)).trans (World.frozen?_alloc2_new _ _ _ _); have r6 := J ⟨w.heap.size + 1, 6, none⟩ _ (by rw [World.cell?_alloc2_new]; try rfl); have f6 : w9.frozen? ⟨w.heap.size + 1, 6, none⟩ = false := (hb9.frozen (p := ⟨w.heap.size + 1, 6, none⟩) (by simp)).trans (World.frozen?_alloc2_new _ _ _ _); have r7 := J ⟨w.heap.size + 1, 7, none⟩ _ (by rw [World.cell?_alloc2_new]; try rfl); have f7 : w9.frozen? ⟨w.heap.size + 1, 7, none⟩ = false := (hb9.frozen (p := ⟨w.heap.size + 1, 7, none⟩) (by simp)).trans (World.frozen?_alloc2_new _ _ _ _); have r8 := J ⟨w.heap.size + 1, 8, none⟩ _ (by rw [World.cell?_alloc2_new]; try rfl); have f8 : w9.frozen? ⟨w.heap.size + 1, 8, none⟩ = false := (hb9.frozen (p := ⟨w.heap.size + 1, 8, none⟩) (by simp)).trans (World.frozen?_alloc2_new _ _ _ _))
        refine bodyPost_ret (v := .tuple #[.agg #[.bool true, .string nm, .string ⟨#[]⟩, .slice none 0 0, .int .i64 0, .slice none 0 0, .bool false, .slice none 0 0, .bool false], .int .i64 0]) (by simp [results, Try.results87, go_sem, r0, r1, r2, r3, r4, r5, r6, r7, r8]) rfl ⟨by rw [E.out], ?_⟩
        exact below9 (hB.trans (hb9.mono (by simp; omega))) (by omega) _ _ _ _ _ _ _ _ _
    | false =>
      rw [hb] at hN
      have E : Hid (freshV ⟨kd, nk, tt, bf, nm, vl⟩ = .tuple #[.agg #[.bool false, .string ⟨#[]⟩, .string ⟨#[]⟩, .slice none 0 0, .int .i64 0, .slice none 0 0, .bool false, .slice none 0 0, .bool false], .int .i64 7]) := by
        show _ = _; unfold freshV; rw [if_pos hk, if_neg (by rw [hb]; simp)]; rfl
      clear hb
      rcases hk with rfl | rfl
      · go_enter Try.func87, Try.ntmps87
        go_wp2_with (go_at_call 17; refine hN.mono ?_; rintro e w9 ⟨rfl, hb9⟩; have J := keeps_below hb9 (Nat.le_refl _); have x4 := J ⟨w.heap.size, 4, none⟩ _ (by rw [World.cell?_alloc2_first]; try rfl); have x5 := J ⟨w.heap.size, 5, none⟩ _ (by rw [World.cell?_alloc2_first]; try rfl); have r0 := J ⟨w.heap.size + 1, 0, none⟩ _ (by rw [World.cell?_alloc2_new]; try rfl); have f0 : w9.frozen? ⟨w.heap.size + 1, 0, none⟩ = false := (hb9.frozen (p := ⟨w.heap.size + 1, 0, none⟩) (by simp)).trans (World.frozen?_alloc2_new _ _ _ _); have r1 := J ⟨w.heap.size + 1, 1, none⟩ _ (by rw [World.cell?_alloc2_new]; try rfl); have f1 : w9.frozen? ⟨w.heap.size + 1, 1, none⟩ = false := (hb9.frozen (p := ⟨w.heap.size + 1, 1, none⟩) (by simp)).trans (World.frozen?_alloc2_new _ _ _ _); have r2 := J ⟨w.heap.size + 1, 2, none⟩ _ (by rw [World.cell?_alloc2_new]; try rfl); have f2 : w9.frozen? ⟨w.heap.size + 1, 2, none⟩ = false := (hb9.frozen (p := ⟨w.heap.size + 1, 2, none⟩) (by simp)).trans (World.frozen?_alloc2_new _ _ _ _); have r3 := J ⟨w.heap.size + 1, 3, none⟩ _ (by rw [World.cell?_alloc2_new]; try rfl); have f3 : w9.frozen? ⟨w.heap.size + 1, 3, none⟩ = false := (hb9.frozen (p := ⟨w.heap.size + 1, 3, none⟩) (by simp)).trans (World.frozen?_alloc2_new _ _ _ _); have r4 := J ⟨w.heap.size + 1, 4, none⟩ _ (by rw [World.cell?_alloc2_new]; try rfl); have f4 : w9.frozen? ⟨w.heap.size + 1, 4, none⟩ = false := (hb9.frozen (p := ⟨w.heap.size + 1, 4, none⟩) (by simp)).trans (World.frozen?_alloc2_new _ _ _ _); have r5 := J ⟨w.heap.size + 1, 5, none⟩ _ (by rw [World.cell?_alloc2_new]; try rfl); have f5 : w9.frozen? ⟨w.heap.size + 1, 5, none⟩ = false := (hb9.frozen (p := ⟨w.heap.size + 1, 5, none⟩) (by simp)).trans (World.frozen?_alloc2_new _ _ _ _); have r6 := J ⟨w.heap.size + 1, 6, none⟩ _ (by rw [World.cell?_alloc2_new]; try rfl); have f6 : w9.frozen? ⟨w.heap.size + 1, 6, none⟩ = false := (hb9.frozen (p := ⟨w.heap.size + 1, 6, none⟩) (by simp)).trans (World.frozen?_alloc2_new _ _ _ _); have r7 := J ⟨w.heap.size + 1, 7, none⟩ _ (by rw [World.cell?_alloc2_new]; try rfl); have f7 : w9.frozen? ⟨w.heap.size + 1, 7, none⟩ = false := (hb9.frozen (p := ⟨w.heap.size + 1, 7, none⟩) (by simp)).trans (World.frozen?_alloc2_new _ _ _ _); have r8 := J ⟨w.heap.size + 1, 8, none⟩ _ (by rw [World.cell?_alloc2_new]; try rfl); have f8 : w9.frozen? ⟨w.heap.size + 1, 8, none⟩ = false := (hb9.frozen (p := ⟨w.heap.size + 1, 8, none⟩) (by simp)).trans (World.frozen?_alloc2_new _ _ _ _))
        refine bodyPost_ret (v := .tuple #[.agg #[.bool false, .string ⟨#[]⟩, .string ⟨#[]⟩, .slice none 0 0, .int .i64 0, .slice none 0 0, .bool false, .slice none 0 0, .bool false], .int .i64 7]) (by simp [results, Try.results87, go_sem, r0, r1, r2, r3, r4, r5, r6, r7, r8]) rfl ⟨by rw [E.out], ?_⟩
        exact below9 (hB.trans (hb9.mono (by simp; omega))) (by omega) _ _ _ _ _ _ _ _ _
      · go_enter Try.func87, Try.ntmps87
        go_wp2_with (go_at_call 17; refine hN.mono ?_; rintro e w9 ⟨rfl, hb9⟩; have J := keeps_below hb9 (Nat.le_refl _); have x4 := J ⟨w.heap.size, 4, none⟩ _ (by rw [World.cell?_alloc2_first]; try rfl); have x5 := J ⟨w.heap.size, 5, none⟩ _ (by rw [World.cell?_alloc2_first]; try rfl); have r0 := J ⟨w.heap.size + 1, 0, none⟩ _ (by rw [World.cell?_alloc2_new]; try rfl); have f0 : w9.frozen? ⟨w.heap.size + 1, 0, none⟩ = false := (hb9.frozen (p := ⟨w.heap.size + 1, 0, none⟩) (by simp)).trans (World.frozen?_alloc2_new _ _ _ _); have r1 := J ⟨w.heap.size + 1, 1, none⟩ _ (by rw [World.cell?_alloc2_new]; try rfl); have f1 : w9.frozen? ⟨w.heap.size + 1, 1, none⟩ = false := (hb9.frozen (p := ⟨w.heap.size + 1, 1, none⟩) (by simp)).trans (World.frozen?_alloc2_new _ _ _ _); have r2 := J ⟨w.heap.size + 1, 2, none⟩ _ (by rw [World.cell?_alloc2_new]; try rfl); have f2 : w9.frozen? ⟨w.heap.size + 1, 2, none⟩ = false := (hb9.frozen (p := ⟨w.heap.size + 1, 2, none⟩) (by simp)).trans (World.frozen?_alloc2_new _ _ _ _); have r3 := J ⟨w.heap.size + 1, 3, none⟩ _ (by rw [World.cell?_alloc2_new]; try rfl); have f3 : w9.frozen? ⟨w.heap.size + 1, 3, none⟩ = false := (hb9.frozen (p := ⟨w.heap.size + 1, 3, none⟩) (by simp)).trans (World.frozen?_alloc2_new _ _ _ _); have r4 := J ⟨w.heap.size + 1, 4, none⟩ _ (by rw [World.cell?_alloc2_new]; try rfl); have f4 : w9.frozen? ⟨w.heap.size + 1, 4, none⟩ = false := (hb9.frozen (p := ⟨w.heap.size + 1, 4, none⟩) (by simp)).trans (World.frozen?_alloc2_new _ _ _ _); have r5 := J ⟨w.heap.size + 1, 5, none⟩ _ (by rw [World.cell?_alloc2_new]; try rfl); have f5 : w9.frozen? ⟨w.heap.size + 1, 5, none⟩ = false := (hb9.frozen (p := ⟨w.heap.size + 1, 5, none⟩) (by simp)).trans (World.frozen?_alloc2_new _ _ _ _); have r6 := J ⟨w.heap.size + 1, 6, none⟩ _ (by rw [World.cell?_alloc2_new]; try rfl); have f6 : w9.frozen? ⟨w.heap.size + 1, 6, none⟩ = false := (hb9.frozen (p := ⟨w.heap.size + 1, 6, none⟩) (by simp)).trans (World.frozen?_alloc2_new _ _ _ _); have r7 := J ⟨w.heap.size + 1, 7, none⟩ _ (by rw [World.cell?_alloc2_new]; try rfl); have f7 : w9.frozen? ⟨w.heap.size + 1, 7, none⟩ = false := (hb9.frozen (p := ⟨w.heap.size + 1, 7, none⟩) (by simp)).trans (World.frozen?_alloc2_new _ _ _ _); have r8 := J ⟨w.heap.size + 1, 8, none⟩ _ (by rw [World.cell?_alloc2_new]; try rfl); have f8 : w9.frozen? ⟨w.heap.size + 1, 8, none⟩ = false := (hb9.frozen (p := ⟨w.heap.size + 1, 8, none⟩) (by simp)).trans (World.frozen?_alloc2_new _ _ _ _))
        refine bodyPost_ret (v := .tuple #[.agg #[.bool false, .string ⟨#[]⟩, .string ⟨#[]⟩, .slice none 0 0, .int .i64 0, .slice none 0 0, .bool false, .slice none 0 0, .bool false], .int .i64 7]) (by simp [results, Try.results87, go_sem, r0, r1, r2, r3, r4, r5, r6, r7, r8]) rfl ⟨by rw [E.out], ?_⟩
        exact below9 (hB.trans (hb9.mono (by simp; omega))) (by omega) _ _ _ _ _ _ _ _ _
  · have k1 : (kd == 1) = false := by simp; omega
    have k9 : (kd == 9) = false := by simp; omega
    by_cases hs : 60 < vl.size
    · have E : Hid (freshV ⟨kd, nk, tt, bf, nm, vl⟩ = .tuple #[.agg #[.bool false, .string ⟨#[]⟩, .string ⟨#[]⟩, .slice none 0 0, .int .i64 0, .slice none 0 0, .bool false, .slice none 0 0, .bool false], .int .i64 4]) := by
        show _ = _; unfold freshV; rw [if_neg hk, if_pos hs]; rfl
      go_enter Try.func87, Try.ntmps87
      go_wp2_with fail
      refine bodyPost_ret (v := .tuple #[.agg #[.bool false, .string ⟨#[]⟩, .string ⟨#[]⟩, .slice none 0 0, .int .i64 0, .slice none 0 0, .bool false, .slice none 0 0, .bool false], .int .i64 4]) (by simp [results, Try.results87, go_sem]) rfl ⟨by rw [E.out], ?_⟩
      exact ((Below.refl _ _).alloc (Nat.le_refl _) _).alloc (by simp) _
    · have E : Hid (freshV ⟨kd, nk, tt, bf, nm, vl⟩ = .tuple #[.agg #[.bool true, .string ⟨#[]⟩, .string vl, .slice none 0 0, .int .i64 0, .slice none 0 0, .bool false, .slice none 0 0, .bool false], .int .i64 0]) := by
        show _ = _; unfold freshV; rw [if_neg hk, if_neg hs]
      go_enter Try.func87, Try.ntmps87
      go_wp2_with fail
      refine bodyPost_ret (v := .tuple #[.agg #[.bool true, .string ⟨#[]⟩, .string vl, .slice none 0 0, .int .i64 0, .slice none 0 0, .bool false, .slice none 0 0, .bool false], .int .i64 0]) (by simp [results, Try.results87, go_sem]) rfl ⟨by rw [E.out], ?_⟩
      exact ((Below.refl _ _).alloc (Nat.le_refl _) _).alloc (by simp) _
end Go.Proofs.Ytookcjdibpccpaa

/-
  WHAT dom.add makes, in plain mathematics.
-/
namespace Go.Proofs.Ytookcjdibpccpaa
open Go.RowKit

/-- why no node is made -/
def freshE (x : Tn.Chg) : Int := if x.kind = 1 ∨ x.kind = 9 then (if Tn.nameL x.name.data.toList = true then 0 else 7) else if 60 < x.value.size then 4 else 0
/-- the node that is made -/
def newR (x : Tn.Chg) : Raw := if x.kind = 1 ∨ x.kind = 9 then ⟨true, x.name, ⟨#[]⟩, ⟨none, 0, 0⟩, 0, ⟨none, 0, 0⟩, false, ⟨none, 0, 0⟩, false⟩ else ⟨true, ⟨#[]⟩, x.value, ⟨none, 0, 0⟩, 0, ⟨none, 0, 0⟩, false, ⟨none, 0, 0⟩, false⟩
def newNd (x : Tn.Chg) : Tn.Nd := if x.kind = 1 ∨ x.kind = 9 then { Tn.zero with live := true, tag := x.name } else { Tn.zero with live := true, text := x.value }
theorem bare_new (x : Tn.Chg) : Bare (newR x) (newNd x) := by
  unfold newR newNd
  split <;> exact ⟨rfl, rfl, rfl, rfl, rfl, rfl, rfl, rfl, rfl, rfl, rfl, rfl⟩
theorem freshV_cases (x : Tn.Chg) : (freshE x ≠ 0 ∧ freshV x = .tuple #[zeroN, .int .i64 (freshE x)]) ∨ (freshE x = 0 ∧ freshV x = .tuple #[(newR x).agg, .int .i64 0]) := by
  unfold freshE freshV newR
  by_cases hk : x.kind = 1 ∨ x.kind = 9
  · by_cases hn : Tn.nameL x.name.data.toList = true
    · simp [hk, hn, Raw.agg]
    · simp [hk, hn]
  · by_cases hv : 60 < x.value.size
    · simp [hk, hv]
    · simp [hk, hv, Raw.agg]

/-- the document with the node, not yet in anything -/
def addIn (d : Tn.Dc) (x : Tn.Chg) : Tn.Dc := (if Tn.free d = d.length then d ++ [Tn.zero] else d).set (Tn.free d) (newNd x)
def addCode (d : Tn.Dc) (x : Tn.Chg) (m : Nat) (before : Int) (s : Bool) : Int :=
  if freshE x ≠ 0 then freshE x
  else if s = true ∧ (Tn.nd d m).hasS = false then 8
  else if 60 ≤ Tn.free d then 5
  else putCode (addIn d x) (Tn.free d) m before s

theorem BoxAt.fr {w w' : World} {g g' Y : Nat} {rs rs' : List Raw} {r : Raw} (h : BoxAt w Y r) (k : Fr g rs w g' rs' w') (hn : ¬ DB g rs Y) : BoxAt w' Y r :=
  ⟨k.cell h.c0 hn, k.cell h.c1 hn, k.cell h.c2 hn, k.cell h.c3 hn, k.cell h.c4 hn, k.cell h.c5 hn, k.cell h.c6 hn, k.cell h.c7 hn, k.cell h.c8 hn⟩
theorem alloc_at (w : World) (b : Obj) : (w.alloc b).heap[w.heap.size]? = some b := by show (w.heap.push b)[w.heap.size]? = some b; simp
end Go.Proofs.Ytookcjdibpccpaa
