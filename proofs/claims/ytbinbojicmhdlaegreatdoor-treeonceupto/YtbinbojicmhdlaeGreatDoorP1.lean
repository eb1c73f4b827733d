/-
  OWN WORK: Rpu, Rmk, Rat, Nam, Rch, Rt2.
-/
import Derived.Test.YtbinbojicmhdlaeGreatDoorP0
import Derived.Deep.DeepCutAuto
import Derived.Laws.IdiomStrings
import Derived.Deep.QuietTactic
import Derived.BigQuiet
/-
  THE WALK of the reference's Put.
-/
namespace Go.Proofs.YtbinbojicmhdlaeGreatDoor
open Go.RowKit

theorem lastAt_succ (l : List Nat) (b : Int) (k : Nat) (h : k < l.length) : Tn.lastAt l b (k + 1) = if (l[k] : Int) = b then (k : Int) else Tn.lastAt l b k := by
  rw [Tn.lastAt, List.getElem?_eq_getElem h]
  rfl
theorem lastAt_le (l : List Nat) (b : Int) : ∀ k, -1 ≤ Tn.lastAt l b k ∧ Tn.lastAt l b k < k
  | 0 => by simp [Tn.lastAt]
  | k + 1 => by
    have := lastAt_le l b k
    rw [Tn.lastAt]
    split <;> omega

theorem put_mid {w W : World} {r : Raw} {n : Tn.Nd} (hN : NdAt w r n) (hb : BoxAt W w.heap.size r) (hk : Keeps w W) (hB : Below w.heap.size w W)
    {p : Option Addr} {c : Nat} {l : List Nat} (h1 : IntsAt W (.slice p l.length c) l) (sh : Bool) :
    Mid w (W.setCell ⟨w.heap.size, if sh then 7 else 5, none⟩ (.slice p l.length c)) (if sh then { r with s := ⟨p, l.length, c⟩ } else { r with k := ⟨p, l.length, c⟩ }) (Tn.setList n sh l) := by
  have hk2 : Keeps w (W.setCell ⟨w.heap.size, if sh then 7 else 5, none⟩ (.slice p l.length c)) := keeps_set hk _ _ (Nat.le_refl _)
  have o : ∀ j v, j ≠ (if sh then 7 else 5) → W.cell? ⟨w.heap.size, j, none⟩ = some v → (W.setCell ⟨w.heap.size, if sh then 7 else 5, none⟩ (.slice p l.length c)).cell? ⟨w.heap.size, j, none⟩ = some v := by
    intro j v h5 h
    rw [World.cell?_setCell_other _ _ _ _ (by intro e; cases e; exact h5 rfl)]
    exact h
  cases sh
  · refine ⟨⟨o 0 _ (by decide) hb.c0, o 1 _ (by decide) hb.c1, o 2 _ (by decide) hb.c2, o 3 _ (by decide) hb.c3, o 4 _ (by decide) hb.c4, World.cell?_setCell_same _ _ _ hb.c5, o 6 _ (by decide) hb.c6, o 7 _ (by decide) hb.c7, o 8 _ (by decide) hb.c8⟩,
      ⟨hN.live, hN.tag, hN.text, hN.up, hN.hasS, hN.inS, hN.attrs.keeps hk2, ints_set h1 hb.c5 (fun _ h => by cases h), hN.shadow.keeps hk2⟩, hk2, hB.setCell (Nat.le_refl _) _⟩
  · refine ⟨⟨o 0 _ (by decide) hb.c0, o 1 _ (by decide) hb.c1, o 2 _ (by decide) hb.c2, o 3 _ (by decide) hb.c3, o 4 _ (by decide) hb.c4, o 5 _ (by decide) hb.c5, o 6 _ (by decide) hb.c6, World.cell?_setCell_same _ _ _ hb.c7, o 8 _ (by decide) hb.c8⟩,
      ⟨hN.live, hN.tag, hN.text, hN.up, hN.hasS, hN.inS, hN.attrs.keeps hk2, hN.kids.keeps hk2, ints_set h1 hb.c7 (fun _ h => by cases h)⟩, hk2, hB.setCell (Nat.le_refl _) _⟩

theorem box_of_block {w : World} {g t : Nat} {r : Raw} (h : w.heap[g]? = some (Obj.cells #[.bool r.live, .string r.tag, .string r.text, .slice r.a.p r.a.n r.a.c, .int .i64 r.up, .slice r.k.p r.k.n r.k.c, .bool r.hasS, .slice r.s.p r.s.n r.s.c, .bool r.inS] t)) :
    BoxAt w g r ∧ ∀ j, w.frozen? ⟨g, j, none⟩ = false := by
  refine ⟨?_, fun j => by simp [World.frozen?, h]⟩
  constructor <;> rw [cell_of_block h] <;> rfl

theorem path_len : ∀ (f : Nat) (d : Tn.Dc) (n : Int), (Tn.path f d n).length ≤ f
  | 0, _, _ => Nat.le_refl _
  | f + 1, d, n => by
    rw [Tn.path]
    split
    · have := path_len f d (Tn.nd d n.toNat).up
      simp
      omega
    · simp

def PutPost (w w' : World) (e : Ending) (d : Tn.Dc) (k m : Nat) (bf : Int) (sh : Bool) (n : Nat) : Prop :=
  Below w.heap.size w w' ∧ ((Hid (Tn.putE d k m bf sh ≠ 0) ∧ e = .returned (.tuple #[.slice none 0 0, .int .i64 (Tn.putE d k m bf sh)])) ∨
    (Hid (Tn.putE d k m bf sh = 0) ∧ ∃ g c' rs', e = .returned (.tuple #[.slice (some ⟨g, 0, none⟩) rs'.length c', .int .i64 0]) ∧ DocAt w' g 0 c' rs' (Tn.put1 d k m bf sh) ∧ Hid (rs'.length = n)))

set_option maxHeartbeats 1600000 in
set_option maxRecDepth 100000 in
theorem rput_doc {w : World} {b o c : Nat} {rs : List Raw} {d : Tn.Dc} (hd : DocAt w b o c rs d) (hs : rs.length ≤ 1000) (k m : Nat) (hm : m < d.length) (bf : Int) (sh : Bool)
    (hkl : (Tn.nd d m).kids.length ≤ 1000) (hsl : (Tn.nd d m).shadow.length ≤ 1000)
    (hE : 0 ≤ Tn.place (Tn.listOf (Tn.nd d m) sh) bf → (Tn.listOf (Tn.nd d m) sh).length < 12 → Tn.Ends Tn.fuel (Tn.put1 d k m bf sh) k) :
    Calls Tryz.prog 92 #[.slice (some ⟨b, o, none⟩) rs.length c, .int .i64 (k : Int), .int .i64 (m : Int), .int .i64 bf, .bool sh] w fun e w' => PutPost w w' e d k m bf sh rs.length := by
  have HE : Hid (0 ≤ Tn.place (Tn.listOf (Tn.nd d m) sh) bf → (Tn.listOf (Tn.nd d m) sh).length < 12 → Tn.Ends Tn.fuel (Tn.put1 d k m bf sh) k) := hE
  clear hE
  have H : Hid (DocAt w b o c rs d) := hd
  have L : Hid (rs.length = d.length) := hd.len
  have hm' : m < rs.length := by rw [L.out]; exact hm
  have r0 := hd.row.c0 m hm'
  have r1 := hd.row.c1 m hm'
  have r2 := hd.row.c2 m hm'
  have r3 := hd.row.c3 m hm'
  have r4 := hd.row.c4 m hm'
  have r5 := hd.row.c5 m hm'
  have r6 := hd.row.c6 m hm'
  have r7 := hd.row.c7 m hm'
  have r8 := hd.row.c8 m hm'
  have hN := hd.nds m hm' hm
  rw [← nd_at hm] at hN
  clear hd
  generalize rs[m] = r at *
  have NN : Hid (NdAt w r (Tn.nd d m)) := hN
  clear hN
  obtain ⟨sl, hsl2⟩ : ∃ sl : Sl, Hid (sl = if sh then r.s else r.k) := ⟨_, rfl⟩
  have I0 : IntsAt w (.slice sl.p sl.n sl.c) (Tn.listOf (Tn.nd d m) sh) := by
    rw [hsl2.out]
    unfold Tn.listOf
    cases sh
    · exact NN.out.kids
    · exact NN.out.shadow
  have hln : Hid (sl.n = (Tn.listOf (Tn.nd d m) sh).length) := hl_of I0
  have hll : (Tn.listOf (Tn.nd d m) sh).length ≤ 1000 := by
    unfold Tn.listOf
    cases sh
    · exact hkl
    · exact hsl
  generalize hl0 : Tn.listOf (Tn.nd d m) sh = l at *
  have HL : Hid (Tn.listOf (Tn.nd d m) sh = l) := hl0
  clear hl0
  have bx := box_new w r 46
  have bfz := box_frozen w #[.bool r.live, .string r.tag, .string r.text, .slice r.a.p r.a.n r.a.c, .int .i64 r.up, .slice r.k.p r.k.n r.k.c, .bool r.hasS, .slice r.s.p r.s.n r.s.c, .bool r.inS] 46
  have hsz : (w.alloc (.cells #[.bool r.live, .string r.tag, .string r.text, .slice r.a.p r.a.n r.a.c, .int .i64 r.up, .slice r.k.p r.k.n r.k.c, .bool r.hasS, .slice r.s.p r.s.n r.s.c, .bool r.inS] 46)).heap.size = w.heap.size + 1 := by simp
  have K1 := keeps_alloc w (.cells #[.bool r.live, .string r.tag, .string r.text, .slice r.a.p r.a.n r.a.c, .int .i64 r.up, .slice r.k.p r.k.n r.k.c, .bool r.hasS, .slice r.s.p r.s.n r.s.c, .bool r.inS] 46)
  have B1 := (Below.refl w.heap.size w).alloc (Nat.le_refl _) (.cells #[.bool r.live, .string r.tag, .string r.text, .slice r.a.p r.a.n r.a.c, .int .i64 r.up, .slice r.k.p r.k.n r.k.c, .bool r.hasS, .slice r.s.p r.s.n r.s.c, .bool r.inS] 46)
  have hblk : (w.alloc (.cells #[.bool r.live, .string r.tag, .string r.text, .slice r.a.p r.a.n r.a.c, .int .i64 r.up, .slice r.k.p r.k.n r.k.c, .bool r.hasS, .slice r.s.p r.s.n r.s.c, .bool r.inS] 46)).heap[w.heap.size]? = some (Obj.cells #[.bool r.live, .string r.tag, .string r.text, .slice r.a.p r.a.n r.a.c, .int .i64 r.up, .slice r.k.p r.k.n r.k.c, .bool r.hasS, .slice r.s.p r.s.n r.s.c, .bool r.inS] 46) := heap_alloc_new _ _
  go_enter Tryz.func92, Tryz.ntmps92
  go_upto_if 24 with fail
  generalize w.alloc (.cells #[.bool r.live, .string r.tag, .string r.text, .slice r.a.p r.a.n r.a.c, .int .i64 r.up, .slice r.k.p r.k.n r.k.c, .bool r.hasS, .slice r.s.p r.s.n r.s.c, .bool r.inS] 46) = w1 at *
  have b5 := bx.c5
  have b7 := bx.c7
  clear r0 r1 r2 r3 r4 r5 r6 r7 r8
  go_cut [13] (fun s13 wx => s13 = .slice sl.p sl.n sl.c ∧ wx = w1)
  case first =>
    cases sh
    · go_wp2_with fail
      go_meet
      case rel => exact ⟨by rw [hsl2.out]; rfl, rfl⟩
    · go_wp2_with fail
      go_meet
      case rel => exact ⟨by rw [hsl2.out]; rfl, rfl⟩
  case rest =>
    obtain ⟨rfl, rfl⟩ := hcut
    clear hsl2
    obtain ⟨sp, sn, sc⟩ := sl
    simp only at hln I0
    obtain rfl := hln.out
    obtain ⟨p, cc, he, hlc, hcb, hpn, hat⟩ := I0.at
    cases he
    have T : Hid (∀ j (hj : j < l.length), ∃ b o, sp = some ⟨b, o, none⟩ ∧ w.cell? ⟨b, o + j, none⟩ = some (.int .i64 (l[j] : Int))) := hat
    clear hat
    go_upto_if 30 with fail
    go_cut [14] (fun s14 wx => s14 = .int .i64 (Tn.place l bf) ∧ 0 ≤ Tn.place l bf ∧ wx = wc)
    case first =>
      by_cases hb0 : 0 ≤ bf
      · have PL : Hid (Tn.place l bf = Tn.lastAt l bf l.length) := by show _ = _; unfold Tn.place; rw [if_pos hb0]
        generalize Tn.place l bf = pl at *
        go_wp2_with fail
        go_loop [14, 33] (fun a i => ∃ j : Nat, j ≤ l.length ∧ i = .int .i64 j ∧ a = .int .i64 (Tn.lastAt l bf j)) (fun _ i => l.length - (intOf i).toNat)
        case atStart => exact ⟨0, Nat.zero_le _, rfl, rfl⟩
        case round =>
          obtain ⟨j, hj, rfl, rfl⟩ := hrel
          by_cases hlt : j < l.length
          · obtain ⟨b1, o1, rfl, hcj⟩ := T.out j hlt
            have hcj' := K1 _ _ hcj
            have F : Hid (Tn.lastAt l bf (j + 1) = if (l[j] : Int) = bf then (j : Int) else Tn.lastAt l bf j) := lastAt_succ l bf j hlt
            clear hcj
            generalize l[j] = x at *
            by_cases hx : (x : Int) = bf
            · have hq : ((x : Int) == bf) = true := by simp [hx]
              rw [if_pos hx] at F
              generalize Tn.lastAt l bf j = cur at *
              generalize hxi : (x : Int) = xi at *
              clear hxi hx
              go_wp2_with fail
              go_round
              case rel => exact ⟨j + 1, by omega, by go_num, by rw [F.out]⟩
              case measure => simp [intOf]; omega
            · have hq : ((x : Int) == bf) = false := by simp [hx]
              rw [if_neg hx] at F
              generalize Tn.lastAt l bf j = cur at *
              generalize hxi : (x : Int) = xi at *
              clear hxi hx
              go_wp2_with fail
              go_round
              case rel => exact ⟨j + 1, by omega, by go_num, by rw [F.out]⟩
              case measure => simp [intOf]; omega
          · obtain rfl : j = l.length := by omega
            rw [← PL.out]
            by_cases hneg : pl < 0
            · have PE : Hid (Tn.putE d k m bf sh = 8) := by
                show _ = _
                unfold Tn.putE
                rw [HL.out]
                rw [if_pos]
                have h9 := PL.out
                unfold Tn.place
                rw [if_pos hb0, ← h9]
                exact hneg
              go_wp2_with fail
              go_ret2
              exact ⟨B1, Or.inl ⟨by show _ ≠ _; rw [PE.out]; decide, by rw [PE.out]; rfl⟩⟩
            · go_wp2_with fail
              go_meet
              case rel => exact ⟨rfl, by omega, rfl⟩
      · have PL : Hid (Tn.place l bf = l.length) := by show _ = _; unfold Tn.place; rw [if_neg hb0]
        go_wp2_with fail
        go_meet
        case rel => exact ⟨by rw [PL.out], by rw [PL.out]; omega, rfl⟩
    case rest =>
      obtain ⟨rfl, hpl, rfl⟩ := hcut
      obtain ⟨a, ha⟩ := Int.eq_ofNat_of_zero_le hpl
      have hal : a ≤ l.length := by
        have h9 := ha
        unfold Tn.place at h9
        split at h9
        · have := (lastAt_le l bf l.length).2
          omega
        · omega
      have PA : Hid (Tn.place l bf = (a : Int)) := ha
      rw [ha]
      clear ha hpl
      by_cases h12 : 12 ≤ l.length
      · have PE : Hid (Tn.putE d k m bf sh = 5) := by
          show _ = _
          unfold Tn.putE
          rw [HL.out, PA.out, if_neg (by omega), if_pos h12]
        go_wp2_with fail
        go_ret2
        exact ⟨B1, Or.inl ⟨by show _ ≠ _; rw [PE.out]; decide, by rw [PE.out]; rfl⟩⟩
      · go_upto_region 18 with fail
        go_cut [17] (fun s17 wx => ∃ p cq, s17 = .slice p (Tn.insertAt l a k).length cq ∧ OwnI wx w.heap.size (.slice p (Tn.insertAt l a k).length cq) (Tn.insertAt l a k) ∧ Below w.heap.size w wx ∧
          wx.heap[w.heap.size]? = some (Obj.cells #[.bool r.live, .string r.tag, .string r.text, .slice r.a.p r.a.n r.a.c, .int .i64 r.up, .slice r.k.p r.k.n r.k.c, .bool r.hasS, .slice r.s.p r.s.n r.s.c, .bool r.inS] 46))
        case first =>
          have II : Hid (Tn.insertAt l a k = (l.take a ++ [k]) ++ l.drop a) := rfl
          have hdl : (l.drop a).length ≤ 1000 := by simp; omega
          have htl : (l.take a).length ≤ 1000 := by simp; omega
          have HB : Hid (wc.heap[w.heap.size]? = some (Obj.cells #[.bool r.live, .string r.tag, .string r.text, .slice r.a.p r.a.n r.a.c, .int .i64 r.up, .slice r.k.p r.k.n r.k.c, .bool r.hasS, .slice r.s.p r.s.n r.s.c, .bool r.inS] 46)) := hblk
          have ZZ : Hid (wc.heap.size = w.heap.size + 1) := hsz
          have ZL : w.heap.size ≤ wc.heap.size := by omega
          clear hblk hsz b5 b7 bx bfz T hln
          generalize hIN : Tn.insertAt l a k = ins at *
          clear hIN
          rcases hpn with ⟨rfl, rfl⟩ | ⟨b1, o1, rfl⟩
          · obtain rfl : l = [] := List.length_eq_zero_iff.mp (by omega)
            obtain rfl : a = 0 := by simpa using hal
            have T1 : IntsAt w (.slice none 0 0) (List.take 0 ([] : List Nat)) := I0
            have T3 : IntsAt w (.slice none 0 0) (List.drop 0 ([] : List Nat)) := I0
            generalize List.drop 0 ([] : List Nat) = l3 at *
            generalize List.take 0 ([] : List Nat) = l1 at *
            go_region_law (first
              | (refine step_append_ints (w0 := w) (B := w.heap.size) (v := .slice p2 (l1 ++ [k]).length c2) (u := .slice none 0 0) (l := l1 ++ [k]) (m := l3) rfl (.tmp 55) (.tmp 58) rfl (by simp [Act.eval]) (by simp [Act.eval]) o2 (T3.keeps (keeps_below n2 (Nat.le_refl _))) n2 s2 (by simp; omega) ?_
                 intro v3 w4 o3 n3 s3 oth3 _
                 rw [← II.out] at o3
                 obtain ⟨p3, c3, rfl⟩ := o3.shape
                 have hb3 := oth3 _ _ _ hb2 (by decide))
              | (refine step_append_ints (w0 := w) (B := w.heap.size) (v := .slice p1 l1.length c1) (u := .slice (some ⟨wc.heap.size, 0, none⟩) 1 1) (l := l1) (m := [k]) rfl (.tmp 52) (.tmp 54) rfl (by simp [Act.eval]) (by simp [Act.eval]) o1 (ints_one hO) n1 s1 (by simp; omega) ?_
                 intro v2 w3 o2 n2 s2 oth2 _
                 obtain ⟨p2, c2, rfl⟩ := o2.shape
                 have hb2 := oth2 _ _ _ hb1 (by decide))
              | (refine step_append_ints (w0 := w) (B := w.heap.size) (v := .slice p1 l1.length c1) (u := .slice (some ⟨wc.heap.size + 1, 0, none⟩) 1 1) (l := l1) (m := [k]) rfl (.tmp 52) (.tmp 54) rfl (by simp [Act.eval]) (by simp [Act.eval]) o1 (ints_one hO) n1 s1 (by simp; omega) ?_
                 intro v2 w3 o2 n2 s2 oth2 _
                 obtain ⟨p2, c2, rfl⟩ := o2.shape
                 have hb2 := oth2 _ _ _ hb1 (by decide))
              | (refine step_append_ints (w0 := w) (B := w.heap.size) (v := .slice p1 l1.length c1) (u := .slice (some ⟨w2.heap.size, 0, none⟩) 1 1) (l := l1) (m := [k]) rfl (.tmp 52) (.tmp 54) rfl (by simp [Act.eval]) (by simp [Act.eval]) (o1.alloc _) (ints_one (heap_alloc_new _ _)) (n1.alloc s1 _) (by simp; omega) (by simp; omega) ?_
                 intro v2 w3 o2 n2 s2 oth2 _
                 obtain ⟨p2, c2, rfl⟩ := o2.shape
                 have hb2 := oth2 _ _ _ (others_alloc _ _ _ _ _ hb1 (by decide)) (by decide))
              | (refine step_append_ints (w0 := w) (B := w.heap.size) (v := .slice (some ⟨wc.heap.size + 1, 0, none⟩) 0 0) (u := .slice none 0 0) (l := []) (m := l1) rfl (.tmp 48) (.tmp 51) rfl (by simp [Act.eval]) (by simp [Act.eval]) (own_emptyI (by exact heap_alloc2_new _ _ _) (by have := ZZ.out; omega)) (T1.keeps (keeps_below (by first | exact (B1.alloc ZL _).drew | exact ((B1.alloc ZL _).alloc (by simp; omega) _).drew) (Nat.le_refl _))) (by first | exact (B1.alloc ZL _).drew | exact ((B1.alloc ZL _).alloc (by simp; omega) _).drew) (by have := ZZ.out; simp; omega) (by simp; omega) ?_
                 intro v1 w2 o1 n1 s1 oth1 gr1
                 rw [List.nil_append] at o1
                 obtain ⟨p1, c1, rfl⟩ := o1.shape
                 have hb1 := oth1 _ _ _ (by first | exact others_alloc _ _ _ _ _ HB.out (by decide) | exact ((others_alloc _ _).trans (others_alloc _ _)) _ _ _ HB.out (by decide)) (by decide)
                 have hO : w2.heap[wc.heap.size]? = some (Obj.cells #[.int .i64 (k : Int)] 3) := by (rw [gr1.block _ (by simp; omega) (by simp [Value.ownBlock])]; exact heap_alloc2_old _ _ _))
              | (refine step_append_ints (w0 := w) (B := w.heap.size) (v := .slice (some ⟨wc.heap.size, 0, none⟩) 0 0) (u := .slice none 0 0) (l := []) (m := l1) rfl (.tmp 48) (.tmp 51) rfl (by simp [Act.eval]) (by simp [Act.eval]) (own_emptyI (by first | exact heap_alloc_new _ _ | exact heap_alloc2_old _ _ _) (by have := ZZ.out; omega)) (T1.keeps (keeps_below (by first | exact (B1.alloc ZL _).drew | exact ((B1.alloc ZL _).alloc (by simp; omega) _).drew) (Nat.le_refl _))) (by first | exact (B1.alloc ZL _).drew | exact ((B1.alloc ZL _).alloc (by simp; omega) _).drew) (by have := ZZ.out; simp; omega) (by simp; omega) ?_
                 intro v1 w2 o1 n1 s1 oth1 gr1
                 rw [List.nil_append] at o1
                 obtain ⟨p1, c1, rfl⟩ := o1.shape
                 have hb1 := oth1 _ _ _ (by first | exact others_alloc _ _ _ _ _ HB.out (by decide) | exact ((others_alloc _ _).trans (others_alloc _ _)) _ _ _ HB.out (by decide)) (by decide)
                 try have hO : w2.heap[wc.heap.size + 1]? = some (Obj.cells #[.int .i64 (k : Int)] 3) := by (rw [gr1.block _ (by simp) (by simp [Value.ownBlock])]; exact heap_alloc2_new _ _ _)))
            all_goals
              go_wp2_with fail
              go_meet
              case rel => exact ⟨_, _, rfl, o3, n3, hb3⟩
          · have hac : a ≤ sc := by omega
            have T1 := ints_take I0 a hal
            have T3 := ints_drop I0 a hal
            generalize l.drop a = l3 at *
            generalize l.take a = l1 at *
            generalize hX : (if sc = a then some ({ block := b1, off := o1, spot := none } : Addr) else some { block := b1, off := o1 + a, spot := none }) = X at *
            go_region_law (first
              | (refine step_append_ints (w0 := w) (B := w.heap.size) (v := .slice p2 (l1 ++ [k]).length c2) (u := .slice X (l.length - a) (sc - a)) (l := l1 ++ [k]) (m := l3) rfl (.tmp 55) (.tmp 58) rfl (by simp [Act.eval]) (by simp [Act.eval]) o2 (T3.keeps (keeps_below n2 (Nat.le_refl _))) n2 s2 (by simp; omega) ?_
                 intro v3 w4 o3 n3 s3 oth3 _
                 rw [← II.out] at o3
                 obtain ⟨p3, c3, rfl⟩ := o3.shape
                 have hb3 := oth3 _ _ _ hb2 (by decide))
              | (refine step_append_ints (w0 := w) (B := w.heap.size) (v := .slice p1 l1.length c1) (u := .slice (some ⟨wc.heap.size, 0, none⟩) 1 1) (l := l1) (m := [k]) rfl (.tmp 52) (.tmp 54) rfl (by simp [Act.eval]) (by simp [Act.eval]) o1 (ints_one hO) n1 s1 (by simp; omega) ?_
                 intro v2 w3 o2 n2 s2 oth2 _
                 obtain ⟨p2, c2, rfl⟩ := o2.shape
                 have hb2 := oth2 _ _ _ hb1 (by decide))
              | (refine step_append_ints (w0 := w) (B := w.heap.size) (v := .slice p1 l1.length c1) (u := .slice (some ⟨wc.heap.size + 1, 0, none⟩) 1 1) (l := l1) (m := [k]) rfl (.tmp 52) (.tmp 54) rfl (by simp [Act.eval]) (by simp [Act.eval]) o1 (ints_one hO) n1 s1 (by simp; omega) ?_
                 intro v2 w3 o2 n2 s2 oth2 _
                 obtain ⟨p2, c2, rfl⟩ := o2.shape
                 have hb2 := oth2 _ _ _ hb1 (by decide))
              | (refine step_append_ints (w0 := w) (B := w.heap.size) (v := .slice p1 l1.length c1) (u := .slice (some ⟨w2.heap.size, 0, none⟩) 1 1) (l := l1) (m := [k]) rfl (.tmp 52) (.tmp 54) rfl (by simp [Act.eval]) (by simp [Act.eval]) (o1.alloc _) (ints_one (heap_alloc_new _ _)) (n1.alloc s1 _) (by simp; omega) (by simp; omega) ?_
                 intro v2 w3 o2 n2 s2 oth2 _
                 obtain ⟨p2, c2, rfl⟩ := o2.shape
                 have hb2 := oth2 _ _ _ (others_alloc _ _ _ _ _ hb1 (by decide)) (by decide))
              | (refine step_append_ints (w0 := w) (B := w.heap.size) (v := .slice (some ⟨wc.heap.size + 1, 0, none⟩) 0 0) (u := .slice (some ⟨b1, o1, none⟩) a sc) (l := []) (m := l1) rfl (.tmp 48) (.tmp 51) rfl (by simp [Act.eval]) (by simp [Act.eval]) (own_emptyI (by exact heap_alloc2_new _ _ _) (by have := ZZ.out; omega)) (T1.keeps (keeps_below (by first | exact (B1.alloc ZL _).drew | exact ((B1.alloc ZL _).alloc (by simp; omega) _).drew) (Nat.le_refl _))) (by first | exact (B1.alloc ZL _).drew | exact ((B1.alloc ZL _).alloc (by simp; omega) _).drew) (by have := ZZ.out; simp; omega) (by simp; omega) ?_
                 intro v1 w2 o1 n1 s1 oth1 gr1
                 rw [List.nil_append] at o1
                 obtain ⟨p1, c1, rfl⟩ := o1.shape
                 have hb1 := oth1 _ _ _ (by first | exact others_alloc _ _ _ _ _ HB.out (by decide) | exact ((others_alloc _ _).trans (others_alloc _ _)) _ _ _ HB.out (by decide)) (by decide)
                 have hO : w2.heap[wc.heap.size]? = some (Obj.cells #[.int .i64 (k : Int)] 3) := by (rw [gr1.block _ (by simp; omega) (by simp [Value.ownBlock])]; exact heap_alloc2_old _ _ _))
              | (refine step_append_ints (w0 := w) (B := w.heap.size) (v := .slice (some ⟨wc.heap.size, 0, none⟩) 0 0) (u := .slice (some ⟨b1, o1, none⟩) a sc) (l := []) (m := l1) rfl (.tmp 48) (.tmp 51) rfl (by simp [Act.eval]) (by simp [Act.eval]) (own_emptyI (by first | exact heap_alloc_new _ _ | exact heap_alloc2_old _ _ _) (by have := ZZ.out; omega)) (T1.keeps (keeps_below (by first | exact (B1.alloc ZL _).drew | exact ((B1.alloc ZL _).alloc (by simp; omega) _).drew) (Nat.le_refl _))) (by first | exact (B1.alloc ZL _).drew | exact ((B1.alloc ZL _).alloc (by simp; omega) _).drew) (by have := ZZ.out; simp; omega) (by simp; omega) ?_
                 intro v1 w2 o1 n1 s1 oth1 gr1
                 rw [List.nil_append] at o1
                 obtain ⟨p1, c1, rfl⟩ := o1.shape
                 have hb1 := oth1 _ _ _ (by first | exact others_alloc _ _ _ _ _ HB.out (by decide) | exact ((others_alloc _ _).trans (others_alloc _ _)) _ _ _ HB.out (by decide)) (by decide)
                 try have hO : w2.heap[wc.heap.size + 1]? = some (Obj.cells #[.int .i64 (k : Int)] 3) := by (rw [gr1.block _ (by simp) (by simp [Value.ownBlock])]; exact heap_alloc2_new _ _ _)))
            all_goals
              go_wp2_with fail
              go_meet
              case rel => exact ⟨_, _, rfl, o3, n3, hb3⟩
        case rest =>
          obtain ⟨p, cq, rfl, hown, hb, hblk'⟩ := hcut
          clear hblk bx bfz b5 b7 K1 B1 hsz T hln I0 hpn hlc hcb
          have D1 : Hid (Tn.put1 d k m bf sh = Tn.withd d m (Tn.setList (Tn.nd d m) sh (Tn.insertAt l a k))) := by
            show _ = _
            unfold Tn.put1
            rw [HL.out, PA.out, Int.toNat_natCast]
          have hEnd : Tn.Ends Tn.fuel (Tn.put1 d k m bf sh) k := HE.out (by rw [PA.out]; omega) (by omega)
          have PE0 : Hid (Tn.putE d k m bf sh = if (16 : Int) < ((Tn.pathOf (Tn.put1 d k m bf sh) k).length : Int) - 1 + (Tn.deepest Tn.fuel (Tn.put1 d k m bf sh) k : Int) then 3 else 0) := by
            show _ = _
            unfold Tn.putE
            rw [HL.out, PA.out, if_neg (by omega), if_neg h12]
          have hI := ints_of_owns hown
          obtain ⟨bx, bfz⟩ := box_of_block hblk'
          have M0 := put_mid NN.out bx (keeps_below hb (Nat.le_refl _)) hb hI sh
          have b5 := bx.c5
          have b7 := bx.c7
          clear hown hI bx hblk'
          generalize hins : Tn.insertAt l a k = ins at *
          generalize ins.length = iln at *
          go_upto_if 60 with fail
          go_cut [] (fun wx => wx = (wc.setCell ⟨w.heap.size, if sh then 7 else 5, none⟩ (.slice p iln cq)))
          case first =>
            clear M0
            cases sh
            · go_wp2_with fail
              go_meet
              case rel => rfl
            · go_wp2_with fail
              go_meet
              case rel => rfl
          case rest =>
            rw [← hcut] at M0
            clear hcut bfz b5 b7 hb
            obtain ⟨m0, m1, m2, m3, m4, m5, m6, m7, m8⟩ := M0.box
            generalize (if sh = true then { r with s := ⟨p, iln, cq⟩ } else { r with k := ⟨p, iln, cq⟩ } : Raw) = r' at *
            have hle : m ≤ rs.length := by omega
            have h0 : 0 < rs.length := by omega
            have hbz := M0.below.size
            go_wp2_with (go_at_call 93; refine (rwith_doc (H.out.keeps M0.keeps) hs h0 M0.nd m hle).mono ?_; rintro e w9 ⟨g9, c9, rs9, rfl, hd9, hb9, hrs9⟩)
            have hd8 : DocAt w9 g9 0 c9 rs9 (Tn.put1 d k m bf sh) := by rw [D1.out]; exact hd9
            clear hd9
            generalize hd' : Tn.put1 d k m bf sh = d' at *
            have hrl : Hid (rs9.length = rs.length) := by show _ = _; rw [hrs9.out, withR_len, if_neg (by omega)]
            have hs9 : rs9.length ≤ 1000 := by rw [hrl.out]; exact hs
            have hdl : d'.length ≤ 1000 := by rw [← hd8.len]; exact hs9
            have hpl : (Tn.pathOf d' (k : Int)).length ≤ 1001 := Nat.le_trans (path_len _ _ _) (by omega)
            have hdp := deepest_le Tn.fuel d' k
            have hDR : ∀ w0, DocAt w0 g9 0 c9 rs9 d' → Calls Tryz.prog 131 #[.slice (some ⟨g9, 0, none⟩) rs9.length c9, .int .i64 (k : Int)] w0 fun e w' =>
                e = .returned (.int .i64 (Tn.deepest Tn.fuel d' k : Int)) ∧ Below w0.heap.size w0 w' := fun w0 h => rdeepest_any Tn.fuel (by decide) k _ h hEnd
            generalize hdxe : Tn.deepest Tn.fuel d' k = dx at *
            generalize hpxe : (Tn.pathOf d' (k : Int)).length = px at *
            have hdp : dx ≤ 64 := hdp
            have Bz := M0.below.trans (hb9.mono hbz)
            have hz9 := Bz.size
            clear hdxe
            go_wp2_with (first
              | (go_at_call 97; refine (rpath_own hd8 hs9 _).mono ?_; rintro e w10 ⟨v10, rfl, hown10, hb10⟩; obtain ⟨p10, c10, rfl⟩ := hown10.shape; rw [hpxe])
              | (go_at_call 131; refine (hDR _ (hd8.keeps (keeps_below hb10 (Nat.le_refl _)))).mono ?_; rintro e w11 ⟨rfl, hb11⟩))
            · have PE : Hid (Tn.putE d k m bf sh = 3) := by show _ = _; rw [PE0.out, if_pos (by omega)]
              go_ret2
              exact ⟨(Bz.trans (hb10.mono hz9)).trans (hb11.mono (by have := hb10.size; omega)), Or.inl ⟨by show _ ≠ _; rw [PE.out]; decide, by rw [PE.out]; rfl⟩⟩
            · have PE : Hid (Tn.putE d k m bf sh = 0) := by show _ = _; rw [PE0.out, if_neg (by omega)]
              go_ret2
              exact ⟨(Bz.trans (hb10.mono hz9)).trans (hb11.mono (by have := hb10.size; omega)), Or.inr ⟨PE, g9, c9, rs9, rfl, by rw [hd']; exact (hd8.keeps (keeps_below hb10 (Nat.le_refl _))).keeps (keeps_below hb11 (Nat.le_refl _)), hrl⟩⟩
end Go.Proofs.YtbinbojicmhdlaeGreatDoor

/-
  THE WALK of the reference's Make.
-/
namespace Go.Proofs.YtbinbojicmhdlaeGreatDoor
open Go.RowKit

theorem freeAt_step (d : Tn.Dc) (f : Nat) : Tn.freeAt d (f + 1) = if (Tn.nd d (d.length - (f + 1))).live then Tn.freeAt d f else d.length - (f + 1) := by rw [Tn.freeAt]

def MakePost (w w' : World) (e : Ending) (d : Tn.Dc) (x : Tn.Nd) (m : Nat) (bf : Int) (sh : Bool) (n : Nat) : Prop :=
  Below w.heap.size w w' ∧ ((Hid (60 ≤ Tn.free d) ∧ e = .returned (.tuple #[.slice none 0 0, .int .i64 0, .int .i64 5])) ∨
    (Hid (Tn.free d < 60) ∧ Hid (Tn.putE (Tn.withd d (Tn.free d) (Tn.made x m sh)) (Tn.free d) m bf sh ≠ 0) ∧ e = .returned (.tuple #[.slice none 0 0, .int .i64 (Tn.free d : Int), .int .i64 (Tn.putE (Tn.withd d (Tn.free d) (Tn.made x m sh)) (Tn.free d) m bf sh)])) ∨
    (Hid (Tn.free d < 60) ∧ Hid (Tn.putE (Tn.withd d (Tn.free d) (Tn.made x m sh)) (Tn.free d) m bf sh = 0) ∧ ∃ g c' rs', e = .returned (.tuple #[.slice (some ⟨g, 0, none⟩) rs'.length c', .int .i64 (Tn.free d : Int), .int .i64 0]) ∧
      DocAt w' g 0 c' rs' (Tn.put1 (Tn.withd d (Tn.free d) (Tn.made x m sh)) (Tn.free d) m bf sh) ∧ Hid (rs'.length ≤ n + 1)))

set_option maxHeartbeats 1600000 in
set_option maxRecDepth 100000 in
theorem rmake_doc {w : World} {b o c : Nat} {rs : List Raw} {d : Tn.Dc} (hd : DocAt w b o c rs d) (hs : rs.length ≤ 900) (h0 : 0 < rs.length) {r : Raw} {x : Tn.Nd} (hr : NdAt w r x) (m : Nat) (hm : m < d.length) (bf : Int) (sh : Bool)
    (hkl : ∀ k, (Tn.nd (Tn.withd d (Tn.free d) (Tn.made x m sh)) k).kids.length ≤ 1000) (hsl : ∀ k, (Tn.nd (Tn.withd d (Tn.free d) (Tn.made x m sh)) k).shadow.length ≤ 1000)
    (hE : Tn.Ends Tn.fuel (Tn.put1 (Tn.withd d (Tn.free d) (Tn.made x m sh)) (Tn.free d) m bf sh) (Tn.free d)) :
    Calls Tryz.prog 96 #[.slice (some ⟨b, o, none⟩) rs.length c, r.agg, .int .i64 (m : Int), .int .i64 bf, .bool sh] w fun e w' => MakePost w w' e d x m bf sh rs.length := by
  have H : Hid (DocAt w b o c rs d) := hd
  have L : Hid (rs.length = d.length) := hd.len
  have HE : Hid (Tn.Ends Tn.fuel (Tn.put1 (Tn.withd d (Tn.free d) (Tn.made x m sh)) (Tn.free d) m bf sh) (Tn.free d)) := hE
  have HK : Hid ((∀ k, (Tn.nd (Tn.withd d (Tn.free d) (Tn.made x m sh)) k).kids.length ≤ 1000) ∧ (∀ k, (Tn.nd (Tn.withd d (Tn.free d) (Tn.made x m sh)) k).shadow.length ≤ 1000)) := ⟨hkl, hsl⟩
  have NN : Hid (NdAt w r x) := hr
  clear hd hE hkl hsl hr
  unfold Raw.agg
  go_enter Tryz.func96, Tryz.ntmps96
  go_wp2_with fail
  go_loop [13] (fun i => ∃ j : Nat, j ≤ rs.length ∧ i = .int .i64 j ∧ Hid (Tn.free d = Tn.freeAt d (d.length - j))) (fun i => rs.length - (intOf i).toNat)
  case atStart => exact ⟨0, Nat.zero_le _, rfl, by show _ = _; rfl⟩
  case round =>
    obtain ⟨j, hj, rfl, hfr⟩ := hrel
    by_cases hlt : j < rs.length
    · have hjd : j < d.length := by rw [← L.out]; exact hlt
      have hc0 := keeps_alloc w (.cells #[.bool r.live, .string r.tag, .string r.text, .slice r.a.p r.a.n r.a.c, .int .i64 r.up, .slice r.k.p r.k.n r.k.c, .bool r.hasS, .slice r.s.p r.s.n r.s.c, .bool r.inS] 46) _ _ (H.out.row.c0 j hlt)
      have hlv : Hid (rs[j].live = (Tn.nd d j).live) := by show _ = _; rw [nd_at hjd]; exact (H.out.nds j hlt hjd).live
      have hst : Hid (Tn.freeAt d (d.length - j) = if (Tn.nd d j).live then Tn.freeAt d (d.length - (j + 1)) else j) := by
        show _ = _
        have e1 : d.length - j = (d.length - (j + 1)) + 1 := by omega
        have e2 : d.length - (d.length - (j + 1) + 1) = j := by omega
        rw [e1, freeAt_step, e2]
      generalize rs[j].live = lv at *
      cases lv with
      | true =>
        have F : Hid (Tn.free d = Tn.freeAt d (d.length - (j + 1))) := by show _ = _; rw [hfr.out, hst.out, ← hlv.out]; rfl
        go_wp2_with fail
        go_round
        case rel => exact ⟨j + 1, by omega, by go_num, F⟩
        case measure => simp [intOf]; omega
      | false =>
        have F : Hid (Tn.free d = j) := by show _ = _; rw [hfr.out, hst.out, ← hlv.out]; rfl
        by_cases h60 : 60 ≤ j
        · go_wp2_with fail
          go_ret3
          exact ⟨(Below.refl w.heap.size w).alloc (Nat.le_refl _) _, Or.inl ⟨by show _ ≤ _; rw [F.out]; exact h60, rfl⟩⟩
        · have hK2 := keeps_alloc w (.cells #[.bool true, .string r.tag, .string r.text, .slice r.a.p r.a.n r.a.c, .int .i64 (m : Int), .slice r.k.p r.k.n r.k.c, .bool r.hasS, .slice r.s.p r.s.n r.s.c, .bool sh] 46)
          have hB2 := (Below.refl w.heap.size w).alloc (Nat.le_refl _) (.cells #[.bool true, .string r.tag, .string r.text, .slice r.a.p r.a.n r.a.c, .int .i64 (m : Int), .slice r.k.p r.k.n r.k.c, .bool r.hasS, .slice r.s.p r.s.n r.s.c, .bool sh] 46)
          have hN2 : ∀ W, Keeps w W → NdAt W { r with live := true, up := (m : Int), inS := sh } (Tn.made x m sh) := fun W hk => ⟨rfl, NN.out.tag, NN.out.text, rfl, NN.out.hasS, rfl, NN.out.attrs.keeps hk, NN.out.kids.keeps hk, NN.out.shadow.keeps hk⟩
          have hs1 : rs.length ≤ 1000 := by omega
          have P1 : Hid (Tn.free d = j) := F
          have hm9 : ∀ n, m < (Tn.withd d j n).length := by
            intro n
            unfold Tn.withd
            split <;> simp <;> omega
          have hP : ∀ (W : World) (g9 c9 : Nat) (rs9 : List Raw), DocAt W g9 0 c9 rs9 (Tn.withd d j (Tn.made x m sh)) → rs9.length ≤ 1000 → Calls Tryz.prog 92 #[.slice (some ⟨g9, 0, none⟩) rs9.length c9, .int .i64 (j : Int), .int .i64 (m : Int), .int .i64 bf, .bool sh] W fun e w' => PutPost W w' e (Tn.withd d j (Tn.made x m sh)) j m bf sh rs9.length := by
            intro W g9 c9 rs9 hd9 hs9
            have hk9 := HK.out
            have he9 := HE.out
            rw [F.out] at hk9 he9
            exact rput_doc hd9 hs9 j m (hm9 _) bf sh (hk9.1 m) (hk9.2 m) (fun _ _ => he9)
          go_wp2_with (first
            | (go_at_call 93; refine (rwith_doc (r := { r with live := true, up := (m : Int), inS := sh }) (H.out.keeps hK2) hs1 h0 (hN2 _ hK2) j hj).mono ?_; rintro e w9 ⟨g9, c9, rs9, rfl, hd9, hb9, hrs9⟩
               have hl9 : Hid (rs9.length ≤ rs.length + 1) := by show _ ≤ _; rw [hrs9.out, withR_len]; split <;> omega
               have hl10 : rs9.length ≤ 1000 := Nat.le_trans hl9.out (by omega))
            | (go_at_call 92; refine (hP _ _ _ _ hd9 hl10).mono ?_; rintro e w10 ⟨hb10, hpp⟩
               have Bz : Below w.heap.size w w10 := (hB2.trans (hb9.mono (by simp))).trans (hb10.mono (by have := hb9.size; simp at this; omega))
               rcases hpp with ⟨hne, rfl⟩ | ⟨heq, g11, c11, rs11, rfl, hd11, hl11⟩))
          · go_ret3
            exact ⟨Bz, Or.inr (Or.inl ⟨by show _ < _; rw [F.out]; omega, by rw [F.out]; exact hne, by rw [F.out]; rfl⟩)⟩
          · go_ret3
            exact ⟨Bz, Or.inr (Or.inr ⟨by show _ < _; rw [F.out]; omega, by rw [F.out]; exact heq, g11, c11, rs11, by rw [F.out]; rfl, by rw [F.out]; exact hd11, by show _ ≤ _; rw [hl11.out]; exact hl9.out⟩)⟩
    · obtain rfl : j = rs.length := by omega
      have F : Hid (Tn.free d = rs.length) := by show _ = _; rw [hfr.out, L.out, Nat.sub_self, Tn.freeAt]
      by_cases h60 : 60 ≤ rs.length
      · go_wp2_with fail
        go_ret3
        exact ⟨(Below.refl w.heap.size w).alloc (Nat.le_refl _) _, Or.inl ⟨by show _ ≤ _; rw [F.out]; exact h60, rfl⟩⟩
      · have hK2 := keeps_alloc w (.cells #[.bool true, .string r.tag, .string r.text, .slice r.a.p r.a.n r.a.c, .int .i64 (m : Int), .slice r.k.p r.k.n r.k.c, .bool r.hasS, .slice r.s.p r.s.n r.s.c, .bool sh] 46)
        have hB2 := (Below.refl w.heap.size w).alloc (Nat.le_refl _) (.cells #[.bool true, .string r.tag, .string r.text, .slice r.a.p r.a.n r.a.c, .int .i64 (m : Int), .slice r.k.p r.k.n r.k.c, .bool r.hasS, .slice r.s.p r.s.n r.s.c, .bool sh] 46)
        have hN2 : ∀ W, Keeps w W → NdAt W { r with live := true, up := (m : Int), inS := sh } (Tn.made x m sh) := fun W hk => ⟨rfl, NN.out.tag, NN.out.text, rfl, NN.out.hasS, rfl, NN.out.attrs.keeps hk, NN.out.kids.keeps hk, NN.out.shadow.keeps hk⟩
        have hs1 : rs.length ≤ 1000 := by omega
        have P1 : Hid (Tn.free d = rs.length) := F
        have hm9 : ∀ n, m < (Tn.withd d rs.length n).length := by
          intro n
          unfold Tn.withd
          split <;> simp <;> omega
        have hP : ∀ (W : World) (g9 c9 : Nat) (rs9 : List Raw), DocAt W g9 0 c9 rs9 (Tn.withd d rs.length (Tn.made x m sh)) → rs9.length ≤ 1000 → Calls Tryz.prog 92 #[.slice (some ⟨g9, 0, none⟩) rs9.length c9, .int .i64 (rs.length : Int), .int .i64 (m : Int), .int .i64 bf, .bool sh] W fun e w' => PutPost W w' e (Tn.withd d rs.length (Tn.made x m sh)) rs.length m bf sh rs9.length := by
          intro W g9 c9 rs9 hd9 hs9
          have hk9 := HK.out
          have he9 := HE.out
          rw [F.out] at hk9 he9
          exact rput_doc hd9 hs9 rs.length m (hm9 _) bf sh (hk9.1 m) (hk9.2 m) (fun _ _ => he9)
        go_wp2_with (first
          | (go_at_call 93; refine (rwith_doc (r := { r with live := true, up := (m : Int), inS := sh }) (H.out.keeps hK2) hs1 h0 (hN2 _ hK2) rs.length (Nat.le_refl _)).mono ?_; rintro e w9 ⟨g9, c9, rs9, rfl, hd9, hb9, hrs9⟩
             have hl9 : Hid (rs9.length ≤ rs.length + 1) := by show _ ≤ _; rw [hrs9.out, withR_len]; split <;> omega
             have hl10 : rs9.length ≤ 1000 := Nat.le_trans hl9.out (by omega))
          | (go_at_call 92; refine (hP _ _ _ _ hd9 hl10).mono ?_; rintro e w10 ⟨hb10, hpp⟩
             have Bz : Below w.heap.size w w10 := (hB2.trans (hb9.mono (by simp))).trans (hb10.mono (by have := hb9.size; simp at this; omega))
             rcases hpp with ⟨hne, rfl⟩ | ⟨heq, g11, c11, rs11, rfl, hd11, hl11⟩))
        · go_ret3
          exact ⟨Bz, Or.inr (Or.inl ⟨by show _ < _; rw [F.out]; omega, by rw [F.out]; exact hne, by rw [F.out]; rfl⟩)⟩
        · go_ret3
          exact ⟨Bz, Or.inr (Or.inr ⟨by show _ < _; rw [F.out]; omega, by rw [F.out]; exact heq, g11, c11, rs11, by rw [F.out]; rfl, by rw [F.out]; exact hd11, by show _ ≤ _; rw [hl11.out]; exact hl9.out⟩)⟩
end Go.Proofs.YtbinbojicmhdlaeGreatDoor

/-
  THE WALKS of the reference's Attrs and Attr.
-/
namespace Go.Proofs.YtbinbojicmhdlaeGreatDoor
open Go.RowKit

theorem bless_eq : ∀ (x y : List UInt8), Op.bytesLess x y = decide (x < y)
  | [], [] => by simp [Op.bytesLess]
  | _ :: _, [] => by simp [Op.bytesLess]
  | [], _ :: _ => by simp [Op.bytesLess]
  | a :: x, b :: y => by
    rw [Op.bytesLess, bless_eq x y]
    rw [Bool.eq_iff_iff]
    simp [List.cons_lt_cons_iff]

theorem AttrsAt.at {w : World} {v : Value} {l : List Tn.At} (h : AttrsAt w v l) : ∃ p c, v = .slice p l.length c ∧ l.length ≤ c ∧ c ≤ 9223372036854775807 ∧ ((p = none ∧ c = 0) ∨ ∃ b o, p = some ⟨b, o, none⟩) ∧
    ∀ j (hj : j < l.length), ∃ b o, p = some ⟨b, o, none⟩ ∧ w.cell? ⟨b, o + j * 2, none⟩ = some (.string l[j].1) ∧ w.cell? ⟨b, o + j * 2 + 1, none⟩ = some (.string l[j].2) := by
  obtain ⟨p, c, e, h1, h2, h3, h4⟩ := h
  refine ⟨p, c, e, h1, by unfold maxLen at h2; omega, h3, fun j hj => ?_⟩
  obtain ⟨b, o, e1, e2⟩ := h4 (j * 2 + 0) (.string l[j].1) (by rw [flat_at av 2 av_len l j 0 (by decide), List.getElem?_eq_getElem hj]; rfl)
  obtain ⟨b', o', e3, e4⟩ := h4 (j * 2 + 1) (.string l[j].2) (by rw [flat_at av 2 av_len l j 1 (by decide), List.getElem?_eq_getElem hj]; rfl)
  rw [e1] at e3
  cases e3
  exact ⟨b, o, e1, e2, by rw [Nat.add_assoc]; exact e4⟩

theorem aFold_succ (name value : ByteArray) (l : List Tn.At) (j : Nat) (h : j < l.length) : Tn.aFold name value (l.take (j + 1)) = Tn.aStep name value (Tn.aFold name value (l.take j)) l[j] := by
  unfold Tn.aFold
  rw [List.take_succ_eq_append_getElem h, List.foldl_append]
  rfl
theorem aFold_len (name value : ByteArray) (l : List Tn.At) : ∀ j, j ≤ l.length → (Tn.aFold name value (l.take j)).1.length ≤ 2 * j
  | 0, _ => by simp [Tn.aFold]
  | j + 1, h => by
    have := aFold_len name value l j (by omega)
    rw [aFold_succ name value l j (by omega)]
    unfold Tn.aStep
    split
    · simp; omega
    · split <;> simp <;> omega

theorem less_of {a b : ByteArray} (h : Tn.eqS a b = false) : (Op.bytesLess a.toList b.toList || a.toList == b.toList) = !Tn.lessS b a := by
  unfold Tn.eqS at h
  unfold Tn.lessS
  rw [bless_eq, h, Bool.or_false]
  rw [Bool.eq_iff_iff]
  simp at h ⊢
  constructor
  · intro h1
    exact List.le_of_lt h1
  · intro h1
    apply Classical.byContradiction
    intro h2
    exact h (List.le_antisymm h1 (List.not_lt.mp h2))

set_option maxHeartbeats 1600000 in
set_option maxRecDepth 100000 in
theorem rattrs_own {w : World} {vl : Value} {l : List Tn.At} (hl : AttrsAt w vl l) (hs : l.length ≤ 1000) (name value : ByteArray) :
    Calls Tryz.prog 95 #[vl, .string name, .string value] w fun e w' =>
      ∃ v, e = .returned (.tuple #[v, Value.bool (decide (((Tn.attrsD l name value).length : Int) ≤ 8))]) ∧ OwnA w' w.heap.size v (Tn.attrsD l name value) ∧ Below w.heap.size w w' := by
  obtain ⟨p, cc, rfl, h1, h2, _, hat⟩ := hl.at
  have T : Hid (∀ j (hj : j < l.length), ∃ b o, p = some ⟨b, o, none⟩ ∧ w.cell? ⟨b, o + j * 2, none⟩ = some (.string l[j].1) ∧ w.cell? ⟨b, o + j * 2 + 1, none⟩ = some (.string l[j].2)) := hat
  clear hat hl
  go_enter Tryz.func95, Tryz.ntmps95
  go_wp2_with fail
  go_loopw [8, 9, 14] (fun v dn i wr => ∃ (j : Nat), j ≤ l.length ∧ i = .int .i64 j ∧ dn = .bool (Tn.aFold name value (l.take j)).2 ∧ OwnA wr w.heap.size v (Tn.aFold name value (l.take j)).1 ∧ Below w.heap.size w wr)
    (fun _ _ i _ => l.length - (intOf i).toNat)
  case atStart => exact ⟨0, Nat.zero_le _, rfl, rfl, OwnA.nil _ _, Below.refl _ _⟩
  case round =>
    obtain ⟨j, hj, rfl, rfl, hown, hnx⟩ := hrel
    have hbz := hnx.size
    have hfl := aFold_len name value l j hj
    by_cases hlt : j < l.length
    · obtain ⟨b1, o1, rfl, hc0, hc1⟩ := T.out j hlt
      have hd0 := keeps_below hnx (Nat.le_refl _) _ _ hc0
      have hd1 := keeps_below hnx (Nat.le_refl _) _ _ hc1
      have F : Hid (Tn.aFold name value (l.take (j + 1)) = Tn.aStep name value (Tn.aFold name value (l.take j)) l[j]) := aFold_succ name value l j hlt
      clear hc0 hc1
      generalize l[j] = at1 at *
      obtain ⟨nm, vl⟩ := at1
      simp only at hd0 hd1
      generalize Tn.aFold name value (l.take j) = st at *
      obtain ⟨sf, dn⟩ := st
      simp only at hown hfl
      cases he : Tn.eqS nm name with
      | true =>
        have hq : (nm.toList == name.toList) = true := he
        have G : Hid (Tn.aFold name value (l.take (j + 1)) = (sf ++ [(nm, value)], true)) := by show _ = _; rw [F.out]; simp [Tn.aStep, he]
        have hq2 : (Op.bytesLess nm.toList name.toList || nm.toList == name.toList) = true := by rw [hq]; simp
        go_wp2_with (at_builtin; refine append_attr1 rfl _ _ rfl nm value rfl (by simp [Act.eval]) (hown.alloc _) (hnx.alloc hbz _) (by simp; omega) (by omega) ?_)
        intro v' w1 hown' hnx' hbz' _
        clear hown hnx
        go_wp2_with fail
        go_roundw
        case rel => exact ⟨j + 1, by omega, by go_num, by rw [G.out], by rw [G.out]; exact hown', hnx'⟩
        case measure => simp [intOf]; omega
      | false =>
        have hq : (nm.toList == name.toList) = false := he
        cases hgt : (Tn.lessS name nm && !dn) with
        | true =>
          have hgt' := hgt
          rw [Bool.and_eq_true] at hgt'
          obtain ⟨hg1, hg2⟩ := hgt'
          have hdn : dn = false := by simpa using hg2
          subst hdn
          have hq2 : (Op.bytesLess nm.toList name.toList || nm.toList == name.toList) = false := by rw [less_of he, hg1]; rfl
          have hq3 : Op.bytesLess nm.toList name.toList = false := by rw [hq, Bool.or_false] at hq2; exact hq2
          have G : Hid (Tn.aFold name value (l.take (j + 1)) = (sf ++ [(name, value)] ++ [(nm, vl)], true)) := by show _ = _; rw [F.out]; simp [Tn.aStep, he, hg1]
          have hne := ownA_lt hown
          clear hgt hg1 hg2 F he hq2
          go_wp2_with (at_builtin; refine append_attr1 rfl _ _ rfl name value rfl (by simp [Act.eval]) (hown.alloc _) (hnx.alloc hbz _) (by simp; omega) (by omega) ?_)
          intro v' w1 hown' hnx' hbz' hgr
          have hbx : w1.heap[wr.heap.size]? = some (Obj.cells #[.string nm, .string vl] 83) := by
            rw [hgr.block _ (by simp; omega) (fun h => hne h.symm)]
            exact heap_alloc2_old _ _ _
          have x0 : w1.cell? ⟨wr.heap.size, 0, none⟩ = some (.string nm) := by simp [World.cell?, hbx]
          have x1 : w1.cell? ⟨wr.heap.size, 1, none⟩ = some (.string vl) := by simp [World.cell?, hbx]
          clear hown hnx hgr hne hbx
          have OO : Hid (OwnA w1 w.heap.size v' (sf ++ [(name, value)])) := hown'
          have hz : (sf ++ [(name, value)]).length < 1000000 := by simp; omega
          clear hown'
          go_wp2_with (at_builtin; refine append_attr1 rfl _ _ rfl nm vl rfl (by simp [Act.eval]) OO.out hnx' hbz' hz ?_)
          intro v2 w2 hown2 hnx2 hbz2 _
          clear OO hnx'
          go_wp2_with fail
          go_roundw
          case rel => exact ⟨j + 1, by omega, by go_num, by rw [G.out], by rw [G.out]; simpa using hown2, hnx2⟩
          case measure => simp [intOf]; omega
        | false =>
          have G : Hid (Tn.aFold name value (l.take (j + 1)) = (sf ++ [(nm, vl)], dn)) := by show _ = _; rw [F.out]; simp only [Tn.aStep, he, hgt]; rfl
          have hq2 : (Op.bytesLess nm.toList name.toList || nm.toList == name.toList) = !Tn.lessS name nm := less_of he
          rw [hq, Bool.or_false] at hq2
          clear F he
          cases hls : Tn.lessS name nm with
          | true =>
            rw [hls] at hq2 hgt
            have hdn : dn = true := by simpa using hgt
            subst hdn
            simp only [Bool.not_true] at hq2
            clear hls hgt
            go_wp2_with (at_builtin; refine append_attr1 rfl _ _ rfl nm vl rfl (by simp [Act.eval]) (hown.alloc _) (hnx.alloc hbz _) (by simp; omega) (by omega) ?_)
            intro v' w1 hown' hnx' hbz' _
            clear hown hnx
            go_wp2_with fail
            go_roundw
            case rel => exact ⟨j + 1, by omega, by go_num, by rw [G.out], by rw [G.out]; exact hown', hnx'⟩
            case measure => simp [intOf]; omega
          | false =>
            rw [hls] at hq2
            simp only [Bool.not_false] at hq2
            clear hls hgt
            go_wp2_with (at_builtin; refine append_attr1 rfl _ _ rfl nm vl rfl (by simp [Act.eval]) (hown.alloc _) (hnx.alloc hbz _) (by simp; omega) (by omega) ?_)
            intro v' w1 hown' hnx' hbz' _
            clear hown hnx
            go_wp2_with fail
            go_roundw
            case rel => exact ⟨j + 1, by omega, by go_num, by rw [G.out], by rw [G.out]; exact hown', hnx'⟩
            case measure => simp [intOf]; omega
    · obtain rfl : j = l.length := by omega
      rw [List.take_length] at hown hfl ⊢
      have A1 : Hid (Tn.attrsD l name value = if (Tn.aFold name value l).2 then (Tn.aFold name value l).1 else (Tn.aFold name value l).1 ++ [(name, value)]) := rfl
      generalize Tn.aFold name value l = st at *
      obtain ⟨sf, dn⟩ := st
      simp only at hown hfl A1 ⊢
      obtain ⟨pp, pc, rfl⟩ := hown.shape
      cases dn with
      | true =>
        have A2 : Hid (Tn.attrsD l name value = sf) := by show _ = _; rw [A1.out]; rfl
        clear A1
        go_wp2_with fail
        go_ret2
        exact ⟨_, by rw [A2.out]; rfl, by rw [A2.out]; exact hown, hnx⟩
      | false =>
        have A2 : Hid (Tn.attrsD l name value = sf ++ [(name, value)]) := by show _ = _; rw [A1.out]; rfl
        clear A1
        go_wp2_with (at_builtin; refine append_attr1 rfl _ _ rfl name value rfl (by simp [Act.eval]) hown hnx hbz (by omega) ?_)
        intro v' w1 hown' hnx' hbz' _
        rw [← A2.out] at hown'
        obtain ⟨pp', pc', rfl⟩ := hown'.shape
        have hz : (Tn.attrsD l name value).length ≤ 100000 := by rw [A2.out]; simp; omega
        clear hown hnx
        go_wp2_with fail
        go_ret2
        exact ⟨_, rfl, hown', hnx'⟩

theorem find_take_succ (l : List Tn.At) (name : ByteArray) (k : Nat) (h : k < l.length) (hn : (l.take k).find? (fun a => Tn.eqS a.1 name) = none) :
    (l.take (k + 1)).find? (fun a => Tn.eqS a.1 name) = if Tn.eqS l[k].1 name then some l[k] else none := by
  rw [List.take_succ_eq_append_getElem h, List.find?_append, hn]
  cases hq : Tn.eqS l[k].1 name <;> simp [hq]

set_option maxHeartbeats 1600000 in
set_option maxRecDepth 100000 in
theorem rattr_any {w : World} {b o c : Nat} {rs : List Raw} {d : Tn.Dc} (hd : DocAt w b o c rs d) (n : Nat) (hn : Tn.isN d (n : Int) true = true) (name : ByteArray) :
    Calls Tryz.prog 30 #[.slice (some ⟨b, o, none⟩) rs.length c, .int .i64 (n : Int), .string name] w fun e w' =>
      e = .returned (.tuple #[.string ((Tn.attrOf (Tn.nd d n).attrs name).getD ⟨#[]⟩), .bool (Tn.attrOf (Tn.nd d n).attrs name).isSome]) ∧ Below w.heap.size w w' := by
  have H : Hid (DocAt w b o c rs d) := hd
  have L : Hid (rs.length = d.length) := hd.len
  obtain ⟨k, hkn, hk, _⟩ := isN_nat hn
  have hkn : n = k := by omega
  subst hkn
  have hk' : n < rs.length := by rw [L.out]; exact hk
  have h3 := hd.row.c3 n hk'
  have hA := (hd.nds n hk' hk).attrs
  rw [← nd_at hk] at hA
  clear hd
  obtain ⟨p, cc, he, h1, h2, _, hat⟩ := hA.at
  generalize rs[n] = r at *
  obtain ⟨lv, tg, tx, ⟨ap, an, ac⟩, up, k2, hs, s2, ins⟩ := r
  simp only at he h3
  cases he
  have AO : Hid (Tn.attrOf (Tn.nd d n).attrs name = ((Tn.nd d n).attrs.find? fun a => Tn.eqS a.1 name).map (·.2)) := rfl
  generalize Tn.attrOf (Tn.nd d n).attrs name = res at *
  generalize (Tn.nd d n).attrs = l at *
  have T : Hid (∀ j (hj : j < l.length), ∃ b o, p = some ⟨b, o, none⟩ ∧ w.cell? ⟨b, o + j * 2, none⟩ = some (.string l[j].1) ∧ w.cell? ⟨b, o + j * 2 + 1, none⟩ = some (.string l[j].2)) := hat
  clear hat hA
  go_enter Tryz.func30, Tryz.ntmps30
  go_wp2_with (go_at_call 52; refine (ris_any H.out _ _).mono ?_; rintro e w' ⟨rfl, hww⟩; subst hww; rw [hn])
  go_loopw [19] (fun i wr => ∃ j : Nat, j ≤ l.length ∧ i = .int .i64 j ∧ Hid ((l.take j).find? (fun a => Tn.eqS a.1 name) = none) ∧ Below w'.heap.size w' wr) (fun i _ => l.length - (intOf i).toNat)
  case atStart => exact ⟨0, Nat.zero_le _, rfl, by show _ = _; rfl, Below.refl _ _⟩
  case round =>
    obtain ⟨j, hj, rfl, hno, hnx⟩ := hrel
    have hbz := hnx.size
    by_cases hlt : j < l.length
    · obtain ⟨b1, o1, rfl, hc0, hc1⟩ := T.out j hlt
      have hd0 := keeps_below hnx (Nat.le_refl _) _ _ hc0
      have hd1 := keeps_below hnx (Nat.le_refl _) _ _ hc1
      have F := find_take_succ l name j hlt hno.out
      clear hc0 hc1
      cases he : Tn.eqS l[j].1 name with
      | true =>
        have hq : (l[j].1.toList == name.toList) = true := he
        have R : Hid (res = some l[j].2) := by
          show _ = _
          rw [AO.out]
          have h9 : l.find? (fun a => Tn.eqS a.1 name) = some l[j] := by
            rw [he, if_pos rfl] at F
            have h8 := List.find?_append (xs := l.take (j + 1)) (ys := l.drop (j + 1)) (p := fun a => Tn.eqS a.1 name)
            rw [List.take_append_drop, F] at h8
            rw [h8]
            rfl
          rw [h9]
          rfl
        clear F
        generalize l[j] = at1 at *
        obtain ⟨nm, vl⟩ := at1
        simp only at hd0 hd1 hq R
        go_wp2_with fail
        go_ret2
        exact ⟨by rw [R.out]; rfl, hnx.alloc hbz _⟩
      | false =>
        have hq : (l[j].1.toList == name.toList) = false := he
        rw [he, if_neg (by simp)] at F
        have FF : Hid ((l.take (j + 1)).find? (fun a => Tn.eqS a.1 name) = none) := F
        clear F
        generalize l[j] = at1 at *
        obtain ⟨nm, vl⟩ := at1
        simp only at hd0 hd1 hq
        go_wp2_with fail
        go_roundw
        case rel => exact ⟨j + 1, by omega, by go_num, FF, hnx.alloc hbz _⟩
        case measure => simp [intOf]; omega
    · obtain rfl : j = l.length := by omega
      have R : Hid (res = none) := by
        show _ = _
        rw [AO.out]
        have := hno.out
        rw [List.take_length] at this
        rw [this]
        rfl
      go_wp2_with fail
      go_ret2
      exact ⟨by rw [R.out]; rfl, hnx⟩
end Go.Proofs.YtbinbojicmhdlaeGreatDoor

/-
  THE WALKS of words.digit, letter, Name and the reference's Name.
-/
namespace Go.Proofs.YtbinbojicmhdlaeGreatDoor
open Go.RowKit
open Tn
/-- what a text made bytes leaves: a new row that holds them -/
def Row8 (B : Nat) (l : List UInt8) (w w' : World) : Prop :=
  (∀ j c, l[j]? = some c → w'.cell? ⟨B, j, none⟩ = some (.int .u8 (c.toNat : Int))) ∧ (∀ j, j < l.length → w'.frozen? ⟨B, j, none⟩ = false) ∧ Below B w w' ∧ B < w'.heap.size

theorem conv_bytes (s : ByteArray) (w : World) : ∃ cap w1, (convert 9 104 (.string s)).run Tryz.prog w = .ok (.slice (some ⟨w.heap.size, 0, none⟩) s.size cap) w1 ∧ Row8 w.heap.size s.data.toList w w1 := by
  refine ⟨_, _, run_bytes_of_string w 9 104 5 s Tryz.underlying9 Tryz.underlying104 Tryz.underlying5, ?_, ?_, ?_, ?_⟩
  · intro j c hc
    have hs : w.heap.size = w.drew.heap.size := rfl
    rw [hs, World.cell?_alloc_mark]
    unfold bytesRow
    have hj : j < s.data.toList.length := (List.getElem?_eq_some_iff.1 hc).1
    rw [Array.getElem?_append_left (by simpa using hj), Array.getElem?_map]
    rw [Array.getElem?_toList] at hc
    rw [hc]
    rfl
  · intro j hj
    have hs : w.heap.size = w.drew.heap.size := rfl
    rw [hs, World.frozen?_alloc_mark]
    have hz : j < (bytesRow s (grownCap w s.size 0 5)).size := by
      unfold bytesRow
      rw [Array.size_append, Array.size_map]
      have : s.data.toList.length = s.data.size := Array.length_toList
      omega
    rw [decide_eq_false (by omega)]
    rfl
  · exact ((Below.refl _ _).drew).alloc (Nat.le_refl _) _
  · simp

theorem byte_at (s : ByteArray) (k : Nat) (h : k < s.size) : s.data.toList[k]? = some s[k] := by
  rw [List.getElem?_eq_getElem (by rw [← Lib.size_eq]; exact h)]
  rfl

set_option maxHeartbeats 800000 in
set_option maxRecDepth 100000 in

theorem ret_bool {a b : Bool} (h : a = b) : Ending.returned (.bool a) = .returned (.bool b) := by rw [h]
theorem ret_int {k : IntKind} {a b : Int} (h : a = b) : Ending.returned (.int k a) = .returned (.int k b) := by rw [h]

set_option maxHeartbeats 400000 in
theorem digit_any (c : UInt8) (w : World) : Calls Tryz.prog 81 #[.int .u8 (c.toNat : Int)] w fun e w' => e = .returned (.bool (digitB c)) ∧ w' = w := by
  by_cases h1 : 48 ≤ c.toNat
  · by_cases h2 : c.toNat ≤ 57
    · have e : digitB c = true := by simp [digitB, h1, h2]
      rw [e]
      go_enter Tryz.func81, Tryz.ntmps81
      go_wp2
      go_ret
      exact ⟨ret_bool (by simp; omega), rfl⟩
    · have e : digitB c = false := by simp [digitB, h2]
      rw [e]
      go_enter Tryz.func81, Tryz.ntmps81
      go_wp2
      go_ret
      exact ⟨ret_bool (by simp; omega), rfl⟩
  · have e : digitB c = false := by simp [digitB, h1]
    rw [e]
    go_enter Tryz.func81, Tryz.ntmps81
    go_wp2
    go_ret
    exact ⟨rfl, rfl⟩

/-- the number that the first k bytes make -/

theorem tk_snoc (t : List UInt8) (k : Nat) (c : UInt8) (hc : t[k]? = some c) : t.take (k + 1) = t.take k ++ [c] := by
  rw [List.take_add_one, hc]
  rfl


theorem all_false {t : List UInt8} {p : UInt8 → Bool} {k : Nat} {c : UInt8} (hc : t[k]? = some c) (hp : p c = false) : t.all p = false := by
  rw [List.all_eq_false]
  exact ⟨c, List.mem_of_getElem? hc, by simp [hp]⟩
theorem all_true {t : List UInt8} {p : UInt8 → Bool} (h : ∀ c ∈ t.take t.length, p c = true) : t.all p = true := by
  rw [List.take_length] at h
  rw [List.all_eq_true]
  exact h
theorem take_step {t : List UInt8} {p : UInt8 → Bool} {k : Nat} {c : UInt8} (h : ∀ d ∈ t.take k, p d = true) (hc : t[k]? = some c) (hp : p c = true) : ∀ d ∈ t.take (k + 1), p d = true := by
  intro d hd
  rw [tk_snoc t k c hc] at hd
  rcases List.mem_append.1 hd with h' | h'
  · exact h d h'
  · rw [List.mem_singleton] at h'
    rw [h']
    exact hp

theorem letter_yes (c : UInt8) (h : letterB c = true) : 97 ≤ c.toNat ∧ c.toNat ≤ 122 := by simpa [letterB] using h
theorem letter_no (c : UInt8) (h : letterB c = false) : c.toNat < 97 ∨ 122 < c.toNat := by
  by_cases h1 : 97 ≤ c.toNat
  · by_cases h2 : c.toNat ≤ 122
    · simp [letterB, h1, h2] at h
    · omega
  · omega

set_option maxHeartbeats 800000 in
theorem name_nil : nameL [] = false := rfl
theorem name_long (l : List UInt8) (h : 20 < l.length) : nameL l = false := by
  unfold nameL
  rw [decide_eq_false (by omega)]
  simp
theorem name_head (l : List UInt8) (c : UInt8) (hc : l[0]? = some c) (h : letterB c = false) : nameL l = false := by
  cases l with
  | nil => cases hc
  | cons x r =>
    simp at hc
    subst hc
    simp [nameL, h]
theorem name_bad (l : List UInt8) (h : l.all okB = false) : nameL l = false := by
  unfold nameL
  rw [h]
  simp
theorem name_good (l : List UInt8) (c : UInt8) (hc : l[0]? = some c) (h : letterB c = true) (hl : ¬ 20 < l.length) (ha : l.all okB = true) : nameL l = true := by
  cases l with
  | nil => cases hc
  | cons x r =>
    simp at hc
    subst hc
    unfold nameL
    rw [ha, decide_eq_true (by omega)]
    simp [h]

theorem ok_45 (c : UInt8) (h : c.toNat = 45) : okB c = true := by
  have : c = 45 := UInt8.toNat_inj.1 h
  rw [this]
  decide
theorem ok_digit (c : UInt8) (h1 : 48 ≤ c.toNat) (h2 : c.toNat ≤ 57) : okB c = true := by simp [okB, digitB, h1, h2]
theorem ok_no (c : UInt8) (h : letterB c = false) (h1 : ¬ c.toNat = 45) (h2 : c.toNat < 48 ∨ 57 < c.toNat) : okB c = false := by
  have hd : digitB c = false := by
    unfold digitB
    rcases h2 with h2 | h2
    · rw [decide_eq_false (by omega)]
      rfl
    · rw [decide_eq_false (p := c.toNat ≤ 57) (by omega)]
      simp
  have hc : (c == 45) = false := beq_eq_false_iff_ne.2 (fun e => h1 (by rw [e]; rfl))
  simp [okB, h, hd, hc]

set_option maxHeartbeats 2000000 in
set_option maxRecDepth 100000 in
theorem rname_any (s : ByteArray) (w : World) (hs : s.size ≤ 4194304) : Calls Tryz.prog 94 #[.string s] w fun e w' =>
    e = .returned (.bool (nameL s.data.toList)) ∧ w' = w := by
  have HS : Hid (s.size = s.data.toList.length) := Lib.size_eq s
  go_enter Tryz.func94, Tryz.ntmps94
  go_wp2
  go_loop [8] (fun i => ∃ k : Nat, k ≤ s.size ∧ i = .int .i64 k ∧ (∀ d ∈ s.data.toList.take k, okB d = true) ∧ (0 < k → ∃ c, s.data.toList[0]? = some c ∧ letterB c = true)) (fun i => s.size - (intOf i).toNat)
  case atStart => exact ⟨0, Nat.zero_le _, rfl, fun d hd => (by cases hd), fun h => (by omega)⟩
  case round =>
    obtain ⟨k, hk, rfl, hall, hfst⟩ := hrel
    have HA : Hid ((∀ d ∈ s.data.toList.take k, okB d = true) ∧ (0 < k → ∃ c, s.data.toList[0]? = some c ∧ letterB c = true)) := ⟨hall, hfst⟩
    clear hall hfst
    by_cases hlt : k < s.size
    · have HD : Hid (s.data.toList[k]? = some s[k]) := byte_at s k hlt
      have hok : okB s[k] = (letterB s[k] || digitB s[k] || s[k] == 45) := rfl
      cases hl : letterB s[k] with
      | true =>
        obtain ⟨h97, h122⟩ := letter_yes _ hl
        have H2 : Hid (okB s[k] = true ∧ letterB s[k] = true) := ⟨by rw [hl] at hok; exact hok, hl⟩
        clear hok hl
        go_wp2
        go_round
        case rel => exact ⟨k + 1, by omega, by go_num, take_step HA.out.1 HD.out H2.out.1, fun _ => by
          cases k with
          | zero => exact ⟨_, HD.out, H2.out.2⟩
          | succ j => exact HA.out.2 (by omega)⟩
        case measure => simp [intOf]; omega
      | false =>
        have hno := letter_no _ hl
        have HL : Hid (letterB s[k] = false) := hl
        clear hok hl
        cases k with
        | zero =>
          rcases hno with h97 | h122
          · go_wp2
            go_ret
            exact ⟨ret_bool (name_head _ _ HD.out HL.out).symm, rfl⟩
          · have g97 : (97 : Int) ≤ (s[0].toNat : Int) := by omega
            go_wp2
            go_ret
            exact ⟨ret_bool (name_head _ _ HD.out HL.out).symm, rfl⟩
        | succ j =>
          have hj0 : ((j : Int) + 1 == 0) = false := beq_eq_false_iff_ne.2 (by omega)
          by_cases e45 : s[j + 1].toNat = 45
          · have H2 : Hid (okB s[j + 1] = true) := ok_45 _ e45
            clear hno
            go_wp2
            go_round
            case rel => exact ⟨j + 1 + 1, by omega, by go_num, take_step HA.out.1 HD.out H2.out, fun _ => HA.out.2 (by omega)⟩
            case measure => simp [intOf]; omega
          · by_cases hdg : 48 ≤ s[j + 1].toNat ∧ s[j + 1].toNat ≤ 57
            · obtain ⟨h48, h57⟩ := hdg
              have H2 : Hid (okB s[j + 1] = true) := ok_digit _ h48 h57
              clear hno
              go_wp2
              go_round
              case rel => exact ⟨j + 1 + 1, by omega, by go_num, take_step HA.out.1 HD.out H2.out, fun _ => HA.out.2 (by omega)⟩
              case measure => simp [intOf]; omega
            · have hd2 : s[j + 1].toNat < 48 ∨ 57 < s[j + 1].toNat := by omega
              have H2 : Hid (okB s[j + 1] = false) := ok_no _ HL.out e45 hd2
              have n45 : ((s[j + 1].toNat : Int) != 45) = true := by rw [bne_iff_ne]; omega
              clear e45 hdg
              rcases hno with h97 | h122
              · rcases hd2 with h48 | h57
                · go_wp2
                  go_ret
                  exact ⟨ret_bool (name_bad _ (all_false HD.out H2.out)).symm, rfl⟩
                · go_wp2
                  go_ret
                  exact ⟨ret_bool (name_bad _ (all_false HD.out H2.out)).symm, rfl⟩
              · have h57 : 57 < s[j + 1].toNat := by omega
                have n122 : decide ((s[j + 1].toNat : Int) ≤ 122) = false := decide_eq_false (by omega)
                clear hd2
                go_wp2
                go_ret
                exact ⟨ret_bool (name_bad _ (all_false HD.out H2.out)).symm, rfl⟩
    · obtain rfl : k = s.size := by omega
      by_cases h0 : 0 < s.size
      · obtain ⟨c, hc, hcl⟩ := HA.out.2 h0
        have ha := HA.out.1
        rw [HS.out] at ha
        by_cases h20 : s.size ≤ 20
        · have hg : nameL s.data.toList = true := name_good _ _ hc hcl (by rw [← HS.out]; omega) (all_true ha)
          have HG : Hid (nameL s.data.toList = true) := hg
          clear hg ha hc hcl
          go_wp2
          go_ret
          exact ⟨ret_bool (by rw [HG.out]; simp; omega), rfl⟩
        · have hg : nameL s.data.toList = false := name_long _ (by rw [← HS.out]; omega)
          have HG : Hid (nameL s.data.toList = false) := hg
          clear hg ha hc hcl
          go_wp2
          go_ret
          exact ⟨ret_bool (by rw [HG.out]; simp; omega), rfl⟩
      · have hl : s.data.toList = [] := List.length_eq_zero_iff.1 (by rw [← HS.out]; omega)
        have HG : Hid (nameL s.data.toList = false) := by rw [hl]; exact name_nil
        clear hl
        go_wp2
        go_ret
        exact ⟨ret_bool (by rw [HG.out]), rfl⟩



end Go.Proofs.YtbinbojicmhdlaeGreatDoor

/-
  THE WALKS of the reference's change, a kind at a time: say, shadow, attr, clear.
-/
namespace Go.Proofs.YtbinbojicmhdlaeGreatDoor
open Go.RowKit

def chv (x : Tn.Chg) : Value := .agg #[.int .i64 x.kind, .int .i64 x.node, .int .i64 x.to, .int .i64 x.before, .string x.name, .string x.value]

set_option maxHeartbeats 800000 in
theorem rno_any (e : Int) (w : World) : Calls Tryz.prog 89 #[.int .i64 e] w fun r w' => r = .returned (.tuple #[.slice none 0 0, .int .i64 0, .int .i64 e]) ∧ w' = w := by
  go_enter Tryz.func89, Tryz.ntmps89
  go_wp2_with fail
  go_ret3
  exact ⟨rfl, rfl⟩

def ChgPost (w w' : World) (e : Ending) (d : Tn.Dc) (x : Tn.Chg) (n : Nat) : Prop :=
  Below w.heap.size w w' ∧ ((Hid (Tn.chgE d x ≠ 0) ∧ ∃ dv nv, e = .returned (.tuple #[dv, nv, .int .i64 (Tn.chgE d x)])) ∨
    (Hid (Tn.chgE d x = 0) ∧ ∃ g c' rs', e = .returned (.tuple #[.slice (some ⟨g, 0, none⟩) rs'.length c', .int .i64 (Tn.chgN d x), .int .i64 0]) ∧ DocAt w' g 0 c' rs' (Tn.chgD d x) ∧ Hid (rs'.length ≤ n + 1)))


set_option maxHeartbeats 1600000 in
set_option maxRecDepth 100000 in
theorem rchange_say {w : World} {b o c : Nat} {rs : List Raw} {d : Tn.Dc} (hd : DocAt w b o c rs d) (hs : rs.length ≤ 900) (x : Tn.Chg) (k : Nat) (hn : x.node = (k : Int)) (hk : k < d.length) (hkd : x.kind = 7) (hv : x.value.size ≤ 4194304) (hnm : x.name.size ≤ 4194304) :
    Calls Tryz.prog 57 #[.slice (some ⟨b, o, none⟩) rs.length c, chv x] w fun e w' => ChgPost w w' e d x rs.length := by
  have H : Hid (DocAt w b o c rs d) := hd
  have hk' : k < rs.length := by rw [hd.len]; exact hk
  have h0 : 0 < rs.length := by omega
  have hs1 : rs.length ≤ 1000 := by omega
  have hkl : k ≤ rs.length := by omega
  have NN : Hid (NdAt w rs[k] (Tn.nd d k)) := by rw [nd_at hk]; exact hd.nds k hk' hk
  obtain ⟨xk, xn, xt, xb, xnm, xv⟩ := x
  simp only at hn hkd hv hnm
  subst hn hkd
  have K1 := keeps_alloc w (.cells #[.int .i64 7, .int .i64 (k : Int), .int .i64 xt, .int .i64 xb, .string xnm, .string xv] 53)
  have r0 := K1 _ _ (hd.row.c0 k hk')
  have r1 := K1 _ _ (hd.row.c1 k hk')
  have r2 := K1 _ _ (hd.row.c2 k hk')
  have r3 := K1 _ _ (hd.row.c3 k hk')
  have r4 := K1 _ _ (hd.row.c4 k hk')
  have r5 := K1 _ _ (hd.row.c5 k hk')
  have r6 := K1 _ _ (hd.row.c6 k hk')
  have r7 := K1 _ _ (hd.row.c7 k hk')
  have r8 := K1 _ _ (hd.row.c8 k hk')
  clear hd
  generalize rs[k] = r at *
  unfold chv
  simp only
  have htg : Hid (r.tag = (Tn.nd d k).tag) := NN.out.tag
  have B0 := (Below.refl w.heap.size w).alloc (Nat.le_refl _) (.cells #[.int .i64 7, .int .i64 (k : Int), .int .i64 xt, .int .i64 xb, .string xnm, .string xv] 53)
  cases het : r.tag.toList.isEmpty with
  | false =>
    have CE : Hid (Tn.chgE d ⟨7, k, xt, xb, xnm, xv⟩ = 8) := by
      show _ = _
      unfold Tn.chgE Tn.sayE Tn.has
      simp [← htg.out, het]
    go_enter Tryz.func57, Tryz.ntmps57
    go_wp2_with (go_at_call 89; refine (rno_any _ _).mono ?_; rintro e w' ⟨rfl, hww⟩; subst hww)
    go_ret3
    exact ⟨B0.alloc (by simp) _, Or.inl ⟨by show _ ≠ _; rw [CE.out]; decide, _, _, by rw [CE.out]; rfl⟩⟩
  | true =>
    by_cases h60 : 60 < xv.size
    · have CE : Hid (Tn.chgE d ⟨7, k, xt, xb, xnm, xv⟩ = 8) := by
        show _ = _
        unfold Tn.chgE Tn.sayE Tn.has
        simp [h60]
      go_enter Tryz.func57, Tryz.ntmps57
      go_wp2_with (go_at_call 89; refine (rno_any _ _).mono ?_; rintro e w' ⟨rfl, hww⟩; subst hww)
      go_ret3
      exact ⟨B0.alloc (by simp) _, Or.inl ⟨by show _ ≠ _; rw [CE.out]; decide, _, _, by rw [CE.out]; rfl⟩⟩
    · have CE : Hid (Tn.chgE d ⟨7, k, xt, xb, xnm, xv⟩ = 0) := by
        show _ = _
        unfold Tn.chgE Tn.sayE Tn.has
        simp [← htg.out, het]
        omega
      have CD : Hid (Tn.chgD d ⟨7, k, xt, xb, xnm, xv⟩ = Tn.withd d k { Tn.nd d k with text := xv }) := rfl
      have CN : Hid (Tn.chgN d ⟨7, k, xt, xb, xnm, xv⟩ = (k : Int)) := rfl
      go_enter Tryz.func57, Tryz.ntmps57
      go_wp2_with fail
      have KW : Keeps w ((w.alloc (.cells #[.int .i64 7, .int .i64 (k : Int), .int .i64 xt, .int .i64 xb, .string xnm, .string xv] 53)).alloc (.cells #[.bool r.live, .string r.tag, .string xv, .slice r.a.p r.a.n r.a.c, .int .i64 r.up, .slice r.k.p r.k.n r.k.c, .bool r.hasS, .slice r.s.p r.s.n r.s.c, .bool r.inS] 46)) := keeps_alloc' _ K1
      have BW : Below w.heap.size w ((w.alloc (.cells #[.int .i64 7, .int .i64 (k : Int), .int .i64 xt, .int .i64 xb, .string xnm, .string xv] 53)).alloc (.cells #[.bool r.live, .string r.tag, .string xv, .slice r.a.p r.a.n r.a.c, .int .i64 r.up, .slice r.k.p r.k.n r.k.c, .bool r.hasS, .slice r.s.p r.s.n r.s.c, .bool r.inS] 46)) := B0.alloc (by simp) _
      have qn : ((w.alloc (.cells #[.int .i64 7, .int .i64 (k : Int), .int .i64 xt, .int .i64 xb, .string xnm, .string xv] 53)).alloc (.cells #[.bool r.live, .string r.tag, .string xv, .slice r.a.p r.a.n r.a.c, .int .i64 r.up, .slice r.k.p r.k.n r.k.c, .bool r.hasS, .slice r.s.p r.s.n r.s.c, .bool r.inS] 46)).cell? ⟨w.heap.size, 1, none⟩ = some (.int .i64 (k : Int)) := by rw [World.cell?_alloc2_first]; rfl
      have hr9 : NdAt ((w.alloc (.cells #[.int .i64 7, .int .i64 (k : Int), .int .i64 xt, .int .i64 xb, .string xnm, .string xv] 53)).alloc (.cells #[.bool r.live, .string r.tag, .string xv, .slice r.a.p r.a.n r.a.c, .int .i64 r.up, .slice r.k.p r.k.n r.k.c, .bool r.hasS, .slice r.s.p r.s.n r.s.c, .bool r.inS] 46)).drew { r with text := xv } { Tn.nd d k with text := xv } := ⟨NN.out.live, NN.out.tag, rfl, NN.out.up, NN.out.hasS, NN.out.inS, NN.out.attrs.keeps (keeps_drew KW), NN.out.kids.keeps (keeps_drew KW), NN.out.shadow.keeps (keeps_drew KW)⟩
      go_region_with (go_at_call 93; refine (rwith_doc (r := { r with text := xv }) (H.out.keeps (keeps_drew KW)) hs1 h0 hr9 k hkl).mono ?_; rintro e w9 ⟨g9, c9, rs9, rfl, hd9, hb9, hrs9⟩; have qn9 := keeps_below hb9 (Nat.le_refl _) _ _ (keeps_drew (Keeps.refl _) _ _ qn))
      all_goals
        go_wp2_with fail
        go_ret3
        exact ⟨BW.trans ((Below.refl _ _).drew.trans (hb9.mono (by have := BW.size; exact this))), Or.inr ⟨CE, g9, c9, rs9, by rw [CN.out]; rfl, by rw [CD.out]; exact hd9, by show _ ≤ _; rw [hrs9.out, withR_len]; split <;> omega⟩⟩
end Go.Proofs.YtbinbojicmhdlaeGreatDoor

/-
  THE WALK of the reference's Take, once more: what it answers lies in no block that there was, but for what there was.
-/
namespace Go.Proofs.YtbinbojicmhdlaeGreatDoor
open Go.RowKit

def SlOff (g0 : Nat) (s : Sl) : Prop := ∀ ad, s.p = some ad → s.n ≠ 0 → ad.block ≠ g0
def RawOff (g0 : Nat) (r : Raw) : Prop := SlOff g0 r.a ∧ SlOff g0 r.k ∧ SlOff g0 r.s
def DocOff (g0 b : Nat) (rs : List Raw) : Prop := b ≠ g0 ∧ ∀ r ∈ rs, RawOff g0 r

theorem cells_off {w : World} {p : Option Addr} {n c j : Nat} {xs : List Value} {g0 : Nat} {u : Value} (h : CellsAt w (.slice p n c) n xs) (ho : SlOff g0 ⟨p, n, c⟩) (hx : n = 0 → xs = []) : CellsAt (w.setCell ⟨g0, j, none⟩ u) (.slice p n c) n xs := by
  obtain ⟨p', c', e, h1, h2, h3, h4⟩ := h
  cases e
  refine ⟨p, c, rfl, h1, h2, h3, fun i x hi => ?_⟩
  obtain ⟨b, o, e1, e2⟩ := h4 i x hi
  refine ⟨b, o, e1, ?_⟩
  rw [World.cell?_setCell_other _ _ _ _ ?_]
  · exact e2
  · intro hh
    have hn : n ≠ 0 := by
      intro hn
      rw [hx hn] at hi
      simp at hi
    have := ho _ e1 hn
    cases hh
    exact this rfl

theorem al_of {w : World} {p : Option Addr} {n c : Nat} {l : List Tn.At} (h : AttrsAt w (.slice p n c) l) : n = l.length := by
  obtain ⟨_, _, e, _⟩ := h
  cases e
  rfl

theorem nd_off {w : World} {r : Raw} {n : Tn.Nd} {g0 j : Nat} {u : Value} (h : NdAt w r n) (ho : RawOff g0 r) : NdAt (w.setCell ⟨g0, j, none⟩ u) r n := by
  have e1 : r.a.n = n.attrs.length := al_of h.attrs
  have e2 : r.k.n = n.kids.length := hl_of h.kids
  have e3 : r.s.n = n.shadow.length := hl_of h.shadow
  refine ⟨h.live, h.tag, h.text, h.up, h.hasS, h.inS, ?_, ?_, ?_⟩
  · have h9 := h.attrs
    unfold AttrsAt at h9 ⊢
    rw [← e1] at h9 ⊢
    exact cells_off h9 ho.1 (fun hz => by rw [hz] at e1; have : n.attrs = [] := List.length_eq_zero_iff.mp e1.symm; rw [this]; rfl)
  · have h9 := h.kids
    unfold IntsAt at h9 ⊢
    rw [← e2] at h9 ⊢
    exact cells_off h9 ho.2.1 (fun hz => by rw [hz] at e2; have : n.kids = [] := List.length_eq_zero_iff.mp e2.symm; rw [this]; rfl)
  · have h9 := h.shadow
    unfold IntsAt at h9 ⊢
    rw [← e3] at h9 ⊢
    exact cells_off h9 ho.2.2 (fun hz => by rw [hz] at e3; have : n.shadow = [] := List.length_eq_zero_iff.mp e3.symm; rw [this]; rfl)

theorem doc_off {w : World} {b o c : Nat} {rs : List Raw} {d : Tn.Dc} {g0 j : Nat} {u : Value} (h : DocAt w b o c rs d) (ho : DocOff g0 b rs) : DocAt (w.setCell ⟨g0, j, none⟩ u) b o c rs d := by
  have e : ∀ x v, w.cell? ⟨b, x, none⟩ = some v → (w.setCell ⟨g0, j, none⟩ u).cell? ⟨b, x, none⟩ = some v := by
    intro x v hx
    rw [World.cell?_setCell_other _ _ _ _ (by intro hh; cases hh; exact ho.1 rfl)]
    exact hx
  exact ⟨h.cap, h.capM, h.len, ⟨fun i hi => e _ _ (h.row.c0 i hi), fun i hi => e _ _ (h.row.c1 i hi), fun i hi => e _ _ (h.row.c2 i hi), fun i hi => e _ _ (h.row.c3 i hi), fun i hi => e _ _ (h.row.c4 i hi),
    fun i hi => e _ _ (h.row.c5 i hi), fun i hi => e _ _ (h.row.c6 i hi), fun i hi => e _ _ (h.row.c7 i hi), fun i hi => e _ _ (h.row.c8 i hi)⟩, fun i hi hi' => nd_off (h.nds i hi hi') (ho.2 _ (List.getElem_mem _))⟩

theorem sl_old {w : World} {p : Option Addr} {n c : Nat} {xs : List Value} {g0 : Nat} (h : CellsAt w (.slice p n c) n xs) (hl : n ≠ 0 → xs ≠ []) (hg : w.heap.size ≤ g0) : SlOff g0 ⟨p, n, c⟩ := by
  intro ad e hn hb
  obtain ⟨p', c', e', h1, h2, h3, h4⟩ := h
  cases e'
  simp only at e
  cases hx : xs with
  | nil => exact hl hn hx
  | cons x t =>
    obtain ⟨b, o, e1, e2⟩ := h4 0 x (by rw [hx]; rfl)
    rw [e] at e1
    cases e1
    have := lt_of_cell e2
    simp only at this hb
    omega
theorem nd_old {w : World} {r : Raw} {n : Tn.Nd} {g0 : Nat} (h : NdAt w r n) (hg : w.heap.size ≤ g0) : RawOff g0 r := by
  have e1 : r.a.n = n.attrs.length := al_of h.attrs
  have e2 : r.k.n = n.kids.length := hl_of h.kids
  have e3 : r.s.n = n.shadow.length := hl_of h.shadow
  refine ⟨?_, ?_, ?_⟩
  · have h9 := h.attrs
    unfold AttrsAt at h9
    rw [← e1] at h9
    refine sl_old h9 (fun hn hx => ?_) hg
    cases ha : n.attrs with
    | nil => rw [ha] at e1; exact hn e1
    | cons a t => rw [ha] at hx; simp [av] at hx
  · have h9 := h.kids
    unfold IntsAt at h9
    rw [← e2] at h9
    refine sl_old h9 (fun hn hx => ?_) hg
    cases ha : n.kids with
    | nil => rw [ha] at e2; exact hn e2
    | cons a t => rw [ha] at hx; simp at hx
  · have h9 := h.shadow
    unfold IntsAt at h9
    rw [← e3] at h9
    refine sl_old h9 (fun hn hx => ?_) hg
    cases ha : n.shadow with
    | nil => rw [ha] at e3; exact hn e3
    | cons a t => rw [ha] at hx; simp at hx
theorem doc_old {w : World} {b o c : Nat} {rs : List Raw} {d : Tn.Dc} {g0 : Nat} (h : DocAt w b o c rs d) (h0 : 0 < rs.length) (hg : w.heap.size ≤ g0) : DocOff g0 b rs := by
  refine ⟨?_, ?_⟩
  · intro e
    have := lt_of_cell (h.row.c0 0 h0)
    simp only at this
    omega
  · intro r hr
    obtain ⟨i, hi, rfl⟩ := List.mem_iff_getElem.mp hr
    exact nd_old (h.nds i hi (by rw [← h.len]; exact hi)) hg
theorem OwnI.off {w : World} {B : Nat} {p : Option Addr} {n c : Nat} {l : List Nat} (h : OwnI w B (.slice p n c) l) : ∀ ad, p = some ad → B ≤ ad.block := by
  intro ad e
  obtain ⟨_, hz⟩ := h
  rcases hz with ⟨h5, _⟩ | ⟨g, cap, cur, e', h3, _⟩
  · cases h5; cases e
  · cases e'; cases e; exact h3
theorem with_off {g0 b g : Nat} {rs : List Raw} {r : Raw} {k : Nat} (hg : g ≠ g0) (hd : DocOff g0 b rs) (hr : RawOff g0 r) : DocOff g0 g (withR rs k r) := by
  refine ⟨hg, fun x hx => ?_⟩
  unfold withR at hx
  split at hx
  · rw [List.mem_append] at hx
    rcases hx with hx | hx
    · exact hd.2 x hx
    · simp at hx; subst hx; exact hr
  · rcases List.mem_or_eq_of_mem_set hx with hx | hx
    · exact hd.2 x hx
    · subst hx; exact hr

theorem rwith_doc2 {w : World} {b o c : Nat} {rs : List Raw} {d : Tn.Dc} (hd : DocAt w b o c rs d) (hs : rs.length ≤ 1000) (h0 : 0 < rs.length) {r : Raw} {n : Tn.Nd} (hr : NdAt w r n) (k : Nat) (hk : k ≤ rs.length) :
    Calls Tryz.prog 93 #[.slice (some ⟨b, o, none⟩) rs.length c, .int .i64 (k : Int), r.agg] w fun e w' =>
      ∃ g c' rs', e = .returned (.slice (some ⟨g, 0, none⟩) rs'.length c') ∧ DocAt w' g 0 c' rs' (Tn.withd d k n) ∧ Below w.heap.size w w' ∧ Hid (rs' = withR rs k r ∧ w.heap.size ≤ g) := by
  refine (rwith_row (c := c) hd.row hs h0 r k hk).mono ?_
  rintro e w' ⟨v, rfl, hown, hb⟩
  have hlen : 0 < (withR rs k r).length := by rw [withR_len]; split <;> omega
  obtain ⟨g, c', rfl, h1, h2, h3, h4⟩ := row_of_owns hown hlen
  have hn := nds_with hd.len hd.nds hr k
  exact ⟨g, c', _, rfl, ⟨h1, h2, hn.1, h4, fun i hi hi' => (hn.2 i hi hi').keeps (keeps_below hb (Nat.le_refl _))⟩, hb, rfl, h3⟩

set_option maxHeartbeats 1600000 in
set_option maxRecDepth 100000 in
theorem rtake_doc2 {w : World} {b o c : Nat} {rs : List Raw} {d : Tn.Dc} (hd : DocAt w b o c rs d) (hs : rs.length ≤ 1000) (k u : Nat) (hk : k < d.length) (hu : (Tn.nd d k).up = (u : Int)) (hud : u < d.length)
    (hkl : (Tn.nd d u).kids.length ≤ 1000) (hsl : (Tn.nd d u).shadow.length ≤ 1000) :
    Calls Tryz.prog 91 #[.slice (some ⟨b, o, none⟩) rs.length c, .int .i64 (k : Int)] w fun e w' =>
      ∃ g c' rs', e = .returned (.slice (some ⟨g, 0, none⟩) rs'.length c') ∧ DocAt w' g 0 c' rs' (Tn.takeD d k) ∧ Below w.heap.size w w' ∧ Hid (rs'.length = rs.length) ∧ Hid (∀ g0, g0 < w.heap.size → DocOff g0 b rs → DocOff g0 g rs') := by
  have H : Hid (DocAt w b o c rs d) := hd
  have L : Hid (rs.length = d.length) := hd.len
  have hk' : k < rs.length := by rw [L.out]; exact hk
  have hu' : u < rs.length := by rw [L.out]; exact hud
  have h4 : w.cell? ⟨b, o + k * 9 + 4, none⟩ = some (.int .i64 (u : Int)) := by
    rw [hd.row.c4 k hk', (hd.nds k hk' hk).up, ← nd_at hk, hu]
  have r0 := hd.row.c0 u hu'
  have r1 := hd.row.c1 u hu'
  have r2 := hd.row.c2 u hu'
  have r3 := hd.row.c3 u hu'
  have r4 := hd.row.c4 u hu'
  have r5 := hd.row.c5 u hu'
  have r6 := hd.row.c6 u hu'
  have r7 := hd.row.c7 u hu'
  have r8 := hd.row.c8 u hu'
  have hN := hd.nds u hu' hud
  have E : Hid (Tn.takeD d k = Tn.withd d u { Tn.nd d u with kids := Tn.without (Tn.nd d u).kids k, shadow := Tn.without (Tn.nd d u).shadow k }) := by
    show _ = _
    unfold Tn.takeD
    rw [hu, Int.toNat_natCast]
  rw [← nd_at hud] at hN
  clear hd
  have RO : Hid (∀ g0, DocOff g0 b rs → SlOff g0 rs[u].a) := fun g0 h => (h.2 _ (List.getElem_mem _)).1
  generalize rs[u] = r at *
  have NN : Hid (NdAt w r (Tn.nd d u)) := hN
  clear hN
  clear hu
  go_enter Tryz.func91, Tryz.ntmps91
  go_wp2_with fail
  have bx := box_new w r 46
  have bf := box_frozen w #[.bool r.live, .string r.tag, .string r.text, .slice r.a.p r.a.n r.a.c, .int .i64 r.up, .slice r.k.p r.k.n r.k.c, .bool r.hasS, .slice r.s.p r.s.n r.s.c, .bool r.inS] 46
  have hsz : (w.alloc (.cells #[.bool r.live, .string r.tag, .string r.text, .slice r.a.p r.a.n r.a.c, .int .i64 r.up, .slice r.k.p r.k.n r.k.c, .bool r.hasS, .slice r.s.p r.s.n r.s.c, .bool r.inS] 46)).heap.size = w.heap.size + 1 := by simp
  have K1 := keeps_alloc w (.cells #[.bool r.live, .string r.tag, .string r.text, .slice r.a.p r.a.n r.a.c, .int .i64 r.up, .slice r.k.p r.k.n r.k.c, .bool r.hasS, .slice r.s.p r.s.n r.s.c, .bool r.inS] 46)
  have B1 := (Below.refl w.heap.size w).alloc (Nat.le_refl _) (.cells #[.bool r.live, .string r.tag, .string r.text, .slice r.a.p r.a.n r.a.c, .int .i64 r.up, .slice r.k.p r.k.n r.k.c, .bool r.hasS, .slice r.s.p r.s.n r.s.c, .bool r.inS] 46)
  generalize w.alloc (.cells #[.bool r.live, .string r.tag, .string r.text, .slice r.a.p r.a.n r.a.c, .int .i64 r.up, .slice r.k.p r.k.n r.k.c, .bool r.hasS, .slice r.s.p r.s.n r.s.c, .bool r.inS] 46) = w1 at *
  have b5 := bx.c5
  have b7 := bx.c7
  have H4 : Hid (w.cell? ⟨b, o + k * 9 + 4, none⟩ = some (.int .i64 (u : Int))) := h4
  clear h4 r0 r1 r2 r3 r4 r5 r6 r7 r8
  go_region_with (first
    | (go_at_call_of 130 r.k.n; refine (rwithout_own (l := (Tn.nd d u).kids) ?_ hkl k).mono ?_; exact NN.out.kids.keeps (K1.trans (by first | exact KS | exact keeps_drew KS))
       rintro e w3 ⟨vk, rfl, hownk, hbk⟩; obtain ⟨kp, kc, rfl⟩ := hownk.shape; have kpo : Hid (∀ ad, kp = some ad → w.heap.size ≤ ad.block) := fun ad e => Nat.le_trans (by first | exact Nat.le_trans B1.size (Nat.le_refl _) | exact Nat.le_trans B1.size BS.size) (hownk.off ad e)
       have KK : Keeps w2 w3 := by first | exact keeps_below hbk (Nat.le_refl _) | exact (keeps_drew (Keeps.refl _)).trans (keeps_below hbk (Nat.le_refl _))
       have BK : Below w2.heap.size w2 w3 := by first | exact hbk | exact ((Below.refl _ w2).drew).trans hbk
       have d5 := (bx2.keeps KK).c5
       have d7 := (bx2.keeps KK).c7
       have bf3 := below_frozen BK (Nat.lt_of_lt_of_le (by omega) BS.size) bf2)
    | (go_at_call_of 130 r.s.n; refine (rwithout_own (l := (Tn.nd d u).shadow) ?_ hsl k).mono ?_; exact NN.out.shadow.keeps (K1.trans (by first | exact KK | exact keeps_drew KK))
       rintro e w3 ⟨vs, rfl, howns, hbs⟩; obtain ⟨sp, sc, rfl⟩ := howns.shape; have spo : Hid (∀ ad, sp = some ad → w.heap.size ≤ ad.block) := fun ad e => Nat.le_trans (by first | exact Nat.le_trans B1.size (Nat.le_refl _) | exact Nat.le_trans B1.size BK.size) (howns.off ad e)
       have KS : Keeps w2 w3 := by first | exact keeps_below hbs (Nat.le_refl _) | exact (keeps_drew (Keeps.refl _)).trans (keeps_below hbs (Nat.le_refl _))
       have BS : Below w2.heap.size w2 w3 := by first | exact hbs | exact ((Below.refl _ w2).drew).trans hbs
       have d5 := (bx2.keeps KS).c5
       have d7 := (bx2.keeps KS).c7
       have bf3 := below_frozen BS (Nat.lt_of_lt_of_le (by omega) BK.size) bf2)
    | (go_at_call_of 130 r.k.n; refine (rwithout_own (l := (Tn.nd d u).kids) ?_ hkl k).mono ?_; exact NN.out.kids.keeps (by first | exact K1 | exact keeps_drew K1)
       rintro e w2 ⟨vk, rfl, hownk, hbk⟩; obtain ⟨kp, kc, rfl⟩ := hownk.shape; have kpo : Hid (∀ ad, kp = some ad → w.heap.size ≤ ad.block) := fun ad e => Nat.le_trans (by first | exact Nat.le_trans B1.size (Nat.le_refl _) | exact Nat.le_trans B1.size BS.size) (hownk.off ad e)
       have KK : Keeps w1 w2 := by first | exact keeps_below hbk (Nat.le_refl _) | exact (keeps_drew (Keeps.refl _)).trans (keeps_below hbk (Nat.le_refl _))
       have BK : Below w1.heap.size w1 w2 := by first | exact hbk | exact ((Below.refl _ w1).drew).trans hbk
       have bx2 := bx.keeps KK
       have c5 := bx2.c5
       have c7 := bx2.c7
       have bf2 := below_frozen BK (by omega) bf)
    | (go_at_call_of 130 r.s.n; refine (rwithout_own (l := (Tn.nd d u).shadow) ?_ hsl k).mono ?_; exact NN.out.shadow.keeps (by first | exact K1 | exact keeps_drew K1)
       rintro e w2 ⟨vs, rfl, howns, hbs⟩; obtain ⟨sp, sc, rfl⟩ := howns.shape; have spo : Hid (∀ ad, sp = some ad → w.heap.size ≤ ad.block) := fun ad e => Nat.le_trans (by first | exact Nat.le_trans B1.size (Nat.le_refl _) | exact Nat.le_trans B1.size BK.size) (howns.off ad e)
       have KS : Keeps w1 w2 := by first | exact keeps_below hbs (Nat.le_refl _) | exact (keeps_drew (Keeps.refl _)).trans (keeps_below hbs (Nat.le_refl _))
       have BS : Below w1.heap.size w1 w2 := by first | exact hbs | exact ((Below.refl _ w1).drew).trans hbs
       have bx2 := bx.keeps KS
       have c5 := bx2.c5
       have c7 := bx2.c7
       have bf2 := below_frozen BS (by omega) bf))
  all_goals first
    | have M := take_mid NN.out (bx2.keeps KS) (K1.trans (KK.trans KS)) ((B1.trans (BK.mono (by omega))).trans (BS.mono (by have := BK.size; omega))) ((ints_of_owns hownk).keeps KS) (ints_of_owns howns)
    | have M := take_mid NN.out (bx2.keeps KK) (K1.trans (KS.trans KK)) ((B1.trans (BS.mono (by omega))).trans (BK.mono (by have := BS.size; omega))) (ints_of_owns hownk) ((ints_of_owns howns).keeps KK)
  all_goals
    generalize hWe : (w3.setCell _ _).setCell _ _ = W at M ⊢
    clear hWe hownk howns hbk hbs KK KS BK BS bx2 c5 c7 bf2 d5 d7 bf3 b5 b7 bx bf K1 B1 hsz
    clear w2 w3 w1
    generalize (Tn.without (Tn.nd d u).kids k).length = kn at *
    generalize (Tn.without (Tn.nd d u).shadow k).length = sn at *
    have h4 := M.keeps _ _ H4.out
    obtain ⟨m0, m1, m2, m3, m4, m5, m6, m7, m8⟩ := M.box
    have hle : u ≤ rs.length := by omega
    have h0 : 0 < rs.length := by omega
    have hbz := M.below.size
    go_wp2_with fail
    go_region_with (go_at_call 93; refine (rwith_doc2 (w := W.drew) (H.out.keeps (keeps_drew M.keeps)) hs h0 (M.nd.keeps (keeps_drew (Keeps.refl W))) u hle).mono ?_; rintro e w9 ⟨g9, c9, rs9, rfl, hd9, hb9, hrs9⟩)
    all_goals
      go_wp2_with fail
      go_ret
      refine ⟨_, _, _, rfl, by rw [E.out]; exact hd9, M.below.trans (((Below.refl _ W).drew).trans (hb9.mono (by exact hbz))), ?_, ?_⟩
      · show _ = _
        rw [hrs9.out.1, withR_len, if_neg (by omega)]
      · intro g0 hg0 hoff
        have h9 := hrs9.out.2
        rw [hrs9.out.1]
        refine with_off (Nat.ne_of_gt (Nat.lt_of_lt_of_le (Nat.lt_of_lt_of_le hg0 hbz) h9)) hoff ⟨?_, ?_, ?_⟩
        · exact RO.out g0 hoff
        · intro ad e _ hb0
          have := kpo.out ad e
          omega
        · intro ad e _ hb0
          have := spo.out ad e
          omega
end Go.Proofs.YtbinbojicmhdlaeGreatDoor
