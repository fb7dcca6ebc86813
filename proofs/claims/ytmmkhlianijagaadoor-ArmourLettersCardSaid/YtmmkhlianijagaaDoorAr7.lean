/-
  armour: the contracts of Get, PutShare and GetShare.
-/
import Derived.Test.YtmmkhlianijagaaDoorAr4
import Derived.Test.YtmmkhlianijagaaDoorAr6
namespace Go.Proofs.YtmmkhlianijagaaDoor
open Go.RowKit Go.Kx Go.Shelf Go.Arm
set_option maxRecDepth 20000

/-- The variable that strings.Index may read holds a number. -/
def MaxCell (w : World) : Prop := ∃ m : Int, w.cell? ⟨0, 0, none⟩ = some (.int .i64 m)
theorem MaxCell.keep {w w' : World} (h : MaxCell w) (hb : Below w.heap.size w w') : MaxCell w' := by
  obtain ⟨m, hm⟩ := h
  exact ⟨m, (hb.cell (p := ⟨0, 0, none⟩) (block_lt_of_cell hm)).trans hm⟩
theorem replace_any (s p : ByteArray) (hz : s.size ≤ 1000000) (hp : ⟨(plainL s.data.toList).toArray⟩ = p) (w : World) (hM : MaxCell w) :
    Calls Tryd.prog 27 #[.string s, .string ⟨#[45]⟩, .string ⟨#[]⟩] w fun e w' => e = .returned (.string p) ∧ Below w.heap.size w w' := by
  obtain ⟨m, hm⟩ := hM
  have h := Tryd.strings_ReplaceAll s ⟨#[45]⟩ ⟨#[]⟩ m w (by omega) hm (by decide) (by show s.size + _ * 0 ≤ _; omega)
  rw [show (ByteArray.mk #[45]).data.toList = [45] from rfl, show (ByteArray.mk #[]).data.toList = [] from rfl, replace_plain, hp] at h
  exact h
/-- What a call of Put, of Get answers. -/
def aputR (l : List UInt8) : List UInt8 × Int := if l.length ≤ 200 then (putL sum3 l, 0) else ([], 2)
def getR (l : List UInt8) : List UInt8 × Int :=
  match getL sum3 l with
  | some v => (v, 0)
  | none => ([], 100)
theorem aput_any (s r : ByteArray) (c : Int) (h : aputR s.data.toList = (r.data.toList, c)) (w : World) (hK : Consts w) :
    Calls Tryd.prog 11 #[.string s] w fun e w' => e = .returned (.tuple #[.string r, .int .i64 c]) ∧ Below w.heap.size w w' := by
  unfold aputR at h
  have hl : s.data.toList.length = s.size := by simp
  rw [hl] at h
  by_cases h2 : s.size ≤ 200
  · rw [if_pos h2] at h
    obtain ⟨h3, rfl⟩ : putL sum3 s.data.toList = r.data.toList ∧ (0 : Int) = c := by simpa using h
    exact put_yes s h2 r (ByteArray.ext (by rw [h3])) w hK
  · rw [if_neg h2] at h
    obtain ⟨h3, rfl⟩ : [] = r.data.toList ∧ (2 : Int) = c := by simpa using h
    obtain rfl : r = ⟨#[]⟩ := ByteArray.ext (Array.toList_inj.1 h3.symm)
    exact put_no s (by omega) w
theorem getR_no {l : List UInt8} {r : ByteArray} {c : Int} (h : getR l = (r.data.toList, c)) (hn : getL sum3 l = none) : r = ⟨#[]⟩ ∧ c = 100 := by
  unfold getR at h
  rw [hn] at h
  obtain ⟨h1, h2⟩ : [] = r.data.toList ∧ (100 : Int) = c := by simpa using h
  exact ⟨ByteArray.ext (Array.toList_inj.1 h1.symm), h2.symm⟩
theorem getR_yes {l v : List UInt8} {r : ByteArray} {c : Int} (h : getR l = (r.data.toList, c)) (hn : getL sum3 l = some v) : r = ⟨v.toArray⟩ ∧ c = 0 := by
  unfold getR at h
  rw [hn] at h
  obtain ⟨h1, h2⟩ : v = r.data.toList ∧ (0 : Int) = c := by simpa using h
  exact ⟨ByteArray.ext (by rw [h1]), h2.symm⟩
set_option maxHeartbeats 1000000 in
theorem get_any (s : ByteArray) (hz : s.size ≤ 10000) (r : ByteArray) (c : Int) (h : getR s.data.toList = (r.data.toList, c)) (w : World) (hK : Consts w) (hM : MaxCell w) :
    Calls Tryd.prog 12 #[.string s] w fun e w' => e = .returned (.tuple #[.string r, .int .i64 c]) ∧ Below w.heap.size w w' := by
  obtain ⟨p, hp⟩ : ∃ p : ByteArray, ⟨(plainL s.data.toList).toArray⟩ = p := ⟨_, rfl⟩
  have hpl : p.data.toList = plainL s.data.toList := by rw [← hp]
  have hpz : p.size ≤ s.size := by
    rw [← hp, size_mk]
    have h1 := List.length_filter_le (· != 45) s.data.toList
    have h2 : s.data.toList.length = s.size := by simp
    show (s.data.toList.filter (· != 45)).length ≤ s.size
    omega
  have HRE := replace_any s p (by omega) hp w hM
  have H := Lib.hid h
  clear h hp hM
  go_enter Tryd.func12, Tryd.ntmps12
  go_wp2_with fail
  refine HRE.mono ?_
  rintro e w1 ⟨rfl, hb1⟩
  replace hK := hK.keep hb1
  clear HRE
  cases hA : bytesA p.data.toList with
  | none =>
    have hno : getL sum3 s.data.toList = none := by unfold getL; rw [← hpl, hA]
    obtain ⟨rfl, rfl⟩ := getR_no H.out hno
    have hby := abytes_any p (by omega) ⟨#[]⟩ 100 (by unfold bytR; rw [hA]) w1
    clear hA hpl hpz hno
    go_wp2_with fail
    refine hby.mono ?_
    rintro e w2 ⟨rfl, hb2⟩
    go_wp2
    go_ret2
    exact ⟨rfl, hb1.next hb2⟩
  | some b =>
    obtain ⟨q, hq⟩ : ∃ q : ByteArray, ⟨b.toArray⟩ = q := ⟨_, rfl⟩
    have hql : q.data.toList = b := by rw [← hq]
    have hqz : q.size = b.length := by rw [← hq, size_mk]
    have hqb : q.size ≤ 10000 := by
      have h1 := congrArg List.length (bytesA_some.1 hA)
      rw [letL_length] at h1
      have h2 : p.data.toList.length = p.size := by simp
      unfold lenN at h1
      omega
    have hby := abytes_any p (by omega) q 0 (by unfold bytR; rw [hA, hql]) w1
    go_wp2_with fail
    refine hby.mono ?_
    rintro e w2 ⟨rfl, hb2⟩
    replace hK := hK.keep hb2
    have hbw := hb1.next hb2
    clear hby hb1 hb2
    have hg0 : getL sum3 s.data.toList = if 3 ≤ b.length ∧ b.length ≤ 203 ∧ putL sum3 (b.take (b.length - 3)) = s.data.toList then some (b.take (b.length - 3)) else none := by unfold getL; rw [← hpl, hA]
    clear hA hpl hpz
    by_cases h3 : q.size < 3
    · obtain ⟨rfl, rfl⟩ := getR_no H.out (by rw [hg0, if_neg (by omega)])
      clear hg0 hq hql hqz
      go_wp2
      go_ret2
      exact ⟨rfl, hbw⟩
    · obtain ⟨u, hu⟩ : ∃ u : ByteArray, q.extract 0 (q.size - 3) = u := ⟨_, rfl⟩
      have hul : u.data.toList = b.take (b.length - 3) := by rw [← hu, str_ext, hql, hqz, Nat.sub_zero, List.drop_zero]
      have hsl : ∀ V : World, (Instr.slice 9 (.string q) none (some (.int .i64 ((q.size : Int) - 3))) none).run Tryd.prog V = .ok (.string u) V := fun V => by
        rw [← hu, show (q.size : Int) - 3 = ((q.size - 3 : Nat) : Int) by omega]
        exact str_to Tryd.underlying9 q (q.size - 3) (by omega) V
      have hulen : u.size = q.size - 3 := by
        have := congrArg List.length hul
        rw [List.length_take] at this
        have h5 : u.data.toList.length = u.size := by simp
        omega
      obtain ⟨t, ht⟩ : ∃ t : ByteArray × Int, aputR u.data.toList = (t.1.data.toList, t.2) := ⟨(⟨(aputR u.data.toList).1.toArray⟩, (aputR u.data.toList).2), rfl⟩
      obtain ⟨t, k⟩ := t
      have HP := aput_any u t k ht w2 hK
      have HQZ := Lib.hid hqz
      have HUL := Lib.hid hul
      have HULEN := Lib.hid hulen
      clear hu hq hqz hql hul hulen
      go_wp2_with fail
      refine HP.mono ?_
      rintro e w3 ⟨rfl, hb3⟩
      have hbw3 := hbw.next' hb3
      have hqz := HQZ.out
      have hul := HUL.out
      have hulen := HULEN.out
      clear HP hsl hbw hb3 HQZ HUL HULEN
      unfold aputR at ht
      by_cases h200 : q.size ≤ 203
      · rw [if_pos (by have h5 : u.data.toList.length = u.size := by simp
                       omega)] at ht
        obtain ⟨ht1, rfl⟩ : putL sum3 u.data.toList = t.data.toList ∧ (0 : Int) = k := by simpa using ht
        by_cases he : t = s
        · subst he
          obtain ⟨hr, rfl⟩ := getR_yes H.out (by rw [hg0, if_pos ⟨by omega, by omega, by rw [← hul]; exact ht1⟩])
          have hru : u = r := by rw [hr]; exact ByteArray.ext (by rw [← hul])
          subst hru
          clear hg0 hqz hul hulen ht ht1 hr
          go_wp2
          go_ret2
          exact ⟨rfl, hbw3⟩
        · obtain ⟨rfl, rfl⟩ := getR_no H.out (by
            rw [hg0, if_neg]
            rintro ⟨_, _, h6⟩
            refine he (ByteArray.ext (Array.toList_inj.1 ?_))
            rw [← ht1, hul, h6])
          have hne : (t.toList == s.toList) = false := by
            rw [Lib.toList_data, Lib.toList_data, beq_eq_false_iff_ne]
            exact fun h => he (ByteArray.ext (Array.toList_inj.1 h))
          clear hg0 hqz hul hulen ht ht1
          go_wp2
          go_ret2
          exact ⟨rfl, hbw3⟩
      · rw [if_neg (by have h5 : u.data.toList.length = u.size := by simp
                       omega)] at ht
        obtain ⟨ht1, rfl⟩ : [] = t.data.toList ∧ (2 : Int) = k := by simpa using ht
        obtain ⟨rfl, rfl⟩ := getR_no H.out (by rw [hg0, if_neg (by omega)])
        clear hg0 hqz hul hulen ht ht1
        go_wp2
        go_ret2
        exact ⟨rfl, hbw3⟩
end Go.Proofs.YtmmkhlianijagaaDoor
