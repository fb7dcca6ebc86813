/-
  keyholelaw08.PolyZeros: the walk.
-/
import Derived.Test.YtibmmglpeeabpaaPly11
namespace Go.Proofs.Ytibmmglpeeabpaa
open Go.RowKit Go.Kx
set_option maxRecDepth 20000

theorem degA_spec (l : List Int) : ∀ k, degA l k = -1 ∨ ∃ d : Nat, degA l k = d ∧ d < k ∧ l.getD d 0 ≠ 0 ∧ ∀ j, d < j → j < k → l.getD j 0 = 0
  | 0 => .inl rfl
  | k + 1 => by
    rw [degA]
    by_cases h : l.getD k 0 = 0
    · rw [if_pos h]
      rcases degA_spec l k with h1 | ⟨d, h1, h2, h3, h4⟩
      · exact .inl h1
      · refine .inr ⟨d, h1, by omega, h3, fun j hj hk => ?_⟩
        by_cases e : j = k
        · rw [e]; exact h
        · exact h4 j hj (by omega)
    · rw [if_neg h]
      exact .inr ⟨k, rfl, by omega, h, fun j hj hk => by omega⟩
def zCnt (l : List Int) : Nat → Nat
  | 0 => 0
  | k + 1 => zCnt l k + (if (evalA l k).1 = 0 then 1 else 0)
def zsG (l : List Int) (k : Nat) : List Gf.G := ((List.range k).filter fun x : Nat => decide ((evalA l x).1 = 0)).map fun x : Nat => toG x
theorem zsG_length (l : List Int) : ∀ k, (zsG l k).length = zCnt l k
  | 0 => rfl
  | k + 1 => by
    have ih := zsG_length l k
    unfold zsG at ih ⊢
    rw [List.length_map] at ih ⊢
    rw [List.range_succ, List.filter_append, List.length_append, ih, zCnt]
    congr 1
    by_cases h : (evalA l k).1 = 0
    · rw [if_pos h, List.filter_cons_of_pos (by simpa using h)]; rfl
    · rw [if_neg h, List.filter_cons_of_neg (by simpa using h)]; rfl
theorem zsG_nodup (l : List Int) : (zsG l 256).Nodup := by
  unfold zsG List.Nodup
  rw [List.pairwise_map]
  have h : ((List.range 256).filter fun x : Nat => decide ((evalA l x).1 = 0)).Nodup := List.Nodup.sublist List.filter_sublist List.nodup_range
  refine List.Pairwise.imp_of_mem ?_ h
  intro a b ha hb hne e
  have ha' : a < 256 := List.mem_range.1 (List.mem_filter.1 ha).1
  have hb' : b < 256 := List.mem_range.1 (List.mem_filter.1 hb).1
  exact hne (by have := toG_inj (dig_of ha') (dig_of hb') e; omega)
theorem ev_less (l : List Int) (x : Int) (d : Nat) (h : ∀ j, d < j → j < l.length → l.getD j 0 = 0) : ∀ n, d + 1 + n ≤ l.length → evI l x (d + 1 + n) = evI l x (d + 1)
  | 0, _ => rfl
  | n + 1, hn => by
    rw [← ev_less l x d h n (by omega)]
    unfold evI
    rw [show d + 1 + (n + 1) = (d + 1 + n) + 1 by omega, gs_take l (by omega), ev_snoc, h (d + 1 + n) (by omega) (by omega)]
    show _ + (0 : Gf.G) * _ = _
    rw [Gf.G.zero_mul, Gf.G.add_zero]
theorem zeros_law {l : List Int} {d : Nat} (hle : l.length ≤ 255) (hd : allI dig l = true) (h1 : d < l.length) (h2 : l.getD d 0 ≠ 0) (h3 : ∀ j, d < j → j < l.length → l.getD j 0 = 0) : zCnt l 256 ≤ d := by
  rw [← zsG_length]
  have ht := gs_take l h1
  have hne : (gs l).take (d + 1) ≠ [] := by rw [ht]; simp
  have hlast : ((gs l).take (d + 1)).getLast hne ≠ 0 := by
    have e : ((gs l).take (d + 1)).getLast hne = toG (l.getD d 0) := by
      simp only [ht]
      simp
    rw [e]
    intro h0
    have h4 := toG_v (allI_at hd h1)
    rw [h0] at h4
    exact h2 h4.symm
  have hz : ∀ z ∈ zsG l 256, Gf.ev ((gs l).take (d + 1)) z = 0 := by
    intro z hz
    obtain ⟨x, hx, rfl⟩ := List.mem_map.1 hz
    obtain ⟨hx1, hx2⟩ := List.mem_filter.1 hx
    have hx3 : x < 256 := List.mem_range.1 hx1
    have hx4 : (evalA l x).1 = 0 := by simpa using hx2
    have e := ev_less l x d h3 (l.length - (d + 1)) (by omega)
    rw [show d + 1 + (l.length - (d + 1)) = l.length by omega, evI_all] at e
    rw [evalA, if_pos ⟨hle, hd, dig_of hx3⟩] at hx4
    show evI l x (d + 1) = 0
    rw [← e]
    exact Gf.G.ext' hx4
  have := Gf.few_zeros _ _ hne (zsG_nodup l) hlast hz
  have hl : ((gs l).take (d + 1)).length ≤ d + 1 := by rw [List.length_take]; omega
  omega
set_option maxHeartbeats 4000000 in
theorem pzeros_yes (l : List Int) (A : Option Addr) (c : Nat) (hl : l.length ≤ 9223372036854775807) (w : World) (hs : Sl w A (intsI l)) :
    Calls Try.prog 6 #[.slice A l.length c] w fun e w' => e = .returned (.bool true) ∧ Below w.heap.size w w' := by
  by_cases h1 : 30 < l.length
  · go_enter Try.func6, Try.ntmps6
    go_wp2_with fail
    refine (degree_any l A c hl _ hs).mono ?_
    rintro e w ⟨rfl, rfl⟩
    go_wp2_with fail
    refine (polys_any _).mono ?_
    rintro e w1 ⟨rfl, hb⟩
    go_wp2
    go_ret
    exact ⟨rfl, hb⟩
  have HD := Lib.hid (fun V h => degree_any l A c hl V h)
  have HA := Lib.hid (fun V h => rallI_any l A c hl V h)
  cases h2 : allI dig l with
  | false =>
    rw [h2] at HA
    clear h2
    go_enter Try.func6, Try.ntmps6
    go_wp2_with fail
    refine (HD.out _ hs).mono ?_
    rintro e w ⟨rfl, rfl⟩
    go_wp2_with fail
    refine (HA.out _ hs).mono ?_
    rintro e w ⟨rfl, rfl⟩
    go_wp2_with fail
    refine (polys_any _).mono ?_
    rintro e w1 ⟨rfl, hb⟩
    go_wp2
    go_ret
    exact ⟨rfl, hb⟩
  | true =>
    rw [h2] at HA
    rcases degA_spec l l.length with h3 | ⟨d, h3, h4, h5, h6⟩
    · rw [h3] at HD
      clear h2 h3
      go_enter Try.func6, Try.ntmps6
      go_wp2_with fail
      refine (HD.out _ hs).mono ?_
      rintro e w ⟨rfl, rfl⟩
      go_wp2_with fail
      refine (HA.out _ hs).mono ?_
      rintro e w ⟨rfl, rfl⟩
      go_wp2_with fail
      refine (polys_any _).mono ?_
      rintro e w1 ⟨rfl, hb⟩
      go_wp2
      go_ret
      exact ⟨rfl, hb⟩
    · rw [h3] at HD
      have hz := zeros_law (by omega) h2 h4 h5 h6
      have HOK : Hid (∀ x : Nat, x < 256 → (evalA l x).2 = true) := Lib.hid (fun x hx => by rw [evalA, if_pos ⟨by omega, h2, dig_of hx⟩])
      have h4' : (d : Int) < (l.length : Int) := by omega
      have hcl : ∀ k, zCnt l k ≤ k := fun k => by
        induction k with
        | zero => exact Nat.le_refl _
        | succ k ih => rw [zCnt]; split <;> omega
      have HCL := Lib.hid hcl
      have HZ := Lib.hid hz
      clear h2 h3 h5 h6 hz hcl
      go_enter Try.func6, Try.ntmps6
      go_wp2_with fail
      refine (HD.out _ hs).mono ?_
      rintro e w ⟨rfl, rfl⟩
      go_wp2_with fail
      refine (HA.out _ hs).mono ?_
      rintro e w ⟨rfl, rfl⟩
      go_wp2
      go_loopw [4, 5] (fun n i wr => ∃ k : Nat, i = .int .i64 k ∧ k ≤ 256 ∧ n = .int .i64 (zCnt l k : Nat) ∧ Below w.heap.size w wr) (fun _ i _ => 256 - (intOf i).toNat)
      case atStart => exact ⟨0, rfl, by omega, rfl, Below.refl _ _⟩
      case round =>
        obtain ⟨k, rfl, hk, rfl, hb⟩ := hrel
        by_cases hlt : k < 256
        · have hok := HOK.out k hlt
          have HE := Lib.hid (eval_any l k A c hl wr (hs.keep hb))
          have hn : Hid (zCnt l (k + 1) = zCnt l k + (if (evalA l k).1 = 0 then 1 else 0)) := Lib.hid rfl
          have hnl := HCL.out k
          obtain ⟨⟨y, t⟩, hy⟩ : ∃ p, evalA l k = p := ⟨_, rfl⟩
          rw [hy] at hok HE hn
          dsimp only at hok hn
          subst hok
          clear hy
          generalize hq : zCnt l (k + 1) = q at *
          have HQ := Lib.hid hq
          clear hq
          generalize zCnt l k = p at *
          by_cases h0 : y = 0
          · subst h0
            rw [if_pos rfl] at hn
            go_wp2_with fail
            refine HE.out.mono ?_
            rintro e w2 ⟨rfl, hb2⟩
            replace hb := hb.next' hb2
            unfold two
            go_wp2
            go_roundw
            case rel => exact ⟨k + 1, by go_num, by omega, by rw [HQ.out, hn.out]; go_num, hb⟩
            case measure => simp [intOf]; omega
          · rw [if_neg h0] at hn
            have t1 : ((y : Int) == 0) = false := by simp; omega
            go_wp2_with fail
            refine HE.out.mono ?_
            rintro e w2 ⟨rfl, hb2⟩
            replace hb := hb.next' hb2
            unfold two
            go_wp2
            go_roundw
            case rel => exact ⟨k + 1, by go_num, by omega, by rw [HQ.out, hn.out]; rfl, hb⟩
            case measure => simp [intOf]; omega
        · obtain rfl : k = 256 := by omega
          have hzz : ((zCnt l 256 : Nat) : Int) ≤ (d : Int) := by have := HZ.out; omega
          generalize zCnt l 256 = n at *
          rw [show ((256 : Nat) : Int) = 256 from rfl]
          go_wp2_with fail
          refine (polys_any _).mono ?_
          rintro e w3 ⟨rfl, hb3⟩
          replace hb := hb.next' hb3
          go_wp2
          go_ret
          exact ⟨rfl, hb⟩
end Go.Proofs.Ytibmmglpeeabpaa
