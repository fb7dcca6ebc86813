/-
  share: order, and one more of the same polynomials; keyholeref09.Own.
-/
import Derived.Test.YtljckcegcfidoaaShp
namespace Go.Proofs.Ytljckcegcfidoaa
open Go.RowKit Go.Kx
set_option maxRecDepth 20000

theorem rightB_iff {l : List Sh} : rightB l = true ↔ 1 ≤ l.length ∧ l.length ≤ 255 ∧ (∀ s ∈ l, dig s.1 = true ∧ s.2.size = 32) ∧ (xsL l).Nodup := by
  constructor
  · intro h
    obtain ⟨h1, h2, h3, h4⟩ := rightB_of h
    exact ⟨h1, h2, fun s hs => okSh_of (List.all_eq_true.1 h3 s hs), apartI_nodup.1 h4⟩
  · rintro ⟨h1, h2, h3, h4⟩
    exact rightB_mk h1 h2 h3 h4
theorem rightB_rev (l : List Sh) : rightB l.reverse = rightB l := by
  rw [Bool.eq_iff_iff, rightB_iff, rightB_iff]
  have e : xsL l.reverse = (xsL l).reverse := by simp [xsL]
  rw [e, List.length_reverse, (List.reverse_perm (xsL l)).nodup_iff]
  simp only [List.mem_reverse]
theorem at_rev (l : List Sh) (x : Int) : atA l.reverse x = atA l x := by
  by_cases hr : rightB l = true
  · by_cases hd : dig x = true
    · obtain ⟨Q, hQ, ho⟩ := on_some hr
      have hr2 : rightB l.reverse = true := by rw [rightB_rev]; exact hr
      rw [atA_yes hr hd, atA_yes hr2 hd, atT_on hr ho hQ, atT_on hr2 (fun s hs => ho s (List.mem_reverse.1 hs)) (fun j => by rw [List.length_reverse]; exact hQ j)]
    · rw [atA, atA, rightB_rev, if_pos hr, if_neg hd, if_pos hr, if_neg hd]
  · rw [atA, atA, rightB_rev, if_neg hr, if_neg hr]
theorem at_own {l : List Sh} (hr : rightB l = true) {k : Nat} (hk : k < l.length) : atT l (l.getD k sh0).1 = (l.getD k sh0).2 := by
  obtain ⟨Q, hQ, ho⟩ := on_some hr
  rw [atT_on hr ho hQ]
  exact (ho _ (mem_at hk)).symm
theorem at_more {l : List Sh} {x : Int} (hr : rightB l = true) (hd : dig x = true) (hno : ∀ k, k < l.length → (l.getD k sh0).1 ≠ x) (hlen : l.length + 1 ≤ 255) (y : Int) (hy : dig y = true) :
    atA (l ++ [(x, atT l x)]) y = (atT l y, 0) := by
  obtain ⟨Q, hQ, ho⟩ := on_some hr
  obtain ⟨h1, h2, h3, h4⟩ := rightB_iff.1 hr
  have hr2 : rightB (l ++ [(x, atT l x)]) = true := by
    refine rightB_mk (by simp) (by simpa using hlen) (fun s hs => ?_) ?_
    · rcases List.mem_append.1 hs with hs | hs
      · exact h3 s hs
      · obtain rfl := List.mem_singleton.1 hs
        exact ⟨hd, txt_size _⟩
    · have e : xsL (l ++ [(x, atT l x)]) = xsL l ++ [x] := by simp [xsL]
      rw [e, List.nodup_append]
      refine ⟨h4, by simp, fun a ha b hb => ?_⟩
      obtain rfl := List.mem_singleton.1 hb
      rintro rfl
      obtain ⟨s, hs, e⟩ := List.mem_map.1 ha
      obtain ⟨k, hk, rfl⟩ := List.getElem_of_mem hs
      refine hno k hk ?_
      rw [List.getD, List.getElem?_eq_getElem hk]
      exact e
  rw [atA_yes hr2 hy, atT_on hr ho hQ y]
  congr 1
  refine atT_on hr2 (fun s hs => ?_) (fun j => by have := hQ j; simp; omega) y
  rcases List.mem_append.1 hs with hs | hs
  · exact ho s hs
  · obtain rfl := List.mem_singleton.1 hs
    exact atT_on hr ho hQ x
theorem atA_no {l : List Sh} {x : Int} (h : ¬ (rightB l = true ∧ dig x = true)) : ∃ e : Int, atA l x = (⟨#[]⟩, e) ∧ e ≠ 0 := by
  by_cases hr : rightB l = true
  · by_cases hd : dig x = true
    · exact absurd ⟨hr, hd⟩ h
    · exact ⟨1, by rw [atA, if_pos hr, if_neg hd], by decide⟩
  · exact ⟨90, by rw [atA, if_neg hr], by decide⟩

/-! ### Own -/
set_option maxHeartbeats 1000000 in
theorem own_any (l : List Sh) (A : Option Addr) (c : Nat) (hl : l.length ≤ 1000) (w : World) (hs : Sl w A (shV l)) :
    Calls Try.prog 14 #[.slice A l.length c] w fun e w' => (∃ v, e = .returned v ∧ w'.ownsRow w.heap.size 39 2 v l.length (shV l)) ∧ Below w.heap.size w w' := by
  obtain ⟨i1, hI1, hy0, hy1, hy2⟩ := info_parts shares_info
  have hone : ∀ (l : List Sh), ∀ u ∈ shV l, u.oneCell' = true := fun l => by
    induction l with
    | nil => simp [shV]
    | cons s l ih =>
      intro u hu
      simp only [shV, List.mem_cons] at hu
      rcases hu with rfl | rfl | hu
      · rfl
      · rfl
      · exact ih u hu
  cases A with
  | none =>
    have hl0 : l = [] := by
      rcases hs with h | ⟨b, off, e, _⟩
      · have := shV_length l
        rw [h] at this
        simp at this
        exact List.eq_nil_of_length_eq_zero (by omega)
      · cases e
    subst hl0
    show Calls _ _ #[.slice none 0 c] _ _
    go_enter Try.func14, Try.ntmps14
    go_wp2
    go_ret
    exact ⟨⟨_, rfl, World.ownsRow_nil _ _ _ _⟩, Below.refl _ _⟩
  | some ad =>
    have hcells : ∀ j u, (shV l)[j]? = some u → w.cell? (ad.add j) = some u := fun j u hu => by
      rcases hs with h | ⟨b, off, e, _, hc⟩
      · rw [h] at hu; simp at hu
      · cases e
        have := hc j u hu
        rwa [Addr.add_mid]
    go_enter Try.func14, Try.ntmps14
    go_wp2_with (first
      | (at_builtin; refine wpList_append_own _ rfl _ _ 22 rfl w.heap.size 39 i1 (.agg #[.int .i64 0, .string ⟨#[]⟩]) 2 24 Try.underlying22 hI1 hy0 hy1 hy2 rfl (by decide) _ 0 [] rfl (World.ownsRow_nil _ _ _ _) ad l.length c (shV l) rfl (shV_length l) hcells (hone l) (by unfold maxLen; omega) (by omega) (Nat.le_refl _) ?_)
      | go_in)
    intro v' w3 hown' hgrow _
    have hb1 : Below w.heap.size w w3 := own_below (e := 39) (sz := 2) (World.ownsRow_nil _ _ _ _) (Below.refl _ _) hgrow
    go_wp2
    go_ret
    exact ⟨⟨_, rfl, hown'⟩, hb1⟩
end Go.Proofs.Ytljckcegcfidoaa
