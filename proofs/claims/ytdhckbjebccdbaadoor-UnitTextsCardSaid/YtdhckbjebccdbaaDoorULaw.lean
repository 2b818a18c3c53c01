/- What the statements about layer 3 share: the names of the units. -/
import Derived.Test.YtdhckbjebccdbaaDoorOpenU
namespace Go.Proofs.YtdhckbjebccdbaaDoor
open Go.RowKit

def nameAt (i : Nat) : List UInt8 := (unitTab.getD i ([], 0, 0)).1
theorem names_any (w : World) : Calls Tryd.prog 24 #[] w fun e w' => e = .returned (.slice (some ⟨w.heap.size, 0, none⟩) 15 15) ∧ Below w.heap.size w w' ∧ ∀ i, i < 15 → w'.cell? ⟨w.heap.size, i, none⟩ = some (str (nameAt i)) := by
  have key : ∀ i, i < 15 → (#[.string ⟨#[109, 108]⟩, .string ⟨#[99, 108]⟩, .string ⟨#[108]⟩, .string ⟨#[104, 108]⟩, .string ⟨#[37]⟩, .string ⟨#[109, 108, 112, 97]⟩, .string ⟨#[108, 112, 97]⟩, .string ⟨#[103]⟩, .string ⟨#[107, 103]⟩, .string ⟨#[67]⟩, .string ⟨#[109, 109]⟩, .string ⟨#[99, 109]⟩, .string ⟨#[109]⟩, .string ⟨#[99, 111, 105, 110]⟩, .string ⟨#[99, 114, 111, 119, 110]⟩] : Array Value)[i]? = some (str (nameAt i)) := by
    intro i hi
    have h : i = 0 ∨ i = 1 ∨ i = 2 ∨ i = 3 ∨ i = 4 ∨ i = 5 ∨ i = 6 ∨ i = 7 ∨ i = 8 ∨ i = 9 ∨ i = 10 ∨ i = 11 ∨ i = 12 ∨ i = 13 ∨ i = 14 := by omega
    rcases h with rfl | rfl | rfl | rfl | rfl | rfl | rfl | rfl | rfl | rfl | rfl | rfl | rfl | rfl | rfl <;> rfl
  go_enter Tryd.func24, Tryd.ntmps24
  go_wp2
  go_ret
  exact ⟨rfl, bel_alloc (Below.refl _ _), fun i hi => by rw [World.cell?_alloc_new]; exact key i hi⟩

theorem tab_unit : ∀ x ∈ unitTab, uK x.1 = x.2.1 ∧ uF x.1 = x.2.2 ∧ uE x.1 = 0 := by decide
theorem name_at (i : Nat) (hi : i < 15) : ∃ x, unitTab[i]? = some x ∧ x ∈ unitTab ∧ nameAt i = x.1 := by
  have hl : i < unitTab.length := hi
  refine ⟨unitTab[i], List.getElem?_eq_getElem hl, List.getElem_mem hl, ?_⟩
  unfold nameAt
  rw [List.getD_eq_getElem?_getD, List.getElem?_eq_getElem hl, Option.getD_some]
theorem nameAt_len (i : Nat) (hi : i < 15) : (nameAt i).length ≤ 5 := by
  obtain ⟨x, _, hm, e⟩ := name_at i hi
  rw [e]
  exact tab_all (P := fun x => x.1.length ≤ 5) (by decide) x hm
theorem best_is (k a : Int) (h : qE k a = 0) : ∃ x, IsBest k (max a (-a)) x ∧ beU k (max a (-a)) = x.1 := by
  have hk := qE_ok k a h
  have key : ∀ s, ∃ x, IsBest k s x := by
    intro s
    obtain ⟨i, x0, hi, hx0⟩ := tab_kind k hk.1 hk.2.1
    have hm0 := List.mem_of_getElem? hi
    -- the first ones of the table, one after another
    have step : ∀ t : List (List UInt8 × Int × Int), (∀ x ∈ t, x ∈ unitTab) → (∀ y ∈ t, y.2.1 ≠ k) ∨ ∃ x ∈ t, x.2.1 = k ∧ ∀ y ∈ t, y.2.1 = k → y = x ∨ betB x.2.2 y.2.2 s = true := by
      intro t
      induction t with
      | nil => intro _; exact .inl (fun y hy => by cases hy)
      | cons z t ih =>
        intro hsub
        rcases ih (fun x hx => hsub x (.tail _ hx)) with h | ⟨x, hx, hxk, hall⟩
        · by_cases hz : z.2.1 = k
          · refine .inr ⟨z, .head _, hz, fun y hy hyk => ?_⟩
            rcases List.mem_cons.1 hy with rfl | hy
            · exact .inl rfl
            · exact absurd hyk (h y hy)
          · refine .inl (fun y hy => ?_)
            rcases List.mem_cons.1 hy with rfl | hy
            · exact hz
            · exact h y hy
        · by_cases hz : z.2.1 = k
          · by_cases hb : betB z.2.2 x.2.2 s = true
            · refine .inr ⟨z, .head _, hz, fun y hy hyk => ?_⟩
              rcases List.mem_cons.1 hy with rfl | hy
              · exact .inl rfl
              · right
                rcases hall y hy hyk with rfl | g
                · exact hb
                · rw [betB_iff] at hb g ⊢; omega
            · refine .inr ⟨x, .tail _ hx, hxk, fun y hy hyk => ?_⟩
              rcases List.mem_cons.1 hy with rfl | hy
              · by_cases e : y.2.2 = x.2.2
                · exact .inl (tab_one _ (hsub y (.head _)) _ (hsub x (.tail _ hx)) (hz.trans hxk.symm) e)
                · right
                  rw [betB_iff] at hb ⊢; omega
              · exact hall y hy hyk
          · refine .inr ⟨x, .tail _ hx, hxk, fun y hy hyk => ?_⟩
            rcases List.mem_cons.1 hy with rfl | hy
            · exact absurd hyk hz
            · exact hall y hy hyk
    rcases step unitTab (fun x hx => hx) with h | ⟨x, hx, hxk, hall⟩
    · exact absurd hx0 (h x0 hm0)
    · exact ⟨x, hx, hxk, hall⟩
  obtain ⟨x, hx⟩ := key (max a (-a))
  exact ⟨x, hx, beU_of hx⟩
end Go.Proofs.YtdhckbjebccdbaaDoor
