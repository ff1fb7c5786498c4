import Derived.Test.YtpbnjdnlgcfiiaaTrVa
namespace Go.Proofs.Ytpbnjdnlgcfiiaa
open Go.RowKit
namespace Ex
namespace Tr

theorem frame_toK {c : Code} {Q : Exit → Act → World → Prop} {a : Act} {w : World} {R : Act → Prop} (h : R a) (k : ∀ a', R a' → c.wp Try.prog Q a' w) : c.wp Try.prog Q a w := k a h
theorem wl_lenK {R : Nat → Prop} {N : Nat → Nd} {B : Nat} {w : World} (hF : Forest R N B w) : ∀ (f : Nat) (ps : List Nat) (a : Nat), (∀ p ∈ ps, R p) → sizeS N ps = f → (wl N f ps a).length = f
  | 0, _, _, _, _ => rfl
  | f + 1, [], _, _, h => by simp [sizeS] at h
  | f + 1, b :: ps, a, hR, h => by
    have hb := hR b List.mem_cons_self
    have hsz := (hF b hb).2.2.2.2
    have h1 := wl_lenK hF f ((N b).kids.map Prod.fst ++ ps) (a + lwid (N b)) (fun p hp => by
      rcases List.mem_append.1 hp with hp | hp
      · obtain ⟨q, hq, rfl⟩ := List.mem_map.1 hp
        exact (hF b hb).2.2.2.1 q hq
      · exact hR p (List.mem_cons_of_mem _ hp)) (by rw [sizeS_cons] at h; rw [sizeS_app]; omega)
    simp only [wl, List.length_cons, h1]
theorem wants_of {s0 s1 m0 m1 : Nat} {P Q : List Nat} {N : Nat → Nd} {X : Nat → Rd} (hT : TwinOk s0 s1 m0 m1 P Q N X) {base fb : Nat} {V : Nat → Prop} {vP vR vB : Value} {w : World} (hM : FoM base fb s0 s1 V P Q N X m0 m1 vP vR vB w) {i b d : Nat} (hb : P[i]? = some b) (hd : Q[i]? = some d) {L : List SpM} (hL : L.map keyS = wk X (fun d => (N (btw P X d)).width) (szK X [(d, 0, [])]) [(d, 0, [])]) : Wants P Q X L (wl N (N b).size [b] 0) ∧ L.length = (N b).size := by
  have hdQ := List.mem_of_getElem? hd
  obtain ⟨_, _, _, hs, _, _, _, _, _, i', hi', hp', hpl⟩ := twin_of hT hdQ
  have ebt : btw P X d = b := by
    have h1 := (hT.2.2.2.1 i b d hb hd).st.1
    unfold btw
    rw [h1]
    exact at_some hb
  have hsz : szK X [(d, 0, [])] = (N b).size := by rw [← ebt, hs]; simp [szK, sizeR]
  have hR := rfor_of hM hT
  have h1 := wk_wl hT (szK X [(d, 0, [])]) [(d, 0, [])] 0 (fun q hq => by rw [List.mem_singleton.1 hq]; exact hdQ) ⟨rfl, trivial⟩
  rw [← hL, hsz] at h1
  rw [List.map_map] at h1
  have h2 : ([(d, 0, [])].map fun (s : Nat × Nat × List Nat) => btw P X s.1) = [b] := by simp [ebt]
  rw [h2] at h1
  refine ⟨⟨h1, fun s hs' => ?_⟩, ?_⟩
  · have h3 : keyS s ∈ L.map keyS := List.mem_map.2 ⟨s, hs', rfl⟩
    rw [hL] at h3
    exact wk_mem hR _ _ (fun q hq => by rw [List.mem_singleton.1 hq]; exact hdQ) _ h3
  · have h4 := wk_len hR (szK X [(d, 0, [])]) [(d, 0, [])] (fun q hq => by rw [List.mem_singleton.1 hq]; exact hdQ) rfl
    rw [← hL, List.length_map] at h4
    rw [h4, hsz]

end Tr
end Ex
end Go.Proofs.Ytpbnjdnlgcfiiaa
