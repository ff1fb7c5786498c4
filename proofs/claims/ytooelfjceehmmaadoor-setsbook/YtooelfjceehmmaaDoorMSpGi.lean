import Derived.Test.YtooelfjceehmmaaDoorMSpKl
import Derived.BigQuiet
import Derived.Deep.Cut
namespace Go.Proofs.YtooelfjceehmmaaDoor
open Go.RowKit
attribute [local go_sem] Oper.semAt_some
set_option linter.unusedVariables false
namespace Ex
namespace Sh

/-- What is read of lists that are grown. -/
theorem gr_rows {α : Type} {E : ElK α} {L : ElK SlV} {mrk ap : Nat → Nat → α} {vs xs : List SlV} {w0 w : World} {aM : Option Addr} {u cM : Nat} {C D : Nat → List α} (h : Gr2 E L mrk ap vs w0 w (.slice aM u cM) xs C D) (hx : xs.length = u) (hv : vs.length = u) (hs : L.sz = 1) (he : L.enc = encSl) (v : Nat) (hvu : v < u) :
    ∃ (y x : SlV) (gM : Nat), vs[v]? = some y ∧ x.2.1 = y.2.1 + 70 ∧ y.2.1 ≤ y.2.2 ∧ x.2.1 ≤ x.2.2 ∧ aM = some ⟨gM, 0, none⟩ ∧ w.cell? ⟨gM, v, none⟩ = some (.slice x.1 x.2.1 x.2.2) ∧ (∀ s, s < y.2.1 → ∃ g g2, y.1 = some ⟨g, 0, none⟩ ∧ x.1 = some ⟨g2, 0, none⟩ ∧ ∀ j q, (E.enc (mrk v s))[j]? = some q → w.cell? ⟨g, s * E.sz + j, none⟩ = some q ∧ w.cell? ⟨g2, s * E.sz + j, none⟩ = some q) ∧ ∀ s, s < 70 → ∃ g2, x.1 = some ⟨g2, 0, none⟩ ∧ ∀ j q, (E.enc (ap v s))[j]? = some q → w.cell? ⟨g2, (y.2.1 + s) * E.sz + j, none⟩ = some q := by
  obtain ⟨y, hy⟩ : ∃ q, vs[v]? = some q := ⟨_, List.getElem?_eq_getElem (by omega)⟩
  obtain ⟨x, hx2⟩ : ∃ q, xs[v]? = some q := ⟨_, List.getElem?_eq_getElem (by omega)⟩
  obtain ⟨r1, r2, r3⟩ := gr_read3 h hy hx2
  obtain ⟨gM, e, hc⟩ := Sh.lo_sl h.gl hs he hx2
  have c1 := LO.cap (h.bag v y hy)
  have c2 := LO.cap (h.bag2 v x hx2)
  rw [lo_lens (h.bag v y hy)] at c1
  rw [lo_lens (h.bag2 v x hx2)] at c2
  exact ⟨y, x, gM, hy, r1, c1, c2, e, hc, r2, r3⟩
def grIM (i k : Nat) : Int := 100000 * (i : Int) + (k : Int)
def grIA (i k : Nat) : Int := -1 - 100 * (i : Int) - (k : Int)
set_option linter.unusedSimpArgs false in
set_option maxRecDepth 100000 in
set_option maxHeartbeats 8000000 in
theorem grI_is (vs : List SlV) (g0 N cap b0 : Nat) (C0 : Nat → List Int) (w : World) (hN : vs.length = N) (hNb : N ≤ 2000) (hall : LO slE w b0 (.slice (some ⟨g0, 0, none⟩) N cap) vs) (hb : BagL inE w vs C0) (hl : LoneS vs) (hlen : ∀ (u : Nat) (x : SlV), vs[u]? = some x → x.2.1 ≤ 100000) :
    Calls Tryd.prog 11 #[.slice (some ⟨g0, 0, none⟩) N cap] w fun e w' => e = .returned (.bool true) ∧ KT (InB vs) w w' := by
  have HL := hide1 hl
  have HB := hide1 hb
  have HNN := hide1 hN
  have HLEN := hide1 hlen
  have hT : (inE).T ≠ (slE).T := by decide
  have HC : Hid (∀ w', KT (InB vs) w w' → ∀ (u : Nat) (x : SlV), vs[u]? = some x → w'.cell? ⟨g0, u, none⟩ = some (.slice x.1 x.2.1 x.2.2)) := fun w' hk u x hx => by
    have h1 : LO slE w' b0 (.slice (some ⟨g0, 0, none⟩) N cap) vs := hall.same (fun d hd => hk.2.2.2.2 d (hall.lt' d hd).2 (fun e => by
      obtain ⟨v, z, hz, hzd⟩ := e
      exact lo_ne (hb v z hz) hall hT hzd hd))
    obtain ⟨g, e, h2⟩ := Sh.lo_sl h1 rfl rfl hx
    injection e with e
    injection e with e
    rw [e]
    exact h2
  have HOLD : Hid (∀ (v : Nat) (z : SlV) (d : Nat), vs[v]? = some z → (val z).ownBlock = some d → d < w.heap.size) := fun v z d hz hd => ((hb v z hz).lt' d hd).2
  have gN : (N : Int) ≤ 2000 := by omega
  have HCAP : Hid (N ≤ cap) := (by have h1 := hall.cap; omega : N ≤ cap)
  have gC : (N : Int) ≤ (cap : Int) := by have := HCAP.out; omega
  clear hl hb hN hNb hall hlen
  go_enter Tryd.func11, Tryd.ntmps11
  go_wp2_with fail
  go_loopw [3] (fun i wr => ∃ (t : Nat) (C : Nat → List Int), i = .int .i64 (t : Int) ∧ t ≤ N ∧ Hid (BagL inE wr vs C) ∧ Hid (Mrk grIM vs C t 0) ∧ Hid (KT (InB vs) w wr)) (fun i _ => N - (intOf i).toNat)
  case atStart => exact ⟨0, C0, rfl, by omega, HB, fun t b n ht hs h => by omega, (Kept.refl w).kt _⟩
  case round =>
    obtain ⟨t, C, rfl, ht, hB, hF, hK⟩ := hrel
    clear HB
    by_cases hlt : (t : Int) < (N : Int)
    · obtain ⟨⟨xa, n, c⟩, hit⟩ : ∃ it, vs[t]? = some it := ⟨_, List.getElem?_eq_getElem (by have := HNN.out; omega)⟩
      have HIT := hide1 hit
      have hn4 : n ≤ 100000 := HLEN.out t _ hit
      have gn : (n : Int) ≤ 100000 := by omega
      have gt : (t : Int) ≤ 2000 := by omega
      clear hit
      go_wp2_with fail
      go_loopw [4] (fun i wr => ∃ (j : Nat) (C : Nat → List Int), i = .int .i64 (j : Int) ∧ j ≤ n ∧ Hid (BagL inE wr vs C) ∧ Hid (Mrk grIM vs C t j) ∧ Hid (KT (InB vs) w wr)) (fun i _ => n - (intOf i).toNat)
      case atStart => exact ⟨0, C, rfl, by omega, hB, hF, hK⟩
      case round =>
        clear hB hF hK
        obtain ⟨j, C, rfl, hj, hB, hF, hK⟩ := hrel
        have hcell := HC.out wr hK.out t _ HIT.out
        dsimp only at hcell
        by_cases hlt2 : (j : Int) < (n : Int)
        · have hjn : j < n := by omega
          have hlo : LO inE wr 0 (.slice xa n c) (C t) := hB.out t _ HIT.out
          have hll := lo_lens hlo
          obtain ⟨g, hxa⟩ := hlo.some (by intro e; rw [e] at hll; simp at hll; omega)
          subst hxa
          have hcp : n ≤ c := by have := hlo.cap; omega
          obtain ⟨⟨u0, e0⟩, z0⟩ := lo_set0 hlo hjn 0 (by decide)
          have c0 : wr.cell? ⟨g, j, none⟩ = some u0 := by rw [show j * (inE).sz + 0 = j from Nat.mul_one j] at e0; exact e0
          have f0 : wr.frozen? ⟨g, j, none⟩ = false := by rw [show j * (inE).sz + 0 = j from Nat.mul_one j] at z0; exact z0
          obtain ⟨mt, hmt⟩ : ∃ mt : Int, 100000 * (t : Int) = mt := ⟨_, rfl⟩
          obtain ⟨mv, hmv⟩ : ∃ mv : Int, grIM t j = mv := ⟨_, rfl⟩
          have hm1 : IntKind.i64.wrap (100000 * (t : Int)) = mt := by rw [IntKind.wrap_i64] <;> omega
          have hm2 : IntKind.i64.wrap (mt + (j : Int)) = mv := by unfold grIM at hmv; rw [IntKind.wrap_i64] <;> omega
          clear hmt
          have HB5 : Hid (BagL inE (wr.setCell ⟨g, j, none⟩ (.int .i64 mv)) vs (updF C t ((C t).set j mv))) := by
            have h := hB.out.put HL.out HIT.out hjn (grIM t j)
            rw [show j * (inE).sz = j from Nat.mul_one j, hmv] at h
            exact h
          have HF5 : Hid (Mrk grIM vs (updF C t ((C t).set j mv)) t (j + 1)) := by
            have h := hF.out.put HIT.out (show j < (C t).length by omega)
            rw [hmv] at h
            exact h
          have HK5 : Hid (KT (InB vs) w (wr.setCell ⟨g, j, none⟩ (.int .i64 mv))) := hK.out.trans ((set_kt wr g j (.int .i64 mv)).mono (fun k e => by rw [e]; exact ⟨t, _, HIT.out, rfl⟩))
          have hjc : (j : Int) < (c : Int) := by omega
          clear hlo hll hB hF hK e0 z0 hcp hjn hmv
          go_wp2_with fail
          go_roundw
          case rel => exact ⟨j + 1, _, by go_num, by omega, HB5, HF5, HK5⟩
          case measure => simp [intOf]; omega
        · go_wp2_with fail
          go_roundw
          case rel => exact ⟨t + 1, C, by go_num, by omega, hB, (hF.out.next (fun x h' => by have h9 := HIT.out; rw [h'] at h9; have h8 := Option.some.inj h9; subst h8; show n = j; omega)), hK⟩
          case measure => simp [intOf]; omega
    · obtain rfl : t = N := by omega
      clear hlt ht
      have HSTART : Hid (Gr2 inE slE grIM grIA vs w wr (.slice none 0 0) [] C (fun _ => [])) := ⟨hB.out, by rw [HNN.out]; exact hF.out, hK.out, LO.nil _ _, fun u x hx => by simp at hx, fun u x y hx => by simp at hx, fun u x y d hx => by simp at hx, fun u u' x x' d hx => by simp at hx⟩
      clear hB hF hK
      go_wp2_with fail
      go_loopw [5, 6] (fun m i wr => ∃ (u : Nat) (xs : List SlV) (C D : Nat → List Int) (aM : Option Addr) (cM : Nat), m = .slice aM u cM ∧ i = .int .i64 (u : Int) ∧ u ≤ t ∧ Hid (xs.length = u) ∧ Hid (Gr2 inE slE grIM grIA vs w wr (.slice aM u cM) xs C D)) (fun _ i _ => t - (intOf i).toNat)
      case atStart => exact ⟨0, [], C, fun _ => [], none, 0, rfl, rfl, by omega, rfl, HSTART.out⟩
      case round =>
        clear HSTART
        obtain ⟨u, xs, C, D, aM, cM, rfl, rfl, hu, hxl, hS⟩ := hrel
        by_cases hlt : (u : Int) < (t : Int)
        · obtain ⟨⟨ya, n, c⟩, hit⟩ : ∃ it, vs[u]? = some it := ⟨_, List.getElem?_eq_getElem (by have := HNN.out; omega)⟩
          have HIT := hide1 hit
          have hcell := HC.out wr hS.out.kb u _ hit
          dsimp only at hcell
          have hn4 : n ≤ 100000 := HLEN.out u _ hit
          have gn : (n : Int) ≤ 100000 := by omega
          have gu : (u : Int) ≤ 2000 := by omega
          have HCU : Hid (Cu inE grIM grIA w wr xs u 0 (ya, n, c) (ya, n + 0, c) (C u)) := ⟨hS.out.bag u _ hit, rfl, fun s hs => hS.out.mr u _ s hit hs (Or.inl (by have := HNN.out; omega)), fun s hs => by omega, Or.inl ⟨rfl, rfl⟩⟩
          clear hit
          go_wp2_with fail
          go_loopw [7, 8] (fun g i wr => ∃ (j : Nat) (C : Nat → List Int) (xa : Option Addr) (xc : Nat) (G : List Int), g = .slice xa (n + j) xc ∧ i = .int .i64 (j : Int) ∧ j ≤ 70 ∧ Hid (Gr2 inE slE grIM grIA vs w wr (.slice aM u cM) xs C D) ∧ Hid (Cu inE grIM grIA w wr xs u j (ya, n, c) (xa, n + j, xc) G)) (fun _ i _ => 70 - (intOf i).toNat)
          case atStart => exact ⟨0, C, ya, c, C u, rfl, rfl, by omega, hS, HCU⟩
          case round =>
            clear hS HCU
            obtain ⟨j, C, xa, xc, G, rfl, rfl, hj, hS, hC⟩ := hrel
            have HGL : Hid (G.length = n + j) := lo_lens (show LO inE wr 0 (.slice xa (n + j) xc) G from hC.out.lo)
            by_cases hlt3 : (j : Int) < 70
            · skip
              obtain ⟨at_, hat⟩ : ∃ at_ : Int, 100 * (u : Int) = at_ := ⟨_, rfl⟩
              obtain ⟨au, hau⟩ : ∃ au : Int, -1 - at_ = au := ⟨_, rfl⟩
              obtain ⟨av, hav⟩ : ∃ av : Int, grIA u j = av := ⟨_, rfl⟩
              have hm1 : IntKind.i64.wrap (100 * (u : Int)) = at_ := by rw [IntKind.wrap_i64] <;> omega
              have hm2 : IntKind.i64.wrap (-1 - at_) = au := by rw [IntKind.wrap_i64] <;> omega
              have hm3 : IntKind.i64.wrap (au - (j : Int)) = av := by unfold grIA at hav; rw [IntKind.wrap_i64] <;> omega
              clear hat hau
              have HAV := hide1 hav
              clear hav
              go_wp2_with (at_builtin; go_must (refine wpl_lo2 (E := inE) (by decide) rfl _ _ rfl 0 (.slice xa (n + j) xc) G (n + j) HGL.out (by rfl) (LO.keep hC.out.lo ((Kept.refl wr).alloc #[.int .i64 av] 3)) wr.heap.size av (by rfl) (heap_alloc_new wr _) (by omega) (Nat.zero_le _) ?_; intro g6 c6 w6 ho6 ha6 hg6; have hstep := hide1 (gr_step hT hS.out hC.out HIT.out hxl.out HL.out HOLD.out ((Kept.refl wr).alloc #[.int .i64 av] 3) (by rw [HAV.out]; exact ho6) ha6 hg6); clear ho6 ha6 hg6))
              obtain ⟨C', hs', hc'⟩ := hstep.out
              have HS' := hide1 hs'
              have HC' := hide1 hc'
              clear hs' hc' hstep
              go_roundw
              case rel => exact ⟨j + 1, C', some ⟨g6, 0, none⟩, c6, G ++ [grIA u j], rfl, by go_num, by omega, HS', HC'⟩
              case measure => simp [intOf]; omega
            · obtain rfl : j = 70 := by omega
              clear hj hlt3
              have hsz0 := hS.out.kb.2.2.2.1
              go_wp2_with (at_builtin; go_must (refine wpl_lo (E := slE) rfl _ _ rfl w.heap.size (.slice aM u cM) xs u hxl.out (by rfl) (LO.keep hS.out.gl ((Kept.refl wr).alloc _ _)) wr.heap.size (xa, n + 70, xc) (by rfl) (heap_alloc_new wr _) (by show (u + 1) * 24 ≤ 140737488355328; omega) (by unfold maxLen; omega) (Nat.le_trans hsz0 (Nat.le_of_lt (by simp))) ?_; intro g7 c7 w7 ho7 hg7 hor7 hlt7; have hstep := hide1 (gr_push hT hS.out hC.out HIT.out hxl.out HL.out HOLD.out ((Kept.refl wr).alloc _ _) ho7 hg7); clear ho7 hg7 hor7 hlt7))
              go_roundw
              case rel => exact ⟨u + 1, xs ++ [(xa, n + 70, xc)], C, updF D u G, some ⟨g7, 0, none⟩, c7, rfl, by go_num, by omega, by rw [List.length_append, hxl.out]; rfl, hstep⟩
              case measure => simp [intOf]; omega
        · obtain rfl : u = t := by omega
          clear hlt hu
          have HP := hide1 (fun (v : Nat) (hv : v < u) => gr_rows hS.out hxl.out HNN.out rfl rfl v hv)
          have HK := hide1 hS.out.kb
          clear hS
          obtain ⟨wb, rfl⟩ : ∃ x, x = wr := ⟨_, rfl⟩
          go_wp2_with fail
          go_loopw [9] (fun i wx => ∃ v : Nat, i = .int .i64 (v : Int) ∧ v ≤ u ∧ Hid (Kept wb wx)) (fun i _ => u - (intOf i).toNat)
          case atStart => exact ⟨0, rfl, by omega, Kept.refl _⟩
          case round =>
            obtain ⟨v, rfl, hv, hk⟩ := hrel
            by_cases hlt : (v : Int) < (u : Int)
            · obtain ⟨⟨ya, n, c⟩, ⟨xa, n7, xc⟩, gM, hy, h71, hcy, hcx, rfl, hcM, hr1, hr2⟩ := HP.out v (by omega)
              dsimp only at h71 hcy hcx hcM hr1 hr2
              subst h71
              have q1 := kcell (HC.out _ HK.out v _ hy)
              dsimp only at q1
              have q2 := kcell hcM
              have hn4 : n ≤ 100000 := HLEN.out v _ hy
              have gn : (n : Int) ≤ 100000 := by omega
              have gv : (v : Int) ≤ 2000 := by omega
              have HR1 := hide1 hr1
              have HR2 := hide1 hr2
              clear hy hcM hr1 hr2
              have d1 := q1 _ hk.out
              go_wp2_with fail
              clear d1
              go_loopw [11] (fun i wx => ∃ s : Nat, i = .int .i64 (s : Int) ∧ s ≤ n ∧ Hid (Kept wb wx)) (fun i _ => n - (intOf i).toNat)
              case atStart => exact ⟨0, rfl, by omega, hk⟩
              case round =>
                clear hk
                obtain ⟨s, rfl, hs, hk⟩ := hrel
                by_cases hlt2 : (s : Int) < (n : Int)
                · have d1 := q1 _ hk.out
                  have d2 := q2 _ hk.out
                  have hs7 : (s : Int) < (n : Int) + 70 := by omega
                  obtain ⟨gy, gx, rfl, rfl, r3⟩ := HR1.out s (by omega)
                  obtain ⟨mt, hmt⟩ : ∃ mt : Int, 100000 * (v : Int) = mt := ⟨_, rfl⟩
                  obtain ⟨mv, hmv⟩ : ∃ mv : Int, grIM v s = mv := ⟨_, rfl⟩
                  have hm1 : IntKind.i64.wrap (100000 * (v : Int)) = mt := by rw [IntKind.wrap_i64] <;> omega
                  have hm2 : IntKind.i64.wrap (mt + (s : Int)) = mv := by unfold grIM at hmv; rw [IntKind.wrap_i64] <;> omega
                  clear hmt
                  have a0 : wr.cell? ⟨gy, s, none⟩ = some (.int .i64 mv) := by
                    have h := grown_cell hk.out (r3 0 _ rfl).1
                    rw [show s * (inE).sz + 0 = s from Nat.mul_one s] at h
                    rw [← hmv]
                    exact h
                  have b0 : wr.cell? ⟨gx, s, none⟩ = some (.int .i64 mv) := by
                    have h := grown_cell hk.out (r3 0 _ rfl).2
                    rw [show s * (inE).sz + 0 = s from Nat.mul_one s] at h
                    rw [← hmv]
                    exact h
                  clear r3 hmv
                  go_wp2_with fail
                  have HKQ := hk
                  go_roundw
                  case rel => exact ⟨s + 1, by go_num, by omega, HKQ⟩
                  case measure => simp [intOf]; omega
                · clear hs
                  go_wp2_with fail
                  go_loopw [12] (fun i wx => ∃ s : Nat, i = .int .i64 (s : Int) ∧ s ≤ 70 ∧ Hid (Kept wb wx)) (fun i _ => 70 - (intOf i).toNat)
                  case atStart => exact ⟨0, rfl, by omega, hk⟩
                  case round =>
                    clear hk
                    obtain ⟨s, rfl, hs, hk⟩ := hrel
                    by_cases hlt3 : (s : Int) < 70
                    · have d2 := q2 _ hk.out
                      obtain ⟨ns, hns2⟩ : ∃ ns, n + s = ns := ⟨_, rfl⟩
                      have hnsI : (n : Int) + (s : Int) = (ns : Int) := by omega
                      have hns : (ns : Int) < (n : Int) + 70 := by omega
                      obtain ⟨gx, rfl, r4⟩ := HR2.out s (by omega)
                      rw [hns2] at r4
                      obtain ⟨at_, hat⟩ : ∃ at_ : Int, 100 * (v : Int) = at_ := ⟨_, rfl⟩
                      obtain ⟨au, hau⟩ : ∃ au : Int, -1 - at_ = au := ⟨_, rfl⟩
                      obtain ⟨av, hav⟩ : ∃ av : Int, grIA v s = av := ⟨_, rfl⟩
                      have hm1 : IntKind.i64.wrap (100 * (v : Int)) = at_ := by rw [IntKind.wrap_i64] <;> omega
                      have hm2 : IntKind.i64.wrap (-1 - at_) = au := by rw [IntKind.wrap_i64] <;> omega
                      have hm3 : IntKind.i64.wrap (au - (s : Int)) = av := by unfold grIA at hav; rw [IntKind.wrap_i64] <;> omega
                      clear hat hau
                      have b0 : wr.cell? ⟨gx, ns, none⟩ = some (.int .i64 av) := by
                        have h := grown_cell hk.out (r4 0 _ rfl)
                        rw [show ns * (inE).sz + 0 = ns from Nat.mul_one ns] at h
                        rw [← hav]
                        exact h
                      clear r4 hns2 hav
                      go_wp2_with fail
                      have HKQ := hk
                      go_roundw
                      case rel => exact ⟨s + 1, by go_num, by omega, HKQ⟩
                      case measure => simp [intOf]; omega
                    · go_wp2_with fail
                      go_roundw
                      case rel => exact ⟨v + 1, by go_num, by omega, hk⟩
                      case measure => simp [intOf]; omega
            · go_wp2_with fail
              go_ret
              exact ⟨rfl, HK.out.trans (hk.out.kt _)⟩

end Sh
end Ex
end Go.Proofs.YtooelfjceehmmaaDoor
namespace Go.Proofs.YtooelfjceehmmaaDoor
open Go.RowKit
attribute [local go_sem] Oper.semAt_some
set_option linter.unusedVariables false
namespace Ex
namespace Sh

def grBM (i k : Nat) : Bool := bits BinOp.and IntKind.i64 ((i : Int) / 2 ^ (k % 3)) 1 == 1
def grBA (i k : Nat) : Bool := bits BinOp.and IntKind.i64 ((i : Int) / 2 ^ (k % 3)) 1 == 0
set_option linter.unusedSimpArgs false in
set_option maxRecDepth 100000 in
set_option maxHeartbeats 8000000 in
theorem grB_is (vs : List SlV) (g0 N cap b0 : Nat) (C0 : Nat → List Bool) (w : World) (hN : vs.length = N) (hNb : N ≤ 2000) (hall : LO blE w b0 (.slice (some ⟨g0, 0, none⟩) N cap) vs) (hb : BagL boE w vs C0) (hl : LoneS vs) (hlen : ∀ (u : Nat) (x : SlV), vs[u]? = some x → x.2.1 ≤ 100000) :
    Calls Tryd.prog 13 #[.slice (some ⟨g0, 0, none⟩) N cap] w fun e w' => e = .returned (.bool true) ∧ KT (InB vs) w w' := by
  have HL := hide1 hl
  have HB := hide1 hb
  have HNN := hide1 hN
  have HLEN := hide1 hlen
  have hT : (boE).T ≠ (blE).T := by decide
  have HC : Hid (∀ w', KT (InB vs) w w' → ∀ (u : Nat) (x : SlV), vs[u]? = some x → w'.cell? ⟨g0, u, none⟩ = some (.slice x.1 x.2.1 x.2.2)) := fun w' hk u x hx => by
    have h1 : LO blE w' b0 (.slice (some ⟨g0, 0, none⟩) N cap) vs := hall.same (fun d hd => hk.2.2.2.2 d (hall.lt' d hd).2 (fun e => by
      obtain ⟨v, z, hz, hzd⟩ := e
      exact lo_ne (hb v z hz) hall hT hzd hd))
    obtain ⟨g, e, h2⟩ := Sh.lo_sl h1 rfl rfl hx
    injection e with e
    injection e with e
    rw [e]
    exact h2
  have HOLD : Hid (∀ (v : Nat) (z : SlV) (d : Nat), vs[v]? = some z → (val z).ownBlock = some d → d < w.heap.size) := fun v z d hz hd => ((hb v z hz).lt' d hd).2
  have gN : (N : Int) ≤ 2000 := by omega
  have HCAP : Hid (N ≤ cap) := (by have h1 := hall.cap; omega : N ≤ cap)
  have gC : (N : Int) ≤ (cap : Int) := by have := HCAP.out; omega
  clear hl hb hN hNb hall hlen
  go_enter Tryd.func13, Tryd.ntmps13
  go_wp2_with fail
  go_loopw [3] (fun i wr => ∃ (t : Nat) (C : Nat → List Bool), i = .int .i64 (t : Int) ∧ t ≤ N ∧ Hid (BagL boE wr vs C) ∧ Hid (Mrk grBM vs C t 0) ∧ Hid (KT (InB vs) w wr)) (fun i _ => N - (intOf i).toNat)
  case atStart => exact ⟨0, C0, rfl, by omega, HB, fun t b n ht hs h => by omega, (Kept.refl w).kt _⟩
  case round =>
    obtain ⟨t, C, rfl, ht, hB, hF, hK⟩ := hrel
    clear HB
    by_cases hlt : (t : Int) < (N : Int)
    · obtain ⟨⟨xa, n, c⟩, hit⟩ : ∃ it, vs[t]? = some it := ⟨_, List.getElem?_eq_getElem (by have := HNN.out; omega)⟩
      have HIT := hide1 hit
      have hn4 : n ≤ 100000 := HLEN.out t _ hit
      have gn : (n : Int) ≤ 100000 := by omega
      have gt : (t : Int) ≤ 2000 := by omega
      clear hit
      go_wp2_with fail
      go_loopw [4] (fun i wr => ∃ (j : Nat) (C : Nat → List Bool), i = .int .i64 (j : Int) ∧ j ≤ n ∧ Hid (BagL boE wr vs C) ∧ Hid (Mrk grBM vs C t j) ∧ Hid (KT (InB vs) w wr)) (fun i _ => n - (intOf i).toNat)
      case atStart => exact ⟨0, C, rfl, by omega, hB, hF, hK⟩
      case round =>
        clear hB hF hK
        obtain ⟨j, C, rfl, hj, hB, hF, hK⟩ := hrel
        have hcell := HC.out wr hK.out t _ HIT.out
        dsimp only at hcell
        by_cases hlt2 : (j : Int) < (n : Int)
        · have hjn : j < n := by omega
          have hlo : LO boE wr 0 (.slice xa n c) (C t) := hB.out t _ HIT.out
          have hll := lo_lens hlo
          obtain ⟨g, hxa⟩ := hlo.some (by intro e; rw [e] at hll; simp at hll; omega)
          subst hxa
          have hcp : n ≤ c := by have := hlo.cap; omega
          obtain ⟨⟨u0, e0⟩, z0⟩ := lo_set0 hlo hjn 0 (by decide)
          have c0 : wr.cell? ⟨g, j, none⟩ = some u0 := by rw [show j * (boE).sz + 0 = j from Nat.mul_one j] at e0; exact e0
          have f0 : wr.frozen? ⟨g, j, none⟩ = false := by rw [show j * (boE).sz + 0 = j from Nat.mul_one j] at z0; exact z0
          obtain ⟨r, hr⟩ : ∃ r : Nat, j % 3 = r := ⟨_, rfl⟩
          obtain ⟨mv, hmv⟩ : ∃ mv : Bool, grBM t j = mv := ⟨_, rfl⟩
          have hr2 : (r : Int) < 3 := by omega
          have hm0 : (j : Int).tmod 3 = (r : Int) := by rw [Int.tmod_eq_emod_of_nonneg (by omega)]; omega
          have hm1 : (bits BinOp.and IntKind.i64 ((t : Int) / 2 ^ r) 1 == 1) = mv := by rw [← hmv, ← hr]; rfl
          clear hr
          have HB5 : Hid (BagL boE (wr.setCell ⟨g, j, none⟩ (.bool mv)) vs (updF C t ((C t).set j mv))) := by
            have h := hB.out.put HL.out HIT.out hjn (grBM t j)
            rw [show j * (boE).sz = j from Nat.mul_one j, hmv] at h
            exact h
          have HF5 : Hid (Mrk grBM vs (updF C t ((C t).set j mv)) t (j + 1)) := by
            have h := hF.out.put HIT.out (show j < (C t).length by omega)
            rw [hmv] at h
            exact h
          have HK5 : Hid (KT (InB vs) w (wr.setCell ⟨g, j, none⟩ (.bool mv))) := hK.out.trans ((set_kt wr g j (.bool mv)).mono (fun k e => by rw [e]; exact ⟨t, _, HIT.out, rfl⟩))
          have hjc : (j : Int) < (c : Int) := by omega
          clear hlo hll hB hF hK e0 z0 hcp hjn hmv
          go_upto_region 7 with fail
          go_region
          have HB5 := hide1 (HB5.out.kept (drew_kept _))
          have HK5 := hide1 (HK5.out.trans ((drew_kept _).kt _))
          clear hm0 hm1 hr2
          go_wp2_with fail
          go_roundw
          case rel => exact ⟨j + 1, _, by go_num, by omega, HB5, HF5, HK5⟩
          case measure => simp [intOf]; omega
        · go_wp2_with fail
          go_roundw
          case rel => exact ⟨t + 1, C, by go_num, by omega, hB, (hF.out.next (fun x h' => by have h9 := HIT.out; rw [h'] at h9; have h8 := Option.some.inj h9; subst h8; show n = j; omega)), hK⟩
          case measure => simp [intOf]; omega
    · obtain rfl : t = N := by omega
      clear hlt ht
      have HSTART : Hid (Gr2 boE blE grBM grBA vs w wr (.slice none 0 0) [] C (fun _ => [])) := ⟨hB.out, by rw [HNN.out]; exact hF.out, hK.out, LO.nil _ _, fun u x hx => by simp at hx, fun u x y hx => by simp at hx, fun u x y d hx => by simp at hx, fun u u' x x' d hx => by simp at hx⟩
      clear hB hF hK
      go_wp2_with fail
      go_loopw [5, 6] (fun m i wr => ∃ (u : Nat) (xs : List SlV) (C D : Nat → List Bool) (aM : Option Addr) (cM : Nat), m = .slice aM u cM ∧ i = .int .i64 (u : Int) ∧ u ≤ t ∧ Hid (xs.length = u) ∧ Hid (Gr2 boE blE grBM grBA vs w wr (.slice aM u cM) xs C D)) (fun _ i _ => t - (intOf i).toNat)
      case atStart => exact ⟨0, [], C, fun _ => [], none, 0, rfl, rfl, by omega, rfl, HSTART.out⟩
      case round =>
        clear HSTART
        obtain ⟨u, xs, C, D, aM, cM, rfl, rfl, hu, hxl, hS⟩ := hrel
        by_cases hlt : (u : Int) < (t : Int)
        · obtain ⟨⟨ya, n, c⟩, hit⟩ : ∃ it, vs[u]? = some it := ⟨_, List.getElem?_eq_getElem (by have := HNN.out; omega)⟩
          have HIT := hide1 hit
          have hcell := HC.out wr hS.out.kb u _ hit
          dsimp only at hcell
          have hn4 : n ≤ 100000 := HLEN.out u _ hit
          have gn : (n : Int) ≤ 100000 := by omega
          have gu : (u : Int) ≤ 2000 := by omega
          have HCU : Hid (Cu boE grBM grBA w wr xs u 0 (ya, n, c) (ya, n + 0, c) (C u)) := ⟨hS.out.bag u _ hit, rfl, fun s hs => hS.out.mr u _ s hit hs (Or.inl (by have := HNN.out; omega)), fun s hs => by omega, Or.inl ⟨rfl, rfl⟩⟩
          clear hit
          go_wp2_with fail
          go_loopw [7, 8] (fun g i wr => ∃ (j : Nat) (C : Nat → List Bool) (xa : Option Addr) (xc : Nat) (G : List Bool), g = .slice xa (n + j) xc ∧ i = .int .i64 (j : Int) ∧ j ≤ 70 ∧ Hid (Gr2 boE blE grBM grBA vs w wr (.slice aM u cM) xs C D) ∧ Hid (Cu boE grBM grBA w wr xs u j (ya, n, c) (xa, n + j, xc) G)) (fun _ i _ => 70 - (intOf i).toNat)
          case atStart => exact ⟨0, C, ya, c, C u, rfl, rfl, by omega, hS, HCU⟩
          case round =>
            clear hS HCU
            obtain ⟨j, C, xa, xc, G, rfl, rfl, hj, hS, hC⟩ := hrel
            have HGL : Hid (G.length = n + j) := lo_lens (show LO boE wr 0 (.slice xa (n + j) xc) G from hC.out.lo)
            by_cases hlt3 : (j : Int) < 70
            · skip
              obtain ⟨r, hr⟩ : ∃ r : Nat, j % 3 = r := ⟨_, rfl⟩
              obtain ⟨av, hav⟩ : ∃ av : Bool, grBA u j = av := ⟨_, rfl⟩
              have hr2 : (r : Int) < 3 := by omega
              have hm0 : (j : Int).tmod 3 = (r : Int) := by rw [Int.tmod_eq_emod_of_nonneg (by omega)]; omega
              have hm1 : (bits BinOp.and IntKind.i64 ((u : Int) / 2 ^ r) 1 == 0) = av := by rw [← hav, ← hr]; rfl
              clear hr
              have HAV := hide1 hav
              clear hav
              go_wp2_with (at_builtin; go_must (refine wpl_lo2 (E := boE) (by decide) rfl _ _ rfl 0 (.slice xa (n + j) xc) G (n + j) HGL.out (by rfl) (LO.keep hC.out.lo ((Kept.refl wr).alloc #[.bool av] 4)) wr.heap.size av (by rfl) (heap_alloc_new wr _) (by omega) (Nat.zero_le _) ?_; intro g6 c6 w6 ho6 ha6 hg6; have hstep := hide1 (gr_step hT hS.out hC.out HIT.out hxl.out HL.out HOLD.out ((Kept.refl wr).alloc #[.bool av] 4) (by rw [HAV.out]; exact ho6) ha6 hg6); clear ho6 ha6 hg6))
              obtain ⟨C', hs', hc'⟩ := hstep.out
              have HS' := hide1 hs'
              have HC' := hide1 hc'
              clear hs' hc' hstep
              go_roundw
              case rel => exact ⟨j + 1, C', some ⟨g6, 0, none⟩, c6, G ++ [grBA u j], rfl, by go_num, by omega, HS', HC'⟩
              case measure => simp [intOf]; omega
            · obtain rfl : j = 70 := by omega
              clear hj hlt3
              have hsz0 := hS.out.kb.2.2.2.1
              go_wp2_with (at_builtin; go_must (refine wpl_lo (E := blE) rfl _ _ rfl w.heap.size (.slice aM u cM) xs u hxl.out (by rfl) (LO.keep hS.out.gl ((Kept.refl wr).alloc _ _)) wr.heap.size (xa, n + 70, xc) (by rfl) (heap_alloc_new wr _) (by show (u + 1) * 24 ≤ 140737488355328; omega) (by unfold maxLen; omega) (Nat.le_trans hsz0 (Nat.le_of_lt (by simp))) ?_; intro g7 c7 w7 ho7 hg7 hor7 hlt7; have hstep := hide1 (gr_push hT hS.out hC.out HIT.out hxl.out HL.out HOLD.out ((Kept.refl wr).alloc _ _) ho7 hg7); clear ho7 hg7 hor7 hlt7))
              go_roundw
              case rel => exact ⟨u + 1, xs ++ [(xa, n + 70, xc)], C, updF D u G, some ⟨g7, 0, none⟩, c7, rfl, by go_num, by omega, by rw [List.length_append, hxl.out]; rfl, hstep⟩
              case measure => simp [intOf]; omega
        · obtain rfl : u = t := by omega
          clear hlt hu
          have HP := hide1 (fun (v : Nat) (hv : v < u) => gr_rows hS.out hxl.out HNN.out rfl rfl v hv)
          have HK := hide1 hS.out.kb
          clear hS
          obtain ⟨wb, rfl⟩ : ∃ x, x = wr := ⟨_, rfl⟩
          go_wp2_with fail
          go_loopw [9] (fun i wx => ∃ v : Nat, i = .int .i64 (v : Int) ∧ v ≤ u ∧ Hid (Kept wb wx)) (fun i _ => u - (intOf i).toNat)
          case atStart => exact ⟨0, rfl, by omega, Kept.refl _⟩
          case round =>
            obtain ⟨v, rfl, hv, hk⟩ := hrel
            by_cases hlt : (v : Int) < (u : Int)
            · obtain ⟨⟨ya, n, c⟩, ⟨xa, n7, xc⟩, gM, hy, h71, hcy, hcx, rfl, hcM, hr1, hr2⟩ := HP.out v (by omega)
              dsimp only at h71 hcy hcx hcM hr1 hr2
              subst h71
              have q1 := kcell (HC.out _ HK.out v _ hy)
              dsimp only at q1
              have q2 := kcell hcM
              have hn4 : n ≤ 100000 := HLEN.out v _ hy
              have gn : (n : Int) ≤ 100000 := by omega
              have gv : (v : Int) ≤ 2000 := by omega
              have HR1 := hide1 hr1
              have HR2 := hide1 hr2
              clear hy hcM hr1 hr2
              have d1 := q1 _ hk.out
              go_wp2_with fail
              clear d1
              go_loopw [11] (fun i wx => ∃ s : Nat, i = .int .i64 (s : Int) ∧ s ≤ n ∧ Hid (Kept wb wx)) (fun i _ => n - (intOf i).toNat)
              case atStart => exact ⟨0, rfl, by omega, hk⟩
              case round =>
                clear hk
                obtain ⟨s, rfl, hs, hk⟩ := hrel
                by_cases hlt2 : (s : Int) < (n : Int)
                · have d1 := q1 _ hk.out
                  have d2 := q2 _ hk.out
                  have hs7 : (s : Int) < (n : Int) + 70 := by omega
                  obtain ⟨gy, gx, rfl, rfl, r3⟩ := HR1.out s (by omega)
                  obtain ⟨r, hr⟩ : ∃ r : Nat, s % 3 = r := ⟨_, rfl⟩
                  obtain ⟨mv, hmv⟩ : ∃ mv : Bool, grBM v s = mv := ⟨_, rfl⟩
                  have hr2 : (r : Int) < 3 := by omega
                  have hm0 : (s : Int).tmod 3 = (r : Int) := by rw [Int.tmod_eq_emod_of_nonneg (by omega)]; omega
                  have hm1 : (bits BinOp.and IntKind.i64 ((v : Int) / 2 ^ r) 1 == 1) = mv := by rw [← hmv, ← hr]; rfl
                  clear hr
                  have a0 : wr.cell? ⟨gy, s, none⟩ = some (.bool mv) := by
                    have h := grown_cell hk.out (r3 0 _ rfl).1
                    rw [show s * (boE).sz + 0 = s from Nat.mul_one s] at h
                    rw [← hmv]
                    exact h
                  have b0 : wr.cell? ⟨gx, s, none⟩ = some (.bool mv) := by
                    have h := grown_cell hk.out (r3 0 _ rfl).2
                    rw [show s * (boE).sz + 0 = s from Nat.mul_one s] at h
                    rw [← hmv]
                    exact h
                  clear r3 hmv
                  go_upto_region 25 with fail
                  go_quiet (fail)
                  have HKQ : Hid (Kept wb (wr.drewN nq)) := gtrans hk.out (drewN_kept _ _)
                  clear a0 b0 d1 d2 hm0 hm1 hr2
                  go_wp2_with fail
                  go_roundw
                  case rel => exact ⟨s + 1, by go_num, by omega, HKQ⟩
                  case measure => simp [intOf]; omega
                · clear hs
                  go_wp2_with fail
                  go_loopw [12] (fun i wx => ∃ s : Nat, i = .int .i64 (s : Int) ∧ s ≤ 70 ∧ Hid (Kept wb wx)) (fun i _ => 70 - (intOf i).toNat)
                  case atStart => exact ⟨0, rfl, by omega, hk⟩
                  case round =>
                    clear hk
                    obtain ⟨s, rfl, hs, hk⟩ := hrel
                    by_cases hlt3 : (s : Int) < 70
                    · have d2 := q2 _ hk.out
                      obtain ⟨ns, hns2⟩ : ∃ ns, n + s = ns := ⟨_, rfl⟩
                      have hnsI : (n : Int) + (s : Int) = (ns : Int) := by omega
                      have hns : (ns : Int) < (n : Int) + 70 := by omega
                      obtain ⟨gx, rfl, r4⟩ := HR2.out s (by omega)
                      rw [hns2] at r4
                      obtain ⟨r, hr⟩ : ∃ r : Nat, s % 3 = r := ⟨_, rfl⟩
                      obtain ⟨av, hav⟩ : ∃ av : Bool, grBA v s = av := ⟨_, rfl⟩
                      have hr2 : (r : Int) < 3 := by omega
                      have hm0 : (s : Int).tmod 3 = (r : Int) := by rw [Int.tmod_eq_emod_of_nonneg (by omega)]; omega
                      have hm1 : (bits BinOp.and IntKind.i64 ((v : Int) / 2 ^ r) 1 == 0) = av := by rw [← hav, ← hr]; rfl
                      clear hr
                      have b0 : wr.cell? ⟨gx, ns, none⟩ = some (.bool av) := by
                        have h := grown_cell hk.out (r4 0 _ rfl)
                        rw [show ns * (boE).sz + 0 = ns from Nat.mul_one ns] at h
                        rw [← hav]
                        exact h
                      clear r4 hns2 hav
                      go_upto_region 30 with fail
                      go_quiet (fail)
                      have HKQ : Hid (Kept wb (wr.drewN nq)) := gtrans hk.out (drewN_kept _ _)
                      clear b0 d2 hm0 hm1 hr2
                      go_wp2_with fail
                      go_roundw
                      case rel => exact ⟨s + 1, by go_num, by omega, HKQ⟩
                      case measure => simp [intOf]; omega
                    · go_wp2_with fail
                      go_roundw
                      case rel => exact ⟨v + 1, by go_num, by omega, hk⟩
                      case measure => simp [intOf]; omega
            · go_wp2_with fail
              go_ret
              exact ⟨rfl, HK.out.trans (hk.out.kt _)⟩

end Sh
end Ex
end Go.Proofs.YtooelfjceehmmaaDoor
