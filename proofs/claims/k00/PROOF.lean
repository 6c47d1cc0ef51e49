import PyProof.Rows.All
import Wide.All
import OpenK.AllK
import Wide.FinOn
import HandS.ForMost
import HandS.Wide
import HandS.ForExc
import HandS.ExcInit
import HandS.ExcSuper
import HandS.ExcValue
import HandS.ExcIs
import KE.KExcSuper
import HandS.IsInst
import HandS.Defaults
import PyProof.ReprRoads
import HandS.More
import HandS.Head0
import HandS.Head1
import HandS.Head2
import HandS.HeadEnd
import HandS.HeadHook1
import HandS.HeadHook2
import PySem.Challenge.RW_splitbooks_k00_errors_of_all_parts
set_option Elab.async false
set_option linter.all false
set_option maxRecDepth 100000
set_option maxHeartbeats 0
/-! # Dr -/
/-! The draws that every law of the table begins with: the state of the draws, and what one draw leaves of it. -/
namespace Dr
open PySem L2

def topS (i : Nat) : Stmt := PySem.Challenge.pw_splitbooks_k00_errors_of_all_parts.main.body.getD i (.Pass ⟨0, 0, 0, 0⟩)
abbrev sBegun : Stmt := topS 46
abbrev sMixed : Stmt := topS 47
abbrev sTake : Stmt := topS 48
abbrev sPick : Stmt := topS 49

/-! ### the state of the draws -/
abbrev kL : Key := .inr "large"
abbrev kR : Key := .inr "rest"
abbrev kC : Key := .inr "cells"
abbrev kT : Key := .inr "turn"
def kv (l c : Addr) (rest turn : Int) : List (Key × V) := [(kL, .ref l), (kR, .int rest), (kC, .ref c), (kT, .int turn)]
theorem sLR : ¬ Str.ofString "large" = Str.ofString "rest" := by decide +kernel
theorem sLC : ¬ Str.ofString "large" = Str.ofString "cells" := by decide +kernel
theorem sLT : ¬ Str.ofString "large" = Str.ofString "turn" := by decide +kernel
theorem sRL : ¬ Str.ofString "rest" = Str.ofString "large" := by decide +kernel
theorem sRC : ¬ Str.ofString "rest" = Str.ofString "cells" := by decide +kernel
theorem sRT : ¬ Str.ofString "rest" = Str.ofString "turn" := by decide +kernel
theorem sCL : ¬ Str.ofString "cells" = Str.ofString "large" := by decide +kernel
theorem sCR : ¬ Str.ofString "cells" = Str.ofString "rest" := by decide +kernel
theorem sCT : ¬ Str.ofString "cells" = Str.ofString "turn" := by decide +kernel
theorem sTL : ¬ Str.ofString "turn" = Str.ofString "large" := by decide +kernel
theorem sTR : ¬ Str.ofString "turn" = Str.ofString "rest" := by decide +kernel
theorem sTC : ¬ Str.ofString "turn" = Str.ofString "cells" := by decide +kernel
section
variable {l c : Addr} {rest turn x : Int}
theorem kv_large : valV (kv l c rest turn) kL = some (.ref l) := by
  simp [valV, kv, List.find?_cons]
theorem kv_rest : valV (kv l c rest turn) kR = some (.int rest) := by
  simp [valV, kv, List.find?_cons, sLR]
theorem kv_cells : valV (kv l c rest turn) kC = some (.ref c) := by
  simp [valV, kv, List.find?_cons, sLC, sRC]
theorem kv_turn : valV (kv l c rest turn) kT = some (.int turn) := by
  simp [valV, kv, List.find?_cons, sLT, sRT, sCT]
theorem kv_len : (kv l c rest turn).length = 4 := rfl
theorem put_rest : putK (kv l c rest turn) kR (.int x) = kv l c x turn := by
  simp [putK, kv, sLR, sCR, sTR]
theorem put_turn : putK (kv l c rest turn) kT (.int x) = kv l c rest x := by
  simp [putK, kv, sLT, sCT, sRT]
end
/-- the state of the draws stands at d: its large numbers at l, all cells at c -/
structure At (H : Hp) (d l c : Addr) (large cells : List Int) (rest turn : Int) : Prop where
  hd : H d = some (.dK (kv l c rest turn))
  hl : H l = some (.lst (large.map V.int))
  hc : H c = some (.lst (cells.map V.int))
  nl : large.length ≤ 63
  nc : cells.length ≤ 63
  lc : l ≠ c
/-- all that was tracked is as it was, but for the state of the draws -/
def Kp (d l : Addr) (H H' : Hp) : Prop := ∀ b o, H b = some o → b ≠ d → b ≠ l → H' b = some o
theorem Kp.refl {d l : Addr} (H : Hp) : Kp d l H H := fun _ _ h _ _ => h
theorem Kp.trans {d l : Addr} {H H1 H2 : Hp} (a : Kp d l H H1) (b : Kp d l H1 H2) : Kp d l H H2 := fun c o h n m => b c o (a c o h n m) n m
theorem Kp.of {d l : Addr} {H H' : Hp} (a : Same H H') : Kp d l H H' := fun c o h _ _ => a c o h
theorem At.dl {H : Hp} {d l c : Addr} {large cells : List Int} {rest turn : Int} (h : At H d l c large cells rest turn) : d ≠ l := ne_of h.hd h.hl (by intro q; cases q)
theorem At.dc {H : Hp} {d l c : Addr} {large cells : List Int} {rest turn : Int} (h : At H d l c large cells rest turn) : d ≠ c := ne_of h.hd h.hc (by intro q; cases q)
theorem At.same {H H' : Hp} {d l c : Addr} {large cells : List Int} {rest turn : Int} (h : At H d l c large cells rest turn) (s : Same H H') : At H' d l c large cells rest turn :=
  ⟨s _ _ h.hd, s _ _ h.hl, s _ _ h.hc, h.nl, h.nc, h.lc⟩
theorem At.put {H : Hp} {d l c : Addr} {large cells : List Int} {rest turn : Int} (h : At H d l c large cells rest turn) (x y : Int) : At (upd H d (.dK (kv l c x y))) d l c large cells x y :=
  ⟨upd_same, by rw [upd_ne h.dl.symm]; exact h.hl, by rw [upd_ne h.dc.symm]; exact h.hc, h.nl, h.nc, h.lc⟩
theorem same_upd {H : Hp} {p : Addr} {o : HO} (h : H p = none) : Same H (upd H p o) := fun b x e => by
  rw [upd_ne (ne_of_none e h)]
  exact e
theorem kp_put {H : Hp} {d l : Addr} {o : HO} : Kp d l H (upd H d o) := fun b x e n _ => by rw [upd_ne n]; exact e
/-- .. of any large numbers, cells, rest and turn -/
def Ok (H : Hp) (d l : Addr) : Prop := ∃ (c : Addr) (large cells : List Int) (rest turn : Int), At H d l c large cells rest turn
theorem Ok.same {H H' : Hp} {d l : Addr} (h : Ok H d l) (s : Same H H') : Ok H' d l := let ⟨c, a, b, r, t, z⟩ := h; ⟨c, a, b, r, t, z.same s⟩
theorem int_at {ns : List Int} {i : Nat} {y : V} (h : (ns.map V.int)[i]? = some y) : ∃ n, y = .int n ∧ i < ns.length ∧ ns[i]? = some n := by
  rw [List.getElem?_map] at h
  cases e : ns[i]? with
  | none =>
    rw [e] at h
    cases h
  | some n =>
    rw [e] at h
    exact ⟨n, (Option.some.inj h).symm, (List.getElem?_eq_some_iff.mp e).1, rfl⟩
end Dr

/-! # Dr2 -/
namespace Dr
open PySem L2
section
variable {P : Program} {w : World} {K : PySem.W.Frag} {mg : Str → Option Value} {base : Heap}
/-- another large number: some whole number; the turn goes on by one -/
def spMixed : Sp := fun vs H Q _ => ∃ (d l c : Addr) (large cells : List Int) (rest turn : Int), vs = [.ref d] ∧ At H d l c large cells rest turn ∧
  ∀ (v : Int) (H' : Hp), At H' d l c large cells rest (turn + 1) → Kp d l H H' → Q (.int v) H'
theorem scM : FnScope ["draw", "turn", "found", "great", "blend", "grain"] ["draw"] (defScope sMixed) := ⟨rfl, rfl, rfl, by decide +kernel, rfl, by decide +kernel, by decide +kernel⟩
theorem fmod_in {i j : Int} (h : 0 < j) : 0 ≤ i.fmod j ∧ i.fmod j < j := by
  rw [Int.fmod_eq_emod_of_nonneg i (by omega)]
  exact ⟨Int.emod_nonneg _ (by omega), Int.emod_lt_of_pos _ h⟩
theorem ok_mixed {f : Addr} {fd : FuncData} (F : Fun K "_law_mixed" "_law_mixed" sMixed f fd) (mi : mg "int" = none) : FnOk P w K mg base CX0 1 f fd ["draw"] spMixed := by
  refine F.ok scM (fun vs H Q E h => ?_) (fun cdv A outer s H vs Q E hr h => ?_)
  · obtain ⟨d, l, c, large, cells, rest, turn, rfl, _⟩ := h
    rfl
  · obtain ⟨d, l, c, large, cells, rest, turn, rfl, D, k⟩ := h
    have hu := hu_of hr
    refine ⟨_, pss_cons (ps_dput hu (pv 0) pe_str (pe_op op_add (pe_dget hu (pv 0) pe_str (fun _ _ => rfl)) pe_int) rfl)
      (pss_cons (ps_par rfl scM.nd (i := 1) (j := 2) rfl rfl (by decide) rfl rfl (pa_cons (pe_callTy call_int1 (by rfl) mi (by decide +kernel) (pa_cons (pe_dget hu (pv 0) pe_str (fun _ _ => rfl)) pa_nil)) (pa_cons pe_int pa_nil)) (by rfl))
      (pss_cons (ps_for PassesOwn.never rfl (pi_list (pe_lst (pa_cons pe_int (pa_cons pe_int (pa_cons pe_int pa_nil))))) (pg_name (i := 3) scM.nd rfl (Or.inl rfl))
        (pss_cons (ps_set (i := 4) scM.nd rfl (Or.inl rfl) (pe_op op_modN (pe_op op_add (pe_op op_mul (pv 1) pe_int) (pe_op op_fdivN (pv 3) pe_int)) (pv 3)))
        (pss_cons (ps_for PassesOwn.never rfl (pi_list (pe_dget hu (pv 0) pe_str (fun _ _ => rfl))) (pg_name (i := 5) scM.nd rfl (Or.inl rfl))
          (pss_one (ps_set (i := 4) scM.nd rfl (Or.inl rfl) (pe_op op_modN (pe_op op_add (pe_op op_mul (pv 4) pe_int) (pe_callTy call_int1 (by rfl) mi (by decide +kernel) (pa_cons (pv 5) pa_nil))) (pv 3)))))
        (pss_one (ps_set (i := 2) scM.nd rfl (Or.inl rfl) (pe_op op_add (pe_op op_mul (pv 2) pe_int) (pe_op op_modN (pe_op op_pow (pv 4) pe_int) (pv 3))))))))
      (pss_one (ps_ret (pv 2))))), ?_⟩
    -- draw['turn'] = draw['turn'] + 1
    refine ⟨_, rfl, d, _, rfl, by rw [← kv_turn (l := l) (c := c) (rest := rest) (turn := turn)]; exact DGet.k (k := kT) D.hd, turn, 1, rfl, rfl, _, rfl, d, _, rfl, DPut.k (k := kT) D.hd (by rw [kv_len]; decide), ?_⟩
    rw [put_turn]
    have D1 := D.put rest (turn + 1)
    -- turn, found
    refine ⟨_, rfl, d, _, rfl, by rw [← kv_turn (l := l) (c := c) (rest := rest) (turn := turn + 1)]; exact DGet.k (k := kT) D1.hd, .inl ⟨_, rfl, _, _, rfl, ?_⟩⟩
    -- the three moduli
    refine ⟨by show 3 ≤ sizeLine; decide, fun p np => ?_⟩
    have D2 : At (upd (upd H d (.dK (kv l c rest (turn + 1)))) p (.lst [.int 2147483629, .int 2147483587, .int 2147483579])) d l c large cells rest (turn + 1) := D1.same (same_upd np)
    refine ⟨p, rfl, ⟨_, .inl (.inl upd_same)⟩, for_list (K := K) (a := p) (xs := [.int 2147483629, .int 2147483587, .int 2147483579])
      (fun i σ H' => ∃ (found : Int) (x3 x4 x5 : Option V), σ = [some (.ref d), some (.int (turn + 1)), some (.int found), x3, x4, x5] ∧ H' = upd (upd H d (.dK (kv l c rest (turn + 1)))) p (.lst [.int 2147483629, .int 2147483587, .int 2147483579]))
      ⟨0, none, none, none, rfl, rfl⟩ (fun i σ H' _ ⟨_, _, _, _, _, e⟩ => by rw [e]; exact .inl (.inl upd_same)) ?_ ?_⟩
    · rintro i y σ H' hi ⟨found, x3, x4, x5, rfl, rfl⟩
      have hm : y ∈ [V.int 2147483629, .int 2147483587, .int 2147483579] := List.mem_of_getElem? hi
      obtain ⟨g, rfl, g0, g1⟩ : ∃ g : Int, y = .int g ∧ 0 < g ∧ g < 2147483648 := by
        simp only [List.mem_cons, List.not_mem_nil, or_false] at hm
        rcases hm with rfl | rfl | rfl
        · exact ⟨_, rfl, by decide, by decide⟩
        · exact ⟨_, rfl, by decide, by decide⟩
        · exact ⟨_, rfl, by decide, by decide⟩
      have gn : g ≠ 0 := by omega
      -- blend
      refine ⟨_, rfl, _, _, rfl, rfl, .inr ⟨by decide, by decide⟩, _, rfl, _, _, rfl, rfl, ⟨by decide, by decide⟩, _, _, rfl, rfl, _, rfl, _, _, rfl, rfl, gn, ?_⟩
      have b0 := fmod_in (i := (turn + 1) * 69621 + g.fdiv 7) g0
      refine ⟨_, rfl, d, _, rfl, by rw [← kv_cells (l := l) (c := c) (rest := rest) (turn := turn + 1)]; exact DGet.k (k := kC) D2.hd, c, rfl, ⟨_, .inl (.inl D2.hc)⟩, for_list (K := K) (a := c) (xs := cells.map V.int)
        (fun i σ H' => ∃ (blend : Int) (x5 : Option V), 0 ≤ blend ∧ blend < g ∧ σ = [some (.ref d), some (.int (turn + 1)), some (.int found), some (.int g), some (.int blend), x5] ∧ H' = upd (upd H d (.dK (kv l c rest (turn + 1)))) p (.lst [.int 2147483629, .int 2147483587, .int 2147483579]))
        ⟨_, x5, b0.1, b0.2, rfl, rfl⟩ (fun i σ H' _ ⟨_, _, _, _, _, e⟩ => by rw [e]; exact .inl (.inl D2.hc)) ?_ ?_⟩
      · rintro j y σ H' hj ⟨blend, x5, h0, h1, rfl, rfl⟩
        obtain ⟨n, rfl, _, _⟩ := int_at hj
        refine ⟨_, rfl, _, _, rfl, rfl, .inr ⟨by decide, by decide⟩, _, rfl, .inl ⟨_, rfl, _, _, rfl, rfl, _, rfl, _, _, rfl, rfl, gn, ?_⟩⟩
        have b1 := fmod_in (i := blend * 48271 + n) g0
        exact ⟨_, _, b1.1, b1.2, rfl, rfl⟩
      · rintro σ H' ⟨blend, x5, h0, h1, rfl, rfl⟩
        refine ⟨_, rfl, _, _, rfl, rfl, .inr ⟨by decide, by decide⟩, _, rfl, _, _, rfl, rfl, ⟨by decide, by decide, by omega⟩, _, rfl, _, _, rfl, rfl, gn, _, _, rfl, rfl, ?_⟩
        exact ⟨_, _, _, _, rfl, rfl⟩
    · rintro σ H' ⟨found, x3, x4, x5, rfl, rfl⟩
      exact ⟨_, rfl, k _ _ D2 ((kp_put).trans (Kp.of (same_upd np)))⟩
end
end Dr

/-! # Dr3 -/
namespace Dr
open PySem L2
/-! ### lists of whole numbers as data -/
theorem dpInts {K : PySem.W.Frag} {H : Hp} : ∀ ns : List Int, DpAll K H (ns.map V.int) (ns.map PyData.int)
  | [] => .nil
  | n :: r => .cons (.int n) (dpInts r)
theorem canInts : ∀ ns : List Int, PyData.canLayAll0 (ns.map PyData.int) = true
  | [] => rfl
  | n :: r => by
    show (PyData.canLay0 (.int n) && PyData.canLayAll0 (r.map PyData.int)) = true
    rw [canInts r]
    rfl
theorem depthInts : ∀ ns : List Int, PyData.depthAll (ns.map PyData.int) = 0
  | [] => rfl
  | n :: r => by
    show max (PyData.depth (.int n)) (PyData.depthAll (r.map PyData.int)) = 0
    rw [depthInts r]
    rfl
theorem shapedInts (ns : List Int) : SeqAt.shaped (.list (ns.map PyData.int)) = true := by
  show (PyData.canLayAll0 (ns.map PyData.int) && decide (PyData.depthAll (ns.map PyData.int) + 1 ≤ 64)) = true
  rw [canInts, depthInts]
  rfl
theorem seq0 {n : Nat} (h : 0 < n) : seqIndex? 0 n = some 0 := by
  have h2 : (0 : Int) < (n : Int) := by omega
  have h3 : ¬ n = 0 := by omega
  simp [seqIndex?, h2, h3]
section
variable {P : Program} {w : World} {K : PySem.W.Frag} {mg : Str → Option Value} {base : Heap}
/-- a number from 0 to amount - 1 -/
def spTake : Sp := fun vs H Q _ => ∃ (d l : Addr) (n : Int), vs = [.ref d, .int n] ∧ Ok H d l ∧ 0 < n ∧ n < 1073741824 ∧
  ∀ (v : Int) (H' : Hp), 0 ≤ v → v < n → Ok H' d l → Kp d l H H' → Q (.int v) H'
theorem scT : FnScope ["draw", "amount", "found"] ["draw", "amount"] (defScope sTake) := ⟨rfl, rfl, rfl, by decide +kernel, rfl, by decide +kernel, by decide +kernel⟩
theorem ok_take {f fM : Addr} {fd fdM : FuncData} (F : Fun K "_law_take" "_law_take" sTake f fd) (FM : Fun K "_law_mixed" "_law_mixed" sMixed fM fdM) (bM : Binds K fdM ["draw"] []) (gM : mg "_law_mixed" = some (.ref fM)) (mi : mg "int" = none) :
    FnOk P w K mg base CX0 2 f fd ["draw", "amount"] spTake := by
  have GM : FnOk P w K mg base CX0 1 fM fdM ["draw"] spMixed := ok_mixed FM mi
  refine F.ok scT (fun vs H Q E h => ?_) (fun cdv A outer s H vs Q E hr h => ?_)
  · obtain ⟨d, l, n, rfl, _⟩ := h
    rfl
  · obtain ⟨d, l, n, rfl, ⟨c, large, cells, rest, turn, D⟩, n0, n1, k⟩ := h
    have hu := hu_of hr
    refine ⟨_, pss_cons (ps_if (pt_cmpR op_eq (pe_dget hu (pv 0) pe_str (fun _ _ => rfl)) pe_int (nomark _))
        (pss_one (ps_dput hu (pv 0) pe_str (pe_ifExp (pt_cmpR (op_neD hr.units) (pe_dget hu (pv 0) pe_str (fun _ _ => rfl)) (pe_lst pa_nil) (nomark _))
          (pe_bm PySem.F.plainAttrs_list PySem.F.slot_list_pop PySem.F.type_list_pop mt_popAt (pe_dget hu (pv 0) pe_str (fun _ _ => rfl)) (pa_cons pe_int pa_nil))
          (pe_call GM hr (by rfl) gM FM.kp bM .nil pass0 (pa_cons (pv 0) pa_nil))) rfl)) pss_nil)
      (pss_cons (ps_set (i := 2) scT.nd rfl (Or.inl rfl) (pe_op op_modN (pe_callTy call_int1 (by rfl) mi (by decide +kernel) (pa_cons (pe_dget hu (pv 0) pe_str (fun _ _ => rfl)) pa_nil)) (pv 1)))
      (pss_cons (ps_dput hu (pv 0) pe_str (pe_op op_fdivN (pe_callTy call_int1 (by rfl) mi (by decide +kernel) (pa_cons (pe_dget hu (pv 0) pe_str (fun _ _ => rfl)) pa_nil)) (pv 1)) rfl)
      (pss_one (ps_ret (pv 2))))), ?_⟩
    -- behind the if: some state of the draws
    have back : ∀ (H' : Hp) (large' : List Int) (rest' turn' : Int), At H' d l c large' cells rest' turn' → Kp d l H H' →
        (tSeq (tAsg (tOp (rI (fun x j => j ≠ 0) fun i j => V.int (i.fmod j)) (tCB (fun xs H Q => (∃ i, xs = [V.int i] ∧ Q (.int i) H) ∨ ∃ k, xs = [V.bl k] ∧ Q (.int (if k then 1 else 0)) H) (tCons (tDGet (tVar 0) (tC (.str "rest"))) tNil)) (tVar 1)) (gName 2))
          (tSeq (sDPut (tVar 0) (tC (.str "rest")) (tOp (rI CDivN fun i j => V.int (i.fdiv j)) (tCB (fun xs H Q => (∃ i, xs = [V.int i] ∧ Q (.int i) H) ∨ ∃ k, xs = [V.bl k] ∧ Q (.int (if k then 1 else 0)) H) (tCons (tDGet (tVar 0) (tC (.str "rest"))) tNil)) (tVar 1)))
          (tRet (tVar 2)))) { nx := fun _ H' => Q .non H', rt := Q } [some (.ref d), some (.int n), none] H' := by
      intro H' large' rest' turn' D' kp
      have b := fmod_in (i := rest') n0
      refine ⟨_, rfl, d, _, rfl, by rw [← kv_rest (l := l) (c := c) (rest := rest') (turn := turn')]; exact DGet.k (k := kR) D'.hd, .inl ⟨_, rfl, _, rfl, _, _, rfl, rfl, by omega, ?_⟩⟩
      refine ⟨_, rfl, d, _, rfl, by rw [← kv_rest (l := l) (c := c) (rest := rest') (turn := turn')]; exact DGet.k (k := kR) D'.hd, .inl ⟨_, rfl, _, rfl, _, _, rfl, rfl, ⟨by omega, by omega⟩, ?_⟩⟩
      refine ⟨_, rfl, d, _, rfl, DPut.k (k := kR) D'.hd (by rw [kv_len]; decide), ?_⟩
      rw [put_rest]
      exact ⟨_, rfl, k _ _ b.1 b.2 ⟨_, _, _, _, _, D'.put _ _⟩ (kp.trans kp_put)⟩
    -- if draw['rest'] == 0
    refine ⟨_, rfl, d, _, rfl, by rw [← kv_rest (l := l) (c := c) (rest := rest) (turn := turn)]; exact DGet.k (k := kR) D.hd, rfl, _, rfl, ite2 (fun _ => ?_) (fun _ => ?_)⟩
    · -- draw['large'] != []
      refine ⟨_, rfl, d, _, rfl, by rw [← kv_large (l := l) (c := c) (rest := rest) (turn := turn)]; exact DGet.k (k := kL) D.hd, Nat.zero_le _, fun p np => ?_⟩
      have D1 : At (upd H p (.lst [])) d l c large cells rest turn := D.same (same_upd np)
      refine ⟨_, _, .lst (.inl (.inl D1.hl)) (dpInts large), .lst (.inl (.inl upd_same)) .nil, shapedInts large, by decide +kernel, _, rfl, ?_⟩
      cases large with
      | nil =>
        refine iteF ?_
        -- _law_mixed(draw)
        refine ⟨_, rfl, d, l, c, [], cells, rest, turn, rfl, D1, fun v H' D2 kp => ?_⟩
        refine ⟨_, rfl, d, _, rfl, DPut.k (k := kR) D2.hd (by rw [kv_len]; decide), ?_⟩
        rw [put_rest]
        exact back _ _ _ _ (D2.put _ _) (((Kp.of (same_upd np)).trans kp).trans kp_put)
      | cons z r =>
        refine iteT ?_
        -- draw['large'].pop(0)
        refine ⟨_, rfl, d, V.ref l, rfl, by rw [← kv_large (l := l) (c := c) (rest := rest) (turn := turn)]; exact DGet.k (k := kL) D1.hd, .inl ⟨rfl, _, SqL.of D1.hl⟩, l, _, 0, 0, .int z, rfl, rfl, D1.hl, by decide, by decide, seq0 (by rw [List.length_map, List.length_cons]; omega), rfl, ?_⟩
        have D2 : At (upd (upd H p (.lst [])) l (.lst (((z :: r).map V.int).eraseIdx 0))) d l c r cells rest turn :=
          ⟨by rw [upd_ne D1.dl]; exact D1.hd, upd_same, by rw [upd_ne D1.lc.symm]; exact D1.hc, by have := D1.nl; rw [List.length_cons] at this; omega, D1.nc, D1.lc⟩
        refine ⟨_, rfl, d, _, rfl, DPut.k (k := kR) D2.hd (by rw [kv_len]; decide), ?_⟩
        rw [put_rest]
        exact back _ _ _ _ (D2.put _ _) (((Kp.of (same_upd np)).trans (fun b o e _ nl => by rw [upd_ne nl]; exact e)).trans kp_put)
    · exact back _ _ _ _ D (Kp.refl H)
end
end Dr

/-! # Dr4 -/
namespace Dr
open PySem L2
theorem merge_kv {l c : Addr} {rest turn : Int} : mergeK [] (kv l c rest turn) = kv l c rest turn := by
  simp [mergeK, putK, kv, sLR, sLC, sLT, sRL, sRC, sRT, sCL, sCR, sCT, sTL, sTR, sTC]
/-- no test: each item is taken -/
theorem tYes_if {σ : St} {H : Hp} {A : Hp → Prop} {B : Hp → Prop} (h : A H) : tYes σ H fun b H3 => if b = true then A H3 else B H3 := by
  show if true = true then A H else B H
  rw [if_pos rfl]
  exact h
section
variable {P : Program} {w : World} {K : PySem.W.Frag} {mg : Str → Option Value} {base : Heap}
/-- one of some things -/
def spPick : Sp := fun vs H Q _ => ∃ (d l a : Addr) (xs : List V), vs = [.ref d, .ref a] ∧ Ok H d l ∧ H a = some (.lst xs) ∧ a ≠ l ∧ 0 < xs.length ∧ xs.length ≤ 1000 ∧
  ∀ (i : Nat) (x : V) (H' : Hp), xs[i]? = some x → Ok H' d l → Kp d l H H' → Q x H'
theorem scP : FnScope ["draw", "some"] ["draw", "some"] (defScope sPick) := ⟨rfl, rfl, rfl, by decide +kernel, rfl, by decide +kernel, by decide +kernel⟩
theorem ok_pick {f fT fM : Addr} {fd fdT fdM : FuncData} (F : Fun K "_law_pick" "_law_pick" sPick f fd) (FT : Fun K "_law_take" "_law_take" sTake fT fdT) (bT : Binds K fdT ["draw", "amount"] []) (gT : mg "_law_take" = some (.ref fT))
    (FM : Fun K "_law_mixed" "_law_mixed" sMixed fM fdM) (bM : Binds K fdM ["draw"] []) (gM : mg "_law_mixed" = some (.ref fM)) (mi : mg "int" = none) (ml : mg "len" = none) :
    FnOk P w K mg base CX0 3 f fd ["draw", "some"] spPick := by
  have GT : FnOk P w K mg base CX0 2 fT fdT ["draw", "amount"] spTake := ok_take FT FM bM gM mi
  refine F.ok scP (fun vs H Q E h => ?_) (fun cdv A outer s H vs Q E hr h => ?_)
  · obtain ⟨d, l, a, xs, rfl, _⟩ := h
    rfl
  · obtain ⟨d, l, a, xs, rfl, D, ha, nal, x0, x1, k⟩ := h
    have hu := hu_of hr
    refine ⟨_, pss_one (ps_ret (pe_ix ix_list (pv 1) (pe_call GT hr (by rfl) gT FT.kp bT .nil pass0 (pa_cons (pv 0) (pa_cons (pe_callB call_len_seq (by rfl) ml PySem.boot_len (pa_cons (pv 1) pa_nil)) pa_nil))) (fun _ _ => rfl))), ?_⟩
    refine ⟨_, rfl, _, rfl, .ref a, rfl, a, xs, rfl, .inl (.inl (.inl ha)), d, l, xs.length, rfl, D, by omega, by omega, fun v H' v0 v1 D' kp => ?_⟩
    have nad : a ≠ d := by
      obtain ⟨c, large, cells, rest, turn, z⟩ := D
      exact ne_of ha z.hd (by intro q; cases q)
    have ha' := kp a _ ha nad nal
    obtain ⟨j, rfl⟩ : ∃ j : Nat, v = (j : Int) := ⟨v.toNat, by omega⟩
    have hlt : j < xs.length := by omega
    have hx : xs[j]? = some xs[j] := List.getElem?_eq_getElem hlt
    exact ⟨a, xs, _, xs[j], rfl, rfl, .inl (.inl ha'), atI_nat hx, k j _ H' hx D' kp⟩
/-- the state of the draws, made of the script -/
def spBegun : Sp := fun vs H Q _ => ∃ (a : Addr) (ns : List Int), vs = [.ref a] ∧ SqL K H a (ns.map V.int) ∧ ns.length ≤ 63 ∧
  ∀ (d l : Addr) (H' : Hp), Ok H' d l → Same H H' → H d = none → H l = none → Q (.ref d) H'
theorem scB : FnScope ["script", "large", "grain"] ["script"] (defScope sBegun) := ⟨rfl, rfl, rfl, by decide +kernel, rfl, by decide +kernel, by decide +kernel⟩
theorem ok_begun {f : Addr} {fd : FuncData} (F : Fun K "_law_begun" "_law_begun" sBegun f fd) (ma : mg "abs" = none) : FnOk P w K mg base CX0 1 f fd ["script"] (spBegun (K := K)) := by
  refine F.ok scB (fun vs H Q E h => ?_) (fun cdv A outer s H vs Q E hr h => ?_)
  · obtain ⟨a, ns, rfl, _⟩ := h
    rfl
  · obtain ⟨a, ns, rfl, hS, hl, k⟩ := h
    have hu := hu_of hr
    refine ⟨_, pss_cons (ps_setLc (i := 1) (own := [("grain", 2)]) (g := gName 2) rfl scB.nd rfl rfl (sw_true rfl rfl rfl (by decide +kernel)) (pi_list (pv 0)) (blkOk_by (own := [("grain", 2)]) (N := ["script", "large", "grain"]) (sc := defScope sBegun) (by decide +kernel)) (fun _ _ _ _ _ => pg_name (i := 2) scB.nd rfl (Or.inl rfl))
        (fun _ _ _ _ _ => pts_one (pt_cmpR op_ge (pe_callB call_abs (by rfl) ma (by decide +kernel) (pa_cons (pv 2) pa_nil)) (pe_op op_pow pe_int pe_int) (nomark _)))
        (fun _ _ _ _ _ => pe_op op_sub (pe_callB call_abs (by rfl) ma (by decide +kernel) (pa_cons (pv 2) pa_nil)) (pe_op op_pow pe_int pe_int)))
      (pss_one (ps_ret (pe_disp (pps_cons pe_str (pv 1) (pps_cons pe_str pe_int (pps_cons pe_str (pe_lc (own := [("grain", 2)]) (g := gName 2) rfl scB.nd (pi_list (pv 0)) (blkOk_by (own := [("grain", 2)]) (N := ["script", "large", "grain"]) (sc := defScope sBegun) (by decide +kernel)) (fun _ _ _ _ _ => pg_name (i := 2) scB.nd rfl (Or.inl rfl)) (fun _ _ _ _ _ => pts_nil)
          (fun _ _ _ _ _ => pe_callB call_abs (by rfl) ma (by decide +kernel) (pa_cons (pv 2) pa_nil))) (pps_cons pe_str pe_int pps_nil)))) (by rfl) (by rfl) (fun z => by cases z) (by decide)))), ?_⟩
    -- large
    refine ⟨_, rfl, a, rfl, ⟨_, hS⟩, fun L nL => ?_⟩
    have sL : ∀ o, Same H (upd H L o) := fun o => same_upd nL
    refine lc_list (K := K) (a := a) (xs := ns.map V.int) (fun i H' => ∃ large : List Int, large.length ≤ i ∧ H' = upd H L (.lst (large.map V.int))) ⟨[], Nat.le_refl _, rfl⟩ (fun i H' _ ⟨large, _, e⟩ => by rw [e]; exact (sL _).seq hS) ?_ ?_
    · rintro i y H' hi ⟨large, hle, rfl⟩
      obtain ⟨n, rfl, hin, _⟩ := int_at hi
      refine ⟨rfl, ?_⟩
      refine ⟨_, rfl, _, rfl, _, _, rfl, rfl, ⟨by decide, by decide, by decide⟩, _, _, rfl, rfl, _, rfl, ite2 (fun _ => ?_) (fun _ => ?_)⟩
      · refine ⟨_, rfl, _, rfl, _, _, rfl, rfl, ⟨by decide, by decide, by decide⟩, _, _, rfl, rfl, _, upd_same, ?_, ?_⟩
        · rw [List.length_map]
          exact small1000 (by omega)
        · refine ⟨large ++ [(if n < 0 then -n else n) - 10 ^ Int.toNat 18], by rw [List.length_append]; exact Nat.succ_le_succ hle, ?_⟩
          rw [upd_upd, List.map_append]
          rfl
      · exact ⟨large, by omega, rfl⟩
    · rintro H' ⟨large, hle, rfl⟩
      rw [List.length_map] at hle
      -- the state
      refine fun p np => ⟨_, rfl, ?_⟩
      have s2 : ∀ o, Same H (upd (upd H L (.lst (large.map V.int))) p o) := fun o => (sL _).trans (same_upd np)
      refine ⟨_, rfl, a, rfl, ⟨_, (s2 _).seq hS⟩, fun c nc => ?_⟩
      have s3 : ∀ o, Same H (upd (upd (upd H L (.lst (large.map V.int))) p (.dK [])) c o) := fun o => (s2 _).trans (same_upd nc)
      have npL : p ≠ L := fun e => by rw [e, upd_same] at np; cases np
      have ncp : c ≠ p := fun e => by rw [e, upd_same] at nc; cases nc
      have ncL : c ≠ L := fun e => by rw [e, upd_ne npL.symm, upd_same] at nc; cases nc
      refine lc_list (K := K) (a := a) (xs := ns.map V.int) (fun i H' => ∃ cells : List Int, cells.length ≤ i ∧ H' = upd (upd (upd H L (.lst (large.map V.int))) p (.dK [])) c (.lst (cells.map V.int))) ⟨[], Nat.le_refl _, rfl⟩ (fun i H' _ ⟨cells, _, e⟩ => by rw [e]; exact (s3 _).seq hS) ?_ ?_
      · rintro i y H' hi ⟨cells, hce, rfl⟩
        obtain ⟨n, rfl, hin, _⟩ := int_at hi
        refine ⟨rfl, ?_⟩
        refine tYes_if ?_
        refine ⟨_, rfl, _, rfl, _, upd_same, ?_, ?_⟩
        · rw [List.length_map]
          exact small1000 (by omega)
        · refine ⟨cells ++ [if n < 0 then -n else n], by rw [List.length_append]; exact Nat.succ_le_succ hce, ?_⟩
          rw [upd_upd, List.map_append]
          rfl
      · rintro H' ⟨cells, hce, rfl⟩
        rw [List.length_map] at hce
        refine ⟨by rw [upd_ne ncp.symm, upd_same], kv L c 0 0, rfl, by rw [kv_len]; decide, ?_⟩
        rw [merge_kv]
        have np0 : H p = none := by rw [upd_ne npL] at np; exact np
        refine k p L _ ⟨c, large, cells, 0, 0, upd_same, ?_, ?_, by omega, by omega, ncL.symm⟩ (fun b o e => ?_) np0 nL
        · rw [upd_ne npL.symm, upd_ne ncL.symm, upd_ne npL.symm, upd_same]
        · rw [upd_ne ncp, upd_same]
        · rw [upd_ne (ne_of_none e np0)]
          exact s3 _ _ _ e
end
end Dr

/-! # Er -/
/-! An own error class whose __init__ says super().__init__('..') and then stores what it is made of. -/
namespace Er
open PySem PySem.W PySem.Calls PyProof.Rows PySem.HandSPX
def eA (y : Str) (p1 p2 : Pos) : Arguments := ⟨[], [⟨"self", none, p1⟩, ⟨y, none, p2⟩], none, [], [], none, []⟩
structure Ps where
  (a b c d e f g h i j : Pos)
def eB (y m : Str) (p : Ps) : List Stmt :=
  [.Expr (.Call (.Attribute (.Call (.Name "super" p.a) [] [] p.b) "__init__" p.c) [.Constant (.str m) 0 p.d] [] p.e) p.f, .Assign [.Attribute (.Name "self" p.g) y p.h] (.Name y p.i) p.j]
def eS (y : Str) : Scope := { kind := .function, names := [("self", .local), (y, .local), ("__class__", .free), ("super", .globalImplicit)], isGenerator := false, isCoroutine := false, more := [] }
/-- that the call of super().__init__ is the call of a method (the places of its words are so) -/
def Hv (p : Ps) : Prop := ∀ (m : Str) (env : Env), ∃ pl : Sem Bool, eval (.Call (.Attribute (.Call (.Name "super" p.a) [] [] p.b) "__init__" p.c) [.Constant (.str m) 0 p.d] [] p.e) env = (do
  let ov ← attributeBase (.Call (.Name "super" p.a) [] [] p.b) "__init__" env (eval (.Call (.Name "super" p.a) [] [] p.b) env)
  standAt p.c.atName
  let (f, first) ← holding [ov] (getMethod ov "__init__" pl)
  callWith p.e f first (backTo p.e (starEach [.Constant (.str m) 0 p.d] env)) [])
/-- the names of the fields -/
structure Nm (y : Str) : Prop where
  l : (eS y).names.lookup y = some .local
  c : (eS y).names.lookup ("__class__" : Str) = some .free
  u : (eS y).names.lookup ("super" : Str) = some .globalImplicit
  s : (("self" : Str) == y) = false
  d : (y == ("__debug__" : Str)) = false
abbrev fnE (y m qual : Str) (p1 p2 : Pos) (p : Ps) (kV doc pm : Value) (an : Option Addr) (cda cc : Addr) (ct : Value) : FuncData :=
  ksFn "__init__" qual (eA y p1 p2) (eB y m p) (eS y) .none kV doc pm an (.ref cda) ct cc
/-- what the written part says of such a class at C and of its __init__ at f -/
structure T (file : Str) (K : Frag) (y : Str) (C f : Addr) : Prop where
  nm : Nm y
  cls : ∃ nm q N bs bm sn sub ab col dd k0 k1 k2 k3 k5, K.lookup C = some (excClassObj nm q C N bs bm true sn sub ab col dd k0 k1 k2 k3 k5 "ValueError.__new__") ∧ refsVE bm = true
  sa : findIn K (.ref C) "__setattr__" = some (some (.builtin "object.__setattr__"))
  no : findIn K (.ref C) y = some none
  ini : findIn K (.ref C) "__init__" = some (some (.ref f))
  ty : typeIn K (.ref f) = some (.type "function")
  kC : keepIn K (.ref C) = true
  sup : ks_superIn K C C "__init__" = some (some (.builtin "ValueError.__init__"))
  ve : subIn K (.ref C) (.type "ValueError") = some true
  cc : mroIn K C (.ref C) = some true
  opq : nsIn K cStatics "thirdparty.any" = some none
  fn : ∃ (m qual : Str) (p1 p2 : Pos) (p : Ps) (kV doc pm ct oc ccl cl : Value) (an od cdd cld : Option Addr) (cda cc : Addr) (osl ccs csl : Array (Option Value)) (vs : Array Value) (tf : Tok),
    K.lookup f = some ⟨oc, od, .func (fnE y m qual p1 p2 p kV doc pm an cda cc ct), osl⟩ ∧ codeIn K (.ref cda) qual = true ∧ K.lookup cda = some ⟨ccl, cdd, .fields vs, ccs⟩ ∧ vs[2]? = some (.str file tf) ∧ K.lookup cc = some ⟨cl, cld, .cell (some (.ref C)), csl⟩ ∧ Hv p ∧ m.length ≤ sizeLine
section
variable {prog : Program} {w : World} {A : Around} {E : Value → Shared → Prop} {R : Result → Shared → Prop} {s : Shared} {K : Frag} {y file : Str} {C f : Addr}
theorem init (Z : T file K y C f) {x t0 : Addr} {v : Value} {args : Args} {mg mb : Str → Option Value} (X : K.In s.heap) (hlim : s.heap.NoLimit) (hg : s.heap.Ns mainGlobals mg) (hgs : mg "super" = none) (hb : s.heap.Ns builtinsNs mb) (hbs : mb "super" = some (.type "super"))
    (hfile : ((prog.main.file : Str) == file) = true) (htop : (prog.main.scope.names.lookup ("super" : Str)).isSome = false) (hx : s.heap.get? x = some (excO C t0)) (hnx : K.lookup x = none) (hroom : A.depth < recursionLimit)
    (hbd : ∀ (m qual : Str) (p1 p2 : Pos) (p : Ps) (kV doc pm ct : Value) (an : Option Addr) (cda cc : Addr), bindArgs (fnE y m qual p1 p2 p kV doc pm an cda cc ct) args = pure ([("self", .ref x), (y, v)] : List (Str × Value)))
    (hq : ∀ h' tk dx t1, (∀ b o, b ≠ x → s.heap.get? b = some o → h'.get? b = some o) → s.heap.objs.size ≤ dx → dx ≠ x → h'.get? x = some { cls := .ref C, dict := some dx, data := .fields #[.ref t1, .none, .none, .none, .bool false, .none] } →
      h'.Ns1 dx (fun z => if z = y then some v else none) → R (.ok (.ret .none)) { s with heap := h', toks := tk }) :
    codeAny (model prog w) A (.call (.ref f) args) R s := by
  obtain ⟨m, qual, p1, p2, p, kV, doc, pm, ct, oc, ccl, cl, an, od, cdd, cld, cda, cc, osl, ccs, csl, vs, tf, hf, hcd, hco, hvs, hcc, hv, hm⟩ := Z.fn
  obtain ⟨pl, hpl⟩ := hv m (callEnv (fnE y m qual p1 p2 p kV doc pm an cda cc ct) s.heap.objs.size f)
  obtain ⟨nm, q, N, bs, bm, sn, sub, ab, col, dd, k0, k1, k2, k3, k5, hC, hbm⟩ := Z.cls
  refine ks_codeAny_call_defAt (binds := ([("self", .ref x), (y, v)] : List (Str × Value))) hroom (X _ _ hf) rfl hlim (codeRec_of X hcd) rfl (BindsTo.of_eq (hbd ..)) ?_ ?_ (fun h₀ hns hk => ?_)
  · intro z hz
    have hz : z = (("self" : Str), NameKind.local) ∨ z = (y, NameKind.local) ∨ z = (("__class__" : Str), NameKind.free) ∨ z = (("super" : Str), NameKind.globalImplicit) := by simpa [eS] using hz
    rcases hz with rfl | rfl | rfl | rfl <;> exact fun q => nomatch q
  · intro z hz
    have hz : z = (("self" : Str), Value.ref x) ∨ z = (y, v) := by simpa using hz
    rcases hz with rfl | rfl
    · rfl
    · exact Z.nm.l
  · have X₀ : K.In h₀ := X.keeps hk
    have hx₀ := hk _ _ hx
    -- super()
    refine ks_wpAt_execs_cons (ks_wpAt_Expr_any (ks_wpAt_MethodCall (he := hpl) (ks_wpAt_super_base Z.nm.u Z.nm.c (by decide) rfl (X₀ _ _ hf) rfl rfl rfl (X₀ _ _ hco) rfl hvs hfile htop ?_)))
    refine ks_loadName_global rfl Z.nm.u (loadGlobal_builtin (hg.keeps hk) hgs (hb.keeps hk) hbs ⟨rfl, ?_⟩)
    refine wpAny_loadName_free rfl Z.nm.c rfl ⟨_, X₀ _ _ hcc, rfl⟩ ?_
    refine wpAny_loadName_local (v := .ref x) rfl rfl hns (by simp [List.lookup, Z.nm.s]) ?_
    refine ks_wpAny_isType_cls (X₀ _ _ hC) rfl ⟨rfl, ?_⟩
    refine ks_wpAny_call_super (X₀ _ _ hC) rfl hx₀ rfl (fun c e => nomatch e) (looks_mroIn X₀ Z.cc) (fun h₁ e k₁ => ?_)
    have X₁ : K.In h₁ := X₀.keeps k₁
    have hx₁ := k₁ _ _ hx₀
    have hcl : clsIn K C = some { name := nm, bases := bs, mro := .ref C :: bm, ns := N, qualname := q, hasDict := true, slotNames := sn, subclasses := sub, abstract := ab, collection := col, hasDel := false } := by
      unfold clsIn
      rw [hC] <;> rfl
    have I₁ : InstAt h₁ x (excO C t0) C none := ⟨hx₁, rfl, rfl, trivial⟩
    have hsup : alongIn K "__init__" ((((Value.ref C :: bm).dropWhile (· != .ref C)).drop 1)) = some (some (.builtin "ValueError.__init__")) := by
      have z := Z.sup
      unfold ks_superIn at z
      rw [hcl] at z
      exact z
    -- .__init__
    refine kxs_getMethod kxs_ValueError e (looks_opaque X₁ Z.opq) ((looks_clsIn X₁ hcl).andThen .now) rfl X₁ hsup (I₁.type.andThen (looks_subIn X₁ Z.ve)) (ks_ne X₁ I₁ hcl) (by decide) ?_
    have hu : (h₁.push (kxs_mw "ValueError.__init__" x)).get? h₁.objs.size = some (kxs_mw "ValueError.__init__" x) := Heap.get?_push_at rfl rfl
    have k₂ : ∀ b o, h₁.get? b = some o → (h₁.push (kxs_mw "ValueError.__init__" x)).get? b = some o := fun b o e => Heap.get?_push_of_some _ e
    have hx₂ := k₂ _ _ hx₁
    -- (..)
    refine kxs_callWith (i := "ValueError.__init__") (x := x) rfl (evalArgs_plain (spliced_cons (wpAny_Constant_str (k := 0) (pos := p.d) (spliced_nil ⟨hu, ?_⟩))))
    have hC₂ := k₂ _ _ (X₁ _ _ hC)
    refine wpAny_call (codeAny_of_tree ?_)
    show wpAny _ _ (callAny (.ref h₁.objs.size) ⟨[_], []⟩) _ _ _
    simp only [callAny]
    refine wpAny_bind (wpAny_load hu ?_)
    simp only [kxs_mw, show ((Value.type "method-wrapper" == Value.type "method") || (Value.type "method-wrapper" == Value.type "builtin_function_or_method") || (Value.type "method-wrapper" == Value.type "method-wrapper")) = true by decide, if_true]
    refine KFB.if_so (by decide) (wpAny_bind (check_bound_init F.excBase_ValueError.toExcCallFacts hC₂ hx₂ rfl (wpAny_bind (wpAny_pure (wpAny_pure ⟨plainId_quiet F.excBase_ValueError.init.plain _, codeAny_builtin F.excBase_ValueError.initEntry ?_⟩)))))
    refine exc_init_tree (cls := .ref C) (t0 := t0) (dv := none) (c2 := .none) (c3 := .none) (b4 := .bool false) hx₂ (by show 1 ≤ sizeLine; decide) (fun h₃ k₃ e₃ _ => ?_)
    have hxL : s.heap.objs.size ≠ x := Nat.ne_of_gt (Heap.lt_size hx)
    have old : ∀ b o, b ≠ x → h₀.get? b = some o → h₃.get? b = some o := fun b o hb z => k₃ b o hb (k₂ b o (k₁ b o z))
    have hns₃ : h₃.Ns s.heap.objs.size fun z => List.lookup z (([("self", .ref x), (y, v)] : List (Str × Value)).reverse) := hns.at fun o z => old _ _ hxL z
    have X₃ : K.In h₃ := fun b o z => old b o (fun q => by rw [q, hnx] at z; cases z) (X₀ b o z)
    -- self.y = y
    refine wpAt_of_wpAny (wpAny_execs_cons (plainObj_wpAny_Assign_Attribute ?_))
    refine wpAny_Name (wpAny_loadName_local (v := v) rfl Z.nm.l hns₃ (by simp [List.lookup]) ?_) Z.nm.d
    refine wpAny_Name (wpAny_loadName_local (v := .ref x) rfl rfl hns₃ (by simp [List.lookup, Z.nm.s]) ?_)
    refine set_plain X₃ (ox := excRec (.ref C) (h₁.push (kxs_mw "ValueError.__init__" x)).objs.size none .none .none (.bool false)) (od := none) ⟨e₃, rfl, rfl, trivial⟩ Z.sa ?_
    refine exc_osa X₃ e₃ hcl (show refsVE (.ref C :: bm) = true from hbm) rfl Z.no (fun h₄ tk₄ dx k₄ dn dne hx₄ hn₄ => ?_)
    show wpAny _ _ (execs _ _) _ _ _
    have sz : s.heap.objs.size < h₃.objs.size := by
      obtain ⟨o, _, _, z, _⟩ := hns₃
      exact Heap.lt_size z
    exact wpAny_execs_nil (hq h₄ tk₄ dx _ (fun b o hb z => k₄ b o hb (old b o hb (hk b o z))) (Nat.le_of_lt (Nat.lt_of_lt_of_le sz dn)) dne hx₄ hn₄)
end
end Er

/-! # Er2 -/
/-! Such a class called, its argument by its place or by its name. -/
namespace Er
open PySem PySem.W PySem.Calls PySem.HandSPX
section
variable {M : Model} {A : Around} {E : Value → Shared → Prop} {h : Heap} {g : Array GenState} {d : Drawn} {t : Nat} {os : OsState}
variable {nm q : Str} {C N : Addr} {bs bm bmB : List Value} {hdct : Bool} {sn : List Str} {sub : List Value} {ab : Bool} {col : Option Bool} {dd : Option Addr} {k0 k1 k2 k3 k5 : Option Value} {B newId initId : String} {kw : List (Str × Value)} {rest : List Value}
theorem look_new (F : ExcBaseFacts B newId initId bmB) (hT : ∀ X : String, bm.contains (.type X) = bmB.contains (.type X)) {Q : Unit → Shared → Prop}
    (hC : h.get? C = some (excClassObj nm q C N bs bm hdct sn sub ab col dd k0 k1 k2 k3 k5 newId)) (hq : Q () ⟨h, g, d, t, os⟩) : wpAny M A (checkBuiltinCall newId ⟨.ref C :: rest, kw⟩) Q E ⟨h, g, d, t, os⟩ := by
  have c1 : (Value.ref C :: bm).contains (.type B) = true := by rw [List.contains_cons, hT, F.hasB, Bool.or_true]
  have c2 := F.noStar
  simp only [checkBuiltinCall, F.newKind, F.newSplit, F.newRow]
  repeat (first
    | refine wpAny_loadPart_at hC ?_
    | (refine wpAny_isSubtype_exc hC ?_; rw [c1])
    | refine wpAny_staticBase_exc hC ?_
    | refine wpAny_madeBy_exc hC ?_
    | simp only [bne_self_eq_false, Bool.false_eq_true, if_false]
    | wp_step)
  exact hq
end
section
variable {prog : Program} {w : World} {A : Around} {E : Value → Shared → Prop} {R : Result → Shared → Prop} {h : Heap} {g : Array GenState} {d : Drawn} {t : Nat} {os : OsState}
variable {nm q : Str} {C N : Addr} {bs bm bmB : List Value} {hdct : Bool} {sn : List Str} {sub : List Value} {ab : Bool} {col : Option Bool} {dd : Option Addr} {k0 k1 k2 k3 k5 : Option Value} {B newId initId : String} {kw : List (Str × Value)} {rest : List Value}
theorem laid_new (F : ExcBaseFacts B newId initId bmB) (hT : ∀ X : String, bm.contains (.type X) = bmB.contains (.type X))
    (hC : h.get? C = some (excClassObj nm q C N bs bm hdct sn sub ab col dd k0 k1 k2 k3 k5 newId)) (hz : rest.length ≤ sizeLine)
    (hq : R (.ok (.ret (.ref (h.objs.size + 1)))) ⟨(h.push (kdv_tup rest)).push (excO C h.objs.size), g, d, t, os⟩) :
    codeAny (model prog w) A (.builtin newId ⟨.ref C :: rest, kw⟩) R ⟨h, g, d, t, os⟩ := by
  have e0 := F.ends
  have c1 : (Value.ref C :: bm).contains (.type B) = true := by rw [List.contains_cons, hT, F.hasB, Bool.or_true]
  have c2 : (Value.ref C :: bm).contains (.type "AttributeError") = false := by rw [List.contains_cons, hT, F.noAttr] <;> rfl
  have c3 : (Value.ref C :: bm).contains (.type "NameError") = false := by rw [List.contains_cons, hT, F.noName] <;> rfl
  refine codeAny_builtinAt F.entry ?_
  unfold Builtin.«BaseException.__new__»
  refine wpAt_bind ?_
  show wpAt _ _ _ (stack >>= _) _ _ _
  refine wpAt_bind (wpAt_stack fun p below => wpAt_of_wpAny ?_)
  wp_walk
  refine wpAt_of_wpAny ?_
  rw [F.owner]
  repeat (first
    | with_reducible refine wpAny_madeHere_exc F.canon hC ?_
    | with_reducible refine wpAny_loadPart_at hC ?_
    | (with_reducible refine wpAny_isSubtype_exc hC ?_; first | rw [c1] | rw [c2] | rw [c3])
    | wp_step)
  show R _ _
  rw [Heap.size_push]
  exact hq
theorem type_new (F : ExcBaseFacts B newId initId bmB) (hT : ∀ X : String, bm.contains (.type X) = bmB.contains (.type X)) {fI : Addr} {Q : Fin → Shared → Prop}
    (hC : h.get? C = some (excClassObj nm q C N bs bm hdct sn sub ab col dd k0 k1 k2 k3 k5 newId))
    (hi : Looks (model prog w) h (typeLookup (.ref C) "__init__") (some (.ref fI))) (hb : ∀ self, Looks (model prog w) h (bindSpecial (.ref fI) self) (.ref fI, [self])) (hz : rest.length ≤ sizeLine)
    (hq : codeAny (model prog w) A (.call (.ref fI) ⟨.ref (h.objs.size + 1) :: rest, kw⟩)
      (fun r s' => match r with | .ok (.ret v) => v = .none ∧ Q (.done (.ret (.ref (h.objs.size + 1)))) s' | .ok _ => False | .error e => E e s') ⟨(h.push (kdv_tup rest)).push (excO C h.objs.size), g, d, t, os⟩) :
    wpAny (model prog w) A (Builtin.«type.__call__» ⟨.ref C :: rest, kw⟩) Q E ⟨h, g, d, t, os⟩ := by
  repeat (first
    | with_reducible refine wpAny_loadPart_at hC ?_
    | with_reducible refine wpAny_madeBy_exc hC ?_
    | wp_step)
  refine codeAny_call_builtin_code (Code.quiet_builtin _ F.quiet) (look_new F hT hC (laid_new F hT hC hz ?_))
  show wpAny _ _ _ _ _ _
  have k : ∀ b o, h.get? b = some o → ((h.push (kdv_tup rest)).push (excO C h.objs.size)).get? b = some o := fun b o e => Heap.get?_push_of_some _ (Heap.get?_push_of_some _ e)
  have hC₁ := k _ _ hC
  have hn : ((h.push (kdv_tup rest)).push (excO C h.objs.size)).get? (h.objs.size + 1) = some (excO C h.objs.size) := by heap_get
  have c4 : (Value.ref C :: bm).contains (.ref C) = true := by simp
  unfold isInstance
  repeat (first
    | with_reducible refine wpAny_loadPart_at hn ?_
    | (with_reducible refine wpAny_isSubtype_exc hC₁ ?_; rw [c4])
    | wp_step)
  show wpAny _ _ (typeLookup (.ref C) _) _ _ _
  refine (hi.keeps k).at (wpAny_holding (wpAny_bind (((hb (.ref (h.objs.size + 1))).keeps k).at (wpAny_bind (wpAny_call (codeAny_mono hq fun r s' z => ?_))))))
  rcases r with e | (v | _ | _ | _) <;> first | exact z | exact z.elim | skip
  obtain ⟨rfl, z⟩ := z
  first
    | exact wpAny_pure (wpAny_pure z)
    | (wp_walk; exact z)
theorem call_new (F : ExcBaseFacts B newId initId bmB) (hT : ∀ X : String, bm.contains (.type X) = bmB.contains (.type X)) {fI : Addr}
    (hC : h.get? C = some (excClassObj nm q C N bs bm hdct sn sub ab col dd k0 k1 k2 k3 k5 newId))
    (hi : Looks (model prog w) h (typeLookup (.ref C) "__init__") (some (.ref fI))) (hb : ∀ self, Looks (model prog w) h (bindSpecial (.ref fI) self) (.ref fI, [self])) (hz : rest.length ≤ sizeLine)
    (hq : codeAny (model prog w) (A.under (.builtin "type.__call__" ⟨.ref C :: rest, kw⟩)) (.call (.ref fI) ⟨.ref (h.objs.size + 1) :: rest, kw⟩) (InitBack (h.objs.size + 1) R) ⟨(h.push (kdv_tup rest)).push (excO C h.objs.size), g, d, t, os⟩) :
    codeAny (model prog w) A (.call (.ref C) ⟨rest, kw⟩) R ⟨h, g, d, t, os⟩ := by
  have f1 := tc_lookup
  have f2 := tc_bind (.ref C)
  have f3 : (⟨h, g, d, t, os⟩ : Shared).TypeIs (.ref C) "type" := ⟨_, hC, rfl⟩
  refine codeAny_of_tree ?_
  show wpAny _ _ (callAny (.ref C) _) _ _ _
  repeat (any_goals (first
    | assumption
    | with_reducible refine wpAny_loadPart_at hC ?_
    | wp_step))
  refine ⟨rfl, codeAny_call_builtin_at (Code.quiet_builtin _ (by decide +kernel)) entry_typeCall (wpAny_check_type_call_sub hC (type_new F hT hC hi hb hz ?_))⟩
  refine codeAny_mono hq fun r s' z => ?_
  rcases r with e | (v | _ | _ | _) <;> exact z
end
end Er

/-! # Er3 -/
/-! isinstance of an error that is held as a value, with a dict of its own or none. -/
namespace Er
open PySem PySem.W PySem.Calls PySem.HandSPX
section
variable {prog : Program} {w : World} {A : Around} {E : Value → Shared → Prop} {s : Shared} {K : Frag} {x D : Addr} {ox : Obj} {od : Option Obj}
theorem found_cls (hc : (clsIn K D).isSome = true) {a g : Value} (ha : findIn K (.ref D) "__class__" = some (some a)) (hg : specialIn K a "__get__" = some (some g)) (ht : takesIn K a = some true) : findObj K D od "__class__" = some (.bind g a) := by
  obtain ⟨cd, e⟩ := Option.isSome_iff_exists.mp hc
  unfold findObj
  rw [e, Option.bind_some, ha, Option.bind_some]
  simp [hg, ht]
theorem cls_of (Z : L2.ExcC K D) {Q : Option Value → Shared → Prop} (X : K.In s.heap) (I : InstAt s.heap x ox D od) (h : Q (some (.ref D)) { s with toks := s.toks + 1 }) : wpAny (model prog w) A (getAttr? (.ref x) "__class__") Q E s := by
  have hf : findObj K D od "__class__" = some (.bind (.builtin "getset_descriptor.__get__") (.builtin "object.__class__")) := found_cls (by obtain ⟨cd, hc, _⟩ := any_some Z.hd; rw [hc] <;> rfl) Z.ha Z.hn Z.ht
  obtain ⟨hp, g, d, t, os⟩ := s
  have l0 := I.type (M := model prog w)
  have l1 := looks_findIn (M := model prog w) X Z.hg
  have l2 := looks_findIn (M := model prog w) X Z.hk
  have l3 := looks_find (M := model prog w) X I hf
  have sb : Looks (model prog w) hp (isInstance (.ref x) (.type "BaseException")) true := l0.andThen (looks_subIn X Z.hs)
  have z2 : (Value.builtin "BaseException.__getattribute__" == Value.builtin "object.__getattribute__") = false := by decide +kernel
  have z1 : (onTheHeap (Value.ref D) && Value.builtin "BaseException.__getattribute__" == Value.builtin "object.__getattribute__") = false := by rw [z2] <;> rfl
  have z0 : (false && onTheHeap (Value.builtin "BaseException.__getattribute__")) = false := rfl
  unfold getAttr? getAttrBy? getAttrBy
  refine wpAny_bind (wpAny_mkText (wpAny_bind (wpAny_attempt (wpAny_holding (wpAny_bind (l0.at (wpAny_bind (l1.at ?_))))))))
  show wpAny _ _ (if (onTheHeap (Value.ref D) && Value.builtin "BaseException.__getattribute__" == Value.builtin "object.__getattribute__") = true then _ else _) _ _ _
  rw [z1, if_neg Bool.false_ne_true]
  unfold getAttrByItsOwn hookBefore
  refine wpAny_bind ?_
  rw [if_pos (show onTheHeap (Value.ref D) = true from rfl)]
  refine l2.at (wpAny_bind (wpAny_attempt (wpAny_holding ?_)))
  unfold callGetattribute
  rw [z0, if_neg Bool.false_ne_true]
  unfold boundAndCalled
  rw [PySem.F.excAttr_ValueError.ga.bind (.ref x)]
  refine wpAny_bind (wpAny_pure ?_)
  show wpAny _ _ (call (.builtin "BaseException.__getattribute__") [.ref x, .str "__class__" t]) _ _ _
  refine wpAny_call (codeAny_call_builtin PySem.F.excAttr_ValueError.ga.plain PySem.F.entry_bexc_ga ?_)
  refine @check_slot (model prog w) _ _ ⟨hp, g, d, t + 1, os⟩ "BaseException.__getattribute__" "BaseException" "__getattribute__" (.ref x) [.str "__class__" t] [] _ (by decide +kernel) (by decide +kernel) sb (PySem.F.args_bexc_ga (.ref x) (.str "__class__" t)) ?_
  unfold Builtin.«object.__getattribute__»
  refine wpAny_bind (wpAny_of_eq (a := ((Value.ref x : Value), [Value.str "__class__" t])) (by first | rfl | (simp only [slotArgs]; rfl)) (wpAny_bind (wpAny_pure (wpAny_bind (l0.at (wpAny_bind (l3.at ?_)))))))
  show wpAny _ _ (holding [Value.builtin "object.__class__"] (call (.builtin "getset_descriptor.__get__") [.builtin "object.__class__", .ref x, .ref D]) >>= ret) _ _ _
  refine wpAny_bind (wpAny_holding (wpAny_call (class_get (s := ⟨hp, g, d, t + 1, os⟩) (ox := ox) (od := od) X I Z.hm (wpAny_pure ?_))))
  show wpAny _ _ (handedOut (.ref D)) _ _ _
  rw [handedOut_of (v := .ref D) rfl]
  first
    | exact wpAny_pure (wpAny_pure h)
    | exact wpAny_pure h
    | exact wpAny_pure (wpAny_bind (wpAny_pure (wpAny_pure h)))
theorem kit_err (Z : L2.ExcC K D) : KitX K (.ref x) (.ref D) (fun h => ∃ ox od, InstAt h x ox D od) where
  ty := fun _ _ _ ⟨_, _, I⟩ => I.type
  it := fun _ _ X _ => by
    obtain ⟨cd, hc, _⟩ := any_some Z.hd
    unfold clsIn at hc
    split at hc
    · rename_i c' d' cd' sl' ho
      intro A' Q' E' s' k q
      unfold isType loadHead
      exact wpAny_bind (wpAny_loadPart (k _ _ (X _ _ ho)) (wpAny_pure q))
    · cases hc
  ne := fun h tp dd its n sl X htp => by
    obtain ⟨cd, hc, _⟩ := any_some Z.hd
    refine Bool.eq_false_iff.mpr fun q => ?_
    have e : D = tp := Value.ref.inj (beq_iff_eq.mp q)
    subst e
    unfold clsIn at hc
    split at hc
    · rename_i c' d' cd' sl' ho
      have z := (X _ _ ho).symm.trans htp
      cases z
    · cases hc
  ca := fun X ⟨_, _, I⟩ k => cls_of Z X I k
end
end Er
namespace L2
open PySem PySem.Spec PyProof.Rows
/-- an error of the class at C stands at a: made without an __init__ of its own, or with one (its dict at d holds what it is made of) -/
def ErrAt (H : Hp) (a C : Addr) : Prop := H a = some (ExO (.ref C) a) ∨ ∃ d fs, H a = some (exo a C (some d)) ∧ H d = some (exd d fs)
theorem ErrAt.same {H H' : Hp} {a C : Addr} (h : ErrAt H a C) (s : ∀ b o, H b = some o → H' b = some o) : ErrAt H' a C := by
  rcases h with h | ⟨d, fs, h1, h2⟩
  · exact .inl (s _ _ h)
  · exact .inr ⟨d, fs, s _ _ h1, s _ _ h2⟩
theorem ErrAt.inst {P : Program} {w : World} {H : Hp} {h : Heap} {a C : Addr} (e : ErrAt H a C) (ok : HOk P w H h) : ∃ ox od, PySem.W.InstAt h a ox C od := by
  rcases e with e | ⟨d, fs, e1, e2⟩
  · obtain ⟨⟨oe, vs, ho, hz, hd, _⟩, _, _⟩ := (show ObjOk P w H h a (ExO (.ref C) a) from ok a _ e)
    obtain ⟨c, dd, da, sl⟩ := oe
    obtain ⟨h1, h2⟩ := hz
    dsimp only at h1 h2 hd
    subst h1 h2 hd
    exact ⟨_, none, ho, rfl, rfl, trivial⟩
  · obtain ⟨t1, ho⟩ := exo_at ok e1
    obtain ⟨mA, hns, _⟩ := exd_at ok e2
    obtain ⟨od, hod, _⟩ := lookIn_ns hns
    exact ⟨_, some od, ho, rfl, rfl, hod⟩
/-- isinstance(e, c), e such an error -/
def rIsErr (K : PySem.W.Frag) : List V → Hp → VK → Prop := fun xs H Q => ∃ (a D C : Addr) (b : Bool), xs = [.ref a, .ref C] ∧ ErrAt H a D ∧ ExcC K D ∧ PySem.W.kitOne K (.ref D) (.ref C) = some b ∧ Q (.bl b) H
theorem call_isErr {X : Cx} : CallR X (.builtin "isinstance") (rIsErr X.K) := by
  intro pins s σ H xs us Q I r h
  obtain ⟨a, D, C, b, rfl, e, Z, k, q⟩ := h
  obtain ⟨u1, u2, rfl, r1, r2⟩ := vals2 r
  cases (show u1 = Value.ref a from r1)
  cases (show u2 = Value.ref C from r2)
  exact PySem.W.kia_one (Er.kit_err Z) I.kIn (e.inst I.hok) k (fun z => nomatch z) fun tk => ⟨.bl b, H, I.tok tk, rfl, q⟩
/-- isinstance(e, T), T a built-in class -/
def rIsErrT (K : PySem.W.Frag) : List V → Hp → VK → Prop := fun xs H Q => ∃ (a D : Addr) (T : String) (b : Bool), xs = [.ref a, .ty T] ∧ ErrAt H a D ∧ ExcC K D ∧ PySem.W.kitOne K (.ref D) (.type T) = some b ∧ Q (.bl b) H
theorem call_isErrT {X : Cx} : CallR X (.builtin "isinstance") (rIsErrT X.K) := by
  intro pins s σ H xs us Q I r h
  obtain ⟨a, D, T, b, rfl, e, Z, k, q⟩ := h
  obtain ⟨u1, u2, rfl, r1, r2⟩ := vals2 r
  cases (show u1 = Value.ref a from r1)
  cases (show u2 = Value.type T from r2)
  exact PySem.W.kia_one (Er.kit_err Z) I.kIn (e.inst I.hok) k (fun z => nomatch z) fun tk => ⟨.bl b, H, I.tok tk, rfl, q⟩
end L2

/-! # Er4 -/
namespace L2
open PySem PySem.Spec PyProof.Rows
/-- what is known of the program's top where such errors are made -/
structure TopE (X : Cx) (file : Str) : Prop where
  file : ((X.prog.main.file : Str) == file) = true
  top : (X.prog.main.scope.names.lookup ("super" : Str)).isSome = false
  sup : X.mg "super" = none
section
variable {X : Cx} {y file : Str} {C f : Addr} {k : Nat}
theorem un_err {H : Hp} {hp h' : Heap} {a d : Addr} {o1 o2 : HO} (kp : ∀ b o, hp.get? b = some o → h'.get? b = some o) (ha : hp.objs.size ≤ a) (hd : hp.objs.size ≤ d) (na : H a = none) (nd : H d = none) : Un X.fs [] H (upd (upd H d o1) a o2) hp h' where
  keep := fun b u q _ _ _ => kp b u q
  slot := fun b u q _ _ _ => ⟨u.slots, kp b u q⟩
  free := fun b u q n _ => by
    have l := Heap.lt_size q
    rw [upd_ne (Nat.ne_of_lt (Nat.lt_of_lt_of_le l ha)), upd_ne (Nat.ne_of_lt (Nat.lt_of_lt_of_le l hd))]
    exact n
  there := fun b u q _ => ⟨u, kp b u q⟩
  tups := fun b xs q => by rw [upd_ne (ne_of_none q na), upd_ne (ne_of_none q nd)]; exact q
  frzs := fun b u xs q => by rw [upd_ne (ne_of_none q na), upd_ne (ne_of_none q nd)]; exact q
  tbls := fun b ps q => ⟨#[], by rw [upd_ne (ne_of_none q na), upd_ne (ne_of_none q nd), q]; simp⟩
theorem run_err {pins : List (Addr × Obj)} {σ : St} {H : Hp} {s : Shared} {Q : VK} {us : List Value} {kw : List (Str × Value)} {v : V} {u : Value} (Z : Er.T file X.K y C f) (T : TopE X file) (hr : Room k X.A) (I : Inv X pins σ H s) (rv : RelV v u) (hl : us.length ≤ 1000)
    (hbd : ∀ (x : Addr) (m qual : Str) (p1 p2 : Pos) (p : Er.Ps) (kV doc pm ct : Value) (an : Option Addr) (cda cc : Addr), bindArgs (Er.fnE y m qual p1 p2 p kV doc pm an cda cc ct) ⟨.ref x :: us, kw⟩ = pure ([("self", .ref x), (y, u)] : List (Str × Value)))
    (h : ∀ a d, H a = none → H d = none → d ≠ a → Q (.ref a) (upd (upd H d (exd d [(y, v)])) a (exo a C (some d)))) :
    wpAny (model X.prog X.w) X.A (call (.ref C) us kw) (EP X pins σ Q) X.xe s := by
  obtain ⟨nm, q, N, bs, bm, sn, sub, ab, col, dd, k0, k1, k2, k3, k5, hC, hbm⟩ := Z.cls
  obtain ⟨hp, g, dr, tk, os⟩ := s
  have hz : us.length ≤ sizeLine := by
    rw [sizeLine_eq]
    omega
  have kk : ∀ b o, hp.get? b = some o → ((hp.push (PySem.W.kdv_tup us)).push (PySem.HandSPX.excO C hp.objs.size)).get? b = some o := fun b o e => Heap.get?_push_of_some _ (Heap.get?_push_of_some _ e)
  have hget : ((hp.push (PySem.W.kdv_tup us)).push (PySem.HandSPX.excO C hp.objs.size)).get? (hp.objs.size + 1) = some (PySem.HandSPX.excO C hp.objs.size) := by heap_get
  have bk : ∀ b o, X.base.get? b = some o → ((hp.push (PySem.W.kdv_tup us)).push (PySem.HandSPX.excO C hp.objs.size)).get? b = some o := fun b o e => kk b o (I.bk b o e)
  obtain ⟨mb, hb, hbb⟩ := I.mod.blt
  have hnx : X.K.lookup (hp.objs.size + 1) = none := by
    cases e : X.K.lookup (hp.objs.size + 1) with
    | none => rfl
    | some o => exact absurd (Nat.lt_of_succ_lt (Heap.lt_size (I.kIn _ _ e))) (Nat.lt_irrefl _)
  refine wpAny_call (Er.call_new PySem.F.excBase_ValueError (fun Y => PySem.HandSPX.refsVE_contains Y bm hbm) (I.kIn _ _ hC) (PySem.W.looks_findIn I.kIn Z.ini) (fun self => PySem.W.bind_fn I.kIn self Z.ty) hz
    (Er.init (s := ⟨(hp.push (PySem.W.kdv_tup us)).push (PySem.HandSPX.excO C hp.objs.size), g, dr, tk, os⟩) Z (I.ok.mod.kin.keeps bk) (I.ok.mod.nolimit.keeps bk) (I.mod.glob.keeps bk) T.sup (hb.keeps bk) ((hbb _ (by decide)).trans (by decide +kernel)) T.file T.top hget hnx ?_ (hbd _) fun h' tk' dx t1 k' dn dne hx hn => ?_))
  · have := hr.dp
    have := make_depth (A := X.A) (C := C) (us := us) (kw := kw)
    omega
  · have old : ∀ b o, hp.get? b = some o → h'.get? b = some o := fun b o e => k' b o (Nat.ne_of_lt (Nat.lt_succ_of_lt (Heap.lt_size e))) (kk b o e)
    have ha : hp.objs.size ≤ hp.objs.size + 1 := Nat.le_succ _
    have hd : hp.objs.size ≤ dx := by
      have z := dn
      simp only [Heap.size_push] at z
      omega
    have na : H (hp.objs.size + 1) = none := I.hok.fresh ha
    have nd : H dx = none := I.hok.fresh hd
    have ok1 : HOk X.prog X.w (upd H dx (exd dx [(y, v)])) h' := I.hok.laid old hd (exd_ok hn (relO_put (fs := []) rv fun _ => True.intro))
    have ok2 : HOk X.prog X.w (upd (upd H dx (exd dx [(y, v)])) (hp.objs.size + 1) (exo (hp.objs.size + 1) C (some dx))) h' := ok1.laidN (fun _ _ e => e) (by rw [upd_ne (Ne.symm dne)]; exact na) (exo_ok hx)
    exact ⟨rfl, .ref (hp.objs.size + 1), _, I.un (t' := tk') (un_err old ha hd na nd) ok2, rfl, h _ dx na nd dne⟩
end
end L2

/-! # Er5 -/
namespace L2
open PySem PySem.Spec PyProof.Rows
/-- X(e), X such a class -/
def tErr (y : Str) (C : Addr) (te : TE) : TE := fun σ H Q => te σ H fun v H1 => ∀ a d, H1 a = none → H1 d = none → d ≠ a → Q (.ref a) (upd (upd H1 d (exd d [(y, v)])) a (exo a C (some d)))
/-- e.y, e such an error -/
def tErF (K : PySem.W.Frag) (y : Str) (te : TE) : TE := fun σ H Q => te σ H fun x H1 => ∃ (a C d : Addr) (v : V), x = .ref a ∧ H1 a = some (exo a C (some d)) ∧ H1 d = some (exd d [(y, v)]) ∧ ExcC K C ∧ PySem.W.findIn K (.ref C) y = some none ∧ Q v H1
section
variable {X : Cx} {x y file : Str} {C f : Addr} {k : Nat} {e : Expr} {te : TE} {p pos : Pos}
theorem pe_err1 (Z : Er.T file X.K y C f) (T : TopE X file) (hr : Room k X.A) (hg : Gl X x) (hm : X.mg x = some (.ref C)) (he : PE X e te)
    (hbd : ∀ (u : Value) (x : Addr) (m qual : Str) (p1 p2 : Pos) (p : Er.Ps) (kV doc pm ct : Value) (an : Option Addr) (cda cc : Addr), bindArgs (Er.fnE y m qual p1 p2 p kV doc pm an cda cc ct) ⟨[.ref x, u], []⟩ = pure ([("self", .ref x), (y, u)] : List (Str × Value)) := by intros; rfl)
    (hdb : (x == ("__debug__" : Str)) = false := by decide) (hs : starEach [e] X.env = (false, eval e X.env) :: starEach [] X.env := by rfl) :
    PE X (.Call (.Name x p) [e] [] pos) (tErr y C te) := by
  refine ⟨fun pins s σ H Q I h => wpAny_Call_Name_kw (ld_glob I hg hm (PySem.W.callWith_K (h₀ := X.base) I.ok.mod.kin Z.kC ?_ hs (by rfl)) hdb)⟩
  rw [hs]
  show wpAny _ _ (spliced ((false, eval e X.env) :: backTo pos (starEach [] X.env))) _ _ s
  refine Calls.spliced_cons (thn (he.run pins s σ H _ I h) fun u s1 ⟨v, H1, I1, r1, q1⟩ => Calls.spliced_nil ⟨I1.kIn, ?_⟩)
  exact run_err (us := [u]) (kw := []) Z T hr I1 r1 (by show 1 ≤ 1000; decide) (hbd u) q1
/-- X(y=e) -/
theorem pe_errK {kp : Pos} (Z : Er.T file X.K y C f) (T : TopE X file) (hr : Room k X.A) (hg : Gl X x) (hm : X.mg x = some (.ref C)) (he : PE X e te)
    (hbd : ∀ (u : Value) (x : Addr) (m qual : Str) (p1 p2 : Pos) (p : Er.Ps) (kV doc pm ct : Value) (an : Option Addr) (cda cc : Addr), bindArgs (Er.fnE y m qual p1 p2 p kV doc pm an cda cc ct) ⟨[.ref x], [(y, u)]⟩ = pure ([("self", .ref x), (y, u)] : List (Str × Value)) := by intros; rfl)
    (hdb : (x == ("__debug__" : Str)) = false := by decide)
    (hall : (backToKw pos (keywordEach [⟨some y, e, kp⟩] X.env)).all (·.1.isSome) = true := by rfl) (hks : (backToKw pos (keywordEach [⟨some y, e, kp⟩] X.env)).filterMap (·.1) = [y] := by rfl)
    (hpl : ((backTo pos (starEach [] X.env)).any (·.1) || (backToKw pos (keywordEach [⟨some y, e, kp⟩] X.env)).any (·.1.isNone)) = false := by rfl) :
    PE X (.Call (.Name x p) [] [⟨some y, e, kp⟩] pos) (tErr y C te) := by
  refine ⟨fun pins s σ H Q I h => wpAny_Call_Name_kw (ld_glob I hg hm (PySem.W.callWith_KW0 (h₀ := X.base) I.ok.mod.kin Z.kC hall ?_ hpl) hdb)⟩
  have hk : PK X [⟨some y, e, kp⟩] (tCons te tNil) := pk_cons he pk_nil
  refine thn (hk.run pos pins s σ H (fun vs H1 => match vs with
    | [v] => ∀ a d, H1 a = none → H1 d = none → d ≠ a → Q (.ref a) (upd (upd H1 d (exd d [(y, v)])) a (exo a C (some d)))
    | _ => False) I h) fun ws s2 hw => ?_
  obtain ⟨zs, H2, I2, rz, q2⟩ := hw
  refine ⟨I2.kIn, ?_⟩
  rw [hks]
  cases rz with
  | nil => exact q2.elim
  | cons r0 rr =>
    cases rr with
    | nil => exact run_err (us := []) Z T hr I2 r0 (Nat.zero_le _) (hbd _) q2
    | cons _ _ => exact q2.elim
/-- e.y, e such an error -/
theorem pe_errF (he : PE X e te) (hb : attributeBase e y X.env (eval e X.env) = eval e X.env := by rfl) : PE X (.Attribute e y pos) (tErF X.K y te) := by
  refine ⟨fun pins s σ H Q I h => attr_of hb (thn (he.run pins s σ H _ I h) fun u s1 hh => ?_)⟩
  obtain ⟨x, H1, I1, rx, a, C, d, v, rfl, e1, e2, Z, hno, q⟩ := hh
  obtain rfl : u = Value.ref a := rx
  obtain ⟨t1, ho⟩ := exo_at I1.hok e1
  obtain ⟨mA, hns, rel⟩ := exd_at I1.hok e2
  obtain ⟨od, hod, hl⟩ := lookIn_ns hns
  have l : List.lookup y [(y, v)] = some v := by simp [List.lookup]
  obtain ⟨w, hw, rw'⟩ := RelO.some_of (v := v) (o := mA y) (by rw [← l]; exact rel y)
  have J : PySem.W.InstAt s1.heap a _ C (some od) := ⟨ho, rfl, rfl, hod⟩
  exact PySem.HandSPX.exc_get I1.kIn J Z.hg Z.hk Z.hs (PySem.W.findObj_own Z.hd hno rfl (by rw [hl, hw])) (handed_of rw') ⟨v, H1, I1.tok _, rw', q⟩
end
end L2

/-! # Td -/
/-! Data that stands in the tracked heap, dicts of texts and numbers too, and what repr tells of it. -/
namespace L2
open PySem PySem.Spec PyProof.Rows
def kD : Key → PyData
  | .inl i => .int i
  | .inr x => .str x
mutual
inductive Td (H : Hp) : V → PyData → Prop
  | non : Td H .non .none
  | bl (b : Bool) : Td H (.bl b) (.bool b)
  | int (i : Int) : Td H (.int i) (.int i)
  | str (x : Str) : Td H (.str x) (.str x)
  | lst {a : Addr} {xs : List V} {ds : List PyData} : H a = some (.lst xs) → TdAll H xs ds → Td H (.ref a) (.list ds)
  | tup {a : Addr} {xs : List V} {ds : List PyData} : H a = some (.tup xs) → TdAll H xs ds → Td H (.ref a) (.tuple ds)
  | dic {a : Addr} {kvs : List (Key × V)} {ds : List PyData} : H a = some (.dK kvs) → TdAll H (kvs.map (·.2)) ds → Td H (.ref a) (.dict ((kvs.map fun p => kD p.1).zip ds))
inductive TdAll (H : Hp) : List V → List PyData → Prop
  | nil : TdAll H [] []
  | cons {v : V} {vs : List V} {d : PyData} {ds : List PyData} : Td H v d → TdAll H vs ds → TdAll H (v :: vs) (d :: ds)
end
mutual
theorem Td.mono {H H' : Hp} (s : ∀ b o, H b = some o → H' b = some o) : ∀ {v : V} {d : PyData}, Td H v d → Td H' v d
  | _, _, .non => .non
  | _, _, .bl b => .bl b
  | _, _, .int i => .int i
  | _, _, .str x => .str x
  | _, _, .lst e t => .lst (s _ _ e) (TdAll.mono s t)
  | _, _, .tup e t => .tup (s _ _ e) (TdAll.mono s t)
  | _, _, .dic e t => .dic (s _ _ e) (TdAll.mono s t)
theorem TdAll.mono {H H' : Hp} (s : ∀ b o, H b = some o → H' b = some o) : ∀ {vs : List V} {ds : List PyData}, TdAll H vs ds → TdAll H' vs ds
  | _, _, .nil => .nil
  | _, _, .cons h t => .cons (Td.mono s h) (TdAll.mono s t)
end
theorem TdAll.at {H : Hp} : ∀ {vs : List V} {ds : List PyData} {i : Nat} {v : V}, TdAll H vs ds → vs[i]? = some v → ∃ d, ds[i]? = some d ∧ Td H v d
  | _, _, _, _, .nil, e => by simp at e
  | _, _, 0, _, .cons h _, e => by
    simp at e
    subst e
    exact ⟨_, rfl, h⟩
  | _, _, i + 1, v, .cons _ t, e => by
    obtain ⟨d, h1, h2⟩ := TdAll.at (i := i) (v := v) t (by simpa using e)
    exact ⟨d, by simpa using h1, h2⟩
theorem keys_read {P : Program} {w : World} {h : Heap} {es : List DictEntry} {vs : List (Key × Value)} (p : Pairs (mixKind P w) es vs) : ∀ {kvs : List (Key × V)}, KV kvs vs → ReadsAll h (es.map (·.key)) (kvs.map fun p => kD p.1) [] := by
  induction p with
  | nil =>
    intro kvs r
    cases r
    exact .nil
  | @cons e kv es vs hk hv pp ih =>
    intro kvs r
    cases r with
    | cons r0 rr =>
      rename_i q qs
      obtain ⟨k', v'⟩ := q
      obtain ⟨k, v⟩ := kv
      obtain ⟨he, hr⟩ := r0
      dsimp only at he
      subst he
      have z : keyIs k' e.key = true := hk
      rcases keyIs_shape z with ⟨i, tk, rfl, q⟩ | ⟨x, tk, rfl, q⟩
      · have y : Reads h e.key (kD (.inl i)) [] := by rw [q]; exact .int i tk
        exact .cons y (ih rr)
      · have y : Reads h e.key (kD (.inr x)) [] := by rw [q]; exact .str x tk
        exact .cons y (ih rr)
theorem vals_of {P : Program} {w : World} {es : List DictEntry} {vs : List (Key × Value)} (p : Pairs (mixKind P w) es vs) : es.map (·.val) = vs.map (·.2) := by
  induction p with
  | nil => rfl
  | cons hk hv pp ih =>
    rw [List.map_cons, List.map_cons, ih, hv]
theorem vals_kv : ∀ {kvs : List (Key × V)} {vs : List (Key × Value)}, KV kvs vs → Vals (kvs.map (·.2)) (vs.map (·.2))
  | _, _, .nil => .nil
  | _, _, .cons r t => .cons r.2 (vals_kv t)
section
variable {P : Program} {w : World} {H : Hp} {h : Heap}
/-- all addresses are tracked -/
def Trk (H : Hp) (as : List Addr) : Prop := ∀ a ∈ as, ∃ o, H a = some o
theorem Trk.app {as bs : List Addr} (x : Trk H as) (y : Trk H bs) : Trk H (as ++ bs) := fun a m => (List.mem_append.mp m).elim (x a) (y a)
theorem Trk.cons {a : Addr} {as : List Addr} {o : HO} (x : H a = some o) (y : Trk H as) : Trk H (a :: as) := fun b m => by
  rcases List.mem_cons.mp m with rfl | m
  · exact ⟨o, x⟩
  · exact y b m
mutual
theorem Td.reads (ok : HOk P w H h) : ∀ {v : V} {d : PyData} {u : Value}, Td H v d → RelV v u → ∃ as, Reads h u d as ∧ Trk H as
  | _, _, _, .non, r => by
    cases r
    exact ⟨_, .none, fun _ m => nomatch m⟩
  | _, _, _, .bl b, r => by
    cases r
    exact ⟨_, .bool b, fun _ m => nomatch m⟩
  | _, _, _, .int i, r => by
    obtain ⟨t, rfl⟩ := r
    exact ⟨_, .int i t, fun _ m => nomatch m⟩
  | _, _, _, .str x, r => by
    obtain ⟨t, rfl⟩ := r
    exact ⟨_, .str x t, fun _ m => nomatch m⟩
  | _, _, _, .lst (a := a) (xs := xs) e t, r => by
    cases r
    obtain ⟨_, its, n, rv, hg⟩ := (show ObjOk P w H h a (.lst xs) from ok a _ e)
    obtain ⟨as, ra, tr⟩ := TdAll.reads ok t rv
    exact ⟨_, .list hg rfl rfl (by simpa using ra), tr.cons e⟩
  | _, _, _, .tup (a := a) (xs := xs) e t, r => by
    cases r
    obtain ⟨_, its, rv, o, hg, hc, n, hd⟩ := (show ObjOk P w H h a (.tup xs) from ok a _ e)
    obtain ⟨as, ra, tr⟩ := TdAll.reads ok t rv
    exact ⟨_, .tuple hg hc hd (by simpa using ra), tr⟩
  | _, _, _, .dic (a := a) (kvs := kvs) (ds := ds) e t, r => by
    cases r
    obtain ⟨_, _, vs, rk, o, es, ep, hg, hx, hd, _, hp, _⟩ := (show ObjOk P w H h a (.dK kvs) from ok a _ e)
    have rv : Vals (kvs.map (·.2)) (es.toList.map (·.val)) := by rw [vals_of hp]; exact vals_kv rk
    obtain ⟨as, ra, tr⟩ := TdAll.reads ok t rv
    have l1 : (kvs.map fun p => kD p.1).length = ds.length := by
      rw [List.length_map, ← TdAll.len t, List.length_map]
    have z1 : ((kvs.map fun p => kD p.1).zip ds).map (·.1) = kvs.map fun p => kD p.1 := by
      rw [List.map_fst_zip (by omega)]
    have z2 : ((kvs.map fun p => kD p.1).zip ds).map (·.2) = ds := by
      rw [List.map_snd_zip (by omega)]
    exact ⟨_, .dict hg hx.1 hd (by rw [z1]; exact keys_read hp rk) (by rw [z2]; exact ra), Trk.cons e (Trk.app (show Trk H [] from fun _ m => nomatch m) tr)⟩
theorem TdAll.reads (ok : HOk P w H h) : ∀ {vs : List V} {ds : List PyData} {us : List Value}, TdAll H vs ds → Vals vs us → ∃ as, ReadsAll h us ds as ∧ Trk H as
  | [], [], us, .nil, r => by
    cases r
    exact ⟨_, .nil, fun _ m => nomatch m⟩
  | v :: vs, d :: ds, us, .cons h t, r => by
    cases r with
    | cons r0 rr =>
      obtain ⟨as, a1, a2⟩ := Td.reads ok h r0
      obtain ⟨bs, b1, b2⟩ := TdAll.reads ok t rr
      exact ⟨_, .cons a1 b1, a2.app b2⟩
theorem TdAll.len : ∀ {vs : List V} {ds : List PyData}, TdAll H vs ds → vs.length = ds.length
  | _, _, .nil => rfl
  | _, _, .cons _ t => congrArg (· + 1) (TdAll.len t)
end
end
/-- repr of such data (a list, a tuple, a dict), where no other repr is under way -/
def rRepr : List V → Hp → VK → Prop := fun xs H Q => ∃ (a : Addr) (d : PyData), xs = [.ref a] ∧ Td H (.ref a) d ∧ d.showable = true ∧ d.depth ≤ 60 ∧ d.shown.length ≤ sizeLine ∧ Q (.str d.shown) H
theorem call_reprD {X : Cx} {o : Obj} {k : Nat} (hr : Room k X.A) (hg : X.A.guards = some []) (hs : X.K.lookup sysModules = some o) : CallR X (.builtin "repr") rRepr := by
  intro pins s σ H xs us Q I r h
  obtain ⟨a, d, rfl, t, h1, h2, h3, q⟩ := h
  obtain ⟨u, rfl, ru⟩ := vals1 r
  obtain ⟨as, rd, tr⟩ := Td.reads I.hok t ru
  obtain rfl : u = Value.ref a := ru
  have hno : sysModules ∉ as := fun m => by
    obtain ⟨z, hz⟩ := tr _ m
    rw [(I.bs sysModules o (I.ok.mod.kin _ _ hs)).2] at hz
    cases hz
  have hu := hr.units
  exact repr_of_reads' rd h1 (fun _ => hno) hg (by omega) (fun _ _ e => e) (fun h' u tk hk => ⟨.str d.shown, H, I.kept (t' := tk) hk, ⟨u, rfl⟩, q⟩) h3
end L2

/-! # K0a -/
namespace K0
open PySem L2 Dr
abbrev sAny : Stmt := topS 50
def anyD : List PyData := [.none, .bool false, .int (-5), .int (10 ^ Int.toNat 45), .str "", .str "wide", .str "two words", .list [], .list [.tuple [.int 0, .int 2]], .tuple [], .tuple [.int 4], .dict [], .dict [(.str "a", .tuple [.int 1])], .list [.list [.none]]]
/-- laid since H, and standing in H1 -/
structure Nw (H H1 : Hp) (p : Addr) (o : HO) : Prop where
  new : H p = none
  is : H1 p = some o
theorem Nw.mk' {H H1 : Hp} {p : Addr} {o : HO} (s : Same H H1) (n : H1 p = none) : Nw H (upd H1 p o) p o := ⟨s.free n, upd_same⟩
theorem Nw.up {H H1 H2 : Hp} {p : Addr} {o : HO} (n : Nw H H1 p o) (s : Same H1 H2) : Nw H H2 p o := ⟨n.new, s _ _ n.is⟩
/-- what was laid since H -/
def since (H H1 : Hp) : Hp := fun b => match H b with
  | none => H1 b
  | some _ => none
theorem Nw.at {H H1 : Hp} {p : Addr} {o : HO} (n : Nw H H1 p o) : since H H1 p = some o := by
  show (match H p with
    | none => H1 p
    | some _ => none) = some o
  rw [n.new]
  exact n.is
theorem since_kp {H H1 H2 : Hp} {d l : Addr} {od ol : HO} (hd : H d = some od) (hl : H l = some ol) (k : Kp d l H1 H2) : ∀ b o, since H H1 b = some o → H2 b = some o := fun b o e => by
  have e2 : (match H b with
    | none => H1 b
    | some _ => none) = some o := e
  cases q : H b with
  | some z =>
    rw [q] at e2
    cases e2
  | none =>
    rw [q] at e2
    refine k b o e2 (fun z => ?_) (fun z => ?_)
    · rw [z, hd] at q
      cases q
    · rw [z, hl] at q
      cases q
section
variable {P : Program} {w : World} {K : PySem.W.Frag} {mg : Str → Option Value} {base : Heap}
def spAny : Sp := fun vs H Q _ => ∃ (d l : Addr), vs = [.ref d] ∧ Ok H d l ∧ ∀ (x : V) (e : PyData) (H' : Hp), e ∈ anyD → Td H' x e → Ok H' d l → Kp d l H H' → Q x H'
theorem scA : FnScope ["draw", "some"] ["draw"] (defScope sAny) := ⟨rfl, rfl, rfl, by decide +kernel, rfl, by decide +kernel, by decide +kernel⟩
theorem ok_any {f fP fT fM : Addr} {fd fdP fdT fdM : FuncData} (F : Fun K "_law_any" "_law_any" sAny f fd) (FP : Fun K "_law_pick" "_law_pick" sPick fP fdP) (bP : Binds K fdP ["draw", "some"] []) (gP : mg "_law_pick" = some (.ref fP))
    (GP : FnOk P w K mg base CX0 3 fP fdP ["draw", "some"] spPick) : FnOk P w K mg base CX0 4 f fd ["draw"] spAny := by
  refine F.ok scA (fun vs H Q E h => ?_) (fun cdv A outer s H vs Q E hr h => ?_)
  · obtain ⟨d, l, rfl, _⟩ := h
    rfl
  · obtain ⟨d, l, rfl, D, k⟩ := h
    refine ⟨_, pss_cons (ps_set (i := 1) scA.nd rfl (Or.inl rfl) (pe_lst (pa_cons pe_non (pa_cons pe_bl (pa_cons (pe_un un_neg pe_int) (pa_cons (pe_op op_pow pe_int pe_int) (pa_cons pe_str (pa_cons pe_str (pa_cons pe_str
        (pa_cons (pe_lst pa_nil) (pa_cons (pe_lst (pa_cons (pe_tup (pa_cons pe_int (pa_cons pe_int pa_nil))) pa_nil)) (pa_cons (pe_tup pa_nil) (pa_cons (pe_tup (pa_cons pe_int pa_nil)) (pa_cons pe_dnewK
        (pa_cons (pe_disp (pps_cons pe_str (pe_tup (pa_cons pe_int pa_nil)) pps_nil) (by rfl) (by rfl) (fun z => by cases z) (by decide)) (pa_cons (pe_lst (pa_cons (pe_lst (pa_cons pe_non pa_nil)) pa_nil)) pa_nil))))))))))))))))
      (pss_one (ps_ret (pe_call GP hr (by rfl) gP FP.kp bP .nil pass0 (pa_cons (pv 0) (pa_cons (pv 1) pa_nil))))), ?_⟩
    refine ⟨_, rfl, _, _, rfl, rfl, ⟨by decide, by decide, by decide⟩, ?_⟩
    have dec : ∀ n : Nat, n ≤ 1000 → n ≤ sizeLine := fun n h => Nat.le_trans h (by decide)
    -- []
    refine ⟨Nat.zero_le _, fun p1 n1 => ?_⟩
    have a1 : Nw H _ p1 (.lst []) := .mk' (Same.refl H) n1
    have s1 : Same H (upd H p1 (.lst [])) := same_upd n1
    generalize upd H p1 (.lst []) = H1 at a1 s1 ⊢
    -- [(0, 2)]
    refine ⟨dec _ (by decide), fun p2 n2 => ?_⟩
    have a2 : Nw H _ p2 (.tup [.int 0, .int 2]) := .mk' s1 n2
    have t2 : Same H1 (upd H1 p2 (.tup [.int 0, .int 2])) := same_upd n2
    generalize upd H1 p2 (.tup [.int 0, .int 2]) = H2 at a2 t2 ⊢
    refine ⟨dec _ (Nat.le_of_ble_eq_true rfl), fun p3 n3 => ?_⟩
    have s2 := s1.trans t2
    have a3 : Nw H _ p3 (.lst [.ref p2]) := .mk' s2 n3
    have t3 : Same H2 (upd H2 p3 (.lst [.ref p2])) := same_upd n3
    generalize upd H2 p3 (.lst [.ref p2]) = H3 at a3 t3 ⊢
    have s3 := s2.trans t3
    -- (), (4,), {}
    refine ⟨Nat.zero_le _, fun p4 n4 => ?_⟩
    have a4 : Nw H _ p4 (.tup []) := .mk' s3 n4
    have t4 : Same H3 (upd H3 p4 (.tup [])) := same_upd n4
    generalize upd H3 p4 (.tup []) = H4 at a4 t4 ⊢
    have s4 := s3.trans t4
    refine ⟨dec _ (by decide), fun p5 n5 => ?_⟩
    have a5 : Nw H _ p5 (.tup [.int 4]) := .mk' s4 n5
    have t5 : Same H4 (upd H4 p5 (.tup [.int 4])) := same_upd n5
    generalize upd H4 p5 (.tup [.int 4]) = H5 at a5 t5 ⊢
    have s5 := s4.trans t5
    intro p6 n6
    have a6 : Nw H _ p6 (.dK []) := .mk' s5 n6
    have t6 : Same H5 (upd H5 p6 (.dK [])) := same_upd n6
    generalize upd H5 p6 (.dK []) = H6 at a6 t6 ⊢
    have s6 := s5.trans t6
    -- {'a': (1,)}
    intro p7 n7
    have h7 := s6.free n7
    refine ⟨dec _ (by decide), fun p8 n8 => ⟨?_, [(.inr "a", .ref p8)], rfl, Nat.le_of_ble_eq_true rfl, ?_⟩⟩
    · rw [upd_ne (fun e => by rw [← e, upd_same] at n8; cases n8), upd_same]
    have n78 : p8 ≠ p7 := fun e => by rw [e, upd_same] at n8; cases n8
    have m8 : H6 p8 = none := by rw [upd_ne n78] at n8; exact n8
    have t7 : Same H6 (upd (upd (upd H6 p7 (.dK [])) p8 (.tup [.int 1])) p7 (.dK [(.inr "a", .ref p8)])) := fun b o e => by
      rw [upd_ne (ne_of_none e n7), upd_ne (ne_of_none e m8), upd_ne (ne_of_none e n7)]
      exact e
    have a7 : Nw H (upd (upd (upd H6 p7 (.dK [])) p8 (.tup [.int 1])) p7 (.dK [(.inr "a", .ref p8)])) p7 (.dK [(.inr "a", .ref p8)]) := ⟨h7, upd_same⟩
    have a8 : Nw H (upd (upd (upd H6 p7 (.dK [])) p8 (.tup [.int 1])) p7 (.dK [(.inr "a", .ref p8)])) p8 (.tup [.int 1]) := ⟨s6.free m8, by rw [upd_ne n78, upd_same]⟩
    have em : mergeK [] [((.inr "a" : Key), V.ref p8)] = [(.inr "a", .ref p8)] := rfl
    rw [em]
    generalize upd (upd (upd H6 p7 (.dK [])) p8 (.tup [.int 1])) p7 (.dK [(.inr "a", .ref p8)]) = H7 at a7 a8 t7 ⊢
    have s7 := s6.trans t7
    -- [[None]]
    refine ⟨dec _ (by decide), fun p9 n9 => ?_⟩
    have a9 : Nw H _ p9 (.lst [.non]) := .mk' s7 n9
    have t9 : Same H7 (upd H7 p9 (.lst [.non])) := same_upd n9
    generalize upd H7 p9 (.lst [.non]) = H9 at a9 t9 ⊢
    have s9 := s7.trans t9
    refine ⟨dec _ (Nat.le_of_ble_eq_true rfl), fun p10 n10 => ?_⟩
    have a10 : Nw H _ p10 (.lst [.ref p9]) := .mk' s9 n10
    have t10 : Same H9 (upd H9 p10 (.lst [.ref p9])) := same_upd n10
    generalize upd H9 p10 (.lst [.ref p9]) = H10 at a10 t10 ⊢
    have s10 := s9.trans t10
    -- some
    refine ⟨dec _ (Nat.le_of_ble_eq_true rfl), fun q nq => ?_⟩
    have tq := same_upd (o := .lst [.non, .bl false, .int (-5), .int (10 ^ Int.toNat 45), .str "", .str "wide", .str "two words", .ref p1, .ref p3, .ref p4, .ref p5, .ref p6, .ref p7, .ref p10]) nq
    have sq := s10.trans tq
    have u9 := t10.trans tq
    have u7 := t9.trans u9
    have u6 := t7.trans u7
    have u5 := t6.trans u6
    have u4 := t5.trans u5
    have u3 := t4.trans u4
    have u2 := t3.trans u3
    have u1 := t2.trans u2
    have D1 := D.same sq
    obtain ⟨c, large, cells, rest, turn, D0⟩ := id D
    have nql : q ≠ l := fun e => by
      have z := s10 _ _ D0.hl
      rw [e, z] at nq
      cases nq
    refine ⟨_, rfl, _, rfl, d, l, q, _, rfl, D1, upd_same, nql, Nat.le_of_ble_eq_true rfl, Nat.le_of_ble_eq_true rfl, fun i x H' hi D' kp => ?_⟩
    have all : TdAll (since H (upd H10 q (.lst [.non, .bl false, .int (-5), .int (10 ^ Int.toNat 45), .str "", .str "wide", .str "two words", .ref p1, .ref p3, .ref p4, .ref p5, .ref p6, .ref p7, .ref p10])))
        [.non, .bl false, .int (-5), .int (10 ^ Int.toNat 45), .str "", .str "wide", .str "two words", .ref p1, .ref p3, .ref p4, .ref p5, .ref p6, .ref p7, .ref p10] anyD :=
      .cons .non (.cons (.bl _) (.cons (.int _) (.cons (.int _) (.cons (.str _) (.cons (.str _) (.cons (.str _) (.cons (.lst (a1.up u1).at .nil) (.cons (.lst (a3.up u3).at (.cons (.tup (a2.up u2).at (.cons (.int _) (.cons (.int _) .nil))) .nil))
        (.cons (.tup (a4.up u4).at .nil) (.cons (.tup (a5.up u5).at (.cons (.int _) .nil)) (.cons (.dic (a6.up u6).at .nil) (.cons (.dic (a7.up u7).at (.cons (.tup (a8.up u7).at (.cons (.int _) .nil)) .nil))
        (.cons (.lst (a10.up tq).at (.cons (.lst (a9.up u9).at (.cons .non .nil)) .nil)) .nil)))))))))))))
    obtain ⟨e, he, te⟩ := all.at hi
    exact k x e H' (List.mem_of_getElem? he) (te.mono (since_kp D0.hd D0.hl kp)) D' (Kp.trans (Kp.of sq) kp)
end
end K0

/-! # Hk -/
/-! What the top leaves of the error classes, asked by one look. -/
namespace Hk
open PySem PySem.Spec PyProof.Rows L2
def plainN : List Str := ["BadPrime", "BadRow", "BadSquare", "BadMap", "BadBasis", "BadGroup", "BadCrossing", "BadTwist", "BadStart", "BadDeed", "BadName", "BadLive", "NothingLeft", "BadSelfsplit", "BadStrands", "BadBraid", "BadOrders", "BadWeigher", "NoTwist", "BadCut", "NotSimple", "BadThing", "BadPair", "BadLetters", "BadWay", "BadGrades", "BadPairRoom", "BadStay", "BadForm"]
def ownN : List (Str × Str) := [("BadShape", "part"), ("BadBook", "part"), ("BadNumber", "part"), ("BadBrackets", "part"), ("BadRoom", "part"), ("BadTable", "part"), ("BadDoing", "part"), ("BadText", "at"), ("NoWatch", "name"), ("NoMark", "name"), ("TooMany", "most"), ("BadLeads", "part"), ("BadInner", "part"), ("BadCrossed", "part")]
def ord : List Str := plainN ++ ownN.map (·.1)
abbrev st (i : Nat) : Stmt := inClass (Dr.topS i) 0
def eqB (a b : Option (Option Value)) : Bool := decide (a = b)
theorem eqB_ok {a b : Option (Option Value)} (h : eqB a b = true) : a = b := of_decide_eq_true h
/-- an error class at C: its line of classes, its looks -/
def clsB (K : PySem.W.Frag) (S C : Addr) : Bool :=
  ((match PySem.W.clsIn K C with
    | some cd => decide (cd.mro = .ref C :: (if C = S then [] else [.ref S]) ++ PySem.HandSPX.veTail) && cd.hasDict
    | none => false) && decide (PySem.W.typeIn K (.ref C) = some (.type "type"))) &&
  (eqB (PySem.W.findIn K (.ref C) "__getattribute__") (some (some (.builtin "BaseException.__getattribute__"))) && eqB (PySem.W.findIn K (.ref C) "__getattr__") (some none)) &&
  (eqB (PySem.W.findIn K (.ref C) "__class__") (some (some (.builtin "object.__class__"))) && PySem.W.keepIn K (.ref C))
/-- the looks that do not hang on the class -/
def allB (K : PySem.W.Frag) : Bool :=
  eqB (PySem.W.specialIn K (.builtin "object.__class__") "__get__") (some (some (.builtin "getset_descriptor.__get__"))) && decide (PySem.W.takesIn K (.builtin "object.__class__") = some true) &&
  (eqB (PySem.W.nsIn K cStatics "thirdparty.any") (some none) && (K.lookup sysModules).isSome)
/-- a class with an __init__ of its own -/
def ownB (file : Str) (K : PySem.W.Frag) (C f : Addr) (y : Str) : Bool :=
  ((match K.lookup C with
    | some ⟨cl, _, .cls cd, sl⟩ => (match cd.mro, sl.toList with
      | .ref D :: bm, [_, _, _, _, some (.builtin n), _] => decide (D = C) && decide (cl = .type "type") && PySem.HandSPX.refsVE bm && cd.hasDict && !cd.hasDel && decide (n = "ValueError.__new__")
      | _, _ => false)
    | _ => false) && eqB (PySem.W.findIn K (.ref C) "__setattr__") (some (some (.builtin "object.__setattr__")))) &&
  (eqB (PySem.W.findIn K (.ref C) y) (some none) && eqB (PySem.W.findIn K (.ref C) "__init__") (some (some (.ref f)))) &&
  (decide (PySem.W.typeIn K (.ref f) = some (.type "function")) && eqB (PySem.W.ks_superIn K C C "__init__") (some (some (.builtin "ValueError.__init__")))) &&
  (match K.lookup f with
    | some ⟨_, _, .func fd, _⟩ => (match fd.closure, fd.code with
      | [(_, cc)], .ref cda => (match K.lookup cc with
        | some ⟨_, _, .cell (some (.ref D)), _⟩ => decide (D = C)
        | _ => false) && (PySem.W.codeIn K (.ref cda) fd.qualname && (match K.lookup cda with
        | some ⟨_, _, .fields vs, _⟩ => (match vs.toList with
          | _ :: _ :: Value.str z _ :: _ => decide (z = file)
          | _ => false)
        | _ => false))
      | _, _ => false)
    | _ => false)
/-- the text of such an __init__ -/
abbrev Iw : Type := Option (Str × Arguments × FuncBody × Scope × Addr × List Str × Value × Addr)
def iw (K : PySem.W.Frag) (f : Addr) : Iw := match K.lookup f with
  | some ⟨_, _, .func ⟨n1, _, n3, n4, n5, n6, n7, n8, _, _, _, _, _, _, n15⟩, _⟩ => some (n1, n3, n4, n5, n6, n7.map (·.1), n8, n15)
  | _ => none
def iwOf (s : Stmt) : Iw := some ("__init__", defArgs s, .stmts (defBody s), defScope s, mainGlobals, ["__class__"], .none, builtinsNs)
abbrev cA (K : PySem.W.Frag) (x : Str) : Addr := He.ga K x
abbrev iA (K : PySem.W.Frag) (x : Str) : Addr := He.ma K (He.ga K x) "__init__"
def xB (file : Str) (K : PySem.W.Frag) : Bool :=
  allB K && ((("SplitError" : Str) :: ord).all fun x => eqB (PySem.W.nsIn K mainGlobals x) (some (some (.ref (cA K x)))) && clsB K (cA K "SplitError") (cA K x)) &&
  ((("SplitError" : Str) :: plainN).all fun x => PySem.W.excIn K (cA K x) PySem.HandSPX.veTail "ValueError.__new__") && (ownN.all fun p => ownB file K (cA K p.1) (iA K p.1) p.2) && decide ((("SplitError" : Str) :: ord).map (cA K)).Nodup
def xW (K : PySem.W.Frag) : List Iw := ownN.map fun p => iw K (iA K p.1)
def wV : List Iw := [28, 3, 20, 4, 25, 33, 10, 34, 41, 39, 44, 15, 14, 6].map fun i => iwOf (st i)
/-! ### the hook -/
def fa : List He.Fa := [.free "abs", .free "int", .free "len", .free "isinstance", .free "enumerate", .free "range", .free "repr", .free "ValueError", .free "super",
  .glo "_law_begun", .glo "_law_mixed", .glo "_law_take", .glo "_law_pick", .glo "_law_any", .glo "_law_kinds", .glo "_law_plain_errors", .glo "_law_errors_of", .glo "law"]
def dOf (x : Str) (i : Nat) : He.DefD := ⟨(x, none), x, x, defArgs (Dr.topS i), defBody (Dr.topS i), defScope (Dr.topS i), [], []⟩
def fn : List He.DefD := [dOf "_law_begun" 46, dOf "_law_mixed" 47, dOf "_law_take" 48, dOf "_law_pick" 49, dOf "_law_any" 50, dOf "_law_kinds" 51, dOf "_law_plain_errors" 52, dOf "_law_errors_of" 53, dOf "law" 54]
abbrev Al : Type := He.AlD × (Bool × List Iw)
def kG (g : Addr → Option Obj) : PySem.W.Frag := He.frG g (startupAddrs ++ He.asD g 6)
def obsK (K : PySem.W.Frag) : Al := (He.obsD fa fn K, (xB "/claim/cut.py" K, xW K))
def valK : Al := (He.valD fn, (true, wV))
def Says (K : PySem.W.Frag) : Prop := obsK K = valK
def hook : PySem.W.Hook where
  α := Al
  obs := fun s => obsK (kG s.heap.get?)
  val := fun _ => valK
  says := fun _ h => ∃ K : PySem.W.Frag, K.In h ∧ Says K
  of := fun _ _ e => ⟨_, He.frG_in, e⟩
  keeps := fun _ _ _ ⟨K, hK, c⟩ k => ⟨K, PySem.W.Frag.In.keeps hK k, c⟩
def ob (s : PySem.W.SharedT) : Al := obsK (kG (HandSHeadRun.getT s))
theorem ob_eq (s : PySem.W.SharedT) : ob s = hook.obs s.abs := by
  have e : HandSHeadRun.getT s = s.abs.heap.get? := funext (HandSHeadRun.getT_eq s)
  unfold ob
  rw [e] <;> rfl
def l1 : List Str := ["SplitError", "BadBasis", "BadBook", "BadBrackets", "BadBraid", "BadCrossed", "BadCrossing", "BadCut", "BadDeed", "BadDoing", "BadForm", "BadGrades", "BadGroup", "BadInner", "BadLeads", "BadLetters", "BadLive", "BadMap", "BadName", "BadNumber", "BadOrders", "BadPair", "BadPairRoom", "BadPrime", "BadRoom", "BadRow", "BadSelfsplit"]
def l2 : List Str := ["BadShape", "BadSquare", "BadStart", "BadStay", "BadStrands", "BadTable", "BadText", "BadThing", "BadTwist", "BadWay", "BadWeigher", "NoMark", "NoTwist", "NoWatch", "NotSimple", "NothingLeft", "TooMany", "_law_begun", "_law_mixed", "_law_take", "_law_pick", "_law_any", "_law_kinds", "_law_plain_errors", "_law_errors_of"]
def names : List Str := l1 ++ l2
abbrev R : PySem.W.OpenRow := PySem.W.OpenLaw.row PySem.Challenge.rw_splitbooks_k00_errors_of_all_parts
end Hk

/-! # Hk2 -/
namespace Hk
open PySem PySem.Spec PyProof.Rows L2
theorem run (w : World) : HandSHeadRun.RunEq R (PySem.W.view R.prog [54]) hook ob 20000 names w := by
  intro os
  kernel_rfl
end Hk

/-! # Hk3 -/
/-! What that look says. -/
namespace Hk
open PySem PySem.Spec PyProof.Rows L2
theorem band {a b : Bool} (h : (a && b) = true) : a = true ∧ b = true := Bool.and_eq_true_iff.mp h
abbrev sE : Str := "SplitError"
abbrev allN : List Str := sE :: ord
section
variable {K : PySem.W.Frag}
theorem Says.base (c : Says K) : He.SaysD fa fn K := congrArg (fun z : Al => z.1) c
theorem Says.x (c : Says K) : xB "/claim/cut.py" K = true := congrArg (fun z : Al => z.2.1) c
theorem Says.w (c : Says K) : xW K = wV := congrArg (fun z : Al => z.2.2) c
structure Parts (K : PySem.W.Frag) : Prop where
  all : allB K = true
  cls : ∀ x ∈ allN, PySem.W.nsIn K mainGlobals x = some (some (.ref (cA K x))) ∧ clsB K (cA K sE) (cA K x) = true
  exc : ∀ x ∈ sE :: plainN, PySem.W.excIn K (cA K x) PySem.HandSPX.veTail "ValueError.__new__" = true
  own : ∀ p ∈ ownN, ownB "/claim/cut.py" K (cA K p.1) (iA K p.1) p.2 = true
  nd : (allN.map (cA K)).Nodup
theorem Says.parts (c : Says K) : Parts K := by
  obtain ⟨c1, c2⟩ := band c.x
  obtain ⟨c3, c4⟩ := band c1
  obtain ⟨c5, c6⟩ := band c3
  obtain ⟨c7, c8⟩ := band c5
  refine ⟨c7, fun x hx => ?_, fun x hx => List.all_eq_true.mp c6 x hx, fun p hp => List.all_eq_true.mp c4 p hp, of_decide_eq_true c2⟩
  obtain ⟨d1, d2⟩ := band (List.all_eq_true.mp c8 x hx)
  exact ⟨eqB_ok d1, d2⟩
structure ClsS (K : PySem.W.Frag) (S C : Addr) : Prop where
  cd : ∃ cd, PySem.W.clsIn K C = some cd ∧ cd.mro = .ref C :: (if C = S then [] else [.ref S]) ++ PySem.HandSPX.veTail ∧ cd.hasDict = true
  ty : PySem.W.typeIn K (.ref C) = some (.type "type")
  ga : PySem.W.findIn K (.ref C) "__getattribute__" = some (some (.builtin "BaseException.__getattribute__"))
  gt : PySem.W.findIn K (.ref C) "__getattr__" = some none
  cl : PySem.W.findIn K (.ref C) "__class__" = some (some (.builtin "object.__class__"))
  kp : PySem.W.keepIn K (.ref C) = true
theorem clsS {S C : Addr} (h : clsB K S C = true) : ClsS K S C := by
  obtain ⟨h1, h2⟩ := band h
  obtain ⟨h3, h4⟩ := band h1
  obtain ⟨h5, h6⟩ := band h3
  obtain ⟨h7, h8⟩ := band h4
  obtain ⟨h9, h10⟩ := band h2
  refine ⟨?_, of_decide_eq_true h6, eqB_ok h7, eqB_ok h8, eqB_ok h9, h10⟩
  cases e : PySem.W.clsIn K C with
  | none =>
    rw [e] at h5
    cases h5
  | some cd =>
    rw [e] at h5
    obtain ⟨z1, z2⟩ := band h5
    exact ⟨cd, rfl, of_decide_eq_true z1, z2⟩
theorem Parts.at (p : Parts K) {x : Str} (hx : x ∈ allN) : ClsS K (cA K sE) (cA K x) := clsS (p.cls x hx).2
theorem Parts.mg {h : Heap} {mg : Str → Option Value} (p : Parts K) (X : K.In h) (G : h.Ns mainGlobals mg) {x : Str} (hx : x ∈ allN) : mg x = some (.ref (cA K x)) := PySem.W.mg_of X G (p.cls x hx).1
structure AllS (K : PySem.W.Frag) : Prop where
  g : PySem.W.specialIn K (.builtin "object.__class__") "__get__" = some (some (.builtin "getset_descriptor.__get__"))
  t : PySem.W.takesIn K (.builtin "object.__class__") = some true
  o : PySem.W.nsIn K cStatics "thirdparty.any" = some none
  s : ∃ o, K.lookup sysModules = some o
theorem Parts.alls (p : Parts K) : AllS K := by
  obtain ⟨h1, h2⟩ := band p.all
  obtain ⟨h3, h4⟩ := band h1
  obtain ⟨h5, h6⟩ := band h2
  exact ⟨eqB_ok h3, of_decide_eq_true h4, eqB_ok h5, Option.isSome_iff_exists.mp h6⟩
theorem ClsS.sub {S C : Addr} (z : ClsS K S C) {b : Value} {r : Bool} (h : ((.ref C :: (if C = S then [] else [.ref S]) ++ PySem.HandSPX.veTail : List Value)).contains b = r) : PySem.W.mroIn K C b = some r := by
  obtain ⟨cd, h1, h2, _⟩ := z.cd
  unfold PySem.W.mroIn
  rw [h1, Option.bind_some, h2, if_neg (by simp), h]
theorem ClsS.any {S C : Addr} (z : ClsS K S C) : PySem.W.hasDictIn K C = true := by
  obtain ⟨cd, h1, _, h3⟩ := z.cd
  unfold PySem.W.hasDictIn
  rw [h1]
  exact h3
theorem excC (a : AllS K) {S C : Addr} (z : ClsS K S C) : ExcC K C where
  hg := z.ga
  hk := z.gt
  hs := z.sub (by by_cases e : C = S <;> simp [e])
  hd := z.any
  ha := z.cl
  hn := a.g
  ht := a.t
  hm := z.sub (by by_cases e : C = S <;> simp [e])
theorem inj_of {α β : Type} {f : α → β} : ∀ {l : List α}, (l.map f).Nodup → ∀ {x y : α}, x ∈ l → y ∈ l → f x = f y → x = y
  | [], _, _, _, hx, _, _ => nomatch hx
  | a :: l, h, x, y, hx, hy, e => by
    rw [List.map_cons, List.nodup_cons] at h
    obtain ⟨h1, h2⟩ := h
    by_cases ex : x = a
    · by_cases ey : y = a
      · rw [ex, ey]
      · have hy : y ∈ l := (List.mem_cons.mp hy).resolve_left ey
        exact absurd (List.mem_map.mpr ⟨y, hy, by rw [← e, ex]⟩) h1
    · have hx : x ∈ l := (List.mem_cons.mp hx).resolve_left ex
      by_cases ey : y = a
      · exact absurd (List.mem_map.mpr ⟨x, hx, by rw [e, ey]⟩) h1
      · exact inj_of h2 hx ((List.mem_cons.mp hy).resolve_left ey) e
theorem Parts.inj (p : Parts K) {x y : Str} (hx : x ∈ allN) (hy : y ∈ allN) : (cA K x = cA K y) ↔ x = y := ⟨fun e => inj_of p.nd hx hy e, fun e => by rw [e]⟩
/-- isinstance of an error of the class x with the class y -/
theorem Parts.kit (p : Parts K) {x y : Str} (hx : x ∈ allN) (hy : y ∈ allN) : PySem.W.kitOne K (.ref (cA K x)) (.ref (cA K y)) = some (decide (x = y) || decide (y = sE)) := by
  have zx := p.at hx
  have zy := p.at hy
  obtain ⟨cy, hcy, _⟩ := zy.cd
  have hS : sE ∈ allN := List.mem_cons_self ..
  unfold PySem.W.kitOne
  by_cases e : x = y
  · subst e
    simp
  · have ne : cA K x ≠ cA K y := fun q => e ((p.inj hx hy).mp q)
    have n1 : ¬ ((Value.ref (cA K x) == Value.ref (cA K y)) = true) := by
      intro q
      exact ne (Value.ref.inj (beq_iff_eq.mp q))
    rw [if_neg n1]
    have cond : ((PySem.W.clsIn K (cA K y)).isSome && PySem.W.typeIn K (.ref (cA K y)) == some (.type "type")) = true := by
      rw [hcy, zy.ty] <;> rfl
    show (if ((PySem.W.clsIn K (cA K y)).isSome && PySem.W.typeIn K (.ref (cA K y)) == some (.type "type")) = true then PySem.W.mroIn K (cA K x) (.ref (cA K y)) else none) = _
    rw [if_pos cond]
    refine zx.sub ?_
    have n2 : ¬ cA K y = cA K x := fun q => ne q.symm
    by_cases s : y = sE
    · subst s
      simp [ne, n2]
    · have n3 : ¬ cA K y = cA K sE := fun q => s ((p.inj hy hS).mp q)
      by_cases t : cA K x = cA K sE
      · simp [t, n3, e, s]
      · simp [t, n3, n2, e, s]
theorem Parts.kitVE (p : Parts K) {x : Str} (hx : x ∈ allN) : PySem.W.kitOne K (.ref (cA K x)) (.type "ValueError") = some true := by
  have zx := p.at hx
  unfold PySem.W.kitOne
  rw [if_neg (by intro q; cases beq_iff_eq.mp q)]
  show (if PySem.W.kitMeta "ValueError" = true then PySem.W.mroIn K (cA K x) (.type "ValueError") else none) = _
  rw [if_pos (by decide +kernel)]
  exact zx.sub (by by_cases e : cA K x = cA K sE <;> simp [e])
end
end Hk

/-! # Hk4 -/
namespace Hk
open PySem PySem.Spec PyProof.Rows L2
section
variable {K : PySem.W.Frag} {S C f : Addr} {y file : Str} {s : Stmt}
/-- the text of an __init__ that says super().__init__('..') and stores -/
def TextE (y : Str) (s : Stmt) : Prop := ∃ (p1 p2 : Pos) (m : Str) (p : Er.Ps), defArgs s = Er.eA y p1 p2 ∧ defBody s = Er.eB y m p ∧ defScope s = Er.eS y ∧ Er.Hv p ∧ m.length ≤ sizeLine
theorem ownT (a : AllS K) (z : ClsS K S C) (hb : ownB file K C f y = true) (hw : iw K f = iwOf s) (nm : Er.Nm y) (ht : TextE y s) : Er.T file K y C f := by
  obtain ⟨h1, h2⟩ := band hb
  obtain ⟨h3, h4⟩ := band h1
  obtain ⟨h5, h6⟩ := band h3
  obtain ⟨h7, h8⟩ := band h5
  obtain ⟨h9, h10⟩ := band h6
  obtain ⟨h11, h12⟩ := band h4
  obtain ⟨p1, p2, m, p, t1, t2, t3, t4, t5⟩ := ht
  refine ⟨nm, ?_, eqB_ok h8, eqB_ok h9, eqB_ok h10, of_decide_eq_true h11, z.kp, eqB_ok h12, z.sub (by by_cases e : C = S <;> simp [e]), z.sub (by simp), a.o, ?_⟩
  · clear h2 hw
    split at h7
    · rename_i cl dd cd sl hl
      split at h7
      · rename_i D bm k0 k1 k2 k3 n k5 hm hs
        obtain ⟨g1, g2⟩ := band h7
        obtain ⟨g3, g4⟩ := band g1
        obtain ⟨g5, g6⟩ := band g3
        obtain ⟨g7, g8⟩ := band g5
        obtain ⟨g9, g10⟩ := band g7
        have e1 : D = C := of_decide_eq_true g9
        have e2 : cl = .type "type" := of_decide_eq_true g10
        have e3 : n = "ValueError.__new__" := of_decide_eq_true g2
        have e4 : cd.hasDel = false := by simpa using g4
        subst e1 e2 e3
        obtain ⟨nm, bs, mro, ns, qn, hd, sn, sub, ab, col, del⟩ := cd
        dsimp only at hm g6 e4
        subst hm g6 e4
        have hsl : sl = #[k0, k1, k2, k3, some (.builtin "ValueError.__new__"), k5] := by
          obtain ⟨l⟩ := sl
          dsimp only at hs
          rw [hs]
        subst hsl
        exact ⟨_, _, _, _, bm, _, _, _, _, _, _, _, _, _, _, hl, g8⟩
      · cases h7
    · cases h7
  · unfold iw at hw
    split at h2
    · rename_i oc od fd osl hl
      rw [hl] at hw
      obtain ⟨n1, n2, n3, n4, n5, n6, n7, n8, n9, n10, n11, n12, n13, n14, n15⟩ := fd
      have hw2 : (some (n1, n3, n4, n5, n6, n7.map (·.1), n8, n15) : Iw) = some (("__init__" : Str), defArgs s, FuncBody.stmts (defBody s), defScope s, mainGlobals, ([("__class__" : Str)] : List Str), Value.none, builtinsNs) := hw
      simp only [Option.some.injEq, Prod.mk.injEq] at hw2
      obtain ⟨w1, w2, w3, w4, w5, w6, w7, w8⟩ := hw2
      subst w1 w2 w3 w4 w5 w7 w8
      split at h2
      · rename_i cn cc cda hcl hcd
        dsimp only at hcl hcd
        subst hcl hcd
        have w9 : cn = "__class__" := by simpa using w6
        subst w9
        obtain ⟨g1, g2⟩ := band h2
        obtain ⟨g3, g4⟩ := band g2
        split at g1
        · rename_i dl dd D sl hc
          have e1 : D = C := of_decide_eq_true g1
          subst e1
          split at g4
          · rename_i ecl edd vs esl he
            split at g4
            · rename_i v0 v1 z0 tf vr hv
              have e2 : z0 = file := of_decide_eq_true g4
              subst e2
              have hvs : vs[2]? = some (.str z0 tf) := by
                rw [← Array.getElem?_toList, hv] <;> rfl
              rw [t1, t2, t3] at hl
              exact ⟨m, n2, p1, p2, p, n9, n10, n11, n14, oc, ecl, dl, n12, od, edd, dd, cda, cc, osl, esl, sl, vs, tf, hl, g3, he, hvs, hc, t4, t5⟩
            · cases g4
          · cases g4
        · cases g1
      · cases h2
    · cases h2
end
end Hk

/-! # Hk5 -/
namespace Hk
open PySem PySem.Spec PyProof.Rows L2
theorem nm_part : Er.Nm "part" := ⟨by decide +kernel, by decide +kernel, by decide +kernel, by decide +kernel, by decide +kernel⟩
theorem nm_at : Er.Nm "at" := ⟨by decide +kernel, by decide +kernel, by decide +kernel, by decide +kernel, by decide +kernel⟩
theorem nm_name : Er.Nm "name" := ⟨by decide +kernel, by decide +kernel, by decide +kernel, by decide +kernel, by decide +kernel⟩
theorem nm_most : Er.Nm "most" := ⟨by decide +kernel, by decide +kernel, by decide +kernel, by decide +kernel, by decide +kernel⟩
theorem Parts.ownAt {K : PySem.W.Frag} (c : Says K) (j : Nat) {x y : Str} {i : Nat} (h1 : ownN[j]? = some (x, y)) (hx : x ∈ allN) (h2 : wV[j]? = some (iwOf (st i))) (nm : Er.Nm y) (t : TextE y (st i)) : Er.T "/claim/cut.py" K y (cA K x) (iA K x) := by
  have p := c.parts
  have e : (xW K)[j]? = wV[j]? := by rw [c.w]
  rw [h2] at e
  unfold xW at e
  rw [List.getElem?_map, h1] at e
  exact ownT p.alls (p.at hx) (p.own (x, y) (List.mem_of_getElem? h1)) (Option.some.inj e) nm t
section
variable {K : PySem.W.Frag}
theorem own_BadShape (c : Says K) : Er.T "/claim/cut.py" K "part" (cA K "BadShape") (iA K "BadShape") :=
  Parts.ownAt c 0 (i := 28) rfl (by decide +kernel) rfl nm_part ⟨_, _, _, ⟨_, _, _, _, _, _, _, _, _, _⟩, rfl, rfl, rfl, fun m env => ⟨_, rfl⟩, by decide +kernel⟩
theorem own_BadBook (c : Says K) : Er.T "/claim/cut.py" K "part" (cA K "BadBook") (iA K "BadBook") :=
  Parts.ownAt c 1 (i := 3) rfl (by decide +kernel) rfl nm_part ⟨_, _, _, ⟨_, _, _, _, _, _, _, _, _, _⟩, rfl, rfl, rfl, fun m env => ⟨_, rfl⟩, by decide +kernel⟩
theorem own_BadNumber (c : Says K) : Er.T "/claim/cut.py" K "part" (cA K "BadNumber") (iA K "BadNumber") :=
  Parts.ownAt c 2 (i := 20) rfl (by decide +kernel) rfl nm_part ⟨_, _, _, ⟨_, _, _, _, _, _, _, _, _, _⟩, rfl, rfl, rfl, fun m env => ⟨_, rfl⟩, by decide +kernel⟩
theorem own_BadBrackets (c : Says K) : Er.T "/claim/cut.py" K "part" (cA K "BadBrackets") (iA K "BadBrackets") :=
  Parts.ownAt c 3 (i := 4) rfl (by decide +kernel) rfl nm_part ⟨_, _, _, ⟨_, _, _, _, _, _, _, _, _, _⟩, rfl, rfl, rfl, fun m env => ⟨_, rfl⟩, by decide +kernel⟩
theorem own_BadRoom (c : Says K) : Er.T "/claim/cut.py" K "part" (cA K "BadRoom") (iA K "BadRoom") :=
  Parts.ownAt c 4 (i := 25) rfl (by decide +kernel) rfl nm_part ⟨_, _, _, ⟨_, _, _, _, _, _, _, _, _, _⟩, rfl, rfl, rfl, fun m env => ⟨_, rfl⟩, by decide +kernel⟩
theorem own_BadTable (c : Says K) : Er.T "/claim/cut.py" K "part" (cA K "BadTable") (iA K "BadTable") :=
  Parts.ownAt c 5 (i := 33) rfl (by decide +kernel) rfl nm_part ⟨_, _, _, ⟨_, _, _, _, _, _, _, _, _, _⟩, rfl, rfl, rfl, fun m env => ⟨_, rfl⟩, by decide +kernel⟩
theorem own_BadDoing (c : Says K) : Er.T "/claim/cut.py" K "part" (cA K "BadDoing") (iA K "BadDoing") :=
  Parts.ownAt c 6 (i := 10) rfl (by decide +kernel) rfl nm_part ⟨_, _, _, ⟨_, _, _, _, _, _, _, _, _, _⟩, rfl, rfl, rfl, fun m env => ⟨_, rfl⟩, by decide +kernel⟩
theorem own_BadText (c : Says K) : Er.T "/claim/cut.py" K "at" (cA K "BadText") (iA K "BadText") :=
  Parts.ownAt c 7 (i := 34) rfl (by decide +kernel) rfl nm_at ⟨_, _, _, ⟨_, _, _, _, _, _, _, _, _, _⟩, rfl, rfl, rfl, fun m env => ⟨_, rfl⟩, by decide +kernel⟩
theorem own_NoWatch (c : Says K) : Er.T "/claim/cut.py" K "name" (cA K "NoWatch") (iA K "NoWatch") :=
  Parts.ownAt c 8 (i := 41) rfl (by decide +kernel) rfl nm_name ⟨_, _, _, ⟨_, _, _, _, _, _, _, _, _, _⟩, rfl, rfl, rfl, fun m env => ⟨_, rfl⟩, by decide +kernel⟩
theorem own_NoMark (c : Says K) : Er.T "/claim/cut.py" K "name" (cA K "NoMark") (iA K "NoMark") :=
  Parts.ownAt c 9 (i := 39) rfl (by decide +kernel) rfl nm_name ⟨_, _, _, ⟨_, _, _, _, _, _, _, _, _, _⟩, rfl, rfl, rfl, fun m env => ⟨_, rfl⟩, by decide +kernel⟩
theorem own_TooMany (c : Says K) : Er.T "/claim/cut.py" K "most" (cA K "TooMany") (iA K "TooMany") :=
  Parts.ownAt c 10 (i := 44) rfl (by decide +kernel) rfl nm_most ⟨_, _, _, ⟨_, _, _, _, _, _, _, _, _, _⟩, rfl, rfl, rfl, fun m env => ⟨_, rfl⟩, by decide +kernel⟩
theorem own_BadLeads (c : Says K) : Er.T "/claim/cut.py" K "part" (cA K "BadLeads") (iA K "BadLeads") :=
  Parts.ownAt c 11 (i := 15) rfl (by decide +kernel) rfl nm_part ⟨_, _, _, ⟨_, _, _, _, _, _, _, _, _, _⟩, rfl, rfl, rfl, fun m env => ⟨_, rfl⟩, by decide +kernel⟩
theorem own_BadInner (c : Says K) : Er.T "/claim/cut.py" K "part" (cA K "BadInner") (iA K "BadInner") :=
  Parts.ownAt c 12 (i := 14) rfl (by decide +kernel) rfl nm_part ⟨_, _, _, ⟨_, _, _, _, _, _, _, _, _, _⟩, rfl, rfl, rfl, fun m env => ⟨_, rfl⟩, by decide +kernel⟩
theorem own_BadCrossed (c : Says K) : Er.T "/claim/cut.py" K "part" (cA K "BadCrossed") (iA K "BadCrossed") :=
  Parts.ownAt c 13 (i := 6) rfl (by decide +kernel) rfl nm_part ⟨_, _, _, ⟨_, _, _, _, _, _, _, _, _, _⟩, rfl, rfl, rfl, fun m env => ⟨_, rfl⟩, by decide +kernel⟩
end
end Hk

/-! # K0b -/
namespace K0
open PySem L2 Dr Hk
abbrev sKinds : Stmt := topS 51
def kind (x z : Str) : V := V.bl (decide (x = z) || decide (z = sE))
def kinds (x : Str) : List V := ord.map (kind x)
/-! ### the reading of one row, found = found + [..] -/
def tIsi (K : PySem.W.Frag) : List Str → TA
  | [] => tNil
  | z :: r => tCons (tCB (rIsErr K) (tCons (tVar 0) (tCons (tC (.ref (cA K z))) tNil))) (tIsi K r)
def tKinds (K : PySem.W.Frag) : List (List Str) → TS
  | [] => tRet (tVar 1)
  | g :: r => tSeq (tAsg (tOp rCat (tVar 1) (tLst (tIsi K g))) (gName 1)) (tKinds K r)
section
variable {X : Cx} {C : Addr} {z : Str}
theorem isiK {p1 p2 p3 p4 : Pos} (mi : X.mg "isinstance" = none) (hm : X.mg z = some (.ref C)) (hN : X.N[0]? = some ("error" : Str) := by rfl) (hv : Vis X.env.scope "error" := by exact Or.inl rfl) (h1 : Gl X "isinstance" := by rfl) (h2 : Gl X z := by rfl) (hd : (z == ("__debug__" : Str)) = false := by decide +kernel) :
    PE X (.Call (.Name "isinstance" p1) [.Name "error" p2, .Name z p3] [] p4) (tCB (rIsErr X.K) (tCons (tVar 0) (tCons (tC (.ref C)) tNil))) :=
  pe_callB call_isErr h1 mi (by decide +kernel) (pa_cons (pe_var hN hv) (pa_cons (pe_glob (v := .ref C) h2 hm rfl hd) pa_nil))
end
theorem flat_len {α : Type} (l : List α) (h : l.length ≤ 1000) : l.length ≤ sizeLine := Nat.le_trans h (by decide)
section
variable {K : PySem.W.Frag} {x : Str} {a : Addr}
theorem rd_isi (P : Parts K) (hx : x ∈ allN) : ∀ (ms : List Str) {σ : St} {H : Hp} {Q : List V → Hp → Prop}, (∀ z ∈ ms, z ∈ allN) → σ[0]? = some (some (.ref a)) → ErrAt H a (cA K x) → Q (ms.map (kind x)) H → tIsi K ms σ H Q
  | [], σ, H, Q, _, _, _, q => q
  | z :: r, σ, H, Q, hz, h0, e, q => ⟨_, h0, a, _, _, _, rfl, e, excC P.alls (P.at hx), P.kit hx (hz z (List.mem_cons_self ..)), rd_isi P hx r (fun z h => hz z (List.mem_cons_of_mem _ h)) h0 e q⟩
theorem rd_kinds (P : Parts K) (hx : x ∈ allN) {D : Ends} {H : Hp} (k : ∀ (p : Addr) (H' : Hp) (xs : List V), Same H H' → H p = none → xs = kinds x → H' p = some (.lst xs) → D.rt (.ref p) H') :
    ∀ (gs : List (List Str)) (ns : List Str) (p : Addr) (H0 : Hp), (∀ g ∈ gs, ∀ z ∈ g, z ∈ allN) → ns ++ gs.flatten = ord → ErrAt H a (cA K x) → Same H H0 → H p = none → H0 p = some (.lst (ns.map (kind x))) → tKinds K gs D [some (.ref a), some (.ref p)] H0
  | [], ns, p, H0, _, hn, _, s, hp, h => by
    rw [List.flatten_nil, List.append_nil] at hn
    exact ⟨_, rfl, k p H0 _ s hp (by rw [hn]; rfl) h⟩
  | g :: gs, ns, p, H0, hg, hn, e, s, hp, h => by
    have lo : ord.length = 43 := by decide +kernel
    have l2 : (ns ++ (g ++ gs.flatten)).length = 43 := by rw [← lo, ← hn, List.flatten_cons]
    rw [List.length_append, List.length_append] at l2
    refine ⟨_, rfl, rd_isi P hx g (hg g (List.mem_cons_self ..)) rfl (e.same s) ⟨flat_len _ (by rw [List.length_map]; omega), fun l nl => ?_⟩⟩
    have lz : (ns.map (kind x)).length + (g.map (kind x)).length ≤ sizeLine := by
      rw [List.length_map, List.length_map]
      exact Nat.le_trans (m := 1000) (by omega) (by decide)
    refine ⟨p, l, _, _, rfl, rfl, same_upd nl _ _ h, upd_same, lz, fun q nq => ?_⟩
    have t : Same H (upd (upd H0 l (.lst (g.map (kind x)))) q (.lst (ns.map (kind x) ++ g.map (kind x)))) := (s.trans (same_upd nl)).trans (same_upd nq)
    exact rd_kinds P hx k gs (ns ++ g) q _ (fun g' h' => hg g' (List.mem_cons_of_mem _ h')) (by rw [← hn, List.flatten_cons, List.append_assoc]) e t ((s.trans (same_upd nl)).free nq) (by rw [List.map_append]; exact upd_same)
end
def groupsK : List (List Str) := [["BadPrime", "BadRow", "BadSquare"], ["BadMap", "BadBasis", "BadGroup"], ["BadCrossing", "BadTwist", "BadStart"], ["BadDeed", "BadName", "BadLive"], ["NothingLeft", "BadSelfsplit"], ["BadStrands", "BadBraid", "BadOrders"], ["BadWeigher", "NoTwist", "BadCut"], ["NotSimple", "BadThing", "BadPair"], ["BadLetters", "BadWay", "BadGrades"], ["BadPairRoom", "BadStay", "BadForm"], ["BadShape", "BadBook", "BadNumber"], ["BadBrackets", "BadRoom", "BadTable"], ["BadDoing", "BadText", "NoWatch"], ["NoMark", "TooMany", "BadLeads"], ["BadInner", "BadCrossed"]]
section
variable {P' : Program} {w : World} {K : PySem.W.Frag} {mg : Str → Option Value} {base : Heap}
def spKinds (K : PySem.W.Frag) : Sp := fun vs H Q _ => ∃ (a : Addr) (x : Str), vs = [.ref a] ∧ x ∈ allN ∧ ErrAt H a (cA K x) ∧ ∀ (p : Addr) (H' : Hp) (xs : List V), Same H H' → H p = none → xs = kinds x → H' p = some (.lst xs) → Q (.ref p) H'
theorem scK : FnScope ["error", "found"] ["error"] (defScope sKinds) := ⟨rfl, rfl, rfl, by decide +kernel, rfl, by decide +kernel, by decide +kernel⟩
theorem ok_kinds {f : Addr} {fd : FuncData} (F : Fun K "_law_kinds" "_law_kinds" sKinds f fd) (P : Parts K) (gz : ∀ z, z ∈ allN → mg z = some (.ref (cA K z))) (mi : mg "isinstance" = none) : FnOk P' w K mg base CX0 1 f fd ["error"] (spKinds K) := by
  refine F.ok scK (fun vs H Q E h => ?_) (fun cdv A outer s H vs Q E hr h => ?_)
  · obtain ⟨a, x, rfl, _⟩ := h
    rfl
  · obtain ⟨a, x, rfl, hx, e, k⟩ := h
    refine ⟨tSeq (tAsg (tLst tNil) (gName 1)) (tKinds K groupsK), pss_cons (ps_set (i := 1) scK.nd rfl (Or.inl rfl) (pe_lst pa_nil))
      (pss_cons (ps_set (i := 1) scK.nd rfl (Or.inl rfl) (pe_op op_cat (pv 1) (pe_lst (pa_cons (isiK mi (gz "BadPrime" (by decide +kernel))) (pa_cons (isiK mi (gz "BadRow" (by decide +kernel))) (pa_cons (isiK mi (gz "BadSquare" (by decide +kernel))) pa_nil))))))
      (pss_cons (ps_set (i := 1) scK.nd rfl (Or.inl rfl) (pe_op op_cat (pv 1) (pe_lst (pa_cons (isiK mi (gz "BadMap" (by decide +kernel))) (pa_cons (isiK mi (gz "BadBasis" (by decide +kernel))) (pa_cons (isiK mi (gz "BadGroup" (by decide +kernel))) pa_nil))))))
      (pss_cons (ps_set (i := 1) scK.nd rfl (Or.inl rfl) (pe_op op_cat (pv 1) (pe_lst (pa_cons (isiK mi (gz "BadCrossing" (by decide +kernel))) (pa_cons (isiK mi (gz "BadTwist" (by decide +kernel))) (pa_cons (isiK mi (gz "BadStart" (by decide +kernel))) pa_nil))))))
      (pss_cons (ps_set (i := 1) scK.nd rfl (Or.inl rfl) (pe_op op_cat (pv 1) (pe_lst (pa_cons (isiK mi (gz "BadDeed" (by decide +kernel))) (pa_cons (isiK mi (gz "BadName" (by decide +kernel))) (pa_cons (isiK mi (gz "BadLive" (by decide +kernel))) pa_nil))))))
      (pss_cons (ps_set (i := 1) scK.nd rfl (Or.inl rfl) (pe_op op_cat (pv 1) (pe_lst (pa_cons (isiK mi (gz "NothingLeft" (by decide +kernel))) (pa_cons (isiK mi (gz "BadSelfsplit" (by decide +kernel))) pa_nil)))))
      (pss_cons (ps_set (i := 1) scK.nd rfl (Or.inl rfl) (pe_op op_cat (pv 1) (pe_lst (pa_cons (isiK mi (gz "BadStrands" (by decide +kernel))) (pa_cons (isiK mi (gz "BadBraid" (by decide +kernel))) (pa_cons (isiK mi (gz "BadOrders" (by decide +kernel))) pa_nil))))))
      (pss_cons (ps_set (i := 1) scK.nd rfl (Or.inl rfl) (pe_op op_cat (pv 1) (pe_lst (pa_cons (isiK mi (gz "BadWeigher" (by decide +kernel))) (pa_cons (isiK mi (gz "NoTwist" (by decide +kernel))) (pa_cons (isiK mi (gz "BadCut" (by decide +kernel))) pa_nil))))))
      (pss_cons (ps_set (i := 1) scK.nd rfl (Or.inl rfl) (pe_op op_cat (pv 1) (pe_lst (pa_cons (isiK mi (gz "NotSimple" (by decide +kernel))) (pa_cons (isiK mi (gz "BadThing" (by decide +kernel))) (pa_cons (isiK mi (gz "BadPair" (by decide +kernel))) pa_nil))))))
      (pss_cons (ps_set (i := 1) scK.nd rfl (Or.inl rfl) (pe_op op_cat (pv 1) (pe_lst (pa_cons (isiK mi (gz "BadLetters" (by decide +kernel))) (pa_cons (isiK mi (gz "BadWay" (by decide +kernel))) (pa_cons (isiK mi (gz "BadGrades" (by decide +kernel))) pa_nil))))))
      (pss_cons (ps_set (i := 1) scK.nd rfl (Or.inl rfl) (pe_op op_cat (pv 1) (pe_lst (pa_cons (isiK mi (gz "BadPairRoom" (by decide +kernel))) (pa_cons (isiK mi (gz "BadStay" (by decide +kernel))) (pa_cons (isiK mi (gz "BadForm" (by decide +kernel))) pa_nil))))))
      (pss_cons (ps_set (i := 1) scK.nd rfl (Or.inl rfl) (pe_op op_cat (pv 1) (pe_lst (pa_cons (isiK mi (gz "BadShape" (by decide +kernel))) (pa_cons (isiK mi (gz "BadBook" (by decide +kernel))) (pa_cons (isiK mi (gz "BadNumber" (by decide +kernel))) pa_nil))))))
      (pss_cons (ps_set (i := 1) scK.nd rfl (Or.inl rfl) (pe_op op_cat (pv 1) (pe_lst (pa_cons (isiK mi (gz "BadBrackets" (by decide +kernel))) (pa_cons (isiK mi (gz "BadRoom" (by decide +kernel))) (pa_cons (isiK mi (gz "BadTable" (by decide +kernel))) pa_nil))))))
      (pss_cons (ps_set (i := 1) scK.nd rfl (Or.inl rfl) (pe_op op_cat (pv 1) (pe_lst (pa_cons (isiK mi (gz "BadDoing" (by decide +kernel))) (pa_cons (isiK mi (gz "BadText" (by decide +kernel))) (pa_cons (isiK mi (gz "NoWatch" (by decide +kernel))) pa_nil))))))
      (pss_cons (ps_set (i := 1) scK.nd rfl (Or.inl rfl) (pe_op op_cat (pv 1) (pe_lst (pa_cons (isiK mi (gz "NoMark" (by decide +kernel))) (pa_cons (isiK mi (gz "TooMany" (by decide +kernel))) (pa_cons (isiK mi (gz "BadLeads" (by decide +kernel))) pa_nil))))))
      (pss_cons (ps_set (i := 1) scK.nd rfl (Or.inl rfl) (pe_op op_cat (pv 1) (pe_lst (pa_cons (isiK mi (gz "BadInner" (by decide +kernel))) (pa_cons (isiK mi (gz "BadCrossed" (by decide +kernel))) pa_nil)))))
      (pss_one (ps_ret (pv 1)))))))))))))))))), ?_⟩
    refine ⟨Nat.zero_le _, fun p np => ?_⟩
    exact rd_kinds P hx (D := { nx := fun _ H' => Q .non H', rt := Q }) k groupsK [] p _ (by decide +kernel) (by decide +kernel) e (same_upd np) np upd_same
end
end K0

/-! # K0c -/
namespace K0
open PySem L2 Dr Hk
abbrev sPlain : Stmt := topS 52
/-- errors of these classes stand at these values -/
inductive Errs (K : PySem.W.Frag) (H : Hp) : List Str → List V → Prop
  | nil : Errs K H [] []
  | cons {a : Addr} {x : Str} {xs : List Str} {vs : List V} : ErrAt H a (cA K x) → Errs K H xs vs → Errs K H (x :: xs) (.ref a :: vs)
theorem Errs.same {K : PySem.W.Frag} {H H' : Hp} {xs : List Str} {vs : List V} (e : Errs K H xs vs) (s : Same H H') : Errs K H' xs vs := by
  induction e with
  | nil => exact .nil
  | cons r _ ih => exact .cons (r.same s) ih
theorem Errs.app {K : PySem.W.Frag} {H : Hp} {xs ys : List Str} {vs us : List V} (e : Errs K H xs vs) (t : Errs K H ys us) : Errs K H (xs ++ ys) (vs ++ us) := by
  induction e with
  | nil => exact t
  | cons r _ ih => exact .cons r ih
theorem Errs.len {K : PySem.W.Frag} {H : Hp} {xs : List Str} {vs : List V} (e : Errs K H xs vs) : xs.length = vs.length := by
  induction e with
  | nil => rfl
  | cons r _ ih => exact congrArg (· + 1) ih
/-! ### the reading -/
def tEx (C : Addr) : TE := fun σ H Q => tVar 0 σ H fun _ H1 => ∀ a, H1 a = none → Q (.ref a) (upd H1 a (ExO (.ref C) a))
def tMk (K : PySem.W.Frag) : List Str → TA
  | [] => tNil
  | z :: r => tCons (tEx (cA K z)) (tMk K r)
def tPlain (K : PySem.W.Frag) : List (List Str) → TS
  | [] => tRet (tVar 1)
  | g :: r => tSeq (tAsg (tOp rCat (tVar 1) (tLst (tMk K g))) (gName 1)) (tPlain K r)
section
variable {K : PySem.W.Frag} {x : V}
theorem rd_mk : ∀ (ms : List Str) {σ : St} {H : Hp} {Q : List V → Hp → Prop}, σ[0]? = some (some x) → (∀ vs H', Same H H' → Errs K H' ms vs → Q vs H') → tMk K ms σ H Q
  | [], σ, H, Q, _, q => q [] H (Same.refl H) .nil
  | z :: r, σ, H, Q, h0, q => ⟨x, h0, fun a na => rd_mk r h0 fun vs H' s e => q _ H' ((same_upd na).trans s) (.cons (ErrAt.same (.inl upd_same) s) e)⟩
theorem rd_plain {D : Ends} {H : Hp} (k : ∀ (p : Addr) (H' : Hp) (us : List V), Errs K H' plainN us → Same H H' → H p = none → H' p = some (.lst us) → D.rt (.ref p) H') :
    ∀ (gs : List (List Str)) (ns : List Str) (us : List V) (p : Addr) (H0 : Hp), ns ++ gs.flatten = plainN → Errs K H0 ns us → Same H H0 → H p = none → H0 p = some (.lst us) → tPlain K gs D [some x, some (.ref p)] H0
  | [], ns, us, p, H0, hn, e, s, hp, h => by
    rw [List.flatten_nil, List.append_nil] at hn
    exact ⟨_, rfl, k p H0 us (by rw [← hn]; exact e) s hp h⟩
  | g :: gs, ns, us, p, H0, hn, e, s, hp, h => by
    have lo : plainN.length = 29 := by decide +kernel
    have l2 : (ns ++ (g ++ gs.flatten)).length = 29 := by rw [← lo, ← hn, List.flatten_cons]
    rw [List.length_append, List.length_append] at l2
    refine ⟨_, rfl, rd_mk g (x := x) rfl fun vs H1 s1 e1 => ?_⟩
    have v1 := e1.len
    have v0 := e.len
    refine ⟨flat_len _ (by omega), fun l nl => ?_⟩
    have lz : us.length + vs.length ≤ sizeLine := Nat.le_trans (m := 1000) (by omega) (by decide)
    refine ⟨p, l, _, _, rfl, rfl, same_upd nl _ _ (s1 _ _ h), upd_same, lz, fun q nq => ?_⟩
    have t1 : Same H1 (upd (upd H1 l (.lst vs)) q (.lst (us ++ vs))) := (same_upd nl).trans (same_upd nq)
    have t0 := s1.trans t1
    exact rd_plain k gs (ns ++ g) (us ++ vs) q _ (by rw [← hn, List.flatten_cons, List.append_assoc]) ((e.same t0).app (e1.same t1)) (s.trans t0) (((s.trans s1).trans (same_upd nl)).free nq) upd_same
end
def groupsP : List (List Str) := [["BadPrime", "BadRow", "BadSquare", "BadMap"], ["BadBasis", "BadGroup", "BadCrossing"], ["BadTwist", "BadStart", "BadDeed", "BadName"], ["BadLive", "NothingLeft", "BadSelfsplit"], ["BadStrands", "BadBraid", "BadOrders"], ["BadWeigher", "NoTwist", "BadCut", "NotSimple"], ["BadThing", "BadPair", "BadLetters", "BadWay"], ["BadGrades", "BadPairRoom", "BadStay", "BadForm"]]
section
variable {P' : Program} {w : World} {K : PySem.W.Frag} {mg : Str → Option Value} {base : Heap}
def spPlain (K : PySem.W.Frag) : Sp := fun vs H Q _ => ∃ (x : V), vs = [x] ∧ ∀ (p : Addr) (H' : Hp) (us : List V), Errs K H' plainN us → Same H H' → H p = none → H' p = some (.lst us) → Q (.ref p) H'
theorem scE : FnScope ["words_here", "found"] ["words_here"] (defScope sPlain) := ⟨rfl, rfl, rfl, by decide +kernel, rfl, by decide +kernel, by decide +kernel⟩
theorem ok_plain {f : Addr} {fd : FuncData} (F : Fun K "_law_plain_errors" "_law_plain_errors" sPlain f fd) (P : Parts K) (gz : ∀ z, z ∈ allN → mg z = some (.ref (cA K z))) : FnOk P' w K mg base CX0 1 f fd ["words_here"] (spPlain K) := by
  refine F.ok scE (fun vs H Q E h => ?_) (fun cdv A outer s H vs Q E hr h => ?_)
  · obtain ⟨x, rfl, _⟩ := h
    rfl
  · obtain ⟨x, rfl, k⟩ := h
    refine ⟨tSeq (tAsg (tLst tNil) (gName 1)) (tPlain K groupsP), pss_cons (ps_set (i := 1) scE.nd rfl (Or.inl rfl) (pe_lst pa_nil))
      (pss_cons (ps_set (i := 1) scE.nd rfl (Or.inl rfl) (pe_op op_cat (pv 1) (pe_lst (pa_cons (pe_exc1 PySem.F.excBase_ValueError (P.exc "BadPrime" (by decide +kernel)) (gz "BadPrime" (by decide +kernel)) (P.at (x := "BadPrime") (by decide +kernel)).kp rfl (pv 0)) (pa_cons (pe_exc1 PySem.F.excBase_ValueError (P.exc "BadRow" (by decide +kernel)) (gz "BadRow" (by decide +kernel)) (P.at (x := "BadRow") (by decide +kernel)).kp rfl (pv 0)) (pa_cons (pe_exc1 PySem.F.excBase_ValueError (P.exc "BadSquare" (by decide +kernel)) (gz "BadSquare" (by decide +kernel)) (P.at (x := "BadSquare") (by decide +kernel)).kp rfl (pv 0)) (pa_cons (pe_exc1 PySem.F.excBase_ValueError (P.exc "BadMap" (by decide +kernel)) (gz "BadMap" (by decide +kernel)) (P.at (x := "BadMap") (by decide +kernel)).kp rfl (pv 0)) pa_nil)))))))
      (pss_cons (ps_set (i := 1) scE.nd rfl (Or.inl rfl) (pe_op op_cat (pv 1) (pe_lst (pa_cons (pe_exc1 PySem.F.excBase_ValueError (P.exc "BadBasis" (by decide +kernel)) (gz "BadBasis" (by decide +kernel)) (P.at (x := "BadBasis") (by decide +kernel)).kp rfl (pv 0)) (pa_cons (pe_exc1 PySem.F.excBase_ValueError (P.exc "BadGroup" (by decide +kernel)) (gz "BadGroup" (by decide +kernel)) (P.at (x := "BadGroup") (by decide +kernel)).kp rfl (pv 0)) (pa_cons (pe_exc1 PySem.F.excBase_ValueError (P.exc "BadCrossing" (by decide +kernel)) (gz "BadCrossing" (by decide +kernel)) (P.at (x := "BadCrossing") (by decide +kernel)).kp rfl (pv 0)) pa_nil))))))
      (pss_cons (ps_set (i := 1) scE.nd rfl (Or.inl rfl) (pe_op op_cat (pv 1) (pe_lst (pa_cons (pe_exc1 PySem.F.excBase_ValueError (P.exc "BadTwist" (by decide +kernel)) (gz "BadTwist" (by decide +kernel)) (P.at (x := "BadTwist") (by decide +kernel)).kp rfl (pv 0)) (pa_cons (pe_exc1 PySem.F.excBase_ValueError (P.exc "BadStart" (by decide +kernel)) (gz "BadStart" (by decide +kernel)) (P.at (x := "BadStart") (by decide +kernel)).kp rfl (pv 0)) (pa_cons (pe_exc1 PySem.F.excBase_ValueError (P.exc "BadDeed" (by decide +kernel)) (gz "BadDeed" (by decide +kernel)) (P.at (x := "BadDeed") (by decide +kernel)).kp rfl (pv 0)) (pa_cons (pe_exc1 PySem.F.excBase_ValueError (P.exc "BadName" (by decide +kernel)) (gz "BadName" (by decide +kernel)) (P.at (x := "BadName") (by decide +kernel)).kp rfl (pv 0)) pa_nil)))))))
      (pss_cons (ps_set (i := 1) scE.nd rfl (Or.inl rfl) (pe_op op_cat (pv 1) (pe_lst (pa_cons (pe_exc1 PySem.F.excBase_ValueError (P.exc "BadLive" (by decide +kernel)) (gz "BadLive" (by decide +kernel)) (P.at (x := "BadLive") (by decide +kernel)).kp rfl (pv 0)) (pa_cons (pe_exc1 PySem.F.excBase_ValueError (P.exc "NothingLeft" (by decide +kernel)) (gz "NothingLeft" (by decide +kernel)) (P.at (x := "NothingLeft") (by decide +kernel)).kp rfl (pv 0)) (pa_cons (pe_exc1 PySem.F.excBase_ValueError (P.exc "BadSelfsplit" (by decide +kernel)) (gz "BadSelfsplit" (by decide +kernel)) (P.at (x := "BadSelfsplit") (by decide +kernel)).kp rfl (pv 0)) pa_nil))))))
      (pss_cons (ps_set (i := 1) scE.nd rfl (Or.inl rfl) (pe_op op_cat (pv 1) (pe_lst (pa_cons (pe_exc1 PySem.F.excBase_ValueError (P.exc "BadStrands" (by decide +kernel)) (gz "BadStrands" (by decide +kernel)) (P.at (x := "BadStrands") (by decide +kernel)).kp rfl (pv 0)) (pa_cons (pe_exc1 PySem.F.excBase_ValueError (P.exc "BadBraid" (by decide +kernel)) (gz "BadBraid" (by decide +kernel)) (P.at (x := "BadBraid") (by decide +kernel)).kp rfl (pv 0)) (pa_cons (pe_exc1 PySem.F.excBase_ValueError (P.exc "BadOrders" (by decide +kernel)) (gz "BadOrders" (by decide +kernel)) (P.at (x := "BadOrders") (by decide +kernel)).kp rfl (pv 0)) pa_nil))))))
      (pss_cons (ps_set (i := 1) scE.nd rfl (Or.inl rfl) (pe_op op_cat (pv 1) (pe_lst (pa_cons (pe_exc1 PySem.F.excBase_ValueError (P.exc "BadWeigher" (by decide +kernel)) (gz "BadWeigher" (by decide +kernel)) (P.at (x := "BadWeigher") (by decide +kernel)).kp rfl (pv 0)) (pa_cons (pe_exc1 PySem.F.excBase_ValueError (P.exc "NoTwist" (by decide +kernel)) (gz "NoTwist" (by decide +kernel)) (P.at (x := "NoTwist") (by decide +kernel)).kp rfl (pv 0)) (pa_cons (pe_exc1 PySem.F.excBase_ValueError (P.exc "BadCut" (by decide +kernel)) (gz "BadCut" (by decide +kernel)) (P.at (x := "BadCut") (by decide +kernel)).kp rfl (pv 0)) (pa_cons (pe_exc1 PySem.F.excBase_ValueError (P.exc "NotSimple" (by decide +kernel)) (gz "NotSimple" (by decide +kernel)) (P.at (x := "NotSimple") (by decide +kernel)).kp rfl (pv 0)) pa_nil)))))))
      (pss_cons (ps_set (i := 1) scE.nd rfl (Or.inl rfl) (pe_op op_cat (pv 1) (pe_lst (pa_cons (pe_exc1 PySem.F.excBase_ValueError (P.exc "BadThing" (by decide +kernel)) (gz "BadThing" (by decide +kernel)) (P.at (x := "BadThing") (by decide +kernel)).kp rfl (pv 0)) (pa_cons (pe_exc1 PySem.F.excBase_ValueError (P.exc "BadPair" (by decide +kernel)) (gz "BadPair" (by decide +kernel)) (P.at (x := "BadPair") (by decide +kernel)).kp rfl (pv 0)) (pa_cons (pe_exc1 PySem.F.excBase_ValueError (P.exc "BadLetters" (by decide +kernel)) (gz "BadLetters" (by decide +kernel)) (P.at (x := "BadLetters") (by decide +kernel)).kp rfl (pv 0)) (pa_cons (pe_exc1 PySem.F.excBase_ValueError (P.exc "BadWay" (by decide +kernel)) (gz "BadWay" (by decide +kernel)) (P.at (x := "BadWay") (by decide +kernel)).kp rfl (pv 0)) pa_nil)))))))
      (pss_cons (ps_set (i := 1) scE.nd rfl (Or.inl rfl) (pe_op op_cat (pv 1) (pe_lst (pa_cons (pe_exc1 PySem.F.excBase_ValueError (P.exc "BadGrades" (by decide +kernel)) (gz "BadGrades" (by decide +kernel)) (P.at (x := "BadGrades") (by decide +kernel)).kp rfl (pv 0)) (pa_cons (pe_exc1 PySem.F.excBase_ValueError (P.exc "BadPairRoom" (by decide +kernel)) (gz "BadPairRoom" (by decide +kernel)) (P.at (x := "BadPairRoom") (by decide +kernel)).kp rfl (pv 0)) (pa_cons (pe_exc1 PySem.F.excBase_ValueError (P.exc "BadStay" (by decide +kernel)) (gz "BadStay" (by decide +kernel)) (P.at (x := "BadStay") (by decide +kernel)).kp rfl (pv 0)) (pa_cons (pe_exc1 PySem.F.excBase_ValueError (P.exc "BadForm" (by decide +kernel)) (gz "BadForm" (by decide +kernel)) (P.at (x := "BadForm") (by decide +kernel)).kp rfl (pv 0)) pa_nil)))))))
      (pss_one (ps_ret (pv 1))))))))))), ?_⟩
    refine ⟨Nat.zero_le _, fun p np => ?_⟩
    exact rd_plain (x := x) (D := { nx := fun _ H' => Q .non H', rt := Q }) k groupsP [] [] p _ (by decide +kernel) .nil (same_upd np) np upd_same
end
end K0

/-! # K0d -/
namespace K0
open PySem L2 Dr Hk
abbrev sOwn : Stmt := topS 53
theorem ext_lst {φ : Heap → Prop} {xs : List V} : HO.ext φ ≠ .lst xs := fun z => by cases z
theorem errBut {H H' : Hp} {a C p : Addr} {xs : List V} (e : ErrAt H a C) (hp : H p = some (.lst xs)) (s : ∀ b o, H b = some o → b ≠ p → H' b = some o) : ErrAt H' a C := by
  rcases e with e | ⟨d, fs, e1, e2⟩
  · exact .inl (s _ _ e (ne_of e hp ext_lst))
  · exact .inr ⟨d, fs, s _ _ e1 (ne_of e1 hp ext_lst), s _ _ e2 (ne_of e2 hp ext_lst)⟩
/-- triples of such errors and what they are made of -/
inductive Tups (K : PySem.W.Frag) (H : Hp) (v : V) : List Str → List V → Prop
  | nil : Tups K H v [] []
  | cons {t a : Addr} {x : Str} {xs : List Str} {us : List V} : H t = some (.tup [.ref a, v, v]) → ErrAt H a (cA K x) → Tups K H v xs us → Tups K H v (x :: xs) (.ref t :: us)
theorem Tups.but {K : PySem.W.Frag} {H H' : Hp} {v : V} {p : Addr} {ls : List V} {xs : List Str} {us : List V} (e : Tups K H v xs us) (hp : H p = some (.lst ls)) (s : ∀ b o, H b = some o → b ≠ p → H' b = some o) : Tups K H' v xs us := by
  induction e with
  | nil => exact .nil
  | cons ht ha _ ih => exact .cons (s _ _ ht (ne_of ht hp (by intro z; cases z))) (errBut ha hp s) ih
theorem Tups.same {K : PySem.W.Frag} {H H' : Hp} {v : V} {xs : List Str} {us : List V} (e : Tups K H v xs us) (s : Same H H') : Tups K H' v xs us := by
  induction e with
  | nil => exact .nil
  | cons ht ha _ ih => exact .cons (s _ _ ht) (ha.same s) ih
theorem Tups.app {K : PySem.W.Frag} {H : Hp} {v : V} {xs ys : List Str} {us ws : List V} (e : Tups K H v xs us) (t : Tups K H v ys ws) : Tups K H v (xs ++ ys) (us ++ ws) := by
  induction e with
  | nil => exact t
  | cons ht ha _ ih => exact .cons ht ha ih
theorem Tups.len {K : PySem.W.Frag} {H : Hp} {v : V} {xs : List Str} {us : List V} (e : Tups K H v xs us) : xs.length = us.length := by
  induction e with
  | nil => rfl
  | cons _ _ _ ih => exact congrArg (· + 1) ih
/-! ### the reading -/
def tTri (K : PySem.W.Frag) (q : Str × Str) : TE := tTup (tCons (tErr q.2 (cA K q.1) (tVar 0)) (tCons (tErF K q.2 (tErr q.2 (cA K q.1) (tVar 0))) (tCons (tErF K q.2 (tErr q.2 (cA K q.1) (tVar 0))) tNil)))
def tOwn (K : PySem.W.Frag) : List (Str × Str) → TS
  | [] => tRet (tVar 1)
  | q :: r => tSeq (tDrop (tBM K "list" rAppend (tVar 1) (tCons (tTri K q) tNil))) (tOwn K r)
section
variable {K : PySem.W.Frag} {v : V}
theorem err_step {H : Hp} {a d : Addr} {y : Str} {C : Addr} {v : V} (na : H a = none) (nd : H d = none) (nda : d ≠ a) : Same H (upd (upd H d (exd d [(y, v)])) a (exo a C (some d))) ∧ (upd (upd H d (exd d [(y, v)])) a (exo a C (some d))) a = some (exo a C (some d)) ∧ (upd (upd H d (exd d [(y, v)])) a (exo a C (some d))) d = some (exd d [(y, v)]) :=
  ⟨fun b o e => by rw [upd_ne (ne_of_none e na), upd_ne (ne_of_none e nd)]; exact e, upd_same, by rw [upd_ne nda, upd_same]⟩
theorem rd_tri {q : Str × Str} (Z : ExcC K (cA K q.1)) (no : PySem.W.findIn K (.ref (cA K q.1)) q.2 = some none) {σ : St} {H : Hp} {Q : V → Hp → Prop} (h0 : σ[0]? = some (some v))
    (k : ∀ (t a : Addr) (H' : Hp), Same H H' → H t = none → H' t = some (.tup [.ref a, v, v]) → ErrAt H' a (cA K q.1) → Q (.ref t) H') : tTri K q σ H Q := by
  refine ⟨v, h0, fun a1 d1 na1 nd1 nn1 => ?_⟩
  obtain ⟨s1, i1, j1⟩ := err_step (y := q.2) (C := cA K q.1) (v := v) na1 nd1 nn1
  generalize upd (upd H d1 (exd d1 [(q.2, v)])) a1 (exo a1 (cA K q.1) (some d1)) = H1 at s1 i1 j1 ⊢
  refine ⟨v, h0, fun a2 d2 na2 nd2 nn2 => ?_⟩
  obtain ⟨s2, i2, j2⟩ := err_step (y := q.2) (C := cA K q.1) (v := v) na2 nd2 nn2
  generalize upd (upd H1 d2 (exd d2 [(q.2, v)])) a2 (exo a2 (cA K q.1) (some d2)) = H2 at s2 i2 j2 ⊢
  refine ⟨a2, _, d2, v, rfl, i2, j2, Z, no, v, h0, fun a3 d3 na3 nd3 nn3 => ?_⟩
  obtain ⟨s3, i3, j3⟩ := err_step (y := q.2) (C := cA K q.1) (v := v) na3 nd3 nn3
  generalize upd (upd H2 d3 (exd d3 [(q.2, v)])) a3 (exo a3 (cA K q.1) (some d3)) = H3 at s3 i3 j3 ⊢
  refine ⟨a3, _, d3, v, rfl, i3, j3, Z, no, (by show 3 ≤ sizeLine; decide), fun t nt => ?_⟩
  have s := (s1.trans (s2.trans s3)).trans (same_upd (o := .tup [.ref a1, v, v]) nt)
  have r1 : ErrAt H1 a1 (cA K q.1) := .inr ⟨d1, _, i1, j1⟩
  exact k t a1 _ s ((s1.trans (s2.trans s3)).free nt) upd_same (r1.same ((s2.trans s3).trans (same_upd nt)))
theorem rd_own {D : Ends} {H : Hp} (k : ∀ (p : Addr) (H' : Hp) (us : List V), Tups K H' v (ownN.map (·.1)) us → Same H H' → H p = none → H' p = some (.lst us) → D.rt (.ref p) H') :
    ∀ (qs ns : List (Str × Str)) (us : List V) (p : Addr) (H0 : Hp), (∀ q ∈ qs, ExcC K (cA K q.1) ∧ PySem.W.findIn K (.ref (cA K q.1)) q.2 = some none) → ns ++ qs = ownN → Tups K H0 v (ns.map (·.1)) us → Same H H0 → H p = none → H0 p = some (.lst us) → tOwn K qs D [some v, some (.ref p)] H0
  | [], ns, us, p, H0, _, hn, e, s, hp, h => by
    rw [List.append_nil] at hn
    exact ⟨_, rfl, k p H0 us (by rw [← hn]; exact e) s hp h⟩
  | q :: qs, ns, us, p, H0, hq, hn, e, s, hp, h => by
    have lo : ownN.length = 14 := by decide +kernel
    have l2 : (ns ++ q :: qs).length = 14 := by rw [← lo, ← hn]
    rw [List.length_append, List.length_cons] at l2
    obtain ⟨Z, no⟩ := hq q (List.mem_cons_self ..)
    refine ⟨_, rfl, .inl ⟨rfl, _, SqL.of h⟩, rd_tri Z no (v := v) rfl fun t a H1 s1 nt ht ea => ?_⟩
    have lu := e.len
    rw [List.length_map] at lu
    refine ⟨p, us, _, rfl, rfl, s1 _ _ h, Nat.lt_of_le_of_lt (m := 1000) (by omega) (by decide), ?_⟩
    have bt : ∀ b o, H1 b = some o → b ≠ p → (upd H1 p (.lst (us ++ [.ref t]))) b = some o := fun b o z n => by rw [upd_ne n]; exact z
    have s2 : Same H (upd H1 p (.lst (us ++ [.ref t]))) := fun b o z => bt b o (s1 _ _ (s _ _ z)) (ne_of_none z hp)
    have e2 : Tups K (upd H1 p (.lst (us ++ [.ref t]))) v ((ns ++ [q]).map (·.1)) (us ++ [.ref t]) := by
      rw [List.map_append]
      exact ((e.same s1).but (s1 _ _ h) bt).app (.cons (bt _ _ ht (ne_of ht (s1 _ _ h) (by intro z; cases z))) (errBut ea (s1 _ _ h) bt) .nil)
    exact rd_own k qs (ns ++ [q]) _ p _ (fun q' h' => hq q' (List.mem_cons_of_mem _ h')) (by rw [← hn, List.append_assoc]; rfl) e2 s2 hp upd_same
end
end K0

/-! # K0e -/
namespace K0
open PySem L2 Dr Hk
theorem own_all {K : PySem.W.Frag} (c : Says K) : ∀ q ∈ ownN, ExcC K (cA K q.1) ∧ PySem.W.findIn K (.ref (cA K q.1)) q.2 = some none := by
  have P := c.parts
  intro q hq
  simp only [ownN, List.mem_cons, List.not_mem_nil, or_false] at hq
  rcases hq with rfl | rfl | rfl | rfl | rfl | rfl | rfl | rfl | rfl | rfl | rfl | rfl | rfl | rfl
  · exact ⟨excC P.alls (P.at (x := "BadShape") (by decide +kernel)), (own_BadShape c).no⟩
  · exact ⟨excC P.alls (P.at (x := "BadBook") (by decide +kernel)), (own_BadBook c).no⟩
  · exact ⟨excC P.alls (P.at (x := "BadNumber") (by decide +kernel)), (own_BadNumber c).no⟩
  · exact ⟨excC P.alls (P.at (x := "BadBrackets") (by decide +kernel)), (own_BadBrackets c).no⟩
  · exact ⟨excC P.alls (P.at (x := "BadRoom") (by decide +kernel)), (own_BadRoom c).no⟩
  · exact ⟨excC P.alls (P.at (x := "BadTable") (by decide +kernel)), (own_BadTable c).no⟩
  · exact ⟨excC P.alls (P.at (x := "BadDoing") (by decide +kernel)), (own_BadDoing c).no⟩
  · exact ⟨excC P.alls (P.at (x := "BadText") (by decide +kernel)), (own_BadText c).no⟩
  · exact ⟨excC P.alls (P.at (x := "NoWatch") (by decide +kernel)), (own_NoWatch c).no⟩
  · exact ⟨excC P.alls (P.at (x := "NoMark") (by decide +kernel)), (own_NoMark c).no⟩
  · exact ⟨excC P.alls (P.at (x := "TooMany") (by decide +kernel)), (own_TooMany c).no⟩
  · exact ⟨excC P.alls (P.at (x := "BadLeads") (by decide +kernel)), (own_BadLeads c).no⟩
  · exact ⟨excC P.alls (P.at (x := "BadInner") (by decide +kernel)), (own_BadInner c).no⟩
  · exact ⟨excC P.alls (P.at (x := "BadCrossed") (by decide +kernel)), (own_BadCrossed c).no⟩
section
variable {P' : Program} {w : World} {K : PySem.W.Frag} {mg : Str → Option Value} {base : Heap}
def spOwn (K : PySem.W.Frag) : Sp := fun vs H Q _ => ∃ (v : V), vs = [v] ∧ ∀ (p : Addr) (H' : Hp) (us : List V), Tups K H' v (ownN.map (·.1)) us → Same H H' → H p = none → H' p = some (.lst us) → Q (.ref p) H'
theorem scO : FnScope ["each", "found"] ["each"] (defScope sOwn) := ⟨rfl, rfl, rfl, by decide +kernel, rfl, by decide +kernel, by decide +kernel⟩
theorem ok_own {f : Addr} {fd : FuncData} (F : Fun K "_law_errors_of" "_law_errors_of" sOwn f fd) (c : Says K) (gz : ∀ z, z ∈ allN → mg z = some (.ref (cA K z)))
    (hfile : ((P'.main.file : Str) == ("/claim/cut.py" : Str)) = true) (htop : (P'.main.scope.names.lookup ("super" : Str)).isSome = false) (hsup : mg "super" = none) : FnOk P' w K mg base CX0 1 f fd ["each"] (spOwn K) := by
  have P := c.parts
  refine F.ok scO (fun vs H Q E h => ?_) (fun cdv A outer s H vs Q E hr h => ?_)
  · obtain ⟨v, rfl, _⟩ := h
    rfl
  · obtain ⟨v, rfl, k⟩ := h
    have T : TopE (cxOf CX0 P' w K mg base ["each", "found"] "_law_errors_of" (defScope sOwn) f cdv A outer s H E).nox "/claim/cut.py" := ⟨hfile, htop, hsup⟩
    refine ⟨tSeq (tAsg (tLst tNil) (gName 1)) (tOwn K ownN), pss_cons (ps_set (i := 1) scO.nd rfl (Or.inl rfl) (pe_lst pa_nil))
      (pss_cons (ps_expr (pe_bm PySem.F.plainAttrs_list PySem.F.slot_list_append PySem.F.type_list_append mt_append (pv 1) (pa_cons (pe_tup (pa_cons (pe_err1 (own_BadShape c) T hr rfl (gz "BadShape" (by decide +kernel)) (pv 0)) (pa_cons (pe_errF (pe_err1 (own_BadShape c) T hr rfl (gz "BadShape" (by decide +kernel)) (pv 0))) (pa_cons (pe_errF (pe_errK (y := "part") (own_BadShape c) T hr rfl (gz "BadShape" (by decide +kernel)) (pv 0))) pa_nil)))) pa_nil)))
      (pss_cons (ps_expr (pe_bm PySem.F.plainAttrs_list PySem.F.slot_list_append PySem.F.type_list_append mt_append (pv 1) (pa_cons (pe_tup (pa_cons (pe_err1 (own_BadBook c) T hr rfl (gz "BadBook" (by decide +kernel)) (pv 0)) (pa_cons (pe_errF (pe_err1 (own_BadBook c) T hr rfl (gz "BadBook" (by decide +kernel)) (pv 0))) (pa_cons (pe_errF (pe_errK (y := "part") (own_BadBook c) T hr rfl (gz "BadBook" (by decide +kernel)) (pv 0))) pa_nil)))) pa_nil)))
      (pss_cons (ps_expr (pe_bm PySem.F.plainAttrs_list PySem.F.slot_list_append PySem.F.type_list_append mt_append (pv 1) (pa_cons (pe_tup (pa_cons (pe_err1 (own_BadNumber c) T hr rfl (gz "BadNumber" (by decide +kernel)) (pv 0)) (pa_cons (pe_errF (pe_err1 (own_BadNumber c) T hr rfl (gz "BadNumber" (by decide +kernel)) (pv 0))) (pa_cons (pe_errF (pe_errK (y := "part") (own_BadNumber c) T hr rfl (gz "BadNumber" (by decide +kernel)) (pv 0))) pa_nil)))) pa_nil)))
      (pss_cons (ps_expr (pe_bm PySem.F.plainAttrs_list PySem.F.slot_list_append PySem.F.type_list_append mt_append (pv 1) (pa_cons (pe_tup (pa_cons (pe_err1 (own_BadBrackets c) T hr rfl (gz "BadBrackets" (by decide +kernel)) (pv 0)) (pa_cons (pe_errF (pe_err1 (own_BadBrackets c) T hr rfl (gz "BadBrackets" (by decide +kernel)) (pv 0))) (pa_cons (pe_errF (pe_errK (y := "part") (own_BadBrackets c) T hr rfl (gz "BadBrackets" (by decide +kernel)) (pv 0))) pa_nil)))) pa_nil)))
      (pss_cons (ps_expr (pe_bm PySem.F.plainAttrs_list PySem.F.slot_list_append PySem.F.type_list_append mt_append (pv 1) (pa_cons (pe_tup (pa_cons (pe_err1 (own_BadRoom c) T hr rfl (gz "BadRoom" (by decide +kernel)) (pv 0)) (pa_cons (pe_errF (pe_err1 (own_BadRoom c) T hr rfl (gz "BadRoom" (by decide +kernel)) (pv 0))) (pa_cons (pe_errF (pe_errK (y := "part") (own_BadRoom c) T hr rfl (gz "BadRoom" (by decide +kernel)) (pv 0))) pa_nil)))) pa_nil)))
      (pss_cons (ps_expr (pe_bm PySem.F.plainAttrs_list PySem.F.slot_list_append PySem.F.type_list_append mt_append (pv 1) (pa_cons (pe_tup (pa_cons (pe_err1 (own_BadTable c) T hr rfl (gz "BadTable" (by decide +kernel)) (pv 0)) (pa_cons (pe_errF (pe_err1 (own_BadTable c) T hr rfl (gz "BadTable" (by decide +kernel)) (pv 0))) (pa_cons (pe_errF (pe_errK (y := "part") (own_BadTable c) T hr rfl (gz "BadTable" (by decide +kernel)) (pv 0))) pa_nil)))) pa_nil)))
      (pss_cons (ps_expr (pe_bm PySem.F.plainAttrs_list PySem.F.slot_list_append PySem.F.type_list_append mt_append (pv 1) (pa_cons (pe_tup (pa_cons (pe_err1 (own_BadDoing c) T hr rfl (gz "BadDoing" (by decide +kernel)) (pv 0)) (pa_cons (pe_errF (pe_err1 (own_BadDoing c) T hr rfl (gz "BadDoing" (by decide +kernel)) (pv 0))) (pa_cons (pe_errF (pe_errK (y := "part") (own_BadDoing c) T hr rfl (gz "BadDoing" (by decide +kernel)) (pv 0))) pa_nil)))) pa_nil)))
      (pss_cons (ps_expr (pe_bm PySem.F.plainAttrs_list PySem.F.slot_list_append PySem.F.type_list_append mt_append (pv 1) (pa_cons (pe_tup (pa_cons (pe_err1 (own_BadText c) T hr rfl (gz "BadText" (by decide +kernel)) (pv 0)) (pa_cons (pe_errF (pe_err1 (own_BadText c) T hr rfl (gz "BadText" (by decide +kernel)) (pv 0))) (pa_cons (pe_errF (pe_errK (y := "at") (own_BadText c) T hr rfl (gz "BadText" (by decide +kernel)) (pv 0))) pa_nil)))) pa_nil)))
      (pss_cons (ps_expr (pe_bm PySem.F.plainAttrs_list PySem.F.slot_list_append PySem.F.type_list_append mt_append (pv 1) (pa_cons (pe_tup (pa_cons (pe_err1 (own_NoWatch c) T hr rfl (gz "NoWatch" (by decide +kernel)) (pv 0)) (pa_cons (pe_errF (pe_err1 (own_NoWatch c) T hr rfl (gz "NoWatch" (by decide +kernel)) (pv 0))) (pa_cons (pe_errF (pe_errK (y := "name") (own_NoWatch c) T hr rfl (gz "NoWatch" (by decide +kernel)) (pv 0))) pa_nil)))) pa_nil)))
      (pss_cons (ps_expr (pe_bm PySem.F.plainAttrs_list PySem.F.slot_list_append PySem.F.type_list_append mt_append (pv 1) (pa_cons (pe_tup (pa_cons (pe_err1 (own_NoMark c) T hr rfl (gz "NoMark" (by decide +kernel)) (pv 0)) (pa_cons (pe_errF (pe_err1 (own_NoMark c) T hr rfl (gz "NoMark" (by decide +kernel)) (pv 0))) (pa_cons (pe_errF (pe_errK (y := "name") (own_NoMark c) T hr rfl (gz "NoMark" (by decide +kernel)) (pv 0))) pa_nil)))) pa_nil)))
      (pss_cons (ps_expr (pe_bm PySem.F.plainAttrs_list PySem.F.slot_list_append PySem.F.type_list_append mt_append (pv 1) (pa_cons (pe_tup (pa_cons (pe_err1 (own_TooMany c) T hr rfl (gz "TooMany" (by decide +kernel)) (pv 0)) (pa_cons (pe_errF (pe_err1 (own_TooMany c) T hr rfl (gz "TooMany" (by decide +kernel)) (pv 0))) (pa_cons (pe_errF (pe_errK (y := "most") (own_TooMany c) T hr rfl (gz "TooMany" (by decide +kernel)) (pv 0))) pa_nil)))) pa_nil)))
      (pss_cons (ps_expr (pe_bm PySem.F.plainAttrs_list PySem.F.slot_list_append PySem.F.type_list_append mt_append (pv 1) (pa_cons (pe_tup (pa_cons (pe_err1 (own_BadLeads c) T hr rfl (gz "BadLeads" (by decide +kernel)) (pv 0)) (pa_cons (pe_errF (pe_err1 (own_BadLeads c) T hr rfl (gz "BadLeads" (by decide +kernel)) (pv 0))) (pa_cons (pe_errF (pe_errK (y := "part") (own_BadLeads c) T hr rfl (gz "BadLeads" (by decide +kernel)) (pv 0))) pa_nil)))) pa_nil)))
      (pss_cons (ps_expr (pe_bm PySem.F.plainAttrs_list PySem.F.slot_list_append PySem.F.type_list_append mt_append (pv 1) (pa_cons (pe_tup (pa_cons (pe_err1 (own_BadInner c) T hr rfl (gz "BadInner" (by decide +kernel)) (pv 0)) (pa_cons (pe_errF (pe_err1 (own_BadInner c) T hr rfl (gz "BadInner" (by decide +kernel)) (pv 0))) (pa_cons (pe_errF (pe_errK (y := "part") (own_BadInner c) T hr rfl (gz "BadInner" (by decide +kernel)) (pv 0))) pa_nil)))) pa_nil)))
      (pss_cons (ps_expr (pe_bm PySem.F.plainAttrs_list PySem.F.slot_list_append PySem.F.type_list_append mt_append (pv 1) (pa_cons (pe_tup (pa_cons (pe_err1 (own_BadCrossed c) T hr rfl (gz "BadCrossed" (by decide +kernel)) (pv 0)) (pa_cons (pe_errF (pe_err1 (own_BadCrossed c) T hr rfl (gz "BadCrossed" (by decide +kernel)) (pv 0))) (pa_cons (pe_errF (pe_errK (y := "part") (own_BadCrossed c) T hr rfl (gz "BadCrossed" (by decide +kernel)) (pv 0))) pa_nil)))) pa_nil)))
      (pss_one (ps_ret (pv 1))))))))))))))))), ?_⟩
    refine ⟨Nat.zero_le _, fun p np => ?_⟩
    exact rd_own (v := v) (D := { nx := fun _ H' => Q .non H', rt := Q }) k ownN [] [] p _ (own_all c) rfl .nil (same_upd np) np upd_same
end
end K0

/-! # LawG -/
/-! A law's def entered where no repr is under way (the law's own call), and its end. -/
namespace L2
open PySem PySem.Spec PyProof.Rows
section
variable {P : Program} {w : World} {K : PySem.W.Frag} {mg : Str → Option Value} {base : Heap}
/-- a def, called where no repr is under way -/
def RunG (P : Program) (w : World) (K : PySem.W.Frag) (mg : Str → Option Value) (base : Heap) (k : Nat) (f : Addr) (fd : FuncData) (ps : List Str) (sp : Sp) : Prop :=
  ∀ (A : Around) (outer : List Env) (s : Shared) (H : Hp) (args : Args) (us : List Value) (vs : List V) (Q : VK), A.guards = some [] → Room k A → Env0 P w K mg base A outer s H → BindsTo s fd args (ps.zip us) → Vals vs us → vs.length = ps.length → sp vs H Q E0 →
    codeAny (model P w) A (.call (.ref f) args) (CR CX0 outer P w H s Q E0) s
theorem runG_of {x qual : Str} {st : Stmt} {f : Addr} {fd : FuncData} {N ps : List Str} {k : Nat} {sp : Sp} (F : Fun K x qual st f fd) (S : FnScope N ps (defScope st))
    (hbody : ∀ (cdv : Value) (A : Around) (outer : List Env) (s : Shared) (H : Hp) (vs : List V) (Q : VK), A.guards = some [] → Room k (A.deeper (envOfC qual (defScope st) s.heap.objs.size f cdv)) → sp vs H Q E0 →
      ∃ t, PSs (cxOf CX0 P w K mg base N qual (defScope st) f cdv A outer s H E0).nox (defBody st) t ∧ t { nx := fun _ H' => Q .non H', rt := Q } (start N vs) H) : RunG P w K mg base (k + 1) f fd ps sp := by
  obtain ⟨oc, od, kV, doc, pm, an, cdv, ct, osl, rfl, lk, hcd⟩ := F.ex
  intro A outer s H args us vs Q hg hr e0 hb r hl hsp
  have KX : K.In s.heap := e0.mod.kin.keeps fun b o e => (e0.bs b o e).1
  have lim : s.heap.NoLimit := e0.mod.nolimit.keeps fun b o e => (e0.bs b o e).1
  have hkind : ∀ y ∈ ps.zip us, (defScope st).names.lookup y.1 = some .local ∨ ((defScope st).names.lookup y.1 = some .cell ∧ ((cellsFrom (s.heap.objs.size + 1) (defScope st).names []).lookup y.1).isSome = true) := by
    rintro ⟨n, v⟩ hy
    rcases S.par n (List.of_mem_zip hy).1 with q | q
    · exact .inl q
    · exact .inr ⟨q, PySem.W.cellsFrom_some _ _ _ (.inl q)⟩
  refine codeAny_call_function hr.depth (KX _ _ lk) rfl S.co S.gen rfl (PySem.W.codeRec_of KX hcd) (hb _ _ _ _ (wpAny_newFunctionEnv_cells S.kind hkind fun env he s1 x => ?_))
  subst he
  refine ⟨lim.keeps x.toInCall.keep, codeAny_func ?_⟩
  obtain ⟨t, ht, hq⟩ := hbody cdv A outer s H vs Q hg (hr.deeper _) hsp
  have I : Inv (cxOf CX0 P w K mg base N qual (defScope st) f cdv A outer s H E0) [] (start N vs) H s1 := inv_start S hr.hd e0 hl r x
  refine wpAny_mono (ht.nox.run [] s1 (start N vs) H _ I hq) (fun fl s' hs => ?_) fun e s' hs => hs
  cases fl with
  | ret u =>
    obtain ⟨v, σ', H', J, rv, q⟩ := hs
    exact ⟨v, H', J.os, J.bare, J.base, J.hok, rv, q⟩
  | next =>
    obtain ⟨σ', H', J, q⟩ := hs
    exact ⟨V.non, H', J.os, J.bare, J.base, J.hok, rfl, q⟩
  | brk => exact hs.elim fun _ h => h.elim fun _ h => False.elim h.2
  | cont => exact hs.elim fun _ h => h.elim fun _ h => False.elim h.2
end
end L2

/-! # LawG2 -/
namespace L2
open PySem PySem.Spec PyProof.Rows
section
variable {P : Program} {w : World} {K : PySem.W.Frag} {mg mb : Str → Option Value} {k : Nat} {fa a : Addr} {fd : FuncData} {x : Str} {sp : Sp} {s : Shared} {vs : List Value} {ns : List Int}
/-- from any abstract heap that tracks at most the script -/
theorem law_from {H : Hp} (KX : K.In s.heap) (hns : s.heap.Ns mainGlobals mg) (hb : s.heap.Ns builtinsNs mb) (hbb : ∀ y : Str, y ≠ "__name__" → mb y = bootBuiltins y) (hlim : s.heap.NoLimit) (hg : s.gens = #[])
    (ha : s.heap.get? a = some { cls := .type "list", data := .seq vs.toArray }) (hr : Room k callerA) (F : ∀ base : Heap, K.In base → base.Ns mainGlobals mg → RunG P w K mg base k fa fd [x] sp) (hbind : ∀ (s : Shared) (u : Value), BindsTo s fd ⟨[u], []⟩ [(x, u)])
    (hsp : sp [.ref a] H (fun v _ => v = .bl true) E0) (hO : Only H) (hok : HOk P w H s.heap) (hA : ∀ b, H b ≠ none → b = a) (hK : H a ≠ none → K.lookup a = none) :
    codeAny (model P w) callerA (.call (.ref fa) ⟨[.ref a], []⟩) (fun r s' => r = .ok (.ret (.bool true)) ∧ OldK s.heap s'.heap ∧ s'.os = s.os ∧ AllBare s'.gens) s := by
  have is_a : ∀ {b : Addr} {u : HO}, H b = some u → b = a := fun {b u} q => hA b (by rw [q]; exact fun z => nomatch z)
  have hid : ∀ {b : Addr} {o : Obj}, s.heap.get? b = some o → H b = none → (hidT s.heap H).get? b = some o := fun e n => hidT_get e n
  have off : ∀ {b : Addr} {o : Obj} {es : Array DictEntry} {ep : Nat}, s.heap.get? b = some o → o.data = .dict es ep → H b = none := fun {b o es ep} e d => by
    cases q : H b with
    | none => rfl
    | some u =>
      have e' := is_a q
      subst e'
      rw [ha] at e
      cases e
      cases d
  have ns' : ∀ {b : Addr} {m : Str → Option Value}, s.heap.Ns b m → (hidT s.heap H).Ns b m := fun {b m} ⟨o, es, ep, e, d, r⟩ => ⟨o, es, ep, hid e (off e d), d, r⟩
  have K' : K.In (hidT s.heap H) := fun b o e => hid (KX b o e) (by
    cases q : H b with
    | none => rfl
    | some u =>
      have e' := is_a q
      subst e'
      rw [hK (by rw [q]; exact fun z => nomatch z)] at e
      cases e)
  have M : Mod K mg (hidT s.heap H) := ⟨K', ns' hns, ⟨mb, ns' hb, hbb⟩, let ⟨mc, h1, h2⟩ := hlim; ⟨mc, ns' h1, h2⟩⟩
  have e0 : Env0 P w K mg (hidT s.heap H) callerA [] s H := ⟨rfl, M, fun b o e => of_hidT e, Nat.le_of_eq (hidT_size _ _), trivial, fun b hb => (nomatch (show b ∈ ([] : List Addr) from hb)), hok, .of_eq hg⟩
  refine codeAny_mono (F _ K' (ns' hns) callerA [] s H ⟨[.ref a], []⟩ [.ref a] [.ref a] _ rfl hr e0 (hbind s (.ref a)) (.cons rfl .nil) rfl hsp) fun r s' h => ?_
  cases r with
  | error e => exact False.elim h
  | ok fl =>
    cases fl with
    | next => exact False.elim h
    | brk => exact False.elim h
    | cont => exact False.elim h
    | ret u =>
      obtain ⟨v, H', os, bare, un, hok', rv, q⟩ := h
      obtain rfl : v = .bl true := q
      obtain rfl : u = Value.bool true := rv
      refine ⟨rfl, OldK.of_keep fun b o e => ?_, os, bare⟩
      cases q : H b with
      | none => exact un.keep b o e q (fun z => nomatch (show b ∈ ([] : List Addr) from z)) (by simp)
      | some u =>
        rcases hO b with z | ⟨ob, xs, z⟩
        · rw [q] at z
          cases z
        · have e1 := (hok b _ z).1
          have e2 := (hok' b _ (un.frzs b ob _ z)).1
          rw [e] at e1
          cases e1
          exact e2
theorem law_callG (KX : K.In s.heap) (hns : s.heap.Ns mainGlobals mg) (hb : s.heap.Ns builtinsNs mb) (hbb : ∀ y : Str, y ≠ "__name__" → mb y = bootBuiltins y) (hlim : s.heap.NoLimit) (hg : s.gens = #[])
    (ha : s.heap.get? a = some { cls := .type "list", data := .seq vs.toArray }) (hi : IntsAre vs ns) (hl : ns.length ≤ sizeLine) (hr : Room k callerA) (F : ∀ base : Heap, K.In base → base.Ns mainGlobals mg → RunG P w K mg base k fa fd [x] sp)
    (hbind : ∀ (s : Shared) (u : Value), BindsTo s fd ⟨[u], []⟩ [(x, u)]) (hsp : ∀ H : Hp, Only H → SqL K H a (ns.map V.int) → sp [.ref a] H (fun v _ => v = .bl true) E0) :
    codeAny (model P w) callerA (.call (.ref fa) ⟨[.ref a], []⟩) (fun r s' => r = .ok (.ret (.bool true)) ∧ OldK s.heap s'.heap ∧ s'.os = s.os ∧ AllBare s'.gens) s := by
  have rv := vals_ints hi
  cases hk : K.lookup a with
  | some o =>
    have e := KX a o hk
    rw [ha] at e
    cases e
    have hS : SqL K (fun _ => none) a (ns.map V.int) := .inr ⟨_, vs.toArray, _, hk, rfl, rfl, rfl, by rw [List.size_toArray, hi.length]; exact hl, by simpa using rv⟩
    exact law_from (H := fun _ => none) KX hns hb hbb hlim hg ha hr F hbind (hsp _ (fun _ => .inl rfl) hS) (fun _ => .inl rfl) (fun b u z => nomatch (show (none : Option HO) = some u from z)) (fun b z => absurd rfl z) fun z => absurd rfl z
  | none =>
    let H : Hp := fun b => if b = a then some (.frz { cls := .type "list", data := .seq vs.toArray } (.lst (ns.map V.int))) else none
    have hH : H a = some (.frz { cls := .type "list", data := .seq vs.toArray } (.lst (ns.map V.int))) := if_pos rfl
    have hn : ∀ b, b ≠ a → H b = none := fun b n => if_neg n
    have hO : Only H := fun b => by
      by_cases n : b = a
      · exact .inr ⟨_, _, by rw [n]; exact hH⟩
      · exact .inl (hn b n)
    refine law_from (H := H) KX hns hb hbb hlim hg ha hr F hbind (hsp H hO (.inl (.inr ⟨_, hH⟩))) hO (fun b u z => ?_) (fun b z => ?_) fun _ => hk
    · by_cases n : b = a
      · rw [n, hH] at z
        cases z
        rw [n]
        exact ⟨ha, by rw [List.length_map]; exact hl, vs, _, rv, ha⟩
      · rw [hn b n] at z
        cases z
    · exact Classical.byContradiction fun n => z (hn b n)
end
/-- the end of a law's row, over a head by facts -/
theorem walk_ofG {l : PySem.W.OpenLaw} {n k : Nat} {q : Program} {loose : List Str} {XP : (Str → Option Value) → Heap → Prop} {YP : World → Heap → Prop} {d : DefRec} {x : Str} (hn : l.most = some n) (hn2 : n ≤ sizeLine) (hdf : d.params.defaults = []) (hr : Room k callerA)
    (F : ∀ (w : World) (mg : Str → Option Value) (fa : Addr) (h : Heap), YP w h → h.Ns mainGlobals mg → mg d.name = some (.ref fa) → ∃ (K : PySem.W.Frag) (fd : FuncData) (sp : Sp), K.In h ∧ (∀ (s : Shared) (u : Value), BindsTo s fd ⟨[u], []⟩ [(x, u)]) ∧
      (∀ (H : Hp) (a : Addr) (ns : List Int), ns.length ≤ n → Only H → SqL K H a (ns.map V.int) → sp [.ref a] H (fun v _ => v = .bl true) E0) ∧ ∀ base : Heap, K.In base → base.Ns mainGlobals mg → RunG l.prog w K mg base k fa fd [x] sp) :
    PySem.W.WalkO q loose XP YP l.row.toRowW d [] (fun f vs => PySem.call f vs) := by
  refine Att.attach_call hn hdf fun w s₀ s₁ mg mb fa o pm cd doc a vs ns G Y ho hd hcd hmg hobj hints hlen hg => ?_
  obtain ⟨K, fd, sp, KX, hb, hsp, hF⟩ := F w mg fa _ Y G.T.g hmg
  exact law_callG KX G.T.g G.T.b G.T.builtins G.T.nolimit hg hobj hints (Nat.le_trans hlen hn2) hr hF hb fun H hO hS => hsp H a ns hlen hO hS
end L2

/-! # K0f -/
namespace K0
open PySem L2 Dr Hk
abbrev sLaw : Stmt := topS 54
abbrev NL : List Str := ["script", "draw", "words_here", "each", "threes_here", "errors_here", "spot", "error", "base_here", "item", "k"]
theorem Tups.errs {K : PySem.W.Frag} {H : Hp} {v : V} {xs : List Str} {us : List V} (e : Tups K H v xs us) : ∃ ws, Errs K H xs ws ∧ ∀ (i : Nat) (u : V), us[i]? = some u → ∃ t a, u = .ref t ∧ ws[i]? = some (.ref a) ∧ H t = some (.tup [.ref a, v, v]) := by
  induction e with
  | nil => exact ⟨[], .nil, fun i u h => by simp at h⟩
  | @cons t a x xs us ht ha _ ih =>
    obtain ⟨ws, e, h⟩ := ih
    refine ⟨.ref a :: ws, .cons ha e, fun i u hi => ?_⟩
    cases i with
    | zero =>
      simp at hi
      exact ⟨t, a, hi.symm, rfl, ht⟩
    | succ i => exact h i u (by simpa using hi)
theorem Errs.at {K : PySem.W.Frag} {H : Hp} {xs : List Str} {us : List V} (e : Errs K H xs us) : ∀ (i : Nat) (u : V), us[i]? = some u → ∃ a x, u = .ref a ∧ xs[i]? = some x ∧ ErrAt H a (cA K x) := by
  induction e with
  | nil => exact fun i u h => by simp at h
  | @cons a x xs us ha _ ih =>
    intro i u hi
    cases i with
    | zero =>
      simp at hi
      exact ⟨a, x, hi.symm, rfl, ha⟩
    | succ i => exact ih i u (by simpa using hi)
/-! ### truth values as data -/
theorem dpB {K : PySem.W.Frag} {H : Hp} : ∀ bs : List Bool, DpAll K H (bs.map V.bl) (bs.map PyData.bool)
  | [] => .nil
  | b :: r => .cons (.bl b) (dpB r)
theorem canB : ∀ bs : List Bool, PyData.canLayAll0 (bs.map PyData.bool) = true
  | [] => rfl
  | b :: r => by
    show (PyData.canLay0 (.bool b) && PyData.canLayAll0 (r.map PyData.bool)) = true
    rw [canB r]
    rfl
theorem depthB : ∀ bs : List Bool, PyData.depthAll (bs.map PyData.bool) = 0
  | [] => rfl
  | b :: r => by
    show max (PyData.depth (.bool b)) (PyData.depthAll (r.map PyData.bool)) = 0
    rw [depthB r]
    rfl
theorem shapedB (bs : List Bool) : SeqAt.shaped (.list (bs.map PyData.bool)) = true := by
  show (PyData.canLayAll0 (bs.map PyData.bool) && decide (PyData.depthAll (bs.map PyData.bool) + 1 ≤ 64)) = true
  rw [canB, depthB]
  rfl
def spotB (i : Nat) : List Bool := (List.range 43).map fun (k : Nat) => decide ((0 + (k : Int)) = (i : Int))
theorem kinds_all : (List.range 43).all (fun i => decide ((ord[i]?).map kinds = some ((spotB i).map V.bl))) = true := by decide +kernel
theorem kinds_at {i : Nat} {x : Str} (hi : i < 43) (h : ord[i]? = some x) : kinds x = (spotB i).map V.bl := by
  have z := of_decide_eq_true (List.all_eq_true.mp kinds_all i (List.mem_range.mpr hi))
  rw [h] at z
  exact Option.some.inj z
theorem spot_take {i j : Nat} (hj : j < 43) : ((List.range (j + 1)).map fun (k : Nat) => V.bl (decide ((0 + (k : Int)) = (i : Int)))) = ((List.range j).map fun (k : Nat) => V.bl (decide ((0 + (k : Int)) = (i : Int)))) ++ [V.bl (decide ((0 + (j : Int)) = (i : Int)))] := by
  rw [List.range_succ, List.map_append]
  rfl
theorem spot_all (i : Nat) : ((List.range 43).map fun (k : Nat) => V.bl (decide ((0 + (k : Int)) = (i : Int)))) = (spotB i).map V.bl := by
  unfold spotB
  rw [List.map_map]
  rfl
theorem any_ok : ∀ e ∈ anyD, (PyData.list [e, e]).showable = true ∧ (PyData.list [e, e]).depth ≤ 60 ∧ (PyData.list [e, e]).shown.length ≤ sizeLine := by
  have z : anyD.all (fun e => (PyData.list [e, e]).showable && (decide ((PyData.list [e, e]).depth ≤ 60) && decide ((PyData.list [e, e]).shown.length ≤ 1000))) = true := by decide +kernel
  intro e he
  obtain ⟨z1, z2⟩ := band (List.all_eq_true.mp z e he)
  obtain ⟨z3, z4⟩ := band z2
  exact ⟨z1, of_decide_eq_true z3, Nat.le_trans (of_decide_eq_true z4) (by decide)⟩
theorem none_in : (if true = true then !inV (V.bl true) (kinds sE) else inV (V.bl true) (kinds sE)) = true := by decide +kernel
theorem flat_kinds : (kinds sE).all flatV = true := by decide +kernel
/-- what stands in the program's top for the law's own def -/
structure TxtL (K : PySem.W.Frag) (mg : Str → Option Value) : Prop where
  enum : mg "enumerate" = none
  range : mg "range" = none
  repr : mg "repr" = none
  isi : mg "isinstance" = none
  ve : mg "ValueError" = none
section
variable {P' : Program} {w : World} {K : PySem.W.Frag} {mg : Str → Option Value} {base : Heap}
def spLaw (K : PySem.W.Frag) : Sp := fun vs H Q _ => ∃ (a : Addr) (ns : List Int), vs = [.ref a] ∧ SqL K H a (ns.map V.int) ∧ ns.length ≤ 63 ∧ ∀ H', Q (.bl true) H'
theorem scW : FnScope NL ["script"] (defScope sLaw) := ⟨rfl, rfl, rfl, by decide +kernel, rfl, by decide +kernel, by decide +kernel⟩
theorem run_law {f fB fP fA fO fE fK : Addr} {fd fdB fdP fdA fdO fdE fdK : FuncData} {o : Obj} (F : Fun K "law" "law" sLaw f fd) (P : Parts K) (gz : ∀ z, z ∈ allN → mg z = some (.ref (cA K z))) (T : TxtL K mg) (hs : K.lookup sysModules = some o)
    (GB : FnOk P' w K mg base CX0 1 fB fdB ["script"] (spBegun (K := K))) (FB : Fun K "_law_begun" "_law_begun" sBegun fB fdB) (bB : Binds K fdB ["script"] []) (gB : mg "_law_begun" = some (.ref fB))
    (GP : FnOk P' w K mg base CX0 3 fP fdP ["draw", "some"] spPick) (FP : Fun K "_law_pick" "_law_pick" sPick fP fdP) (bP : Binds K fdP ["draw", "some"] []) (gP : mg "_law_pick" = some (.ref fP))
    (GA : FnOk P' w K mg base CX0 4 fA fdA ["draw"] spAny) (FA : Fun K "_law_any" "_law_any" sAny fA fdA) (bA : Binds K fdA ["draw"] []) (gA : mg "_law_any" = some (.ref fA))
    (GO : FnOk P' w K mg base CX0 1 fO fdO ["each"] (spOwn K)) (FO : Fun K "_law_errors_of" "_law_errors_of" sOwn fO fdO) (bO : Binds K fdO ["each"] []) (gO : mg "_law_errors_of" = some (.ref fO))
    (GE : FnOk P' w K mg base CX0 1 fE fdE ["words_here"] (spPlain K)) (FE : Fun K "_law_plain_errors" "_law_plain_errors" sPlain fE fdE) (bE : Binds K fdE ["words_here"] []) (gE : mg "_law_plain_errors" = some (.ref fE))
    (GK : FnOk P' w K mg base CX0 1 fK fdK ["error"] (spKinds K)) (FK : Fun K "_law_kinds" "_law_kinds" sKinds fK fdK) (bK : Binds K fdK ["error"] []) (gK : mg "_law_kinds" = some (.ref fK)) :
    RunG P' w K mg base 5 f fd ["script"] (spLaw K) := by
  refine runG_of F scW (fun cdv A outer s H vs Q hg hr h => ?_)
  obtain ⟨a, ns, rfl, hS, hl, k⟩ := h
  have r1 : Room 1 _ := hr.mono (by decide)
  have r3 : Room 3 _ := hr.mono (by decide)
  have hgd : (A.deeper (PyProof.Rows.envOfC "law" (defScope sLaw) s.heap.objs.size f cdv)).guards = some [] := hg
  refine ⟨_, pss_cons (ps_set (i := 1) scW.nd rfl (Or.inl rfl) (pe_call GB r1 (by rfl) gB FB.kp bB .nil pass0 (pa_cons (pv 0) pa_nil)))
    (pss_cons (ps_asg (pe_tup (pa_cons (pe_call GP r3 (by rfl) gP FP.kp bP .nil pass0 (pa_cons (pv 1) (pa_cons (pe_lst (pa_cons pe_str (pa_cons pe_str (pa_cons pe_str pa_nil)))) pa_nil))) (pa_cons (pe_call GA hr (by rfl) gA FA.kp bA .nil pass0 (pa_cons (pv 1) pa_nil)) pa_nil)))
      (pg_tup rfl (pgs_cons (pg_name (i := 2) scW.nd rfl (Or.inl rfl)) (pgs_cons (pg_name (i := 3) scW.nd rfl (Or.inr rfl)) pgs_nil))))
    (pss_cons (ps_set (i := 4) scW.nd rfl (Or.inl rfl) (pe_call GO r1 (by rfl) gO FO.kp bO .nil pass0 (pa_cons (pv 3) pa_nil)))
    (pss_cons (ps_set (i := 5) scW.nd rfl (Or.inl rfl) (pe_op op_cat (pe_call GE r1 (by rfl) gE FE.kp bE .nil pass0 (pa_cons (pv 2) pa_nil))
      (pe_lc (own := [("item", 9)]) (g := gName 9) rfl scW.nd (pi_list (pv 4)) (blkOk_by (own := [("item", 9)]) (N := NL) (sc := defScope sLaw) (by decide +kernel)) (fun _ _ _ _ _ => pg_name (i := 9) scW.nd rfl (Or.inl rfl)) (fun _ _ _ _ _ => pts_nil) (fun _ _ _ _ _ => pe_ix (r := rIxT K) ix_tup (pv 9) pe_int (fun _ _ => rfl)))))
    (pss_cons (ps_for PassesOwn.never rfl (pi_enum (by rfl) T.enum (pa_cons (pv 5) pa_nil)) (pg_tup rfl (pgs_cons (pg_name (i := 6) scW.nd rfl (Or.inr rfl)) (pgs_cons (pg_name (i := 7) scW.nd rfl (Or.inl rfl)) pgs_nil)))
      (pss_cons (ps_if (pt_cmpR (op_neD hr.units) (pe_call GK r1 (by rfl) gK FK.kp bK .nil pass0 (pa_cons (pv 7) pa_nil))
          (pe_lc (own := [("k", 10)]) (g := gName 10) rfl scW.nd (pi_range1 rfl T.range (pa_cons pe_int pa_nil)) (blkOk_by (own := [("k", 10)]) (N := NL) (sc := defScope sLaw) (by decide +kernel)) (fun _ _ _ _ _ => pg_name (i := 10) scW.nd rfl (Or.inl rfl)) (fun _ _ _ _ _ => pts_nil)
            (fun _ _ _ _ _ => pe_cmp (pc_eqI (pv 10) (pv 6)) rfl)) (nomark _)) (pss_one (ps_ret pe_bl)) pss_nil)
      (pss_one (ps_if (PW.pt (pw_or (pt_not (pt_val (pe_callB call_isErr (by rfl) T.isi (by decide +kernel) (pa_cons (pv 7) (pa_cons (pe_glob (v := .ref _) rfl (gz "SplitError" (by decide +kernel)) rfl) pa_nil)))))
          (pw_or1 (pt_not (pt_val (pe_callB call_isErrT (by rfl) T.isi (by decide +kernel) (pa_cons (pv 7) (pa_cons (pe_bltn (v := .ty "ValueError") rfl T.ve (by decide +kernel) rfl) pa_nil)))))))) (pss_one (ps_ret pe_bl)) pss_nil))))
    (pss_cons (ps_if (pt_cmpR (op_neD hr.units) (pe_lc (own := [("item", 9)]) (g := gName 9) rfl scW.nd (pi_list (pv 4)) (blkOk_by (own := [("item", 9)]) (N := NL) (sc := defScope sLaw) (by decide +kernel)) (fun _ _ _ _ _ => pg_name (i := 9) scW.nd rfl (Or.inl rfl))
        (fun _ _ _ _ _ => pts_one (pt_cmpR op_ne (pe_callB (call_reprD hr hgd hs) (by rfl) T.repr (by decide +kernel) (pa_cons (pe_lst (pa_cons (pe_ix (r := rIxT K) ix_tup (pv 9) pe_int (fun _ _ => rfl)) (pa_cons (pe_ix (r := rIxT K) ix_tup (pv 9) pe_int (fun _ _ => rfl)) pa_nil))) pa_nil))
          (pe_callB (call_reprD hr hgd hs) (by rfl) T.repr (by decide +kernel) (pa_cons (pe_lst (pa_cons (pv 3) (pa_cons (pv 3) pa_nil))) pa_nil)) (nomark _))) (fun _ _ _ _ _ => pe_int)) (pe_lst pa_nil) (nomark _)) (pss_one (ps_ret pe_bl)) pss_nil)
    (pss_cons (ps_set (i := 8) scW.nd rfl (Or.inl rfl) (pe_exc1 PySem.F.excBase_ValueError (P.exc "SplitError" (by decide +kernel)) (gz "SplitError" (by decide +kernel)) (P.at (x := "SplitError") (by decide +kernel)).kp rfl pe_str))
    (pss_one (ps_ret (pe_and (pe_cmpR op_notIn_seq pe_bl (pe_call GK r1 (by rfl) gK FK.kp bK .nil pass0 (pa_cons (pv 8) pa_nil)) (by rfl))
      (pe_one (pe_callB call_isErrT (by rfl) T.isi (by decide +kernel) (pa_cons (pv 8) (pa_cons (pe_bltn (v := .ty "ValueError") rfl T.ve (by decide +kernel) rfl) pa_nil))))))))))))), ?_⟩
  -- draw
  refine ⟨_, rfl, a, ns, rfl, hS, hl, fun d l H1 D1 s1 nd nl => ?_⟩
  -- words_here, each
  refine ⟨_, rfl, (by show 3 ≤ sizeLine; decide), fun lp nlp => ⟨d, l, lp, _, rfl, D1.same (same_upd nlp), upd_same, ?_, Nat.le_of_ble_eq_true rfl, Nat.le_of_ble_eq_true rfl, fun i x H2 hi D2 kp2 => ?_⟩⟩
  · obtain ⟨c0, lg, cl, re, tu, z⟩ := D1
    exact fun e => by
      have y := z.hl
      rw [← e, nlp] at y
      cases y
  refine ⟨_, rfl, d, l, rfl, D2, fun v e H3 he te D3 kp3 => ?_⟩
  refine ⟨(by show 2 ≤ sizeLine; decide), fun t nt => ⟨t, [x, v], rfl, .inl (.inl upd_same), rfl, x, [v], rfl, v, [], rfl, rfl, ?_⟩⟩
  have te4 : Td (upd H3 t (.tup [x, v])) v e := te.mono (same_upd nt)
  generalize upd H3 t (.tup [x, v]) = H4 at te4 ⊢
  -- threes_here
  refine ⟨_, rfl, v, rfl, fun p3 H5 us3 T5 s5 n5 h5 => ?_⟩
  -- errors_here
  refine ⟨_, rfl, x, rfl, fun p4 H6 us E6 s6 n6 h6 => ⟨_, rfl, p3, rfl, ⟨_, SqL.of (s6 _ _ h5)⟩, fun Dc nDc => ?_⟩⟩
  have T6 := T5.same s6
  obtain ⟨ws, Ew, hw⟩ := T6.errs
  have l3 : us3.length = ws.length := by rw [← T6.len, ← Ew.len]
  have lws : ws.length = 14 := by rw [← Ew.len]; decide +kernel
  have lus : us.length = 29 := by rw [← E6.len]; decide +kernel
  refine lc_list (K := K) (a := p3) (xs := us3) (fun i H' => H' = upd H6 Dc (.lst (ws.take i))) rfl (fun i H' _ e => by rw [e]; exact .inl (.inl (same_upd nDc _ _ (s6 _ _ h5)))) ?_ ?_
  · rintro i y H' hi rfl
    obtain ⟨t1, a1, rfl, hw1, ht1⟩ := hw i y hi
    refine ⟨rfl, tYes_if ?_⟩
    refine ⟨_, rfl, t1, _, 0, .ref a1, rfl, rfl, .inl (.inl (same_upd nDc _ _ ht1)), atI_nat (j := 0) rfl, _, upd_same, ?_, ?_⟩
    · rw [List.length_take]
      exact small1000 (by omega)
    · rw [upd_upd, List.take_add_one, hw1]
      rfl
  · rintro H' rfl
    rw [l3, List.take_length]
    have lz : us.length + ws.length ≤ sizeLine := Nat.le_trans (m := 1000) (by omega) (by decide)
    refine ⟨p4, Dc, us, ws, rfl, rfl, same_upd nDc _ _ h6, upd_same, lz, fun q nq => ?_⟩
    have s8 : Same H6 (upd (upd H6 Dc (.lst ws)) q (.lst (us ++ ws))) := (same_upd nDc).trans (same_upd nq)
    have E8 : Errs K (upd (upd H6 Dc (.lst ws)) q (.lst (us ++ ws))) ord (us ++ ws) := (E6.same s8).app (Ew.same s8)
    have h8 : (upd (upd H6 Dc (.lst ws)) q (.lst (us ++ ws))) q = some (.lst (us ++ ws)) := upd_same
    have h38 := s8 _ _ (s6 _ _ h5)
    have T8 := T6.same s8
    have te8 : Td (upd (upd H6 Dc (.lst ws)) q (.lst (us ++ ws))) v e := te4.mono ((s5.trans s6).trans s8)
    have le : (us ++ ws).length = 43 := by rw [List.length_append]; omega
    clear s8
    generalize us ++ ws = es at E8 h8 h38 T8 te8 le ⊢
    generalize upd (upd H6 Dc (.lst ws)) q (.lst es) = H8 at E8 h8 h38 T8 te8 ⊢
    have hS0 : sE ∈ allN := List.mem_cons_self ..
    -- for spot, error in enumerate(errors_here)
    refine ⟨_, rfl, q, es, rfl, SqL.of h8, fun i m σ H' => i + m = 43 ∧ ∃ y6 y7, σ = [some (.ref a), some (.ref d), some x, some v, some (.ref p3), some (.ref q), y6, y7, none, none, none] ∧ Same H8 H', ⟨43, rfl, none, none, rfl, Same.refl _⟩, ?_⟩
    rintro i m σ H' ⟨hm, y6, y7, rfl, s9⟩
    have hq9 : SqL K H' q es := SqL.of (s9 _ _ h8)
    by_cases hlt : i < 43
    · have g0 : es[i]? = some es[i] := List.getElem?_eq_getElem (by omega)
      obtain ⟨ai, xi, hai, hxi, eai⟩ := E8.at i _ g0
      have mxi : xi ∈ allN := List.mem_cons_of_mem _ (List.mem_of_getElem? hxi)
      refine .inr ⟨⟨es, _, hq9, g0⟩, fun σ' H2 => ∃ y6 y7, σ' = [some (.ref a), some (.ref d), some x, some v, some (.ref p3), some (.ref q), y6, y7, none, none, none] ∧ Same H8 H2, fun σ' H2 ⟨y6, y7, e1, e2⟩ => ⟨m - 1, by omega, by omega, y6, y7, e1, e2⟩, fun u H2 hy => ?_⟩
      obtain ⟨Tp, x1, rfl, nT, rfl, f1⟩ := hy
      have ex1 : x1 = .ref ai := (Option.some.inj ((f1 _ hq9).symm.trans g0)).trans hai
      subst ex1
      refine ⟨Tp, [.int i, .ref ai], rfl, .inl (.inl upd_same), rfl, .int i, [.ref ai], rfl, .ref ai, [], rfl, rfl, ?_⟩
      have s10 : Same H8 (upd H' Tp (.tup [.int i, .ref ai])) := s9.trans (same_upd nT)
      generalize upd H' Tp (.tup [.int i, .ref ai]) = Ht at s10 ⊢
      -- _law_kinds(error) != [k == spot for k in range(43)]
      refine ⟨_, rfl, ai, xi, rfl, mxi, eai.same s10, fun pk Hk xk sk nk exk hk => ?_⟩
      refine ⟨43, rfl, by decide, by decide, fun Dd nDd => ?_⟩
      refine lc_range (lo := 0) (n := 43) (fun j H2 => H2 = upd Hk Dd (.lst ((List.range j).map fun (k : Nat) => V.bl (decide ((0 + (k : Int)) = (i : Int)))))) rfl ?_ ?_
      · rintro j H2 hj rfl
        refine ⟨rfl, tYes_if ?_⟩
        refine ⟨_, rfl, _, rfl, _, _, rfl, rfl, _, upd_same, ?_, ?_⟩
        · rw [List.length_map, List.length_range]
          exact small1000 (by omega)
        · rw [upd_upd, spot_take hj]
      · rintro H2 rfl
        have sD : Same Hk (upd Hk Dd (.lst ((List.range 43).map fun (k : Nat) => V.bl (decide ((0 + (k : Int)) = (i : Int)))))) := same_upd nDd
        rw [spot_all] at sD ⊢
        have hkk : Hk pk = some (.lst ((spotB i).map V.bl)) := by rw [hk, exk, kinds_at hlt hxi]
        refine ⟨_, _, .lst (SqL.of (sD _ _ hkk)) (dpB (spotB i)), .lst (SqL.of upd_same) (dpB (spotB i)), shapedB _, shapedB _, _, rfl, ?_⟩
        rw [SeqAt.eqv_refl (.list ((spotB i).map PyData.bool)) (canB _)]
        refine iteF ?_
        -- isinstance
        have s11 := s10.trans (sk.trans sD)
        have Z := excC P.alls (P.at mxi)
        have kS : PySem.W.kitOne K (.ref (cA K xi)) (.ref (cA K sE)) = some true := by
          rw [P.kit mxi hS0]
          simp
        refine ⟨_, rfl, ai, _, _, true, rfl, eai.same s11, Z, kS, true, rfl, iteF ?_⟩
        refine ⟨_, rfl, ai, _, "ValueError", true, rfl, eai.same s11, Z, P.kitVE mxi, true, rfl, iteF ?_⟩
        exact ⟨_, _, rfl, s11⟩
    · refine .inl ⟨⟨es, hq9, by omega⟩, ?_⟩
      obtain ⟨ws8, _, hw8⟩ := T8.errs
      obtain ⟨a1, a2, a3⟩ := any_ok e he
      -- [1 for item in threes_here if ..] != []
      refine ⟨_, rfl, p3, rfl, ⟨_, SqL.of (s9 _ _ h38)⟩, fun Dl nDl => ?_⟩
      refine lc_list (K := K) (a := p3) (xs := us3) (fun i H2 => H2 Dl = some (.lst []) ∧ Same H' H2) ⟨upd_same, same_upd nDl⟩ (fun i H2 _ ⟨_, e2⟩ => SqL.of (e2 _ _ (s9 _ _ h38))) ?_ ?_
      · rintro i y H2 hi ⟨hD2, s12⟩
        obtain ⟨t1, b1, rfl, _, ht1⟩ := hw8 i y hi
        have s13 := s9.trans s12
        refine ⟨rfl, ?_⟩
        refine ⟨_, rfl, t1, _, 1, v, rfl, rfl, .inl (.inl (s13 _ _ ht1)), atI_nat (j := 1) rfl, ?_⟩
        refine ⟨_, rfl, t1, _, 2, v, rfl, rfl, .inl (.inl (s13 _ _ ht1)), atI_nat (j := 2) rfl, ?_⟩
        refine ⟨(by show 2 ≤ sizeLine; decide), fun l1 nl1 => ?_⟩
        have t13 := te8.mono (s13.trans (same_upd (o := .lst [v, v]) nl1))
        refine ⟨l1, .list [e, e], rfl, .lst upd_same (.cons t13 (.cons t13 .nil)), a1, a2, a3, ?_⟩
        refine ⟨v, rfl, v, rfl, (by show 2 ≤ sizeLine; decide), fun l2 nl2 => ?_⟩
        have s14 := (same_upd (o := .lst [v, v]) nl1).trans (same_upd (o := .lst [v, v]) nl2)
        have t14 := te8.mono (s13.trans s14)
        refine ⟨l2, .list [e, e], rfl, .lst upd_same (.cons t14 (.cons t14 .nil)), a1, a2, a3, rfl, _, rfl, ?_⟩
        exact iteNS rfl ⟨s14 _ _ hD2, s12.trans s14⟩
      · rintro H2 ⟨hD2, s12⟩
        refine ⟨Nat.zero_le _, fun l3 nl3 => ?_⟩
        refine ⟨.list [], .list [], .lst (SqL.of (same_upd nl3 _ _ hD2)) .nil, .lst (SqL.of upd_same) .nil, by decide +kernel, by decide +kernel, _, rfl, iteF ?_⟩
        -- base_here
        intro ab nab
        refine ⟨_, rfl, ab, sE, rfl, hS0, .inl upd_same, fun pk Hk xk sk nk exk hk => ?_⟩
        subst exk
        refine ⟨pk, _, rfl, .inl (SqL.of hk), rfl, flat_kinds, _, rfl, ?_⟩
        rw [none_in]
        refine iteT ?_
        exact ⟨_, rfl, ab, _, "ValueError", true, rfl, ErrAt.same (.inl upd_same) sk, excC P.alls (P.at hS0), P.kitVE hS0, k _⟩
end
end K0

/-! # K0g -/
namespace K0
open PySem PySem.Spec PyProof.Rows L2 Dr Hk
theorem fun_of {K : PySem.W.Frag} {x : Str} {s : Stmt} {f : Addr} {fd : FuncData} (F : FunD K x x (defArgs s) (defBody s) (defScope s) [] [] f fd) : Fun K x x s f fd := by
  obtain ⟨⟨oc, od, dV, kV, doc, pm, an, cdv, ct, osl, e, lk, hc, hD, _⟩, kp⟩ := F
  rcases hD with ⟨_, rfl⟩ | ⟨n, _⟩
  · exact ⟨⟨oc, od, kV, doc, pm, an, cdv, ct, osl, e, lk, hc⟩, kp⟩
  · exact absurd rfl n
theorem facts {P' : Program} {w : World} {K : PySem.W.Frag} {h : Heap} {mg : Str → Option Value} {f : Addr} (X : K.In h) (G : h.Ns mainGlobals mg) (hfa : mg ("law" : Str) = some (.ref f)) (c : Says K)
    (hfile : ((P'.main.file : Str) == ("/claim/cut.py" : Str)) = true) (htop : (P'.main.scope.names.lookup ("super" : Str)).isSome = false) :
    ∃ fd : FuncData, (∀ (s : Shared) (v : Value), BindsTo s fd ⟨[v], []⟩ [("script", v)]) ∧ ∀ base : Heap, K.In base → base.Ns mainGlobals mg → RunG P' w K mg base 5 f fd ["script"] (spLaw K) := by
  have P := c.parts
  have gz : ∀ z, z ∈ allN → mg z = some (.ref (cA K z)) := fun z hz => P.mg X G hz
  have fr : ∀ (i : Nat) (x : Str), fa[i]? = some (.free x) → mg x = none := fun i x hx => He.free_ok X G (c.base.fact i hx)
  have gl : ∀ (i : Nat) (x : Str), fa[i]? = some (.glo x) → mg x = some (.ref (He.ga K x)) := fun i x hx => He.glo_ok X G (c.base.fact i hx)
  obtain ⟨fdB, FB⟩ := c.base.def_ 0 (d := dOf "_law_begun" 46) rfl
  obtain ⟨fdM, FM⟩ := c.base.def_ 1 (d := dOf "_law_mixed" 47) rfl
  obtain ⟨fdT, FT⟩ := c.base.def_ 2 (d := dOf "_law_take" 48) rfl
  obtain ⟨fdP, FP⟩ := c.base.def_ 3 (d := dOf "_law_pick" 49) rfl
  obtain ⟨fdA, FA⟩ := c.base.def_ 4 (d := dOf "_law_any" 50) rfl
  obtain ⟨fdK, FK⟩ := c.base.def_ 5 (d := dOf "_law_kinds" 51) rfl
  obtain ⟨fdE, FE⟩ := c.base.def_ 6 (d := dOf "_law_plain_errors" 52) rfl
  obtain ⟨fdO, FO⟩ := c.base.def_ 7 (d := dOf "_law_errors_of" 53) rfl
  obtain ⟨fd, FL⟩ := c.base.def_ 8 (d := dOf "law" 54) rfl
  have FB := fun_of (s := sBegun) FB
  have FM := fun_of (s := sMixed) FM
  have FT := fun_of (s := sTake) FT
  have FP := fun_of (s := sPick) FP
  have FA := fun_of (s := sAny) FA
  have FK := fun_of (s := sKinds) FK
  have FE := fun_of (s := sPlain) FE
  have FO := fun_of (s := sOwn) FO
  have FL := fun_of (s := sLaw) FL
  have gB := gl 9 "_law_begun" rfl
  have gM := gl 10 "_law_mixed" rfl
  have gT := gl 11 "_law_take" rfl
  have gP := gl 12 "_law_pick" rfl
  have gA := gl 13 "_law_any" rfl
  have gK := gl 14 "_law_kinds" rfl
  have gE := gl 15 "_law_plain_errors" rfl
  have gO := gl 16 "_law_errors_of" rfl
  have gL := gl 17 "law" rfl
  have e := hfa.symm.trans gL
  cases e
  have bB := FB.binds (ps := ["script"]) fun _ _ _ _ _ _ us hl => match us, hl with | [_], _ => rfl
  have bM := FM.binds (ps := ["draw"]) fun _ _ _ _ _ _ us hl => match us, hl with | [_], _ => rfl
  have bT := FT.binds (ps := ["draw", "amount"]) fun _ _ _ _ _ _ us hl => match us, hl with | [_, _], _ => rfl
  have bP := FP.binds (ps := ["draw", "some"]) fun _ _ _ _ _ _ us hl => match us, hl with | [_, _], _ => rfl
  have bA := FA.binds (ps := ["draw"]) fun _ _ _ _ _ _ us hl => match us, hl with | [_], _ => rfl
  have bK := FK.binds (ps := ["error"]) fun _ _ _ _ _ _ us hl => match us, hl with | [_], _ => rfl
  have bE := FE.binds (ps := ["words_here"]) fun _ _ _ _ _ _ us hl => match us, hl with | [_], _ => rfl
  have bO := FO.binds (ps := ["each"]) fun _ _ _ _ _ _ us hl => match us, hl with | [_], _ => rfl
  obtain ⟨o, hs⟩ := P.alls.s
  refine ⟨fd, fun s v => ?_, fun base _ _ => ?_⟩
  · obtain ⟨oc, od, kV, doc, pm, an, cdv, ct, osl, rfl, _, _⟩ := FL.ex
    exact .of_eq rfl
  · have mi := fr 1 "int" rfl
    have ml := fr 2 "len" rfl
    have GP : FnOk P' w K mg base CX0 3 _ fdP ["draw", "some"] spPick := ok_pick FP FT bT gT FM bM gM mi ml
    exact run_law FL P gz ⟨fr 4 "enumerate" rfl, fr 5 "range" rfl, fr 6 "repr" rfl, fr 3 "isinstance" rfl, fr 7 "ValueError" rfl⟩ hs
      (ok_begun FB (fr 0 "abs" rfl)) FB bB gB GP FP bP gP (ok_any FA FP bP gP GP (fT := 0) (fM := 0) (fdT := fdT) (fdM := fdM)) FA bA gA
      (ok_own FO c gz hfile htop (fr 8 "super" rfl)) FO bO gO (ok_plain FE P gz) FE bE gE (ok_kinds FK P gz (fr 3 "isinstance" rfl)) FK bK gK
end K0
open PySem PySem.W PySem.Calls PyProof.Rows
set_option maxHeartbeats 0 in
theorem PySem.Challenge.cw_splitbooks_k00_errors_of_all_parts_holds : PySem.Challenge.rw_splitbooks_k00_errors_of_all_parts.Holds := by
  w_on; o_law
  refine HandSHeadRun.head_any (r := OpenLaw.row PySem.Challenge.rw_splitbooks_k00_errors_of_all_parts) (q := view (OpenLaw.row PySem.Challenge.rw_splitbooks_k00_errors_of_all_parts).prog [54]) (H := Hk.hook) (ob := Hk.ob) (M := 20000) (loose := Hk.names)
    (d := HandSHeadRun.topDef (OpenLaw.row PySem.Challenge.rw_splitbooks_k00_errors_of_all_parts).prog 54) (kwd := []) Hk.ob_eq
    (by kernel_rfl) (fun s => by kernel_rfl) Hk.run (by kernel_rfl) (by kernel_rfl) (by kernel_rfl) (by rfl) (by first | assumption | decide +kernel) (by decide +kernel) ⟨rfl, rfl, rfl, rfl, rfl, by decide +kernel⟩ ?hw ?hc
  case hw => w_witness2
  case hc =>
    refine L2.walk_ofG (l := PySem.Challenge.rw_splitbooks_k00_errors_of_all_parts) (n := 63) (k := 5) (x := "script") rfl (by decide) (by kernel_rfl) ⟨rfl, by decide, by decide⟩ ?F
    intro w mg fa h Y G hmg0
    obtain ⟨K, KX, c⟩ := Y
    have hmg : mg ("law" : PySem.Str) = some (.ref fa) := by
      have e : (HandSHeadRun.topDef (OpenLaw.row PySem.Challenge.rw_splitbooks_k00_errors_of_all_parts).prog 54).name = ("law" : PySem.Str) := by kernel_rfl
      rw [← e]
      exact hmg0
    obtain ⟨fd, hb, hF⟩ := K0.facts (P' := (PySem.Challenge.rw_splitbooks_k00_errors_of_all_parts).prog) (w := w) KX G hmg c (by kernel_rfl) (by kernel_rfl)
    exact ⟨K, fd, K0.spLaw K, KX, hb, fun H a ns hl _ hS => ⟨a, ns, rfl, hS, hl, fun _ => rfl⟩, hF⟩
