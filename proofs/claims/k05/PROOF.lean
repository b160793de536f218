import PyProof.Rows.All
import Wide.All
import OpenK.AllK
import Wide.FinOn
import HandS.ForMost
import HandS.Codes
import HandS.Wide
import HandS.IsInst
import HandS.ExcIs
import HandS.Zip
import HandS.Style
import HandS.DeepEq
import PyProof.NeKinds
import KE.GoesMore
import KE.GoesEnum
import HandS.SetFor
import HandS.FStr
import HandS.Star
import HandS.RevRange
import HandS.TryOnly
import HandS.ExcInit
import HandS.ExcField
import KE.KExcSuper
import KE.KExcIs
import HandS.ExcOwn
import HandS.ExcCtx
import HandS.WordsExc
import HandS.Deep
import HandS.TupAny
import HandS.Lambda
import HandS.RaiseMore
import HandS.EndTab
import PySem.Challenge.RW_secondruns_k05_places_and_pieces
set_option Elab.async false
set_option linter.all false
set_option maxRecDepth 100000
set_option maxHeartbeats 4000000
namespace K5
open PySem PySem.Spec PyProof.Rows L2 C8
def top (i : Nat) : Stmt := PySem.Challenge.pw_secondruns_k05_places_and_pieces.main.body.getD i (.Pass ⟨0, 0, 0, 0⟩)
abbrev sFresh : Stmt := top 19
abbrev sTake : Stmt := top 20
abbrev sOne : Stmt := top 21
example : (match sFresh with | .FunctionDef (name := n) .. => n | _ => "") = ("_law_fresh" : Str) := by rfl

/-- the state of the draws, at a -/
def StAt (B : Nat) (H : Hp) (a l : Addr) : Prop := ∃ (ns : List Int) (i c h n : Int), H a = some (.lst [.ref l, .int i, .int c, .int h, .int n]) ∧ H l = some (.lst (ns.map V.int)) ∧
  0 ≤ i ∧ 0 ≤ c ∧ 0 ≤ h ∧ h < 2147483647 ∧ 0 ≤ n ∧ n ≤ B ∧ ns.length ≤ 40
/-- all but what stands at a is as it was -/
def But (a : Addr) (H H' : Hp) : Prop := ∀ b o, H b = some o → b ≠ a → H' b = some o
theorem iteBt {c : Bool} {A B : Prop} (hc : c = true) (h : A) : if c = true then A else B := by rw [if_pos hc]; exact h
theorem iteBf {c : Bool} {A B : Prop} (hc : c = false) (h : B) : if c = true then A else B := by rw [if_neg (by rw [hc]; exact Bool.false_ne_true)]; exact h
def spTake : Sp := fun vs H Q _ => ∃ (a : Addr) (m : Int) (B : Nat) (l : Addr), vs = [.ref a, .int m] ∧ 0 < m ∧ m < 1073741824 ∧ StAt B H a l ∧ B < 1000000000000000 ∧
  ∀ (d : Int) (H' : Hp), 0 ≤ d → d < m → StAt (B + 1) H' a l → But a H H' → Q (.int d) H'
theorem scTake : FnScope ["_law_state", "_law_many_here", "_law_cell", "_law_digit", "_law_one_here", "_law_two"] ["_law_state", "_law_many_here"] (fnScope sTake) := fnScope_by (by decide +kernel)
section
variable {P : Program} {w : World} {K : PySem.W.Frag} {mg : Str → Option Value} {base : Heap}
structure Blt (mg : Str → Option Value) : Prop where
  len : mg "len" = none
  abs : mg "abs" = none
  int : mg "int" = none
  list : mg "list" = none
theorem c_take {f : Addr} {fd : FuncData} (F : Def K mg "_law_take" sTake f fd) (b : Binds K fd ["_law_state", "_law_many_here"] []) (T : Blt mg) : Cal P w K mg base 1 "_law_take" spTake [] := by
  refine cal0 F b .nil scTake (fun vs H Q E h => ?_) (fun cdv A outer s H vs Q E hr h => ?_)
  · obtain ⟨a, m, B, l, rfl, _⟩ := h
    rfl
  · obtain ⟨a, m, B, l, rfl, m0, m1, ⟨ns, i, c, h, n, ha, hl, i0, c0, h0, h1, n0, n1, nl⟩, hB, k⟩ := h
    have nd := scTake.nd
    refine ⟨_, pss_cons (ps_asg (pe_op op_add (pe_ix ix_list (pv 0) pe_int fun _ _ => rfl) pe_int) (pg_sub (pv 0) pe_int set_list))
      (pss_cut (ps_while PassesOwn.never
          (pw_and (pt_cmp (pc_eqI (pe_ix ix_list (pv 0) pe_int fun _ _ => rfl) pe_int))
            (pw_and1 (pt_cmp (pc_lt (pe_ix ix_list (pv 0) pe_int fun _ _ => rfl) (pe_callB call_len_seq (by rfl) T.len PySem.boot_len (pa_cons (pe_ix ix_list (pv 0) pe_int fun _ _ => rfl) pa_nil)))))).pt
          (pss_cons (ps_set (i := 2) nd rfl (Or.inl rfl) (pe_callB call_abs (by rfl) T.abs (by decide +kernel) (pa_cons (pe_ix ix_list (pe_ix ix_list (pv 0) pe_int fun _ _ => rfl) (pe_ix ix_list (pv 0) pe_int fun _ _ => rfl) fun _ _ => rfl) pa_nil)))
          (pss_cons (ps_asg (pe_op op_add (pe_ix ix_list (pv 0) pe_int fun _ _ => rfl) pe_int) (pg_sub (pv 0) pe_int set_list))
          (pss_one (ps_if (pt_cmp (pc_ge (pv 2) (pe_op op_pow pe_int pe_int)))
            (pss_one (ps_asg (pv 2) (pg_sub (pv 0) pe_int set_list)))
            (pss_one (ps_asg (pe_op op_mod (pe_callTy call_int1 (by rfl) T.int (by decide +kernel) (pa_cons (pe_op op_add (pe_op op_add (pe_op op_mul (pe_ix ix_list (pv 0) pe_int fun _ _ => rfl) pe_int) (pv 2)) pe_int) pa_nil)) pe_int) (pg_sub (pv 0) pe_int set_list))))))))
      (pss_cons (ps_if (pt_cmp (pc_gt (pe_ix ix_list (pv 0) pe_int fun _ _ => rfl) pe_int))
          (pss_cons (ps_set (i := 3) nd rfl (Or.inl rfl) (pe_op op_mod (pe_callTy call_int1 (by rfl) T.int (by decide +kernel) (pa_cons (pe_ix ix_list (pv 0) pe_int fun _ _ => rfl) pa_nil)) (pv 1)))
          (pss_cons (ps_asg (pe_op op_fdiv (pe_ix ix_list (pv 0) pe_int fun _ _ => rfl) (pv 1)) (pg_sub (pv 0) pe_int set_list))
          (pss_one (ps_ret (pv 3))))) pss_nil)
      (pss_cons (ps_set (i := 4) nd rfl (Or.inl rfl) (pe_op op_mod (pe_callTy call_int1 (by rfl) T.int (by decide +kernel) (pa_cons (pe_op op_pow (pe_op op_add (pe_op op_add (pe_ix ix_list (pv 0) pe_int fun _ _ => rfl) (pe_op op_mul pe_int (pe_ix ix_list (pv 0) pe_int fun _ _ => rfl))) pe_int) pe_int) pa_nil)) pe_int))
      (pss_cons (ps_set (i := 5) nd rfl (Or.inl rfl) (pe_op op_mod (pe_callTy call_int1 (by rfl) T.int (by decide +kernel) (pa_cons (pe_op op_pow (pe_op op_add (pv 4) (pe_op op_mul pe_int (pe_ix ix_list (pv 0) pe_int fun _ _ => rfl))) pe_int) pa_nil)) pe_int))
      (pss_one (ps_ret (pe_op op_mod (pe_callTy call_int1 (by rfl) T.int (by decide +kernel) (pa_cons (pe_op op_fdiv (pv 5) pe_int) pa_nil)) (pv 1)))))))), ?_⟩
    have gA : ∀ xs : List V, (upd H a (.lst xs)) a = some (.lst xs) := fun _ => upd_same
    have nla : l ≠ a := ne_of hl ha (by intro z; have z' := congrArg (fun o : HO => match o with | .lst xs => xs.head? | _ => none) z; cases ns <;> cases z')
    have gl : ∀ o, (upd H a o) l = some (.lst (ns.map V.int)) := fun o => by rw [upd_ne nla]; exact hl
    have fin : ∀ (d i' c' h' : Int), 0 ≤ d → d < m → 0 ≤ i' → 0 ≤ c' → 0 ≤ h' → h' < 2147483647 → Q (.int d) (upd H a (.lst [.ref l, .int i', .int c', .int h', .int (n + 1)])) := fun d i' c' h' d0 d1 e1 e2 e3 e4 =>
      k d _ d0 d1 ⟨ns, i', c', h', n + 1, upd_same, gl _, e1, e2, e3, e4, by omega, by omega, nl⟩ fun b o e hb => by rw [upd_ne hb]; exact e
    -- _law_state[4] = _law_state[4] + 1
    refine ⟨_, rfl, a, _, 4, _, rfl, rfl, SqL.of ha, rfl, n, 1, rfl, rfl, _, rfl, a, _, 4, 4, rfl, rfl, ha, rfl, ?_⟩
    show tSeq _ _ _ _ (upd H a (.lst [.ref l, .int i, .int c, .int h, .int (n + 1)]))
    have rd : ∀ {xs : List V} {σ : L2.St} {z : Int} {v : V} {Q : VK}, σ[0]? = some (some (.ref a)) → atI xs z = some v → Q v (upd H a (.lst xs)) → tOp (rIxL K) (tVar 0) (tC (.int z)) σ (upd H a (.lst xs)) Q :=
      fun h1 h2 q => ⟨_, h1, a, _, _, _, rfl, rfl, SqL.of upd_same, h2, q⟩
    have st : ∀ {xs : List V} {σ : L2.St} {z : Int} {j : Nat} {v : V} {Q : L2.St → Hp → Prop}, σ[0]? = some (some (.ref a)) → ixN xs.length z = some j → Q σ (upd H a (.lst (xs.set j v))) → gSub (tVar 0) (tC (.int z)) rSetL v σ (upd H a (.lst xs)) Q :=
      fun h1 h2 q => ⟨_, h1, a, _, _, _, rfl, rfl, upd_same, h2, by rw [upd_upd]; exact q⟩
    -- while
    refine ⟨fun σ H' => ∃ (i c h : Int) (v2 : Option V), σ = [some (.ref a), some (.int m), v2, none, none, none] ∧ H' = upd H a (.lst [.ref l, .int i, .int c, .int h, .int (n + 1)]) ∧ 0 ≤ i ∧ 0 ≤ c ∧ 0 ≤ h ∧ h < 2147483647, ?_, ?_⟩
    · refine ⟨fun μ σ H' => ∃ (i c h : Int) (v2 : Option V), μ = ns.length - i.toNat ∧ σ = [some (.ref a), some (.int m), v2, none, none, none] ∧ H' = upd H a (.lst [.ref l, .int i, .int c, .int h, .int (n + 1)]) ∧ 0 ≤ i ∧ 0 ≤ c ∧ 0 ≤ h ∧ h < 2147483647,
        ⟨_, i, c, h, none, rfl, rfl, rfl, i0, c0, h0, h1⟩, ?_⟩
      rintro μ σ H' ⟨i, c, h, v2, rfl, rfl, rfl, i0, c0, h0, h1⟩
      refine rd rfl rfl ⟨c, 0, rfl, rfl, _, rfl, ?_⟩
      refine ite2 (fun hc => ?_) (fun hc => ?_)
      · refine rd rfl rfl (rd rfl rfl ⟨l, _, rfl, .inl (SqL.of (gl _)), i, _, rfl, rfl, _, rfl, ?_⟩)
        by_cases hi : i < ns.length
        · have hlt : i.toNat < ns.length := by omega
          have hx : atI (ns.map V.int) i = some (.int ns[i.toNat]) := at_of (j := i.toNat) (by omega) (by simp [hlt])
          refine iteBt (decide_eq_true (by rw [List.length_map]; exact hi)) ?_
          refine ⟨fun σ H' => ∃ (c h : Int) (v2 : Option V), σ = [some (.ref a), some (.int m), v2, none, none, none] ∧ H' = upd H a (.lst [.ref l, .int (i + 1), .int c, .int h, .int (n + 1)]) ∧ 0 ≤ c ∧ 0 ≤ h ∧ h < 2147483647, ?_, ?_⟩
          · rintro σ' H' ⟨c, h, v2, rfl, rfl, c0, h0, h1⟩
            exact ⟨_, by omega, i + 1, c, h, v2, rfl, rfl, rfl, by omega, c0, h0, h1⟩
          -- _law_cell = abs(..)
          refine rd rfl rfl (rd rfl rfl ⟨l, _, i, _, rfl, rfl, SqL.of (gl _), hx, _, rfl, ?_⟩)
          generalize hz : (if ns[i.toNat] < 0 then -ns[i.toNat] else ns[i.toNat]) = z
          have z0 : 0 ≤ z := by rw [← hz]; split <;> omega
          -- _law_state[1] = _law_state[1] + 1
          refine rd rfl rfl ⟨i, 1, rfl, rfl, st rfl rfl ?_⟩
          -- if
          refine ⟨_, rfl, 10, 18, rfl, rfl, ⟨by decide, by decide, by decide⟩, z, _, rfl, rfl, _, rfl, ite2 (fun _ => ?_) (fun _ => ?_)⟩
          · exact ⟨_, rfl, st rfl rfl ⟨z, h, some (.int z), rfl, rfl, z0, h0, h1⟩⟩
          · refine rd rfl rfl ⟨h, 131, rfl, rfl, .inl ⟨by omega, by omega⟩, _, rfl, _, _, rfl, rfl, _, _, rfl, rfl, .inl ⟨_, rfl, _, _, rfl, rfl, (by show (0 : Int) < 2147483647; decide), st rfl rfl ⟨c, _, some (.int z), rfl, rfl, c0, Int.emod_nonneg _ (by decide), Int.emod_lt_of_pos _ (by decide)⟩⟩⟩
        · refine iteBf (decide_eq_false (by rw [List.length_map]; exact hi)) ?_
          exact ⟨i, c, h, v2, rfl, rfl, i0, c0, h0, h1⟩
      · exact iteF ⟨i, c, h, v2, rfl, rfl, i0, c0, h0, h1⟩
    · rintro σ H' ⟨i, c, h, v2, rfl, rfl, i0, c0, h0, h1⟩
      refine rd rfl rfl ⟨c, 0, rfl, rfl, _, rfl, ite2 (fun hc => ?_) (fun hc => ?_)⟩
      · have hc : 0 < c := of_decide_eq_true hc
        refine rd rfl rfl (.inl ⟨c, rfl, _, rfl, c, m, rfl, rfl, m0, ?_⟩)
        refine rd rfl rfl ⟨_, rfl, c, m, rfl, rfl, ⟨m0, m1⟩, st rfl rfl ⟨_, rfl, ?_⟩⟩
        exact fin _ _ _ _ (Int.emod_nonneg _ (by omega)) (Int.emod_lt_of_pos _ m0) i0 (Int.ediv_nonneg c0 (by omega)) h0 h1
      · refine rd rfl rfl (rd rfl rfl ⟨7919, n + 1, rfl, rfl, .inl ⟨by decide, by decide⟩, h, _, rfl, rfl, _, 5, rfl, rfl, _, 3, rfl, rfl, ⟨by decide, by decide, by omega⟩, .inl ⟨_, rfl, _, _, rfl, rfl, (by show (0 : Int) < 1000000007; decide), ?_⟩⟩)
        generalize ho : (h + 7919 * (n + 1) + 5) ^ (3 : Int).toNat % 1000000007 = o
        have o0 : 0 ≤ o := by rw [← ho]; exact Int.emod_nonneg _ (by decide)
        have o1 : o < 1000000007 := by rw [← ho]; exact Int.emod_lt_of_pos _ (by decide)
        refine ⟨.int o, (by subst ho; rfl), rd rfl rfl ⟨31, n + 1, rfl, rfl, .inl ⟨by decide, by decide⟩, o, _, rfl, rfl, _, 3, rfl, rfl, ⟨by decide, by decide, by omega⟩, .inl ⟨_, rfl, _, _, rfl, rfl, (by show (0 : Int) < 998244353; decide), ?_⟩⟩⟩
        refine ⟨_, rfl, _, 3, rfl, rfl, ⟨by decide, by decide⟩, .inl ⟨_, rfl, _, rfl, _, m, rfl, rfl, m0, ?_⟩⟩
        exact fin _ _ _ _ (Int.emod_nonneg _ (by omega)) (Int.emod_lt_of_pos _ m0) i0 c0 h0 h1
end
end K5


namespace K5
open PySem PySem.Spec PyProof.Rows L2 C8
theorem cut40 (ns : List Int) : cutV (ns.map V.int) none (some 40) = (ns.take 40).map V.int := by
  unfold cutV HT.sIx
  simp only [show ¬ ((40 : Int) < 0) by decide, if_false, List.drop_zero, Nat.sub_zero, ← List.map_take, List.length_map]
  congr 1
  by_cases h : ns.length ≤ 40
  · rw [List.take_of_length_le h, List.take_of_length_le (by omega)]
  · congr 1
    omega
def spFresh (K : PySem.W.Frag) : Sp := fun vs H Q _ => ∃ (a : Addr) (ns : List Int), vs = [.ref a] ∧ SqL K H a (ns.map V.int) ∧ ∀ (st l : Addr) (H' : Hp), H st = none → H l = none → Same H H' → StAt 0 H' st l → Q (.ref st) H'
def spOne : Sp := fun vs H Q _ => ∃ (st th : Addr) (xs : List V) (B : Nat) (l : Addr), vs = [.ref st, .ref th] ∧ (H th = some (.lst xs) ∨ H th = some (.tup xs)) ∧ th ≠ st ∧ 0 < xs.length ∧ xs.length < 1000000 ∧ StAt B H st l ∧ B < 1000000000000000 ∧
  ∀ (v : V) (H' : Hp), v ∈ xs → StAt (B + 1) H' st l → But st H H' → Q v H'
theorem scFresh : FnScope ["_law_script"] ["_law_script"] (fnScope sFresh) := fnScope_by (by decide +kernel)
theorem scOne : FnScope ["_law_state", "_law_things"] ["_law_state", "_law_things"] (fnScope sOne) := fnScope_by (by decide +kernel)
section
variable {P : Program} {w : World} {K : PySem.W.Frag} {mg : Str → Option Value} {base : Heap}
theorem c_fresh {f : Addr} {fd : FuncData} (F : Def K mg "_law_fresh" sFresh f fd) (b : Binds K fd ["_law_script"] []) (T : Blt mg) : Cal P w K mg base 1 "_law_fresh" (spFresh K) [] := by
  refine cal0 F b .nil scFresh (fun vs H Q E h => ?_) (fun cdv A outer s H vs Q E hr h => ?_)
  · obtain ⟨a, ns, rfl, _⟩ := h
    rfl
  · obtain ⟨a, ns, rfl, hS, k⟩ := h
    refine ⟨_, pss_one (ps_ret (pe_lst (pa_cons (pe_callTy call_list_of (by rfl) T.list (by decide +kernel) (pa_cons (pe_slice sl_list (pv 0) po_none (po_some pe_int)) pa_nil))
      (pa_cons pe_int (pa_cons pe_int (pa_cons pe_int (pa_cons pe_int pa_nil))))))), ?_⟩
    refine ⟨_, rfl, 40, rfl, a, _, rfl, hS, fun p np => ⟨p, _, rfl, .inl (SqL.of upd_same), fun l nl => ⟨(by show 5 ≤ sizeLine; decide), fun st nst => ?_⟩⟩⟩
    have nl' := nl
    have npl : p ≠ l := ne_of_none upd_same nl
    rw [upd_ne npl.symm] at nl
    have nst2 : st ≠ l := fun z => by rw [z, upd_same] at nst; cases nst
    rw [upd_ne nst2] at nst
    have nst3 : st ≠ p := fun z => by rw [z, upd_same] at nst; cases nst
    rw [upd_ne nst3] at nst
    refine k st l _ nst nl (fun b o e => ?_) ⟨ns.take 40, 0, 0, 0, 0, upd_same, ?_, by decide, by decide, by decide, by decide, by decide, by decide, List.length_take_le _ _⟩
    · rw [upd_ne (ne_of_none e nst), upd_ne (ne_of_none e nl), upd_ne (ne_of_none e np)]
      exact e
    · rw [upd_ne nst2.symm, upd_same, cut40]
theorem c_one {f : Addr} {fd : FuncData} (F : Def K mg "_law_one" sOne f fd) (b : Binds K fd ["_law_state", "_law_things"] []) (T : Blt mg) (C : Cal P w K mg base 1 "_law_take" spTake []) : Cal P w K mg base 2 "_law_one" spOne [] := by
  refine cal0 F b .nil scOne (fun vs H Q E h => ?_) (fun cdv A outer s H vs Q E hr h => ?_)
  · obtain ⟨st, th, xs, B, l, rfl, _⟩ := h
    rfl
  · obtain ⟨st, th, xs, B, l, rfl, hx, ne, l0, l1, hst, hB, k⟩ := h
    refine ⟨_, pss_one (ps_ret (pe_ix ix_seq (pv 1) (pe_c C hr (Nat.le_refl _) (by rfl) (pa_cons (pv 0) (pa_cons (pe_callB call_len_seq (by rfl) T.len PySem.boot_len (pa_cons (pv 1) pa_nil)) pa_nil))) fun _ _ => rfl)), ?_⟩
    have hs : SqL K H th xs ∨ SqT K H th xs := hx.elim (fun z => .inl (SqL.of z)) fun z => .inr (SqT.of z)
    refine ⟨_, rfl, _, rfl, _, rfl, th, xs, rfl, hs, st, (xs.length : Int), B, l, rfl, by omega, by omega, hst, hB, fun d H' d0 d1 hst' but => ?_⟩
    have hd : d.toNat < xs.length := by omega
    have at' : atI xs d = some xs[d.toNat] := at_of (j := d.toNat) (by omega) (by simp [hd])
    have fin := k _ H' (List.getElem_mem hd) hst' but
    rcases hx with hx | hx
    · exact .inl ⟨th, xs, d, _, rfl, rfl, SqL.of (but _ _ hx ne), at', fin⟩
    · exact .inr (.inl ⟨th, xs, d, _, rfl, rfl, SqT.of (but _ _ hx ne), at', fin⟩)
end
end K5

namespace K5
open PySem PySem.Spec PyProof.Rows L2 C8
abbrev sSame : Stmt := top 23
/-- a dict that may be told equal to itself -/
def DicOk (kvs : List (Key × V)) : Prop := ∀ p ∈ kvs, valV kvs p.1 = some p.2 ∧ flatB p.2 = true
/-- what stands for one thing: flat, or a dict -/
def Leaf (H : Hp) (x : V) : Prop := flatV x = true ∨ ∃ a kvs, x = .ref a ∧ H a = some (.dK kvs) ∧ DicOk kvs
def Thing (H : Hp) (x : V) : Prop := Leaf H x ∨ ∃ a xs, x = .ref a ∧ (H a = some (.lst xs) ∨ H a = some (.tup xs)) ∧ (∀ y ∈ xs, flatV y = true) ∧ xs.length ≤ 10
theorem Leaf.same {H H' : Hp} {x : V} (s : Same H H') (h : Leaf H x) : Leaf H' x := h.imp id fun ⟨a, kvs, e, q, d⟩ => ⟨a, kvs, e, s _ _ q, d⟩
theorem Thing.same {H H' : Hp} {x : V} (s : Same H H') (h : Thing H x) : Thing H' x := h.imp (Leaf.same s) fun ⟨a, xs, e, q, r⟩ => ⟨a, xs, e, q.imp (s _ _) (s _ _), r⟩
theorem same_upd {H : Hp} {p : Addr} {o : HO} (np : H p = none) : Same H (upd H p o) := fun b u e => by
  rw [upd_ne (ne_of_none e np)]
  exact e
theorem pe_bt {X : Cx} {x : Str} {pos : Pos} (n : String) (hm : X.mg x = none) (hg : Gl X x := by rfl) (hv : bootBuiltins x = some (.type n) := by decide +kernel) (hn : x ≠ "__name__" := by decide) (hd : (x == ("__debug__" : Str)) = false := by decide) : PE X (.Name x pos) (tC (.ty n)) :=
  pe_bltn hg hm hv rfl hn hd
def spSame0 : Sp := fun vs H Q _ => ∃ x : V, vs = [x, x] ∧ Leaf H x ∧ ∀ H', Same H H' → Q (.bl true) H'
def spSame1 : Sp := fun vs H Q _ => ∃ x : V, vs = [x, x] ∧ Thing H x ∧ ∀ H', Same H H' → Q (.bl true) H'
theorem scSame : FnScope ["_law_found", "_law_due", "_law_x", "_law_y"] ["_law_found", "_law_due"] (fnScope sSame) := fnScope_by (by decide +kernel)
structure Blt2 (mg : Str → Option Value) : Prop extends Blt mg where
  isi : mg "isinstance" = none
  tup : mg "tuple" = none
  boo : mg "bool" = none
  all : mg "all" = none
  zip : mg "zip" = none
/-- the types of leaves -/
def leafTy : List String := ["NoneType", "bool", "int", "str", "dict"]
theorem leaf_ty {K : PySem.W.Frag} {H : Hp} {x : V} (h : Leaf H x) : ∃ T ∈ leafTy, (∀ H', Same H H' → TyX K H' x (.type T)) ∧ (scal x x = true ∨ ((T == "int" || T == "bool") = false ∧ ∃ a kvs, x = .ref a ∧ H a = some (.dK kvs) ∧ DicOk kvs)) := by
  rcases h with h | ⟨a, kvs, rfl, e, dk⟩
  · cases x with
    | non => exact ⟨"NoneType", by decide, fun _ _ => .base .non, .inl rfl⟩
    | bl b => exact ⟨"bool", by decide, fun _ _ => .base (.bl b), .inl rfl⟩
    | int i => exact ⟨"int", by decide, fun _ _ => .base (.int i), .inl rfl⟩
    | str z => exact ⟨"str", by decide, fun _ _ => .base (.str z), .inl rfl⟩
    | _ => cases h
  · exact ⟨"dict", by decide, fun H' s => .base (.dK (s _ _ e)), .inr ⟨by decide, a, kvs, rfl, e, dk⟩⟩
section
variable {P : Program} {w : World} {K : PySem.W.Frag} {mg : Str → Option Value} {base : Heap}
theorem kitLT {T : String} (h : T ∈ leafTy) : PySem.W.kitAny K (.type T) [.type "list", .type "tuple"] = some false ∧ PySem.W.kitAny K (.type T) [.type "int", .type "list", .type "tuple"] = some (T == "int" || T == "bool") ∧
    PySem.W.kitOne K (.type T) (.type "int") = some (T == "int" || T == "bool") ∧ PySem.W.kitOne K (.type T) (.type "bool") = some (T == "bool") := by
  have z : ∀ T ∈ leafTy, kitB T "list" = some false ∧ kitB T "tuple" = some false ∧ kitB T "int" = some (T == "int" || T == "bool") ∧ kitB T "bool" = some (T == "bool") := by decide +kernel
  obtain ⟨h1, h2, h3, h4⟩ := z T h
  have lt : PySem.W.kitAny K (.type T) [.type "list", .type "tuple"] = some false := kitAny_cons (kit_ty h1) (fun _ => kitAny_cons (kit_ty h2) (fun _ => kitAny_nil) fun z => by cases z) fun z => by cases z
  refine ⟨lt, kitAny_cons (kit_ty h3) (fun e => ?_) (fun e => e), kit_ty h3, kit_ty h4⟩
  rw [e]
  exact lt
theorem c_same0 {f : Addr} {fd : FuncData} (F : Def K mg "_law_same" sSame f fd) (b : Binds K fd ["_law_found", "_law_due"] []) (T : Blt2 mg) : Cal P w K mg base 1 "_law_same" spSame0 [] := by
  refine cal0 F b .nil scSame (fun vs H Q E h => ?_) (fun cdv A outer s H vs Q E hr h => ?_)
  · obtain ⟨x, rfl, _⟩ := h
    rfl
  · obtain ⟨x, rfl, hx, k⟩ := h
    have hu : (A.deeper (envOfC "_law_same" (fnScope sSame) s.heap.objs.size f cdv)).units + 64 < cLine := by have := hr.un; omega
    refine ⟨_, pss_cons (ps_if (pt_val (pe_callB call_isiT (by rfl) T.isi (by decide +kernel) (pa_cons (pv 1) (pa_cons (pe_tup (pa_cons (pe_bt "list" T.list) (pa_cons (pe_bt "tuple" T.tup) pa_nil))) pa_nil)))) pss_never pss_nil)
      (pss_cons (ps_if (pt_val (pe_callB call_isi (by rfl) T.isi (by decide +kernel) (pa_cons (pv 1) (pa_cons (pe_bt "int" T.int) pa_nil))))
          (pss_one (ps_ret (pe_and (pe_callB call_isi (by rfl) T.isi (by decide +kernel) (pa_cons (pv 0) (pa_cons (pe_bt "int" T.int) pa_nil)))
            (pe_and (pe_cmpR op_eq (pe_callB call_isi (by rfl) T.isi (by decide +kernel) (pa_cons (pv 0) (pa_cons (pe_bt "bool" T.boo) pa_nil))) (pe_callB call_isi (by rfl) T.isi (by decide +kernel) (pa_cons (pv 1) (pa_cons (pe_bt "bool" T.boo) pa_nil))) (nomark _))
              (pe_one (pe_cmpR op_eq (pv 0) (pv 1) (nomark _))))))) pss_nil)
      (pss_one (ps_ret (pe_and (pe_cmpR op_isBl (pe_callB call_isiT (by rfl) T.isi (by decide +kernel) (pa_cons (pv 0) (pa_cons (pe_tup (pa_cons (pe_bt "int" T.int) (pa_cons (pe_bt "list" T.list) (pa_cons (pe_bt "tuple" T.tup) pa_nil)))) pa_nil))) pe_bl (nomark _))
        (pe_one (pe_cmpR (op_eq.or (op_eqV hu)) (pv 0) (pv 1) (nomark _))))))), ?_⟩
    obtain ⟨Ty, hT, ty, hs⟩ := leaf_ty (K := K) hx
    obtain ⟨k1, k2, k3, k4⟩ := kitLT (K := K) hT
    refine ⟨_, rfl, (by show 2 ≤ sizeLine; decide), fun p np => ⟨x, p, [.ty "list", .ty "tuple"], _, _, false, rfl, upd_same, .cons (.ty _) (.cons (.ty _) .nil), ty _ (same_upd np), k1, false, rfl, iteF ?_⟩⟩
    have s1 : Same H (upd H p (.tup [.ty "list", .ty "tuple"])) := same_upd np
    refine ⟨_, rfl, x, .ty "int", _, _, _, rfl, .ty _, ty _ s1, k3, _, rfl, ite2 (fun hi => ?_) (fun hi => ?_)⟩
    · have hsc : scal x x = true := by
        rcases hs with z | ⟨z, _⟩
        · exact z
        · rw [z] at hi
          cases hi
      refine ⟨_, rfl, x, .ty "int", _, _, _, rfl, .ty _, ty _ s1, k3, _, rfl, iteBt hi ?_⟩
      refine ⟨_, rfl, x, .ty "bool", _, _, _, rfl, .ty _, ty _ s1, k4, _, rfl, x, .ty "bool", _, _, _, rfl, .ty _, ty _ s1, k4, rfl, _, rfl, iteBt (decide_eq_true rfl) ?_⟩
      refine ⟨_, rfl, _, rfl, hsc, ?_⟩
      rw [decide_eq_true rfl]
      exact k _ s1
    · have hi : (Ty == "int" || Ty == "bool") = false := by simpa using hi
      rw [hi] at k2
      refine ⟨_, rfl, (by show 3 ≤ sizeLine; decide), fun p2 np2 => ?_⟩
      have s2 : Same H (upd (upd H p (.tup [.ty "list", .ty "tuple"])) p2 (.tup [.ty "int", .ty "list", .ty "tuple"])) := s1.trans (same_upd np2)
      refine ⟨x, p2, [.ty "int", .ty "list", .ty "tuple"], _, _, false, rfl, upd_same, .cons (.ty _) (.cons (.ty _) (.cons (.ty _) .nil)), ty _ s2, k2, false, false, rfl, rfl, _, rfl, iteBt (decide_eq_true rfl) ?_⟩
      refine ⟨_, rfl, _, rfl, ?_⟩
      rcases hs with hsc | ⟨_, a, kvs, rfl, e, dk⟩
      · refine .inl ⟨hsc, ?_⟩
        rw [decide_eq_true rfl]
        exact k _ s2
      · refine .inr ⟨1, by decide, .inr ⟨a, a, kvs, kvs, rfl, rfl, s2 _ _ e, s2 _ _ e, rfl, fun p hp => ⟨p.2, (dk p hp).1, .inl ⟨rfl, (dk p hp).2⟩⟩⟩, k _ s2⟩
end
end K5

namespace K5
open PySem PySem.Spec PyProof.Rows L2 C8
/-! rules of my own: a list beside [], a tuple beside (), xs.extend(tuple), x not in names -/
section
variable {X : Cx}
def rNeNil (K : PySem.W.Frag) : R2 := fun x y H Q => ∃ a b xs, x = .ref a ∧ y = .ref b ∧ SqL K H a xs ∧ SqL K H b [] ∧ Q (.bl (!xs.isEmpty)) H
theorem op_neNil (hu : X.A.units + 64 < cLine) : OpR X (compareOp .NotEq) (rNeNil X.K) := by
  intro pins s σ H x y v u Q I rx ry h
  obtain ⟨a, b, xs, rfl, rfl, ha, hb, q⟩ := h
  cases rx
  cases ry
  obtain ⟨us, r1, p1, _⟩ := I.list ha
  obtain ⟨ws, r2, p2, _⟩ := I.list hb
  cases r2
  have fin : ∀ b : Bool, b = !xs.isEmpty → (EP X pins σ Q) (.bool b) s := fun b e => ⟨.bl b, H, I, rfl, by rw [e]; exact q⟩
  cases r1 with
  | nil => exact SeqAt.RcNeAt.lists (e := fun _ => true) p1.isList p2.isList rfl (by omega) (fun j h1 h2 => absurd h1 (by simp)) _ _ _ _ (fin false rfl)
  | cons r t => exact SeqAt.RcNeAt.lists_lengths p1.isList p2.isList (by simp) (by omega) _ _ _ _ (fin true rfl)
def rEqNilT (K : PySem.W.Frag) : R2 := fun x y H Q => ∃ a b xs, x = .ref a ∧ y = .ref b ∧ SqT K H a xs ∧ SqT K H b [] ∧ Q (.bl xs.isEmpty) H
theorem op_eqNilT (hu : X.A.units + 64 < cLine) : OpR X (compareOp .Eq) (rEqNilT X.K) := by
  intro pins s σ H x y v u Q I rx ry h
  obtain ⟨a, b, xs, rfl, rfl, ha, hb, q⟩ := h
  cases rx
  cases ry
  obtain ⟨us, r1, p1, _⟩ := I.tuple ha
  obtain ⟨ws, r2, p2, _⟩ := I.tuple hb
  cases r2
  have fin : ∀ b : Bool, b = xs.isEmpty → (EP X pins σ Q) (.bool b) s := fun b e => ⟨.bl b, H, I, rfl, by rw [e]; exact q⟩
  refine SeqAt.RcAt.tuples (e := fun _ => true) p1 p2 (by omega) (fun j h1 h2 => absurd h2 (by simp)) _ _ _ _ (fin _ ?_)
  cases r1 with
  | nil => rfl
  | cons r t => simp
theorem extT (l : Addr) (xs : Array Value) (n : Nat) (b : Addr) (ys : Array Value) (m : Nat) (dd : Option Addr) (sl : Array (Option Value)) (h0 : ¬(!xs.isEmpty && Builtin.List.listTooLong (xs.size + ys.size)) = true) (h1 : xs.size ≤ sizeLine) (h2 : xs.size + ys.size ≤ sizeLine + 1) :
    Meets (Builtin.«list.extend» ⟨[.ref l, .ref b], []⟩) (fun _ R s =>
      s.heap.get? l = some { cls := .type "list", dict := none, data := .seq xs n, slots := #[] } ∧
        s.heap.get? b = some { cls := .type "tuple", dict := dd, data := .seq ys m, slots := sl } ∧
          R (.ok (.ret Value.none)) { s with heap := s.heap.update l (Obj.mapSeq fun x => x ++ ys), toks := s.toks }) :=
  .of_wp fun prog w A R s h => by
    obtain ⟨hp, g0, d0, t0, o0⟩ := s
    obtain ⟨kl, kb, h⟩ := h
    have z1 := AutoSeq1.sub_tuple_tuple
    have z2 := AutoSeq1.sub_list_list
    have z3 := AutoSeq1.sub_tuple_list
    have z4 := AutoSeq1.sub_list_tuple
    have z5 : (xs ++ ys).size ≤ sizeLine + 1 := by rw [Array.size_append]; exact h2
    wp_walk using (wpAny_updateSeq kl rfl (hz := h1) (_hz' := z5)), AutoSeq1.wpAny_loadPart' kl, AutoSeq1.wpAny_loadPart' kb
    exact ⟨_, rfl, h⟩
def rExtendT (K : PySem.W.Frag) : V → List V → Hp → VK → Prop := fun x vs H Q => ∃ l b xs zs, x = .ref l ∧ vs = [.ref b] ∧ H l = some (.lst xs) ∧ SqT K H b zs ∧ xs.length + zs.length ≤ sizeLine ∧ Q .non (upd H l (.lst (xs ++ zs)))
theorem mt_extendT : MtM X "list.extend" (rExtendT X.K) := by
  intro pins s σ H x vs v us Q I rx rv h
  obtain ⟨l, b, xs, zs, rfl, rfl, hH, hB, hz, q⟩ := h
  cases rx
  obtain ⟨u, rfl, ru⟩ := rv.one
  cases ru
  obtain ⟨z, its, n, r, hl, e⟩ := I.lstM hH
  obtain ⟨its2, r2, ⟨⟨cls, dd, data, sl⟩, e2, hc, m, hd⟩, _⟩ := I.tuple hB
  simp only at hc hd
  subst hc hd
  have n1 := r.length
  have n2 := r2.length
  have hsz : its.toArray.size + its2.toArray.size ≤ sizeLine := by rw [List.size_toArray, List.size_toArray]; omega
  have hlong : ¬ (!its.toArray.isEmpty && Builtin.List.listTooLong (its.toArray.size + its2.toArray.size)) = true := by
    rw [notLongL hsz, Bool.and_false]
    exact Bool.false_ne_true
  refine call_meets F.slot_list_extend ⟨_, e, rfl⟩ F.entry_list_extend (F.args_list_extend_2 _ _)
    (extT l its.toArray n b its2.toArray m dd sl hlong (by rw [List.size_toArray]; omega) (by omega)) ⟨e, e2, ?_⟩
  refine ⟨.non, _, I.lset (its' := its ++ its2) hH e (by simp) (r.append r2) ?_, rfl, q⟩
  rw [List.length_append]
  omega
/-- x is one of these texts; x flat, a list or a tuple -/
def isOf (x : V) (ls : List Str) : Bool := match x with
  | .str z => ls.any fun y => y == z
  | _ => false
def SeqOf (K : PySem.W.Frag) (H : Hp) (x : V) : Prop := ∃ a xs, x = .ref a ∧ (SqL K H a xs ∨ SqT K H a xs)
def rNotOf (K : PySem.W.Frag) : R2 := fun x y H Q => ∃ p ls, y = .ref p ∧ (SqL K H p (ls.map V.str) ∨ SqT K H p (ls.map V.str)) ∧ (flatV x = true ∨ SeqOf K H x) ∧ Q (.bl (!isOf x ls)) H
theorem isOf_flat {x : V} (h : flatV x = true) (ls : List Str) : inV x (ls.map V.str) = isOf x ls := by
  unfold inV
  rw [List.any_map]
  cases x with
  | str z =>
    show ls.any _ = ls.any _
    congr 1
  | non => exact List.any_eq_false.mpr fun y _ => by simp [eqV]
  | bl b => exact List.any_eq_false.mpr fun y _ => by simp [eqV]
  | int b => exact List.any_eq_false.mpr fun y _ => by simp [eqV]
  | _ => cases h
theorem op_notOf (hu : X.A.units + 64 < cLine) : OpR X (compareOp .NotIn) (rNotOf X.K) := by
  intro pins s σ H x y v u Q I rx ry h
  obtain ⟨p, ls, rfl, hq, hx | ⟨a, xs, rfl, hx⟩, q⟩ := h
  · refine op_notIn_seq pins s σ H x (.ref p) v u Q I rx ry ⟨p, _, rfl, hq, hx, List.all_eq_true.mpr fun y hy => ?_, ?_⟩
    · obtain ⟨z, _, rfl⟩ := List.mem_map.mp hy
      rfl
    · rw [isOf_flat hx]
      exact q
  · cases rx
    cases ry
    have he : ∀ {us : List Value}, Vals (ls.map V.str) us → ∀ w ∈ us, SeqAt.EqAt X.A.in1 s w (.ref a) false := by
      intro us r w hw
      obtain ⟨z, t, rfl⟩ : ∃ z t, w = .str z t := by
        clear hq hx q
        induction ls generalizing us with
        | nil => cases r; cases hw
        | cons z ls ih =>
          cases r with
          | cons r t =>
            rcases List.mem_cons.mp hw with rfl | hw
            · obtain ⟨t, rfl⟩ := r
              exact ⟨z, t, rfl⟩
            · exact ih t hw
      have hu' : X.A.in1.units < cLine := by show X.A.units + 1 < cLine; omega
      rcases hx with hx | hx
      · obtain ⟨_, _, pl, _⟩ := I.list hx
        exact SeqAt.EqAt.str_list z t pl.isList hu'
      · obtain ⟨_, _, pl, _⟩ := I.tuple hx
        exact SeqAt.EqAt.str_tuple z t pl hu'
    have no : ∀ us : List Value, (us.toArray.any fun _ => false) = false := fun us => by simp
    rcases hq with hq | hq
    · obtain ⟨its, r, pl, hz⟩ := I.list hq
      refine SeqAt.notIn_listAt (fun _ => false) pl.isList (fun w hw => he r w (by simpa using hw)) ⟨.bl _, H, I, rfl, ?_⟩
      rw [no]
      exact q
    · obtain ⟨its, r, pl, hz⟩ := I.tuple hq
      refine SeqAt.notIn_tupleAt (fun _ => false) pl (fun w hw => he r w (by simpa using hw)) ⟨.bl _, H, I, rfl, ?_⟩
      rw [no]
      exact q
end
end K5

namespace K5
open PySem PySem.Spec PyProof.Rows L2 C8
abbrev sMix : Stmt := top 22
abbrev sWords : Stmt := top 24
theorem StAt.mono {B B' : Nat} {H : Hp} {a l : Addr} (h : B ≤ B') (s : StAt B H a l) : StAt B' H a l := by
  obtain ⟨ns, i, c, h0, n, e1, e2, r1, r2, r3, r4, r5, r6, r7⟩ := s
  exact ⟨ns, i, c, h0, n, e1, e2, r1, r2, r3, r4, r5, by omega, r7⟩
theorem StAt.keeps {B : Nat} {H H' : Hp} {a l : Addr} (h : StAt B H a l) (s : ∀ o, H a = some o → H' a = some o) (s' : ∀ o, H l = some o → H' l = some o) : StAt B H' a l := by
  obtain ⟨ns, i, c, h0, n, e1, e2, r⟩ := h
  exact ⟨ns, i, c, h0, n, s _ e1, s' _ e2, r⟩
theorem StAt.same {B : Nat} {H H' : Hp} {a l : Addr} (s : Same H H') (h : StAt B H a l) : StAt B H' a l := h.keeps (s _) (s _)
theorem StAt.put {B : Nat} {H : Hp} {a l p : Addr} {o : HO} (h : StAt B H a l) (h1 : p ≠ a) (h2 : p ≠ l) : StAt B (upd H p o) a l := h.keeps (fun _ e => by rw [upd_ne h1.symm]; exact e) fun _ e => by rw [upd_ne h2.symm]; exact e
theorem StAt.st {B : Nat} {H : Hp} {a l : Addr} (h : StAt B H a l) : ∃ o, H a = some o := by
  obtain ⟨ns, i, c, h0, n, e1, _⟩ := h
  exact ⟨_, e1⟩
theorem StAt.cl {B : Nat} {H : Hp} {a l : Addr} (h : StAt B H a l) : ∃ o, H l = some o := by
  obtain ⟨ns, i, c, h0, n, e1, e2, _⟩ := h
  exact ⟨_, e2⟩
theorem StAt.new {B : Nat} {H : Hp} {a l p : Addr} (h : StAt B H a l) (n : H p = none) : p ≠ a ∧ p ≠ l := by
  obtain ⟨o, e1⟩ := h.st
  obtain ⟨o', e2⟩ := h.cl
  exact ⟨(ne_of_none e1 n).symm, (ne_of_none e2 n).symm⟩
theorem But.refl {a : Addr} {H : Hp} : But a H H := fun _ _ e _ => e
theorem But.trans {a : Addr} {H H' H'' : Hp} (h : But a H H') (h' : But a H' H'') : But a H H'' := fun b o e n => h' b o (h b o e n) n
theorem Same.but {a : Addr} {H H' : Hp} (h : Same H H') : But a H H' := fun b o e _ => h b o e
theorem But.upd {a p : Addr} {o : HO} {H H' : Hp} (h : But a H H') (hp : H p = none) : But a H (upd H' p o) := fun b u e n => by
  rw [upd_ne (ne_of_none e hp)]
  exact h b u e n
theorem perm_erase : ∀ {xs : List V} {k : Nat} (h : k < xs.length), (xs[k] :: xs.eraseIdx k).Perm xs
  | x :: xs, 0, _ => List.Perm.refl _
  | x :: xs, k + 1, h => (List.Perm.swap _ _ _).trans ((perm_erase (xs := xs) (k := k) (Nat.lt_of_succ_lt_succ h)).cons x)
def spMix : Sp := fun vs H Q _ => ∃ (st th : Addr) (xs : List V) (B : Nat) (cl : Addr), vs = [.ref st, .ref th] ∧ H th = some (.lst xs) ∧ xs.length ≤ 1000 ∧ StAt B H st cl ∧ B + xs.length < 1000000000000000 ∧
  ∀ (l : Addr) (ys : List V) (H' : Hp), H l = none → ys.Perm xs → H' l = some (.lst ys) → StAt (B + xs.length) H' st cl → But st H H' → Q (.ref l) H'
abbrev NMix : List Str := ["_law_state", "_law_things", "_law_left", "_law_found"]
theorem scMix : FnScope NMix ["_law_state", "_law_things"] (fnScope sMix) := fnScope_by (by decide +kernel)
section
variable {P : Program} {w : World} {K : PySem.W.Frag} {mg : Str → Option Value} {base : Heap}
theorem c_mix {f : Addr} {fd : FuncData} (F : Def K mg "_law_mix" sMix f fd) (b : Binds K fd ["_law_state", "_law_things"] []) (T : Blt mg) (C : Cal P w K mg base 1 "_law_take" spTake []) : Cal P w K mg base 2 "_law_mix" spMix [] := by
  refine cal0 F b .nil scMix (fun vs H Q E h => ?_) (fun cdv A outer s H vs Q E hr h => ?_)
  · obtain ⟨st, th, xs, B, cl, rfl, _⟩ := h
    rfl
  · obtain ⟨st, th, xs, B, cl, rfl, hx, l1, hst, hB, k⟩ := h
    have nd := scMix.nd
    have hu : (A.deeper (envOfC "_law_mix" (fnScope sMix) s.heap.objs.size f cdv)).units + 64 < cLine := by have := hr.un; omega
    refine ⟨_, pss_cons (ps_par (i := 2) (j := 3) rfl nd rfl rfl (by decide) rfl rfl (pa_cons (pe_callTy call_list_of (by rfl) T.list (by decide +kernel) (pa_cons (pv 1) pa_nil)) (pa_cons (pe_lst pa_nil) pa_nil)) (by rfl))
      (pss_cons (ps_while PassesOwn.never (pt_cmpR (op_neNil hu) (pv 2) (pe_lst pa_nil) (nomark _))
        (pss_one (ps_expr (pe_bm PySem.F.plainAttrs_list PySem.F.slot_list_append PySem.F.type_list_append mt_append (pv 3) (pa_cons
          (pe_bm PySem.F.plainAttrs_list PySem.F.slot_list_pop PySem.F.type_list_pop mt_popAt (pv 2) (pa_cons (pe_c C hr (Nat.le_refl _) (by rfl) (pa_cons (pv 0) (pa_cons (pe_callB call_len_seq (by rfl) T.len PySem.boot_len (pa_cons (pv 2) pa_nil)) pa_nil))) pa_nil)) pa_nil)))))
      (pss_one (ps_ret (pv 3)))), ?_⟩
    refine ⟨_, rfl, th, xs, rfl, .inl (SqL.of hx), fun L nL => ⟨(by show 0 ≤ sizeLine; decide), fun Fd nF => ⟨_, _, rfl, ?_⟩⟩⟩
    have nLF : L ≠ Fd := ne_of_none upd_same nF
    have nF : H Fd = none := by rw [upd_ne nLF.symm] at nF; exact nF
    obtain ⟨La, Lc⟩ := hst.new nL
    obtain ⟨Fa, Fc⟩ := hst.new nF
    let Iv : Nat → L2.St → Hp → Prop := fun m σ H' => ∃ xl yf : List V, xl.length = m ∧ σ = [some (.ref st), some (.ref th), some (.ref L), some (.ref Fd)] ∧ H' L = some (.lst xl) ∧ H' Fd = some (.lst yf) ∧ (xl ++ yf).Perm xs ∧ StAt (B + yf.length) H' st cl ∧ But st H H'
    refine ⟨Iv, ⟨xs.length, xs, [], rfl, rfl, by rw [upd_ne nLF, upd_same], upd_same, by simp, (hst.put La Lc).put Fa Fc, (Same.but fun b o e => ?_)⟩, ?_⟩
    · rw [upd_ne (ne_of_none e nF), upd_ne (ne_of_none e nL)]
      exact e
    rintro m σ H1 ⟨xl, yf, rfl, rfl, hL, hF, hp, hs1, hb1⟩
    have hlen := hp.length_eq
    rw [List.length_append] at hlen
    refine ⟨_, rfl, (by show 0 ≤ sizeLine; decide), fun p np => ⟨L, p, xl, rfl, rfl, SqL.of (by rw [upd_ne (ne_of_none hL np)]; exact hL), SqL.of upd_same, _, rfl, ?_⟩⟩
    have pL := ne_of_none hL np
    have pF := ne_of_none hF np
    obtain ⟨pa, pc⟩ := hs1.new np
    have hs2 : StAt (B + yf.length) (upd H1 p (.lst [])) st cl := hs1.put pa pc
    have hb2 : But st H (upd H1 p (.lst [])) := hb1.trans (Same.but fun b o e => by rw [upd_ne (ne_of_none e np)]; exact e)
    have hL2 : (upd H1 p (.lst [])) L = some (.lst xl) := by rw [upd_ne pL]; exact hL
    have hF2 : (upd H1 p (.lst [])) Fd = some (.lst yf) := by rw [upd_ne pF]; exact hF
    generalize upd H1 p (.lst []) = H2 at hs2 hb2 hL2 hF2
    cases hxl : xl with
    | nil =>
      subst hxl
      refine iteBf rfl ⟨_, rfl, ?_⟩
      exact k Fd yf H2 nF hp hF2 (hs2.mono (by simp at hlen; omega)) hb2
    | cons x0 xt =>
      rw [← hxl]
      have hpos : 0 < xl.length := by rw [hxl]; exact Nat.succ_pos _
      refine iteBt (by rw [hxl]; rfl) ?_
      refine ⟨Iv (xl.length - 1), fun σ' H' hI => ⟨_, by omega, hI⟩, ?_⟩
      refine ⟨_, rfl, .inl ⟨rfl, _, SqL.of hF2⟩, _, rfl, .inl ⟨rfl, _, SqL.of hL2⟩, _, rfl, _, rfl, L, xl, rfl, .inl (SqL.of hL2), ?_⟩
      refine ⟨st, xl.length, B + yf.length, cl, rfl, by omega, by omega, hs2, by omega, fun d H3 d0 d1 hs3 hb3 => ?_⟩
      have hL3 := hb3 _ _ hL2 La
      have hF3 := hb3 _ _ hF2 Fa
      have hd : d.toNat < xl.length := by omega
      refine ⟨L, xl, d, d.toNat, xl[d.toNat], rfl, rfl, hL3, by omega, by omega, seqIndex_of d0 d1, by simp [hd], ?_⟩
      have hF4 : (upd H3 L (.lst (xl.eraseIdx d.toNat))) Fd = some (.lst yf) := by rw [upd_ne nLF.symm]; exact hF3
      refine ⟨Fd, yf, _, rfl, rfl, hF4, by rw [sizeLine_eq]; omega, ?_⟩
      refine ⟨_, _, ?_, rfl, by rw [upd_ne nLF, upd_same], upd_same, ?_, ?_, ?_⟩
      · rw [List.length_eraseIdx, if_pos hd]
      · refine List.Perm.trans ?_ hp
        rw [← List.append_assoc]
        refine (List.perm_append_comm).trans ?_
        rw [← List.append_assoc]
        refine List.Perm.append_right _ ?_
        exact perm_erase hd
      · rw [List.length_append]
        exact ((hs3.put La Lc).put Fa Fc)
      · exact ((hb2.trans hb3).upd nL).upd nF
end
end K5

namespace K5
open PySem PySem.Spec PyProof.Rows L2 C8
abbrev sRows : Stmt := top 25
def menu : List Str := ["a", "b", "f", "g", "one", "neg", "add", "x", "y", "zz", "abcdefgh", "above", "bar", "kind"]
def spWords : Sp := fun vs H Q _ => ∃ (st : Addr) (n : Int) (B : Nat) (cl : Addr), vs = [.ref st, .int n] ∧ 0 ≤ n ∧ n ≤ 14 ∧ StAt B H st cl ∧ B + 14 < 1000000000000000 ∧
  ∀ (l : Addr) (ws : List Str) (H' : Hp), H l = none → H' l = some (.lst (ws.map V.str)) → ws.length = n.toNat → ws.Nodup → (∀ z ∈ ws, z ∈ menu) → StAt (B + 14) H' st cl → But st H H' → Q (.ref l) H'
theorem scWords : FnScope ["_law_state", "_law_many_here", "_law_some"] ["_law_state", "_law_many_here"] (fnScope sWords) := fnScope_by (by decide +kernel)
theorem cutTo {xs : List V} {n : Int} (h : 0 ≤ n) : cutV xs none (some n) = xs.take n.toNat := by
  unfold cutV HT.sIx
  dsimp only
  rw [if_neg (by omega), List.drop_zero, Nat.sub_zero]
  by_cases hl : n.toNat ≤ xs.length
  · rw [Nat.min_eq_left hl]
  · rw [Nat.min_eq_right (by omega), List.take_of_length_le (Nat.le_refl _), List.take_of_length_le (by omega)]
theorem cutFrom {xs : List V} {n : Int} (h : 0 ≤ n) : cutV xs (some n) none = xs.drop n.toNat := by
  unfold cutV HT.sIx
  dsimp only
  rw [if_neg (by omega)]
  by_cases hl : n.toNat ≤ xs.length
  · rw [Nat.min_eq_left hl, List.take_of_length_le (by rw [List.length_drop]; omega)]
  · rw [Nat.min_eq_right (by omega), List.drop_eq_nil_of_le (Nat.le_refl _), List.drop_eq_nil_of_le (by omega), List.take_nil]
theorem unmap {α : Type} {f : α → V} {g : V → α} (hg : ∀ a, g (f a) = a) {ys : List V} {xs : List α} (h : ys.Perm (xs.map f)) : ∃ zs : List α, ys = zs.map f ∧ zs.Perm xs := by
  have back : ∀ l : List α, (l.map f).map g = l := fun l => by
    rw [List.map_map]
    induction l with
    | nil => rfl
    | cons a l ih => rw [List.map_cons, ih]; exact congrArg (· :: l) (hg a)
  refine ⟨ys.map g, ?_, by have := h.map g; rw [back] at this; exact this⟩
  rw [List.map_map]
  have m : ∀ y ∈ ys, f (g y) = y := fun y hy => by
    obtain ⟨z, _, e⟩ := List.mem_map.mp (h.subset hy)
    rw [← e, hg]
  clear h
  induction ys with
  | nil => rfl
  | cons y ys ih =>
    rw [List.map_cons, ← ih fun y' hy' => m y' (List.mem_cons_of_mem _ hy')]
    exact congrArg (· :: ys) (m y List.mem_cons_self).symm
def strOf : V → Str
  | .str z => z
  | _ => ""
/-- what was not there isn't there: at an address that is free behind -/
theorem But.free {H H' : Hp} {st p : Addr} (h : But st H H') (n : H' p = none) (ne : p ≠ st) : H p = none := by
  cases e : H p with
  | none => rfl
  | some o =>
    have := h p o e ne
    rw [n] at this
    cases this
theorem same_free {H H' : Hp} {p : Addr} (h : Same H H') (n : H' p = none) : H p = none := by
  cases e : H p with
  | none => rfl
  | some o =>
    have := h p o e
    rw [n] at this
    cases this
section
variable {P : Program} {w : World} {K : PySem.W.Frag} {mg : Str → Option Value} {base : Heap}
theorem c_words {f : Addr} {fd : FuncData} (F : Def K mg "_law_words" sWords f fd) (b : Binds K fd ["_law_state", "_law_many_here"] []) (T : Blt mg) (C : Cal P w K mg base 2 "_law_mix" spMix []) : Cal P w K mg base 3 "_law_words" spWords [] := by
  refine cal0 F b .nil scWords (fun vs H Q E h => ?_) (fun cdv A outer s H vs Q E hr h => ?_)
  · obtain ⟨st, n, B, cl, rfl, _⟩ := h
    rfl
  · obtain ⟨st, n, B, cl, rfl, n0, n1, hst, hB, k⟩ := h
    have nd := scWords.nd
    refine ⟨_, pss_cons (ps_set (i := 2) nd rfl (Or.inl rfl) (pe_lst (pa_cons pe_str (pa_cons pe_str (pa_cons pe_str (pa_cons pe_str (pa_cons pe_str (pa_cons pe_str (pa_cons pe_str (pa_cons pe_str (pa_cons pe_str (pa_cons pe_str (pa_cons pe_str (pa_cons pe_str (pa_cons pe_str (pa_cons pe_str pa_nil))))))))))))))))
      (pss_one (ps_ret (pe_slice sl_list (pe_c C hr (Nat.le_refl _) (by rfl) (pa_cons (pv 0) (pa_cons (pv 2) pa_nil))) po_none (po_some (pv 1))))), ?_⟩
    refine ⟨(by show 14 ≤ sizeLine; decide), fun m nm => ?_⟩
    obtain ⟨ma, mc⟩ := hst.new nm
    refine ⟨_, rfl, _, rfl, st, m, menu.map V.str, B, cl, rfl, upd_same, by decide, hst.put ma mc, hB, fun L ys H1 nL hp hL hs hb => ?_⟩
    obtain ⟨zs, rfl, hz⟩ := unmap (g := strOf) (fun _ => rfl) hp
    refine ⟨_, rfl, n, rfl, L, _, rfl, SqL.of hL, fun p np => ?_⟩
    rw [cutTo n0, ← List.map_take]
    obtain ⟨pa, pc⟩ := hs.new np
    have npH : H p = none := same_free (same_upd nm) (hb.free np pa)
    refine k p _ _ npH upd_same ?_ ((hz.symm.nodup (by decide +kernel)).sublist (List.take_sublist _ _)) (fun z hm => hz.subset (List.mem_of_mem_take hm)) (hs.put pa pc) ?_
    · rw [List.length_take, hz.length_eq]
      show min n.toNat 14 = n.toNat
      omega
    · exact (Same.but (same_upd nm)).trans (hb.trans (Same.but (same_upd np)))
end
end K5

namespace K5
open PySem PySem.Spec PyProof.Rows L2 C8
theorem lc_gen {J : It} {g : TG} {tt : TT} {te : TE} {vs : List Nat} {σ : L2.St} {H1 : Hp} {D : Addr} {Qd : Hp → Prop} (n : Nat) (Pv : Nat → Hp → Prop) (h0 : Pv 0 (upd H1 D (.lst []))) (hgo : ∀ i H, i < n → Pv i H → J.go i H) (hst : ∀ H, Pv n H → J.stop n H)
    (hs : ∀ i H x H', i < n → Pv i H → J.yld i H x H' → g x (wipe σ vs) H' fun σ2 H2 => wipe σ2 vs = wipe σ vs ∧ tt σ2 H2 fun b H3 =>
      if b = true then te σ2 H3 fun y H4 => ∃ acc, H4 D = some (.lst acc) ∧ acc.length < sizeLine ∧ Pv (i + 1) (upd H4 D (.lst (acc ++ [y]))) else Pv (i + 1) H3) (hd : ∀ H, Pv n H → Qd H) :
    ∃ W : Nat → Nat → Hp → Prop, (∃ m, W 0 m (upd H1 D (.lst []))) ∧ ∀ i m H, W i m H →
      (J.stop i H ∧ Qd H) ∨ (J.go i H ∧ ∃ Nx : Hp → Prop, (∀ H', Nx H' → ∃ m', m' < m ∧ W (i + 1) m' H') ∧ ∀ x H', J.yld i H x H' → g x (wipe σ vs) H' fun σ2 H2 => wipe σ2 vs = wipe σ vs ∧ tt σ2 H2 fun b H3 =>
        if b = true then te σ2 H3 fun y H4 => ∃ acc, H4 D = some (.lst acc) ∧ acc.length < sizeLine ∧ Nx (upd H4 D (.lst (acc ++ [y]))) else Nx H3) := by
  refine ⟨fun i m H => m + i = n ∧ Pv i H, ⟨n, rfl, h0⟩, ?_⟩
  rintro i m H ⟨hm, p⟩
  by_cases hi : i < n
  · exact .inr ⟨hgo i H hi p, Pv (i + 1), fun H' p' => ⟨m - 1, by omega, by omega, p'⟩, fun x H' y => hs i H x H' hi p y⟩
  · obtain rfl : i = n := by omega
    exact .inl ⟨hst H p, hd H p⟩
theorem for_gen {J : It} {g : TG} {tb : TS} {D : Ends} {σ : L2.St} {H : Hp} (n : Nat) (Pv : Nat → L2.St → Hp → Prop) (h0 : Pv 0 σ H) (hgo : ∀ i σ H, i < n → Pv i σ H → J.go i H) (hst : ∀ σ H, Pv n σ H → J.stop n H)
    (hs : ∀ i σ H x H', i < n → Pv i σ H → J.yld i H x H' → g x σ H' fun σ2 H2 => tb { D with nx := Pv (i + 1), ct := Pv (i + 1), bk := D.nx } σ2 H2) (hd : ∀ σ H, Pv n σ H → D.nx σ H) :
    ∃ W : Nat → Nat → L2.St → Hp → Prop, (∃ m, W 0 m σ H) ∧ ∀ i m σ H, W i m σ H →
      (J.stop i H ∧ D.nx σ H) ∨ (J.go i H ∧ ∃ N : L2.St → Hp → Prop, (∀ σ' H', N σ' H' → ∃ m', m' < m ∧ W (i + 1) m' σ' H') ∧ ∀ x H', J.yld i H x H' → g x σ H' fun σ2 H2 => tb { D with nx := N, ct := N, bk := D.nx } σ2 H2) := by
  refine ⟨fun i m σ H => m + i = n ∧ Pv i σ H, ⟨n, rfl, h0⟩, ?_⟩
  rintro i m σ H ⟨hm, p⟩
  by_cases hi : i < n
  · exact .inr ⟨hgo i σ H hi p, Pv (i + 1), fun σ' H' p' => ⟨m - 1, by omega, by omega, p'⟩, fun x H' y => hs i σ H x H' hi p y⟩
  · obtain rfl : i = n := by omega
    exact .inl ⟨hst σ H p, hd σ H p⟩
structure Blt4 (mg : Str → Option Value) : Prop extends Blt2 mg where
  ran : mg "range" = none
  enu : mg "enumerate" = none
  str : mg "str" = none
  dic : mg "dict" = none
/-- a row of a language -/
abbrev Rw := Str × Int
def RowV (H : Hp) (v : V) (r : Rw) : Prop := ∃ t, v = .ref t ∧ H t = some (.tup [.str r.1, .int r.2])
def RowsAt (H : Hp) (l : Addr) (rs : List Rw) : Prop := ∃ vs, H l = some (.lst vs) ∧ Paired (RowV H) vs rs
structure RowsOk (rs : List Rw) : Prop where
  len : rs.length ≤ 14
  nd : (rs.map (·.1)).Nodup
  mem : ∀ r ∈ rs, r.1 ∈ menu ∧ 0 ≤ r.2 ∧ r.2 ≤ 2
  leaf : ∃ r ∈ rs, r.2 = 0
theorem RowV.but {B : Nat} {H H' : Hp} {st cl : Addr} (hs : StAt B H st cl) (hb : But st H H') {v : V} {r : Rw} (h : RowV H v r) : RowV H' v r := by
  obtain ⟨t, e, q⟩ := h
  obtain ⟨ns, i, c, h0, n, e1, _⟩ := hs
  exact ⟨t, e, hb _ _ q (ne_of q e1 (by intro z; cases z))⟩
theorem RowV.same {H H' : Hp} (s : Same H H') {v : V} {r : Rw} (h : RowV H v r) : RowV H' v r := by
  obtain ⟨t, e, q⟩ := h
  exact ⟨t, e, s _ _ q⟩
theorem RowsAt.but {B : Nat} {H H' : Hp} {st cl l : Addr} (hs : StAt B H st cl) (hb : But st H H') {rs : List Rw} (h : RowsAt H l rs) : RowsAt H' l rs := by
  obtain ⟨vs, e, p⟩ := h
  refine ⟨vs, hb _ _ e (fun z => ?_), Paired.mono (fun _ _ q => q.but hs hb) p⟩
  obtain ⟨ns, i, c, h0, n, e1, _⟩ := hs
  rw [z, e1] at e
  cases e
  cases p with
  | cons _ p =>
    cases p with
    | cons q _ =>
      obtain ⟨t, z, _⟩ := q
      cases z
theorem RowsAt.same {H H' : Hp} {l : Addr} (s : Same H H') {rs : List Rw} (h : RowsAt H l rs) : RowsAt H' l rs := by
  obtain ⟨vs, e, p⟩ := h
  exact ⟨vs, s _ _ e, Paired.mono (fun _ _ q => q.same s) p⟩
theorem paired_perm {α β : Type} {R : α → β → Prop} {ys xs : List α} (h : ys.Perm xs) : ∀ {rs : List β}, Paired R xs rs → ∃ ps : List β, ps.Perm rs ∧ Paired R ys ps := by
  induction h with
  | nil => intro rs p; exact ⟨rs, .refl _, p⟩
  | cons a _ ih =>
    intro rs p
    cases p with
    | cons q t =>
      obtain ⟨ps, e, p'⟩ := ih t
      exact ⟨_ :: ps, e.cons _, .cons q p'⟩
  | swap a b l =>
    intro rs p
    cases p with
    | cons q t =>
      cases t with
      | cons q' t =>
        exact ⟨_ :: _ :: _, .swap _ _ _, .cons q' (.cons q t)⟩
  | trans _ _ ih1 ih2 =>
    intro rs p
    obtain ⟨ps, e, p'⟩ := ih2 p
    obtain ⟨qs, e', p''⟩ := ih1 p'
    exact ⟨qs, e'.trans e, p''⟩
theorem RowsOk.perm {rs ps : List Rw} (h : RowsOk rs) (p : ps.Perm rs) : RowsOk ps where
  len := by rw [p.length_eq]; exact h.len
  nd := (p.map _).nodup_iff.mpr h.nd
  mem := fun r hr => h.mem r (p.subset hr)
  leaf := by
    obtain ⟨r, hr, e⟩ := h.leaf
    exact ⟨r, p.symm.subset hr, e⟩
def spRows : Sp := fun vs H Q _ => ∃ (st : Addr) (m : Int) (B : Nat) (cl : Addr), vs = [.ref st, .int m] ∧ 1 ≤ m ∧ m ≤ 13 ∧ StAt B H st cl ∧ B + 50 < 1000000000000000 ∧
  ∀ (l : Addr) (rs : List Rw) (H' : Hp), H l = none → RowsAt H' l rs → RowsOk rs → StAt (B + 50) H' st cl → But st H H' → Q (.ref l) H'
abbrev NRows : List Str := ["_law_state", "_law_most", "_law_words_here", "_law_found", "_law_many_here", "_law_k", "_law_word"]
theorem scRows : FnScope NRows ["_law_state", "_law_most"] (fnScope sRows) := fnScope_by (by decide +kernel)
section
variable {P : Program} {w : World} {K : PySem.W.Frag} {mg : Str → Option Value} {base : Heap}
theorem c_rows {f : Addr} {fd : FuncData} (F : Def K mg "_law_rows" sRows f fd) (b : Binds K fd ["_law_state", "_law_most"] []) (T : Blt4 mg) (C : Cal P w K mg base 1 "_law_take" spTake []) (CM : Cal P w K mg base 2 "_law_mix" spMix []) (CW : Cal P w K mg base 3 "_law_words" spWords []) : Cal P w K mg base 4 "_law_rows" spRows [] := by
  refine cal0 F b .nil scRows (fun vs H Q E h => ?_) (fun cdv A outer s H vs Q E hr h => ?_)
  · obtain ⟨st, m, B, cl, rfl, _⟩ := h
    rfl
  · obtain ⟨st, m, B, cl, rfl, m0, m1, hst, hB, k⟩ := h
    have nd := scRows.nd
    refine ⟨_, pss_cons (ps_set (i := 2) nd rfl (by first | exact Or.inl rfl | exact Or.inr rfl) (pe_c CW hr (by decide) (by rfl) (pa_cons (pv 0) (pa_cons (pe_op op_add pe_int (pe_c C hr (by decide) (by rfl) (pa_cons (pv 0) (pa_cons (pv 1) pa_nil)))) pa_nil))))
      (pss_cons (ps_set (i := 3) nd rfl (Or.inl rfl) (pe_lst (pa_cons (pe_tup (pa_cons (pe_ix ix_list (pv 2) pe_int fun _ _ => rfl) (pa_cons pe_int pa_nil))) pa_nil)))
      (pss_cut (ps_setLc (i := 4) (own := [("_law_k", 5)]) (g := gName 5) (tt := tYes) rfl nd rfl rfl (by rfl) (pi_list (pe_slice sl_list (pv 2) (po_some pe_int) po_none)) (blkOk_by (N := NRows) (sc := fnScope sRows) (by decide +kernel)) (fun _ _ _ _ _ => pg_name (i := 5) nd rfl (Or.inl rfl)) (fun _ _ _ _ _ => pts_nil)
          (fun _ _ _ _ _ => pe_c C hr (by decide) (by rfl) (pa_cons (pv 0) (pa_cons pe_int pa_nil))))
      (pss_cut (ps_for PassesOwn.never rfl (pi_enum (by rfl) T.enu (pa_cons (pe_slice sl_list (pv 2) (po_some pe_int) po_none) pa_nil)) (pg_tup rfl (pgs_cons (pg_name (i := 5) nd rfl (Or.inl rfl)) (pgs_cons (pg_name (i := 6) nd rfl (Or.inl rfl)) pgs_nil)))
          (pss_one (ps_expr (pe_bm PySem.F.plainAttrs_list PySem.F.slot_list_append PySem.F.type_list_append mt_append (pv 3) (pa_cons (pe_tup (pa_cons (pv 6) (pa_cons
            (pe_ifExp (pw_or (pt_cmp (pc_lt (pe_ix ix_list (pv 4) (pv 5) fun _ _ => rfl) pe_int)) (pw_or1 (pt_cmpR op_notIn_seq pe_int (pe_slice sl_list (pv 4) po_none (po_some (pv 5))) (by rfl)))).pt
              (pe_ix ix_list (pv 4) (pv 5) fun _ _ => rfl) pe_int) pa_nil))) pa_nil)))))
      (pss_one (ps_ret (pe_c CM hr (by decide) (by rfl) (pa_cons (pv 0) (pa_cons (pv 3) pa_nil)))))))), ?_⟩
    refine ⟨_, rfl, _, rfl, _, rfl, st, m, B, cl, rfl, by omega, by omega, hst, by omega, fun d H1 d0 d1 hs1 hb1 => ⟨1, d, rfl, rfl, st, 1 + d, B + 1, cl, rfl, by omega, by omega, hs1, by omega, fun wl ws H2 nwl hwl hwn hwd hwm hs2 hb2 => ?_⟩⟩
    obtain ⟨w0, wr, rfl⟩ : ∃ w0 wr, ws = w0 :: wr := by
      cases ws with
      | nil => simp at hwn; omega
      | cons a t => exact ⟨a, t, rfl⟩
    obtain ⟨wa, wc⟩ := hs1.new nwl
    have nwlH : H wl = none := hb1.free nwl wa
    have hwr : wr.length ≤ 13 := by rw [List.length_cons] at hwn; omega
    refine ⟨_, rfl, wl, _, 0, .str w0, rfl, rfl, SqL.of hwl, at_of (j := 0) (by omega) rfl, (by show 2 ≤ sizeLine; decide), fun t0 nt0 => ⟨(by show 1 ≤ sizeLine; decide), fun fd nfd => ?_⟩⟩
    obtain ⟨ta, tc⟩ := hs2.new nt0
    have e1 : H2 fd = none := by rw [upd_ne (ne_of_none upd_same nfd).symm] at nfd; exact nfd
    have fdt : fd ≠ t0 := (ne_of_none upd_same nfd).symm
    obtain ⟨fa, fc⟩ := hs2.new e1
    have fwl : fd ≠ wl := (ne_of_none hwl e1).symm
    have twl : t0 ≠ wl := (ne_of_none hwl nt0).symm
    have nfdH : H fd = none := hb1.free (hb2.free e1 fa) fa
    have ntH : H t0 = none := hb1.free (hb2.free nt0 ta) ta
    have hb3 : But st H (upd (upd H2 t0 (.tup [.str w0, .int 0])) fd (.lst [.ref t0])) := ((hb1.trans hb2).upd ntH).upd nfdH
    have hs3 : StAt (B + 1 + 14) (upd (upd H2 t0 (.tup [.str w0, .int 0])) fd (.lst [.ref t0])) st cl := (hs2.put ta tc).put fa fc
    have h3w : (upd (upd H2 t0 (.tup [.str w0, .int 0])) fd (.lst [.ref t0])) wl = some (.lst ((w0 :: wr).map V.str)) := by rw [upd_ne fwl.symm, upd_ne twl.symm]; exact hwl
    have h3f : (upd (upd H2 t0 (.tup [.str w0, .int 0])) fd (.lst [.ref t0])) fd = some (.lst [.ref t0]) := upd_same
    have h3t : (upd (upd H2 t0 (.tup [.str w0, .int 0])) fd (.lst [.ref t0])) t0 = some (.tup [.str w0, .int 0]) := by rw [upd_ne fdt.symm]; exact upd_same
    generalize upd (upd H2 t0 (.tup [.str w0, .int 0])) fd (.lst [.ref t0]) = H3 at hb3 hs3 h3w h3f h3t
    have drop1 : ((w0 :: wr).map V.str).drop (1 : Int).toNat = wr.map V.str := rfl
    -- the numbers
    refine ⟨fun σ H' => ∃ (ml : Addr) (ns : List Int), σ = [some (.ref st), some (.int m), some (.ref wl), some (.ref fd), some (.ref ml), none, none] ∧ H' ml = some (.lst (ns.map V.int)) ∧ ns.length = wr.length ∧ (∀ n ∈ ns, 0 ≤ n ∧ n ≤ 2) ∧
        H' wl = some (.lst ((w0 :: wr).map V.str)) ∧ H' fd = some (.lst [.ref t0]) ∧ H' t0 = some (.tup [.str w0, .int 0]) ∧ StAt (B + 30) H' st cl ∧ But st H H' ∧ H ml = none ∧ ml ≠ fd, ?_, ?_⟩
    · refine ⟨_, rfl, 1, rfl, wl, _, rfl, SqL.of h3w, fun p np => ⟨p, rfl, ⟨_, SqL.of upd_same⟩, fun D nD => ?_⟩⟩
      rw [cutFrom (by decide), drop1] at nD ⊢
      obtain ⟨pa, pc⟩ := hs3.new np
      have npH : H p = none := hb3.free np pa
      have Dp : D ≠ p := (ne_of_none upd_same nD).symm
      have nD3 : H3 D = none := by rw [upd_ne Dp] at nD; exact nD
      obtain ⟨Da, Dc⟩ := hs3.new nD3
      have nDH : H D = none := hb3.free nD3 Da
      have kp : ∀ {q : Addr} {o : HO}, H3 q = some o → (upd (upd H3 p (.lst (wr.map V.str))) D (.lst [])) q = some o := fun e => by rw [upd_ne (ne_of_none e nD3), upd_ne (ne_of_none e np)]; exact e
      refine lc_gen (J := Itl K p) wr.length (fun i H' => ∃ ns : List Int, ns.length = i ∧ (∀ n ∈ ns, 0 ≤ n ∧ n ≤ 2) ∧ H' D = some (.lst (ns.map V.int)) ∧ H' p = some (.lst (wr.map V.str)) ∧
        H' wl = some (.lst ((w0 :: wr).map V.str)) ∧ H' fd = some (.lst [.ref t0]) ∧ H' t0 = some (.tup [.str w0, .int 0]) ∧ StAt (B + 15 + i) H' st cl ∧ But st H H')
        ⟨[], rfl, (fun n hn => by cases hn), upd_same, by rw [upd_ne Dp.symm]; exact upd_same, kp h3w, kp h3f, kp h3t, (hs3.put pa pc).put Da Dc, (hb3.upd npH).upd nDH⟩
        (fun i H' hi ⟨ns, _, _, _, hp, _⟩ => ⟨_, .str (wr.getD i ""), SqL.of hp, by rw [List.getElem?_map, List.getElem?_eq_getElem hi, List.getD_eq_getElem?_getD, List.getElem?_eq_getElem hi]; rfl⟩)
        (fun H' ⟨ns, _, _, _, hp, _⟩ => ⟨_, SqL.of hp, by rw [List.length_map]; exact Nat.le_refl _⟩) (fun i H' v H'' hi ⟨ns, hn, hm, hD, hp, h4w, h4f, h4t, hs4, hb4⟩ yl => ?_) (fun H' ⟨ns, hn, hm, hD, hp, h4w, h4f, h4t, hs4, hb4⟩ => ⟨D, ns, rfl, hD, hn, hm, h4w, h4f, h4t, hs4.mono (by omega), hb4, nDH, (ne_of_none h3f nD3).symm⟩)
      obtain ⟨rfl, _⟩ := yl
      refine ⟨rfl, ?_⟩
      unfold tYes
      dsimp only
      rw [if_pos rfl]
      refine ⟨_, rfl, st, 3, B + 15 + i, cl, rfl, by decide, by decide, hs4, by omega, fun x H5 x0 x1 hs5 hb5 => ⟨_, hb5 _ _ hD Da, by rw [List.length_map, sizeLine_eq]; omega, ns ++ [x], ?_⟩⟩
      have kq : ∀ {q : Addr} {o : HO}, H'' q = some o → q ≠ st → q ≠ D → (upd H5 D (.lst (ns.map V.int ++ [V.int x]))) q = some o := fun e n1 n2 => by rw [upd_ne n2]; exact hb5 _ _ e n1
      refine ⟨by simp [hn], fun n hn' => ?_, by rw [upd_same, List.map_append]; rfl, kq hp pa Dp.symm, kq h4w wa (ne_of_none h3w nD3), kq h4f fa (ne_of_none h3f nD3), kq h4t ta (ne_of_none h3t nD3), (hs5.mono (by omega)).put Da Dc, (hb4.trans hb5).upd nDH⟩
      rcases List.mem_append.mp hn' with h | h
      · exact hm n h
      · rw [List.mem_singleton.mp h]; omega
    rintro σ' H4 ⟨ml, ns, rfl, h4m, hnl, hnm, h4w, h4f, h4t, hs4, hb4, nmlH, mlfd⟩
    have mla : ml ≠ st := by
      obtain ⟨o, e⟩ := hst.st
      exact (ne_of_none e nmlH).symm
    -- the rows
    refine ⟨fun σ H' => ∃ (v5 v6 : Option V) (vs : List V) (rs : List Rw), σ = [some (.ref st), some (.int m), some (.ref wl), some (.ref fd), some (.ref ml), v5, v6] ∧ H' fd = some (.lst vs) ∧ Paired (RowV H') vs rs ∧ rs.map (·.1) = w0 :: wr ∧ (∀ r ∈ rs, 0 ≤ r.2 ∧ r.2 ≤ 2) ∧ (w0, 0) ∈ rs ∧ StAt (B + 30) H' st cl ∧ But st H H', ?_, ?_⟩
    · refine ⟨_, rfl, 1, rfl, wl, _, rfl, SqL.of h4w, fun p np => ⟨p, _, rfl, SqL.of upd_same, ?_⟩⟩
      rw [cutFrom (by decide), drop1]
      obtain ⟨pa, pc⟩ := hs4.new np
      have npH : H p = none := hb4.free np pa
      have kp : ∀ {q : Addr} {o : HO}, H4 q = some o → (upd H4 p (.lst (wr.map V.str))) q = some o := fun e => by rw [upd_ne (ne_of_none e np)]; exact e
      refine for_gen (J := Ite K p) wr.length (fun i σ H' => ∃ (v5 v6 : Option V) (vs : List V) (rs : List Rw), σ = [some (.ref st), some (.int m), some (.ref wl), some (.ref fd), some (.ref ml), v5, v6] ∧ H' fd = some (.lst vs) ∧ Paired (RowV H') vs rs ∧ rs.map (·.1) = w0 :: wr.take i ∧ (∀ r ∈ rs, 0 ≤ r.2 ∧ r.2 ≤ 2) ∧ (w0, 0) ∈ rs ∧
          StAt (B + 30) H' st cl ∧ But st H H' ∧ H' ml = some (.lst (ns.map V.int)) ∧ H' p = some (.lst (wr.map V.str)))
        ⟨none, none, _, [(w0, 0)], rfl, kp h4f, .cons ⟨t0, rfl, kp h4t⟩ .nil, by rw [List.take_zero]; rfl, (fun r hr => by rw [List.mem_singleton.mp hr]; exact ⟨Int.le_refl _, by show (0 : Int) ≤ 2; decide⟩), List.mem_singleton.mpr rfl, hs4.put pa pc, hb4.upd npH, kp h4m, upd_same⟩
        (fun i σ H' hi ⟨_, _, _, _, _, _, _, _, _, _, _, _, _, hp⟩ => ⟨_, .str (wr.getD i ""), SqL.of hp, by rw [List.getElem?_map, List.getElem?_eq_getElem hi, List.getD_eq_getElem?_getD, List.getElem?_eq_getElem hi]; rfl⟩)
        (fun σ H' ⟨_, _, _, _, _, _, _, _, _, _, _, _, _, hp⟩ => ⟨_, SqL.of hp, by rw [List.length_map]; exact Nat.le_refl _⟩) ?_ (fun σ H' ⟨v5, v6, vs, rs, e, hf, hp, hr, hr2, hr0, hs, hb, _⟩ => ⟨v5, v6, vs, rs, e, hf, hp, by rw [hr, List.take_of_length_le (Nat.le_refl _)], hr2, hr0, hs, hb⟩)
      rintro i σ H5 v H6 hi ⟨v5, v6, vs, rs, rfl, hf, hp, hr, hr2, hr0, hs5, hb5, hm5, hp5⟩ ⟨T', x, rfl, nT, rfl, hx⟩
      have hx := hx _ (SqL.of hp5)
      rw [List.getElem?_map, List.getElem?_eq_getElem hi] at hx
      obtain rfl := Option.some.inj hx
      obtain ⟨Ta, Tc⟩ := hs5.new nT
      have nTH : H T' = none := hb5.free nT Ta
      refine ⟨T', [.int (i : Nat), .str wr[i]], rfl, SqT.of upd_same, rfl, .int (i : Nat), [.str wr[i]], rfl, .str wr[i], [], rfl, rfl, ?_⟩
      have hs6 := hs5.put (o := .tup [.int (i : Nat), .str wr[i]]) Ta Tc
      have hb6 := hb5.upd (o := .tup [.int (i : Nat), .str wr[i]]) nTH
      have hf6 : (upd H5 T' (.tup [.int (i : Nat), .str wr[i]])) fd = some (.lst vs) := by rw [upd_ne (ne_of_none hf nT)]; exact hf
      have hm6 : (upd H5 T' (.tup [.int (i : Nat), .str wr[i]])) ml = some (.lst (ns.map V.int)) := by rw [upd_ne (ne_of_none hm5 nT)]; exact hm5
      have hp6 : (upd H5 T' (.tup [.int (i : Nat), .str wr[i]])) p = some (.lst (wr.map V.str)) := by rw [upd_ne (ne_of_none hp5 nT)]; exact hp5
      have hpr : Paired (RowV (upd H5 T' (.tup [.int (i : Nat), .str wr[i]]))) vs rs := Paired.mono (fun _ _ q => q.same (same_upd nT)) hp
      generalize upd H5 T' (.tup [.int (i : Nat), .str wr[i]]) = H6 at hs6 hb6 hf6 hm6 hp6 hpr
      have hin : i < ns.length := by omega
      have hat : atI (ns.map V.int) ((i : Nat) : Int) = some (.int ns[i]) := at_of (j := i) (by omega) (by simp [hin])
      have hvl : vs.length = rs.length := Paired.length hpr
      have hrl : rs.length = i + 1 := by
        have := congrArg List.length hr
        rw [List.length_map, List.length_cons, List.length_take] at this
        omega
      -- what is appended, in any heap that holds these
      have fin : ∀ (H7 : Hp) (z : Int), Same H6 H7 → 0 ≤ z ∧ z ≤ 2 → ∀ q, H7 q = none → ∃ (l : Addr) (xs : List V) (y : V), V.ref fd = .ref l ∧ [V.ref q] = [y] ∧ (upd H7 q (.tup [.str wr[i], .int z])) l = some (.lst xs) ∧ xs.length < sizeLine ∧
          (∃ (v5 v6 : Option V) (vs : List V) (rs : List Rw), [some (V.ref st), some (.int m), some (.ref wl), some (.ref fd), some (.ref ml), some (.int (i : Nat)), some (.str wr[i])] = [some (.ref st), some (.int m), some (.ref wl), some (.ref fd), some (.ref ml), v5, v6] ∧ (upd (upd H7 q (.tup [.str wr[i], .int z])) l (.lst (xs ++ [y]))) fd = some (.lst vs) ∧ Paired (RowV (upd (upd H7 q (.tup [.str wr[i], .int z])) l (.lst (xs ++ [y])))) vs rs ∧ rs.map (·.1) = w0 :: wr.take (i + 1) ∧ (∀ r ∈ rs, 0 ≤ r.2 ∧ r.2 ≤ 2) ∧ (w0, 0) ∈ rs ∧
          StAt (B + 30) (upd (upd H7 q (.tup [.str wr[i], .int z])) l (.lst (xs ++ [y]))) st cl ∧ But st H (upd (upd H7 q (.tup [.str wr[i], .int z])) l (.lst (xs ++ [y]))) ∧ (upd (upd H7 q (.tup [.str wr[i], .int z])) l (.lst (xs ++ [y]))) ml = some (.lst (ns.map V.int)) ∧ (upd (upd H7 q (.tup [.str wr[i], .int z])) l (.lst (xs ++ [y]))) p = some (.lst (wr.map V.str))) := by
        intro H7 z s7 hz q nq
        have hf7 := s7 _ _ hf6
        have qf : q ≠ fd := (ne_of_none hf7 nq).symm
        obtain ⟨qa, qc⟩ := (hs6.same s7).new nq
        have kq : ∀ {a : Addr} {o : HO}, H6 a = some o → a ≠ fd → (upd (upd H7 q (.tup [.str wr[i], .int z])) fd (.lst (vs ++ [.ref q]))) a = some o := fun e n => by rw [upd_ne n, upd_ne (ne_of_none (s7 _ _ e) nq)]; exact s7 _ _ e
        refine ⟨fd, vs, _, rfl, rfl, by rw [upd_ne qf.symm]; exact hf7, by rw [hvl, sizeLine_eq]; omega, _, _, _, rs ++ [(wr[i], z)], rfl, upd_same, ?_, ?_, ?_, ?_, ((hs6.same s7).put qa qc).put fa fc, ((hb6.trans (Same.but s7)).upd (hb6.free (same_free s7 nq) qa)).upd nfdH, kq hm6 mlfd, kq hp6 (ne_of_none h4f np).symm⟩
        · refine Paired.snoc (Paired.mono (fun _ _ q' => ?_) hpr) ⟨q, rfl, by rw [upd_ne qf]; exact upd_same⟩
          obtain ⟨t, e, et⟩ := q'
          exact ⟨t, e, kq et (ne_of et hf6 (by intro z; cases z))⟩
        · rw [List.map_append, hr, List.take_succ_eq_append_getElem hi]
          rfl
        · intro r hr'
          rcases List.mem_append.mp hr' with h | h
          · exact hr2 r h
          · rw [List.mem_singleton.mp h]; exact hz
        · exact List.mem_append_left _ hr0
      refine ⟨_, rfl, .inl ⟨rfl, _, SqL.of hf6⟩, _, rfl, _, rfl, _, rfl, ml, _, _, _, rfl, rfl, SqL.of hm6, hat, ns[i], 2, rfl, rfl, ?_⟩
      have hz := hnm ns[i] (List.getElem_mem hin)
      have val : ∀ H7, Same H6 H7 → ∀ q, H7 q = none → True := fun _ _ _ _ => trivial
      refine ⟨_, rfl, ite2 (fun _ => ?_) (fun _ => ?_)⟩
      · refine iteBt rfl ⟨_, rfl, _, rfl, ml, _, _, _, rfl, rfl, SqL.of hm6, hat, (by show 2 ≤ sizeLine; decide), fun q nq => fin H6 _ (fun b o e => e) hz q nq⟩
      · refine ⟨_, rfl, _, rfl, _, rfl, ml, _, rfl, SqL.of hm6, fun q nq => ?_⟩
        rw [cutTo (by omega), ← List.map_take]
        refine ⟨q, _, rfl, .inl (SqL.of upd_same), rfl, List.all_eq_true.mpr fun y hy => ?_, ?_⟩
        · obtain ⟨z, _, rfl⟩ := List.mem_map.mp hy
          rfl
        have s7 : Same H6 (upd H6 q (.lst ((ns.take (((i : Nat) : Int)).toNat).map V.int))) := same_upd nq
        generalize upd H6 q (.lst ((ns.take (((i : Nat) : Int)).toNat).map V.int)) = H7 at s7
        refine ⟨_, rfl, ite2 (fun _ => ?_) (fun _ => ?_)⟩
        · exact ⟨_, rfl, _, rfl, ml, _, _, _, rfl, rfl, SqL.of (s7 _ _ hm6), hat, (by show 2 ≤ sizeLine; decide), fun q nq => fin H7 _ s7 hz q nq⟩
        · exact ⟨(by show 2 ≤ sizeLine; decide), fun q nq => fin H7 1 s7 ⟨by decide, by decide⟩ q nq⟩
    · rintro σ' H5 ⟨v5, v6, vs, rs, rfl, hf, hp, hr, hr2, hr0, hs5, hb5⟩
      have hl := congrArg List.length hr
      rw [List.length_map, List.length_cons] at hl
      have hv := Paired.length hp
      refine ⟨_, rfl, _, rfl, st, fd, vs, B + 30, cl, rfl, hf, by omega, hs5, by omega, fun l ys H6 nl hperm hl6 hs6 hb6 => ?_⟩
      obtain ⟨ps, hps, hp2⟩ := paired_perm hperm hp
      refine k l ps H6 (hb5.free nl (hs5.new nl).1) ⟨ys, hl6, Paired.mono (fun _ _ q => q.but hs5 hb6) hp2⟩ (RowsOk.perm ⟨by omega, by rw [hr]; exact hwd, fun r hr' => ⟨hwm _ (by rw [← hr]; exact List.mem_map_of_mem hr'), hr2 r hr'⟩, ⟨_, hr0, rfl⟩⟩ hps) (hs6.mono (by omega)) (hb5.trans hb6)
end
end K5

namespace K5
open PySem PySem.Spec PyProof.Rows L2 C8
abbrev sMany : Stmt := top 26
abbrev sLabels : Stmt := top 27
inductive D where
  | fl (x : V)
  | emp
  | sq (xs : List D)
mutual
def sz : D → Nat
  | .fl _ => 1
  | .emp => 1
  | .sq xs => 1 + szs xs
def szs : List D → Nat
  | [] => 0
  | x :: xs => sz x + szs xs
end
def many (rs : List Rw) (z : Str) : Option Int := ((rs ++ [(("keep" : Str), (1 : Int))]).find? fun r => r.1 == z).map (·.2)
mutual
def isT (rs : List Rw) : D → Bool
  | .sq (.fl (.str z) :: cs) => match many rs z with
    | some m => decide ((cs.length : Int) = m) && isTs rs cs
    | none => false
  | _ => false
def isTs (rs : List Rw) : List D → Bool
  | [] => true
  | x :: xs => isT rs x && isTs rs xs
end
def hdOk : List D → Bool
  | .emp :: _ => false
  | _ => true
mutual
/-- v stands for the data d; F: where its lists may stand -/
def DAt (F : Addr → Prop) (H : Hp) : V → D → Prop
  | v, .fl x => v = x ∧ flatV x = true
  | v, .emp => ∃ a, v = .ref a ∧ H a = some (.dK [])
  | v, .sq xs => ∃ a vs, v = .ref a ∧ (H a = some (.tup vs) ∨ (F a ∧ H a = some (.lst vs))) ∧ hdOk xs = true ∧ DAts F H vs xs
def DAts (F : Addr → Prop) (H : Hp) : List V → List D → Prop
  | [], [] => True
  | v :: vs, d :: ds => DAt F H v d ∧ DAts F H vs ds
  | _, _ => False
end
structure Hold (F : Addr → Prop) (H H' : Hp) : Prop where
  tup : ∀ a vs, H a = some (.tup vs) → H' a = some (.tup vs)
  dic : ∀ a, H a = some (.dK []) → H' a = some (.dK [])
  lst : ∀ a vs, F a → H a = some (.lst vs) → H' a = some (.lst vs)
mutual
theorem DAt.hold {F : Addr → Prop} {H H' : Hp} (h : Hold F H H') : ∀ (d : D) {v : V}, DAt F H v d → DAt F H' v d
  | .fl x, _, e => e
  | .emp, _, ⟨a, e, q⟩ => ⟨a, e, h.dic a q⟩
  | .sq xs, _, ⟨a, vs, e, q, o, k⟩ => ⟨a, vs, e, q.imp (h.tup a vs) fun ⟨e, q⟩ => ⟨e, h.lst a vs e q⟩, o, DAts.hold h xs k⟩
theorem DAts.hold {F : Addr → Prop} {H H' : Hp} (h : Hold F H H') : ∀ (ds : List D) {vs : List V}, DAts F H vs ds → DAts F H' vs ds
  | [], [], _ => trivial
  | d :: ds, v :: vs, ⟨k, t⟩ => ⟨DAt.hold h d k, DAts.hold h ds t⟩
  | [], _ :: _, k => k
  | _ :: _, [], k => k
end
mutual
theorem DAt.weak {F G : Addr → Prop} {H : Hp} (h : ∀ a, F a → G a) : ∀ (d : D) {v : V}, DAt F H v d → DAt G H v d
  | .fl x, _, e => e
  | .emp, _, e => e
  | .sq xs, _, ⟨a, vs, e, q, o, k⟩ => ⟨a, vs, e, q.imp id fun ⟨e, q⟩ => ⟨h _ e, q⟩, o, DAts.weak h xs k⟩
theorem DAts.weak {F G : Addr → Prop} {H : Hp} (h : ∀ a, F a → G a) : ∀ (ds : List D) {vs : List V}, DAts F H vs ds → DAts G H vs ds
  | [], [], _ => trivial
  | d :: ds, v :: vs, ⟨k, t⟩ => ⟨DAt.weak h d k, DAts.weak h ds t⟩
  | [], _ :: _, k => k
  | _ :: _, [], k => k
end
/-- tuples alone; lists too, other than this one -/
def nol : Addr → Prop := fun _ => False
def oth (st : Addr) : Addr → Prop := fun a => a ≠ st
theorem Hold.same {F : Addr → Prop} {H H' : Hp} (s : Same H H') : Hold F H H' := ⟨fun a _ => s a _, fun a => s a _, fun a _ _ => s a _⟩
theorem Hold.but {F : Addr → Prop} {B : Nat} {H H' : Hp} {st cl : Addr} (hs : StAt B H st cl) (hb : But st H H') (hF : ∀ a, F a → a ≠ st) : Hold F H H' := by
  obtain ⟨ns, i, c, h0, n, e1, _⟩ := hs
  refine ⟨fun a vs e => hb _ _ e (ne_of e e1 (by intro z; cases z)), fun a e => hb _ _ e (ne_of e e1 (by intro z; cases z)), fun a vs e q => hb _ _ q (hF a e)⟩
abbrev keepR : Rw := ("keep", 1)
def nums (rs : List Rw) : List Rw := rs ++ [keepR]
def labs (rs : List Rw) : List Str := (nums rs).map (·.1)
def kvOf (r : Rw) : Key × V := (Sum.inr r.1, V.int r.2)
theorem labs_nd {rs : List Rw} (h : RowsOk rs) : (labs rs).Nodup := by
  unfold labs nums
  rw [List.map_append]
  refine List.nodup_append.mpr ⟨h.nd, by simp, fun a ha b hb e => ?_⟩
  have hb := List.mem_singleton.mp hb
  subst e hb
  obtain ⟨r, hr, e⟩ := List.mem_map.mp ha
  have := (h.mem r hr).1
  rw [e] at this
  revert this
  decide +kernel
theorem valV_rows (z : Str) : ∀ rs : List Rw, valV (rs.map kvOf) (Sum.inr z) = (rs.find? fun r => r.1 == z).map fun r => V.int r.2
  | [] => rfl
  | r :: rs => by
    rw [List.map_cons, List.find?_cons]
    by_cases e : r.1 = z
    · rw [valV_pos (p := kvOf r) (by show Sum.inr r.1 = _; rw [e]), show (r.1 == z) = true from beq_iff_eq.mpr e]
      rfl
    · rw [valV_neg (p := kvOf r) (by show ¬ (Sum.inr r.1 = (Sum.inr z : Key)); intro h; exact e (Sum.inr.inj h)), show (r.1 == z) = false from beq_eq_false_iff_ne.mpr e]
      exact valV_rows z rs
theorem valV_nums (rs : List Rw) (z : Str) : valV ((nums rs).map kvOf) (Sum.inr z) = (many rs z).map V.int := by
  rw [valV_rows]
  unfold many nums
  rw [Option.map_map]
  rfl
theorem merge_nd : ∀ {more acc : List (Key × V)}, ((acc ++ more).map (·.1)).Nodup → mergeK acc more = acc ++ more
  | [], acc, _ => by rw [List.append_nil]; rfl
  | p :: more, acc, h => by
    have e : putK acc p.1 p.2 = acc ++ [p] := putK_new p.2 (by
      unfold valV
      rw [List.find?_eq_none.mpr fun q hq => ?_]
      · rfl
      · rw [decide_eq_true_eq]
        intro e
        rw [List.map_append, List.nodup_append] at h
        exact h.2.2 _ (List.mem_map_of_mem hq) _ (List.mem_map_of_mem List.mem_cons_self) e)
    show mergeK (putK acc p.1 p.2) more = _
    rw [e, merge_nd (by rw [List.append_assoc]; exact h), List.append_assoc]
    rfl
theorem merge_nums {rs : List Rw} (h : RowsOk rs) : mergeK [] ((nums rs).map kvOf) = (nums rs).map kvOf := by
  refine merge_nd ?_
  rw [List.nil_append, List.map_map]
  have e : (nums rs).map ((·.1) ∘ kvOf) = (labs rs).map (Sum.inr : Str → Key) := by unfold labs; rw [List.map_map]; rfl
  rw [e]
  exact List.Pairwise.map _ (fun a b h e => h (Sum.inr.inj e)) (labs_nd h)
theorem paired_get {α β : Type} {R : α → β → Prop} {xs : List α} {ys : List β} (h : Paired R xs ys) : ∀ {i : Nat} {x : α}, xs[i]? = some x → ∃ y, ys[i]? = some y ∧ R x y := by
  induction h with
  | nil => intro i x e; cases e
  | cons q p ih =>
    intro i x e
    cases i with
    | zero => cases e; exact ⟨_, rfl, q⟩
    | succ i => exact ih e
theorem getD_at {xs : List V} {i : Nat} (h : i < xs.length) : xs[i]? = some (xs.getD i .non) := by rw [List.getD_eq_getElem?_getD, List.getElem?_eq_getElem h] <;> rfl
theorem many_mem {rs : List Rw} (h : RowsOk rs) {r : Rw} (hr : r ∈ nums rs) : many rs r.1 = some r.2 := by
  have nd := labs_nd h
  unfold labs at nd
  unfold many
  show ((nums rs).find? _).map _ = _
  generalize nums rs = l at hr nd
  induction l with
  | nil => cases hr
  | cons q l ih =>
    rw [List.map_cons, List.nodup_cons] at nd
    rw [List.find?_cons]
    rcases List.mem_cons.mp hr with rfl | hr
    · rw [show (r.1 == r.1) = true from beq_self_eq_true _]
      rfl
    · rw [show (q.1 == r.1) = false from beq_eq_false_iff_ne.mpr fun e => nd.1 (by rw [e]; exact List.mem_map_of_mem hr)]
      exact ih hr nd.2
theorem many_lab {rs : List Rw} (h : RowsOk rs) {z : Str} (hz : z ∈ labs rs) : ∃ n, many rs z = some n ∧ 0 ≤ n ∧ n ≤ 2 := by
  obtain ⟨r, hr, rfl⟩ := List.mem_map.mp hz
  refine ⟨r.2, many_mem h hr, ?_⟩
  rcases List.mem_append.mp hr with h' | h'
  · exact (h.mem r h').2
  · rw [List.mem_singleton.mp h']; exact ⟨by decide, by decide⟩
theorem many_some {rs : List Rw} {z : Str} {n : Int} (e : many rs z = some n) : z ∈ labs rs := by
  unfold many at e
  cases e' : ((rs ++ [(("keep" : Str), (1 : Int))]).find? fun r => r.1 == z) with
  | none => rw [e'] at e; cases e
  | some r =>
    have := List.find?_some e'
    have hm := List.mem_of_find?_eq_some e'
    rw [← beq_iff_eq.mp this]
    exact List.mem_map_of_mem hm
def spMany : Sp := fun vs H Q _ => ∃ (l : Addr) (z : Str) (rs : List Rw) (n : Int), vs = [.ref l, .str z] ∧ RowsAt H l rs ∧ RowsOk rs ∧ many rs z = some n ∧ ∀ H', Same H H' → Q (.int n) H'
def spLabels : Sp := fun vs H Q _ => ∃ (l : Addr) (rs : List Rw), vs = [.ref l] ∧ RowsAt H l rs ∧ RowsOk rs ∧ ∀ q H', H q = none → Same H H' → H' q = some (.lst ((labs rs).map V.str)) → Q (.ref q) H'
theorem scMany : FnScope ["_law_rows_here", "_law_label"] ["_law_rows_here", "_law_label"] (fnScope sMany) := fnScope_by (by decide +kernel)
abbrev NLab : List Str := ["_law_rows_here", "_law_label", "_law_many_here"]
theorem scLabels : FnScope NLab ["_law_rows_here"] (fnScope sLabels) := fnScope_by (by decide +kernel)
section
variable {P : Program} {w : World} {K : PySem.W.Frag} {mg : Str → Option Value} {base : Heap}
theorem rows_refs {H : Hp} {vs : List V} {rs : List Rw} (h : Paired (RowV H) vs rs) : ∃ ts : List Addr, vs = ts.map V.ref ∧ Paired (fun t (kv : Key × V) => SqT K H t [kV kv.1, kv.2]) ts (rs.map kvOf) := by
  induction h with
  | nil => exact ⟨[], rfl, .nil⟩
  | cons q _ ih =>
    obtain ⟨ts, rfl, p⟩ := ih
    obtain ⟨t, rfl, e⟩ := q
    exact ⟨t :: ts, rfl, .cons (SqT.of e) p⟩
theorem c_many {f : Addr} {fd : FuncData} (F : Def K mg "_law_many" sMany f fd) (b : Binds K fd ["_law_rows_here", "_law_label"] []) (T : Blt4 mg) : Cal P w K mg base 1 "_law_many" spMany [] := by
  refine cal0 F b .nil scMany (fun vs H Q E h => ?_) (fun cdv A outer s H vs Q E hr h => ?_)
  · obtain ⟨l, z, rs, n, rfl, _⟩ := h
    rfl
  · obtain ⟨l, z, rs, n, rfl, ⟨us, hl, hp⟩, ok, hn, k⟩ := h
    have hu : (A.deeper (envOfC "_law_many" (fnScope sMany) s.heap.objs.size f cdv)).units + 1 < cLine := by have := hr.un; omega
    refine ⟨_, pss_one (ps_ret (pe_dget hu (pe_callTy (call_dictP rfl) (by rfl) T.dic (by decide +kernel) (pa_cons (pe_op op_cat (pe_callTy call_list_of (by rfl) T.list (by decide +kernel) (pa_cons (pv 0) pa_nil)) (pe_lst (pa_cons (pe_tup (pa_cons pe_str (pa_cons pe_int pa_nil))) pa_nil))) pa_nil)) (pv 1) (fun _ _ => rfl))), ?_⟩
    have hlen := Paired.length hp
    have hok := ok.len
    refine ⟨_, rfl, l, us, rfl, .inl (SqL.of hl), fun p np => ⟨(by show 2 ≤ sizeLine; decide), fun t nt => ⟨(by show 1 ≤ sizeLine; decide), fun q nq => ?_⟩⟩⟩
    have s1 : Same H (upd H p (.lst us)) := same_upd np
    have s2 : Same _ _ := s1.trans (same_upd nt (o := .tup [.str "keep", .int 1]))
    have s3 := s2.trans (same_upd nq (o := .lst [.ref t]))
    have tp : t ≠ p := (ne_of_none upd_same nt).symm
    have qt : q ≠ t := (ne_of_none upd_same nq).symm
    have qp : q ≠ p := (ne_of_none (by rw [upd_ne tp.symm]; exact upd_same) nq).symm
    have hp' : (upd (upd (upd H p (.lst us)) t (.tup [.str "keep", .int 1])) q (.lst [.ref t])) p = some (.lst us) := by rw [upd_ne qp.symm, upd_ne tp.symm]; exact upd_same
    have ht' : (upd (upd (upd H p (.lst us)) t (.tup [.str "keep", .int 1])) q (.lst [.ref t])) t = some (.tup [.str "keep", .int 1]) := by rw [upd_ne qt.symm]; exact upd_same
    refine ⟨p, q, us, [.ref t], rfl, rfl, hp', upd_same, by rw [hlen, sizeLine_eq]; simp; omega, fun c nc => ?_⟩
    generalize upd (upd (upd H p (.lst us)) t (.tup [.str "keep", .int 1])) q (.lst [.ref t]) = H1 at s3 hp' ht' nc
    have s4 := s3.trans (same_upd nc (o := .lst (us ++ [.ref t])))
    obtain ⟨ts, ets, pts⟩ := rows_refs (K := K) (H := upd H1 c (.lst (us ++ [.ref t]))) (Paired.mono (fun _ _ q => q.same s4) hp)
    refine ⟨c, ts ++ [t], (nums rs).map kvOf, rfl, SqL.of (by rw [upd_same, ets, List.map_append]; rfl), ?_, fun d nd => ?_⟩
    · unfold nums
      rw [List.map_append]
      exact Paired.snoc pts (SqT.of (by rw [upd_ne (ne_of_none ht' nc)]; exact ht'))
    · refine ⟨.str z, rfl, d, .int n, rfl, ?_, k _ (s4.trans (same_upd nd))⟩
      have g := DGet.k (k := Sum.inr z) (a := d) (H := upd (upd H1 c (.lst (us ++ [.ref t]))) d (.dK (mergeK [] ((nums rs).map kvOf)))) upd_same
      rw [merge_nums ok, valV_nums, hn] at g
      rw [merge_nums ok]
      exact g
theorem c_labels {f : Addr} {fd : FuncData} (F : Def K mg "_law_labels" sLabels f fd) (b : Binds K fd ["_law_rows_here"] []) (T : Blt4 mg) : Cal P w K mg base 1 "_law_labels" spLabels [] := by
  refine cal0 F b .nil scLabels (fun vs H Q E h => ?_) (fun cdv A outer s H vs Q E hr h => ?_)
  · obtain ⟨l, rs, rfl, _⟩ := h
    rfl
  · obtain ⟨l, rs, rfl, ⟨us, hl, hp⟩, ok, k⟩ := h
    have nd := scLabels.nd
    refine ⟨_, pss_one (ps_ret (pe_op op_cat (pe_lc (own := [("_law_label", 1), ("_law_many_here", 2)]) (g := gTup K 2 (gCons (gName 1) (gCons (gName 2) gNil))) (tt := tYes) rfl nd (pi_list (pv 0)) (blkOk_by (N := NLab) (sc := fnScope sLabels) (by decide +kernel))
        (fun _ _ _ _ _ => pg_tup rfl (pgs_cons (pg_name (i := 1) nd rfl (Or.inl rfl)) (pgs_cons (pg_name (i := 2) nd rfl (Or.inl rfl)) pgs_nil))) (fun _ _ _ _ _ => pts_nil) (fun _ _ _ _ _ => pv 1)) (pe_lst (pa_cons pe_str pa_nil)))), ?_⟩
    have hlen := Paired.length hp
    have hok := ok.len
    refine ⟨_, rfl, l, rfl, ⟨us, SqL.of hl⟩, fun D nD => ?_⟩
    refine lc_gen (J := Itl K l) rs.length (fun i H' => H' D = some (.lst ((rs.take i).map fun r => V.str r.1)) ∧ Same H H') ⟨upd_same, same_upd nD⟩ (fun i H' hi ⟨_, sm⟩ => ⟨us, us.getD i .non, SqL.of (sm _ _ hl), by rw [List.getD_eq_getElem?_getD, List.getElem?_eq_getElem (by omega)]; rfl⟩)
      (fun H' ⟨_, sm⟩ => ⟨us, SqL.of (sm _ _ hl), by omega⟩) (fun i H' v H'' hi ⟨hD, sm⟩ yl => ?_) (fun H' ⟨hD, sm⟩ => ?_)
    · obtain ⟨rfl, hx⟩ := yl
      have hx := hx _ (SqL.of (sm _ _ hl))
      obtain ⟨r, hr, t, rfl, ht⟩ := paired_get hp hx
      refine ⟨t, [.str r.1, .int r.2], rfl, SqT.of (sm _ _ ht), rfl, .str r.1, [.int r.2], rfl, .int r.2, [], rfl, rfl, rfl, ?_⟩
      unfold tYes
      dsimp only
      rw [if_pos rfl]
      refine ⟨_, rfl, _, hD, by rw [List.length_map, List.length_take, sizeLine_eq]; omega, ?_, fun b o e => by rw [upd_ne (ne_of_none e nD)]; exact sm _ _ e⟩
      obtain ⟨hlt, e⟩ := List.getElem?_eq_some_iff.mp hr
      rw [upd_same, List.take_succ_eq_append_getElem hlt, List.map_append, e]
      rfl
    · rw [List.take_of_length_le (Nat.le_refl _)] at hD
      refine ⟨(by show 1 ≤ sizeLine; decide), fun q nq => ⟨D, q, _, _, rfl, rfl, by rw [upd_ne (ne_of_none hD nq)]; exact hD, upd_same, by rw [List.length_map, sizeLine_eq]; simp; omega, fun c nc => ?_⟩⟩
      have s2 : Same H _ := sm.trans ((same_upd nq (o := .lst [.str "keep"])).trans (same_upd nc (o := .lst ((rs.map fun r => V.str r.1) ++ [.str "keep"]))))
      refine k c _ (same_free (sm.trans (same_upd nq)) nc) s2 (by rw [upd_same]; unfold labs nums; rw [List.map_append, List.map_append, List.map_map]; rfl)
end
end K5

namespace K5
open PySem PySem.Spec PyProof.Rows L2 C8
abbrev sTree : Stmt := top 28
def manyD (rs : List Rw) (z : Str) : Int := (many rs z).getD 0
theorem manyD_of {rs : List Rw} {z : Str} {n : Int} (e : many rs z = some n) : manyD rs z = n := by unfold manyD; rw [e]; rfl
def spTree (N : Nat) : Sp := fun vs H Q _ => ∃ (st l : Addr) (n : Int) (rs : List Rw) (B : Nat) (cl : Addr), vs = [.ref st, .ref l, .int n] ∧ 1 ≤ n ∧ n ≤ N ∧ n ≤ 1000 ∧ RowsAt H l rs ∧ RowsOk rs ∧ StAt B H st cl ∧ B + 3 * n.toNat < 1000000000000000 ∧
  ∀ (v : V) (t : D) (H' : Hp), DAt nol H' v t → isT rs t = true → (sz t : Int) ≤ 2 * n → StAt (B + 3 * n.toNat) H' st cl → But st H H' → Q v H'
abbrev NTree : List Str := ["_law_state", "_law_rows_here", "_law_nodes", "_law_fits", "_law_more", "_law_label", "_law_many_here", "_law_some", "_law_first"]
theorem scTree : FnScope NTree ["_law_state", "_law_rows_here", "_law_nodes"] (fnScope sTree) := fnScope_by (by decide +kernel)
theorem new_tree {F : Addr → Prop} {H : Hp} {p : Addr} {z : Str} {vs : List V} {cs : List D} (np : H p = none) (h : DAts F H vs cs) : DAt F (upd H p (.tup (.str z :: vs))) (.ref p) (.sq (.fl (.str z) :: cs)) :=
  ⟨p, _, rfl, .inl upd_same, rfl, ⟨rfl, rfl⟩, DAts.hold (.same (same_upd np)) cs h⟩
theorem isT_leaf {rs : List Rw} {z : Str} (e : many rs z = some 0) : isT rs (.sq [.fl (.str z)]) = true := by rw [isT, e]; rfl
theorem isT_one {rs : List Rw} {z : Str} {t : D} (e : many rs z = some 1) (h : isT rs t = true) : isT rs (.sq [.fl (.str z), t]) = true := by
  rw [isT, e]
  show (_ && isTs rs [t]) = true
  rw [isTs, isTs, h]
  rfl
theorem isT_two {rs : List Rw} {z : Str} {t u : D} (e : many rs z = some 2) (h : isT rs t = true) (h' : isT rs u = true) : isT rs (.sq [.fl (.str z), t, u]) = true := by
  rw [isT, e]
  show (_ && isTs rs [t, u]) = true
  rw [isTs, isTs, isTs, h, h']
  rfl
section
variable {P : Program} {w : World} {K : PySem.W.Frag} {mg : Str → Option Value} {base : Heap}
theorem tree_step {k : Nat} {N : Nat} {f : Addr} {fd : FuncData} (F : Def K mg "_law_tree" sTree f fd) (b : Binds K fd ["_law_state", "_law_rows_here", "_law_nodes"] []) (T : Blt4 mg) (hk : 2 ≤ k) (C : Cal P w K mg base 1 "_law_take" spTake []) (CO : Cal P w K mg base 2 "_law_one" spOne [])
    (CL : Cal P w K mg base 1 "_law_labels" spLabels []) (CM : Cal P w K mg base 1 "_law_many" spMany []) (CT : Cal P w K mg base k "_law_tree" (spTree N) []) : Cal P w K mg base (k + 1) "_law_tree" (spTree (N + 1)) [] := by
  refine cal0 F b .nil scTree (fun vs H Q E h => ?_) (fun cdv A outer s H vs Q E hr h => ?_)
  · obtain ⟨st, l, n, rs, B, cl, rfl, _⟩ := h
    rfl
  · obtain ⟨st, l, n, rs, B, cl, rfl, n0, n1, n9, hR, ok, hst, hB, k⟩ := h
    have nd := scTree.nd
    have hu : (A.deeper (envOfC "_law_tree" (fnScope sTree) s.heap.objs.size f cdv)).units + 64 < cLine := by have := hr.un; omega
    refine ⟨_, pss_cut (ps_setLc (i := 3) (own := [("_law_label", 5)]) (g := gName 5) rfl nd rfl rfl (by rfl) (pi_list (pe_c CL hr (by omega) (by rfl) (pa_cons (pv 1) pa_nil))) (blkOk_by (N := NTree) (sc := fnScope sTree) (by decide +kernel)) (fun _ _ _ _ _ => pg_name (i := 5) nd rfl (Or.inl rfl))
          (fun _ _ _ _ _ => pts_one (pt_cmp (pc_lt (pe_c CM hr (by omega) (by rfl) (pa_cons (pv 1) (pa_cons (pv 5) pa_nil))) (pv 2)))) (fun _ _ _ _ _ => pv 5))
      (pss_cut (ps_setLc (i := 4) (own := [("_law_label", 5)]) (g := gName 5) rfl nd rfl rfl (by rfl) (pi_list (pv 3)) (blkOk_by (N := NTree) (sc := fnScope sTree) (by decide +kernel)) (fun _ _ _ _ _ => pg_name (i := 5) nd rfl (Or.inl rfl))
          (fun _ _ _ _ _ => pts_one (pw_and (pt_cmp (pc_gt (pe_c CM hr (by omega) (by rfl) (pa_cons (pv 1) (pa_cons (pv 5) pa_nil))) pe_int)) (pw_and1 (pt_cmpR op_ne (pv 5) pe_str (nomark _)))).pt) (fun _ _ _ _ _ => pv 5))
      (pss_cut (ps_if (pw_and (pt_cmpR (op_neNil hu) (pv 4) (pe_lst pa_nil) (nomark _)) (pw_and1 (pt_cmp (pc_gt (pe_c C hr (by omega) (by rfl) (pa_cons (pv 0) (pa_cons pe_int pa_nil))) pe_int)))).pt
          (pss_one (ps_set (i := 3) nd rfl (Or.inl rfl) (pv 4))) pss_nil)
      (pss_cons (ps_set (i := 5) nd rfl (Or.inl rfl) (pe_c CO hr (by omega) (by rfl) (pa_cons (pv 0) (pa_cons (pv 3) pa_nil))))
      (pss_cons (ps_set (i := 6) nd rfl (Or.inl rfl) (pe_c CM hr (by omega) (by rfl) (pa_cons (pv 1) (pa_cons (pv 5) pa_nil))))
      (pss_cons (ps_if (pt_cmp (pc_eqI (pv 6) pe_int))
          (pss_cons (ps_set (i := 7) nd rfl (Or.inl rfl) (pe_op op_add pe_int (pe_c C hr (by omega) (by rfl) (pa_cons (pv 0) (pa_cons (pe_op op_sub (pv 2) pe_int) pa_nil)))))
          (pss_cons (ps_set (i := 8) nd rfl (Or.inl rfl) (pe_c CT hr (Nat.le_refl _) (by rfl) (pa_cons (pv 0) (pa_cons (pv 1) (pa_cons (pv 7) pa_nil)))))
          (pss_one (ps_ret (pe_tup (pa_cons (pv 5) (pa_cons (pv 8) (pa_cons (pe_c CT hr (Nat.le_refl _) (by rfl) (pa_cons (pv 0) (pa_cons (pv 1) (pa_cons (pe_op op_sub (pe_op op_sub (pv 2) pe_int) (pv 7)) pa_nil)))) pa_nil))))))))
          pss_nil)
      (pss_one (ps_ret (pe_ifExp (pt_cmp (pc_eqI (pv 6) pe_int)) (pe_tup (pa_cons (pv 5) pa_nil))
          (pe_tup (pa_cons (pv 5) (pa_cons (pe_c CT hr (Nat.le_refl _) (by rfl) (pa_cons (pv 0) (pa_cons (pv 1) (pa_cons (pe_op op_sub (pv 2) pe_int) pa_nil)))) pa_nil))))))))))), ?_⟩
    have hla : (labs rs).length ≤ 15 := by unfold labs nums; rw [List.length_map, List.length_append]; have := ok.len; simp; omega
    let pf : Str → Bool := fun z => decide (manyD rs z < n)
    -- what fits
    refine ⟨fun σ H' => ∃ ft : Addr, σ = [some (.ref st), some (.ref l), some (.int n), some (.ref ft), none, none, none, none, none] ∧ H' ft = some (.lst (((labs rs).filter pf).map V.str)) ∧ H ft = none ∧ Same H H', ?_, ?_⟩
    · refine ⟨_, rfl, l, rs, rfl, hR, ok, fun q H1 nq s1 hq => ⟨q, rfl, ⟨_, SqL.of hq⟩, fun Da nDa => ?_⟩⟩
      have nDH : H Da = none := same_free s1 nDa
      refine lc_gen (J := Itl K q) (labs rs).length (fun i H' => H' Da = some (.lst ((((labs rs).take i).filter pf).map V.str)) ∧ Same H1 H') ⟨upd_same, same_upd nDa⟩ (fun i H' hi ⟨_, sm⟩ => ⟨_, .str (labs rs)[i], SqL.of (sm _ _ hq), by rw [List.getElem?_map, List.getElem?_eq_getElem hi]; rfl⟩)
        (fun H' ⟨_, sm⟩ => ⟨_, SqL.of (sm _ _ hq), by rw [List.length_map]; exact Nat.le_refl _⟩) (fun i H' v H'' hi ⟨hD, sm⟩ yl => ?_) (fun H' ⟨hD, sm⟩ => ⟨Da, rfl, by rw [hD, List.take_of_length_le (Nat.le_refl _)], nDH, s1.trans sm⟩)
      obtain ⟨rfl, hx⟩ := yl
      have hx := hx _ (SqL.of (sm _ _ hq))
      rw [List.getElem?_map, List.getElem?_eq_getElem hi] at hx
      obtain rfl := Option.some.inj hx
      obtain ⟨m, hm, _⟩ := many_lab ok (List.getElem_mem hi)
      refine ⟨rfl, _, rfl, _, rfl, l, (labs rs)[i], rs, m, rfl, hR.same (s1.trans sm), ok, hm, fun H3 s3 => ⟨_, rfl, m, n, rfl, rfl, _, rfl, ?_⟩⟩
      have hpf : pf (labs rs)[i] = decide (m < n) := by show decide (manyD rs (labs rs)[i] < n) = _; rw [manyD_of hm]
      have tk : ((labs rs).take (i + 1)).filter pf = ((labs rs).take i).filter pf ++ (if decide (m < n) = true then [(labs rs)[i]] else []) := by
        rw [List.take_succ_eq_append_getElem hi, List.filter_append, List.filter_cons, hpf]
        rfl
      have hD3 := s3 _ _ hD
      refine ite2 (fun c => ?_) (fun c => ?_)
      · rw [if_pos c] at tk
        refine ⟨_, rfl, _, hD3, ?_, ?_, fun b o e => by rw [upd_ne (ne_of_none e nDa)]; exact s3 _ _ (sm _ _ e)⟩
        · rw [List.length_map, sizeLine_eq]
          have := List.length_filter_le pf ((labs rs).take i)
          have := List.length_take_le i (labs rs)
          omega
        · rw [upd_same, tk, List.map_append]
          rfl
      · rw [if_neg c, List.append_nil] at tk
        exact ⟨by rw [tk]; exact hD3, sm.trans s3⟩
    rintro σ' H1 ⟨ft, rfl, hf, nft, s1⟩
    have hfs : ∀ z ∈ (labs rs).filter pf, ∃ m, many rs z = some m ∧ 0 ≤ m ∧ m ≤ 2 ∧ m < n := fun z hz => by
      obtain ⟨h1, h2⟩ := List.mem_filter.mp hz
      obtain ⟨m, hm, m0, m2⟩ := many_lab ok h1
      have h2 : decide (manyD rs z < n) = true := h2
      rw [manyD_of hm] at h2
      exact ⟨m, hm, m0, m2, of_decide_eq_true h2⟩
    have hlf : ((labs rs).filter pf).length ≤ 15 := Nat.le_trans (List.length_filter_le _ _) hla
    have hne : (labs rs).filter pf ≠ [] := by
      obtain ⟨r, hr, r0⟩ := ok.leaf
      have hm := many_mem ok (r := r) (List.mem_append_left _ hr)
      have : r.1 ∈ (labs rs).filter pf := List.mem_filter.mpr ⟨List.mem_map_of_mem (List.mem_append_left _ hr), by show decide (manyD rs r.1 < n) = true; rw [manyD_of hm, r0]; exact decide_eq_true (by omega)⟩
      intro e
      rw [e] at this
      cases this
    generalize (labs rs).filter pf = fs at hf hfs hlf hne
    -- what grows
    refine ⟨fun σ H' => ∃ (mr : Addr) (ms : List Str), σ = [some (.ref st), some (.ref l), some (.int n), some (.ref ft), some (.ref mr), none, none, none, none] ∧ H' mr = some (.lst (ms.map V.str)) ∧ (∀ z ∈ ms, z ∈ fs) ∧ ms.length ≤ 15 ∧ H mr = none ∧ Same H1 H', ?_, ?_⟩
    · refine ⟨_, rfl, ft, rfl, ⟨_, SqL.of hf⟩, fun Da nDa => ?_⟩
      have nDH : H Da = none := same_free s1 nDa
      refine lc_gen (J := Itl K ft) fs.length (fun i H' => ∃ ms : List Str, H' Da = some (.lst (ms.map V.str)) ∧ (∀ z ∈ ms, z ∈ fs) ∧ ms.length ≤ i ∧ Same H1 H') ⟨[], upd_same, (fun z hz => by cases hz), Nat.le_refl _, same_upd nDa⟩ (fun i H' hi ⟨_, _, _, _, sm⟩ => ⟨_, .str fs[i], SqL.of (sm _ _ hf), by rw [List.getElem?_map, List.getElem?_eq_getElem hi]; rfl⟩)
        (fun H' ⟨_, _, _, _, sm⟩ => ⟨_, SqL.of (sm _ _ hf), by rw [List.length_map]; exact Nat.le_refl _⟩) (fun i H' v H'' hi ⟨ms, hD, hms, hml, sm⟩ yl => ?_) (fun H' ⟨ms, hD, hms, hml, sm⟩ => ⟨Da, ms, rfl, hD, hms, by omega, nDH, sm⟩)
      obtain ⟨rfl, hx⟩ := yl
      have hx := hx _ (SqL.of (sm _ _ hf))
      rw [List.getElem?_map, List.getElem?_eq_getElem hi] at hx
      obtain rfl := Option.some.inj hx
      obtain ⟨m, hm, _⟩ := hfs _ (List.getElem_mem hi)
      refine ⟨rfl, _, rfl, _, rfl, l, fs[i], rs, m, rfl, hR.same (s1.trans sm), ok, hm, fun H3 s3 => ⟨m, 0, rfl, rfl, _, rfl, ?_⟩⟩
      have hD3 := s3 _ _ hD
      have no : ∃ ms : List Str, H3 Da = some (.lst (ms.map V.str)) ∧ (∀ z ∈ ms, z ∈ fs) ∧ ms.length ≤ i + 1 ∧ Same H1 H3 := ⟨ms, hD3, hms, by omega, sm.trans s3⟩
      refine ite2 (fun _ => ?_) (fun _ => iteF no)
      refine ⟨_, rfl, rfl, _, rfl, ?_⟩
      refine ite2 (fun _ => ?_) (fun _ => no)
      refine ⟨_, rfl, _, hD3, by rw [List.length_map, sizeLine_eq]; omega, ms ++ [fs[i]], by rw [upd_same, List.map_append]; rfl, fun z hz => ?_, by simp; omega, fun b o e => by rw [upd_ne (ne_of_none e nDa)]; exact s3 _ _ (sm _ _ e)⟩
      rcases List.mem_append.mp hz with h | h
      · exact hms z h
      · rw [List.mem_singleton.mp h]; exact List.getElem_mem hi
    rintro σ' H2 ⟨mr, ms, rfl, hm, hms, hml, nmr, s2⟩
    have s12 := s1.trans s2
    have hst2 := hst.same s12
    -- which of the two
    refine ⟨fun σ H' => ∃ (g : Addr) (gs : List Str) (v4 : Option V), σ = [some (.ref st), some (.ref l), some (.int n), some (.ref g), v4, none, none, none, none] ∧ H' g = some (.lst (gs.map V.str)) ∧ gs ≠ [] ∧ gs.length ≤ 15 ∧ (∀ z ∈ gs, z ∈ fs) ∧ g ≠ st ∧ StAt (B + 1) H' st cl ∧ But st H H', ?_, ?_⟩
    · have fst : ft ≠ st := (hst.new nft).1
      have mst : mr ≠ st := (hst.new nmr).1
      refine ⟨_, rfl, (by show 0 ≤ sizeLine; decide), fun p np => ⟨mr, p, _, rfl, rfl, SqL.of (by rw [upd_ne (ne_of_none hm np)]; exact hm), SqL.of upd_same, _, rfl, ?_⟩⟩
      have s3 : Same H2 (upd H2 p (.lst [])) := same_upd np
      generalize upd H2 p (.lst []) = H3 at s3
      have stay : ∀ H4, But st H3 H4 → StAt (B + 1) H4 st cl → ∃ (g : Addr) (gs : List Str) (v4 : Option V), ([some (V.ref st), some (.ref l), some (.int n), some (.ref ft), some (.ref mr), none, none, none, none] : L2.St) = [some (.ref st), some (.ref l), some (.int n), some (.ref g), v4, none, none, none, none] ∧ H4 g = some (.lst (gs.map V.str)) ∧ gs ≠ [] ∧ gs.length ≤ 15 ∧ (∀ z ∈ gs, z ∈ fs) ∧ g ≠ st ∧ StAt (B + 1) H4 st cl ∧ But st H H4 :=
        fun H4 b4 t4 => ⟨ft, fs, _, rfl, b4 _ _ (s3 _ _ (s2 _ _ hf)) fst, hne, hlf, fun z hz => hz, fst, t4, (Same.but (s12.trans s3)).trans b4⟩
      refine ite2 (fun c => ?_) (fun _ => ?_)
      · refine ⟨_, rfl, st, 8, B, cl, rfl, by decide, by decide, hst2.same s3, by omega, fun d H4 _ _ hs4 hb4 => ⟨d, 0, rfl, rfl, _, rfl, ite2 (fun _ => ⟨_, rfl, ?_⟩) (fun _ => stay H4 hb4 hs4)⟩⟩
        refine ⟨mr, ms, _, rfl, hb4 _ _ (s3 _ _ hm) mst, ?_, hml, hms, mst, hs4, (Same.but (s12.trans s3)).trans hb4⟩
        intro e
        rw [e] at c
        cases c
      · exact iteF (stay H3 .refl ((hst2.same s3).mono (by omega)))
    rintro σ' H3 ⟨g, gs, v4, rfl, hg, gne, gl, hgs, gst, hs3, hb3⟩
    have hgl : 0 < gs.length := List.length_pos_iff.mpr gne
    refine ⟨_, rfl, _, rfl, st, g, gs.map V.str, B + 1, cl, rfl, .inl hg, gst, by rw [List.length_map]; exact hgl, by rw [List.length_map]; omega, hs3, by omega, fun v H4 hv hs4 hb4 => ?_⟩
    obtain ⟨z, hz, rfl⟩ := List.mem_map.mp hv
    obtain ⟨m, hmz, m0, m2, mn⟩ := hfs z (hgs z hz)
    have hb := hb3.trans hb4
    refine ⟨_, rfl, _, rfl, l, z, rs, m, rfl, hR.but hst hb, ok, hmz, fun H5 s5 => ?_⟩
    have hs5 := hs4.same s5
    have hb5 := hb.trans (Same.but s5)
    have hR5 := hR.but hst hb5
    refine ⟨_, rfl, m, 2, rfl, rfl, _, rfl, ite2 (fun c => ?_) (fun c => ?_)⟩
    · obtain rfl : m = 2 := of_decide_eq_true c
      refine ⟨_, rfl, _, rfl, n, 2, rfl, rfl, st, n - 2, B + 1 + 1, cl, rfl, by omega, by omega, hs5, by omega, fun d H6 d0 d1 hs6 hb6 => ⟨1, d, rfl, rfl, ?_⟩⟩
      have hb06 := hb5.trans hb6
      refine ⟨_, rfl, _, rfl, _, rfl, st, l, 1 + d, rs, B + 1 + 1 + 1, cl, rfl, by omega, by omega, by omega, hR.but hst hb06, ok, hs6, by omega, fun v1 t1 H7 k1 i1 z1 hs7 hb7 => ?_⟩
      have hb07 := hb06.trans hb7
      refine ⟨_, rfl, _, rfl, _, rfl, _, rfl, _, rfl, n, 1, rfl, rfl, _, rfl, n - 1, 1 + d, rfl, rfl, st, l, n - 1 - (1 + d), rs, _, cl, rfl, by omega, by omega, by omega, hR.but hst hb07, ok, hs7, by omega, fun v2 t2 H8 k2 i2 z2 hs8 hb8 => ⟨(by show 3 ≤ sizeLine; decide), fun p np => ?_⟩⟩
      obtain ⟨pa, pc⟩ := hs8.new np
      refine k _ _ _ (new_tree np (cs := [t1, t2]) ⟨DAt.hold (.but hs7 hb8 fun _ h => h.elim) _ k1, k2, trivial⟩) (isT_two hmz i1 i2) ?_ ((hs8.mono (by omega)).put pa pc) ((hb07.trans hb8).trans (Same.but (same_upd np)))
      show ((1 + (1 + (sz t1 + (sz t2 + 0))) : Nat) : Int) ≤ _
      omega
    · have c : m ≠ 2 := fun e => c (decide_eq_true e)
      refine ⟨_, rfl, m, 0, rfl, rfl, _, rfl, ite2 (fun c0 => ?_) (fun c0 => ?_)⟩
      · obtain rfl : m = 0 := of_decide_eq_true c0
        refine ⟨_, rfl, (by show 1 ≤ sizeLine; decide), fun p np => ?_⟩
        obtain ⟨pa, pc⟩ := hs5.new np
        refine k _ _ _ (new_tree np (cs := []) trivial) (isT_leaf hmz) ?_ ((hs5.mono (by omega)).put pa pc) (hb5.trans (Same.but (same_upd np)))
        show ((1 + (1 + 0) : Nat) : Int) ≤ _
        omega
      · have c0 : m ≠ 0 := fun e => c0 (decide_eq_true e)
        obtain rfl : m = 1 := by omega
        refine ⟨_, rfl, _, rfl, _, rfl, _, rfl, n, 1, rfl, rfl, st, l, n - 1, rs, B + 1 + 1, cl, rfl, by omega, by omega, by omega, hR5, ok, hs5, by omega, fun v1 t1 H7 k1 i1 z1 hs7 hb7 => ⟨(by show 2 ≤ sizeLine; decide), fun p np => ?_⟩⟩
        obtain ⟨pa, pc⟩ := hs7.new np
        refine k _ _ _ (new_tree np (cs := [t1]) ⟨k1, trivial⟩) (isT_one hmz i1) ?_ ((hs7.mono (by omega)).put pa pc) ((hb5.trans hb7).trans (Same.but (same_upd np)))
        show ((1 + (1 + (sz t1 + 0)) : Nat) : Int) ≤ _
        omega
theorem c_tree {f : Addr} {fd : FuncData} (F : Def K mg "_law_tree" sTree f fd) (b : Binds K fd ["_law_state", "_law_rows_here", "_law_nodes"] []) (T : Blt4 mg) (C : Cal P w K mg base 1 "_law_take" spTake []) (CO : Cal P w K mg base 2 "_law_one" spOne [])
    (CL : Cal P w K mg base 1 "_law_labels" spLabels []) (CM : Cal P w K mg base 1 "_law_many" spMany []) : ∀ N : Nat, Cal P w K mg base (3 + N) "_law_tree" (spTree N) []
  | 0 => by
    have no : ∀ {vs H Q E}, spTree 0 vs H Q E → False := fun ⟨_, _, n, _, _, _, _, h1, h2, _⟩ => by omega
    exact cal0 F b .nil scTree (fun vs H Q E h => (no h).elim) (fun cdv A outer s H vs Q E hr h => (no h).elim)
  | N + 1 => tree_step F b T (Nat.le_trans (by decide) (Nat.le_add_right 3 N)) C CO CL CM (c_tree F b T C CO CL CM N)
end
end K5

/-! for i, x in enumerate(a tuple); a walk over a list or a tuple -/
namespace XE
open PySem PySem.Spec PySem.W PyProof.Rows L2
theorem enum_new {v : Value} {o : Obj} {B0 : Heap → Prop} (B : Begins v o B0) :
    Meets (Builtin.«enumerate.__new__» ⟨[.type "enumerate", v], []⟩) (fun _ R s => B0 s.heap ∧ R (.ok (.ret (.ref (s.heap.push o).objs.size)))
      { s with heap := (s.heap.push o).push { cls := .type "enumerate", data := .fields #[.none, .bool false, .ref s.heap.objs.size, rawInt 0, .none, .none] } }) :=
  .of_wp fun prog w A R s hh => by
    obtain ⟨hp, ge, dr, tk, os⟩ := s
    obtain ⟨hb, hh⟩ := hh
    have hsb := sub_enumerate
    have go : ∀ {A' : Around} {E Q : Value → Shared → Prop}, Q (.ref hp.objs.size) ⟨hp.push o, ge, dr, tk, os⟩ → wpAny (model prog w) A' (pyIter v) Q E ⟨hp, ge, dr, tk, os⟩ := fun q => B.iter prog w _ _ ⟨hp, ge, dr, tk, os⟩ _ hb q
    wp_walk using go
    refine wpAny_stack_any fun st => wpAny_pure ?_
    split
    · rename_i cc _ _ _ _ _
      cases (cc == Value.type "enumerate") <;> (wp_walk using go; exact ⟨_, rfl, hh⟩)
    · wp_walk using go
      exact ⟨_, rfl, hh⟩
section
variable {prog : Program} {w : World} {A : Around} {E : Value → Shared → Prop} {s : Shared}
theorem enum_call {v : Value} {o : Obj} {B0 : Heap → Prop} {Q : Value → Shared → Prop} (B : Begins v o B0) (hb : B0 s.heap)
    (hq : ∀ h', IsEnum h' (s.heap.objs.size + 1) s.heap.objs.size 0 .none → h'.get? s.heap.objs.size = some o → (∀ b ob, s.heap.get? b = some ob → h'.get? b = some ob) → Q (.ref (s.heap.objs.size + 1)) { s with heap := h' }) :
    wpAny (model prog w) A (call (.type "enumerate") [v]) Q E s := by
  refine callType_new F.called_enumerate (by decide) (F.typeCall_enumerate_1 _) (F.newCall_enumerate_1 _) (fun obj => F.args_object_init_2 obj _) F.entry_enumerate_new (enum_new B) ⟨hb, ?_⟩
  have z1 : (s.heap.push o).objs.size = s.heap.objs.size + 1 := Heap.size_push ..
  show _ ∧ _
  rw [z1]
  have z2 := Heap.get?_push_size (s.heap.push o) (o := { cls := .type "enumerate", data := .fields #[.none, .bool false, .ref s.heap.objs.size, rawInt 0, .none, .none] }) rfl
  rw [z1] at z2
  exact ⟨⟨_, z2, rfl⟩, hq _ z2 (Heap.get?_push_of_some _ (Heap.get?_push_size _ B.free)) fun b ob x => Heap.get?_push_of_some _ (Heap.get?_push_of_some _ x)⟩
theorem enum_endT {e it t : Addr} {i : Nat} {c : Int} {items : Array Value} {old : Value} {Q : Option Value → Shared → Prop} (h0 : A.in1.handled = none) (k1 : IsEnum s.heap e it c old) (k2 : s.heap.IsTupleIter it t i) (pt : s.heap.IsTuple t items) (hx : items[i]? = none)
    (hq : ∀ h', Heap.ExtBut it s.heap h' → Q none { s with heap := h' }) : wpAny (model prog w) A (pyNext (.ref e)) Q E s := by
  have ty : s.TypeIs (.ref e) "enumerate" := ⟨_, k1, rfl⟩
  unfold pyNext
  refine wpAny_bind (wpAny_attempt (wpAny_callSpecial?_slot (name := Str.ofString "__next__") ty F.slot_enumerate_next (wpAny_call_entry F.slot_enumerate_next ty F.entry_enumerate_next ?_ (F.args_enumerate_next_1 _))))
  show wpAny _ _ (field (.ref e) 2 >>= _) _ _ _
  refine wpAny_bind (wpAny_field k1 rfl (x := .ref it) rfl ?_)
  refine wpAny_bind (wpAny_nextOf_tuple_end h0 k2 pt hx fun h' y he' hx' => ?_)
  obtain ⟨o, ho, hc⟩ := hx'
  exact wpAny_bind (wpAny_isInstance (T := "StopIteration") (b := true) ⟨o, ho, hc⟩ isSubtype_stop (wpAny_pure (hq _ he')))
end
/-- the tuple at a, each item in a new pair with its number -/
def IteT (K : PySem.W.Frag) (a : Addr) : It :=
  ⟨fun i H => ∃ (xs : List V) (x : V), SqT K H a xs ∧ xs[i]? = some x,
    fun i H v H' => ∃ T x, v = .ref T ∧ H T = none ∧ H' = upd H T (.tup [.int (i : Nat), x]) ∧ ∀ xs, SqT K H a xs → xs[i]? = some x,
    fun i H => ∃ xs : List V, SqT K H a xs ∧ xs.length ≤ i⟩
theorem turn_enumT {P : Program} {w : World} {K : PySem.W.Frag} {elts : List Expr} {kk : Nat} {tpos : Pos} (a e it : Addr) :
    Turn P w K (.Tuple elts kk tpos) (IteT K a) [e, it] e (fun i h => (∃ old, IsEnum h e it ((i : Nat) : Int) old) ∧ h.IsTupleIter it a i ∧ e ≠ it ∧ a ≠ it ∧ e ≠ a) where
  mem := by simp
  obj := fun i h st b hb => by
    obtain ⟨⟨old, k1⟩, ⟨o, ho, hc, hd⟩, _⟩ := st
    rcases List.mem_cons.mp hb with rfl | hb
    · exact ⟨_, k1, fun v q => nomatch q⟩
    · obtain rfl := List.mem_singleton.mp hb
      exact ⟨o, ho, fun v q => by rw [hd] at q; cases q⟩
  keep := fun i h h' st k => by
    obtain ⟨⟨old, k1⟩, k2, k3⟩ := st
    exact ⟨⟨old, k e (by simp) _ k1⟩, k2.at fun o q => k it (by simp) o q, k3⟩
  item := by
    intro X hP hw hK hc i pins s σ H E I hf st hg
    subst hP hw hK
    obtain ⟨⟨old, k1⟩, k2, k3, k4, k5⟩ := st
    obtain ⟨xs, x, hq, hx⟩ := hg
    obtain ⟨its, rv, pt, hz⟩ := I.tuple hq
    obtain ⟨u, hu, ru⟩ := rv.get hx
    have l1 : e < s.heap.objs.size := Heap.lt_size k1
    have l2 : it < s.heap.objs.size := by obtain ⟨_, q, _⟩ := k2; exact Heap.lt_size q
    have lu : i < its.toArray.size := by rw [List.size_toArray]; exact (List.getElem?_eq_some_iff.mp hu).1
    refine wpAny_pyNext_enum_itemD (Draws.tuple (A := X.A.in1) (show X.A.in1.handled = none from I.ok.hd hc) it a k4 its.toArray) k1 ⟨k2, pt⟩ lu k3 (by simp [k3, k5]) fun y h' tk hy ho st' hT hsz hk => ?_
    obtain rfl : u = y := by
      have : its.toArray[i]? = some u := by simpa using hu
      rw [this] at hy
      exact Option.some.inj hy
    refine ⟨_, rfl, wpAny_letOwnedTupleGo_enum (s := { s with heap := h', toks := tk + 1 }) ho fun h'' he' sb => ?_⟩
    have hT2 : h''.get? s.heap.objs.size = some { cls := .type "tuple", data := .seq #[.int i tk, u] } := (sb.2 _ (Nat.ne_of_gt l1)).trans hT
    have nw : ObjOk X.prog X.w (upd H s.heap.objs.size (.tup [.int (i : Nat), x])) h'' s.heap.objs.size (.tup [.int (i : Nat), x]) :=
      ⟨by show 2 ≤ sizeLine; decide, [.int i tk, u], .cons ⟨_, rfl⟩ (.cons ru .nil), ⟨_, hT2, rfl, _, rfl⟩⟩
    have I1 : Inv X pins σ (upd H s.heap.objs.size (.tup [.int (i : Nat), x])) { s with heap := h'', toks := tk + 1 } :=
      I.turnedNew (ch := [e, it]) (fun b ob hb q => (sb.2 b (fun z => hb (by simp [z]))).trans (hk b ob (fun z => hb (by simp [z])) (fun z => hb (by simp [z])) q)) hf (Nat.le_refl _) nw
    refine ⟨.ref s.heap.objs.size, _, I1, rfl, ⟨_, x, rfl, I.hok.fresh (Nat.le_refl _), rfl, fun ys hy => by rw [I.tuple_inj hy hq]; exact hx⟩, ⟨⟨u, ?_⟩, st'.1.at fun o q => (sb.2 it (Ne.symm k3)).trans q, k3, k4, k5⟩, fun b hb => ?_⟩
    · rw [show ((i + 1 : Nat) : Int) = (i : Int) + 1 by omega]
      exact he'
    · have hb' : b < s.heap.objs.size := by
        rcases List.mem_cons.mp hb with rfl | hb
        · exact l1
        · obtain rfl := List.mem_singleton.mp hb
          exact l2
      rw [upd_ne (Nat.ne_of_lt hb')]
      exact (hf b hb).1
  done := by
    intro X hP hw hK hc i pins s σ H E I hf st hg
    subst hP hw hK
    obtain ⟨⟨old, k1⟩, k2, k3, k4, k5⟩ := st
    obtain ⟨xs, hq, hx⟩ := hg
    obtain ⟨its, rv, pt, hz⟩ := I.tuple hq
    obtain ⟨f0, f1, f2, f3, f4, f5⟩ := hf it (by simp)
    have hl := rv.length
    exact enum_endT (show X.A.in1.handled = none from I.ok.hd hc) k1 k2 pt (by simp; omega) fun h' eb => ⟨rfl, I.turned (t' := s.toks) (fun b o hb q => eb b o hb q) f0 f1 f3 f4 f5⟩
  self := fun A i s Q E st h => by
    obtain ⟨⟨_, k1⟩, _⟩ := st
    exact wpAny_pyIter_enum k1 h
def iEnumT (K : PySem.W.Frag) (ta : TA) : TI := fun σ H R => ta σ H fun vs H1 => ∃ a xs, vs = [.ref a] ∧ SqT K H1 a xs ∧ R (IteT K a) H1
theorem pi_enumT {X : Cx} {e : Expr} {ta : TA} {p pos tpos : Pos} {elts : List Expr} {kk : Nat} (hg : Gl X "enumerate") (hm : X.mg "enumerate" = none) (ha : PA X [e] ta) (hs : starEach [e] X.env = [(false, eval e X.env)] := by rfl) :
    PI X (.Tuple elts kk tpos) (.Call (.Name "enumerate" p) [e] [] pos) (iEnumT X.K ta) := by
  refine ⟨fun pins s σ H R I h => ?_⟩
  refine Call_ (ld_blt I hg hm boot_enumerate (PyProof.Rows.callWith_type1 (thn (ha.run pos pins s σ H _ I h) fun us s1 ⟨vs, H1, I1, r1, q1⟩ => ?_) hs rfl))
  obtain ⟨a, xs, rfl, hq, q⟩ := q1
  cases r1 with
  | cons r rr =>
    cases rr
    cases r
    obtain ⟨its, rv, pt, hz⟩ := I1.tuple hq
    refine enum_call (begins_tuple a its.toArray) pt fun h' he hit hk => wpAny_pyIter_enum he ?_
    have I2 : Inv X pins σ H1 { s1 with heap := h' } := I1.kept (t' := s1.toks) hk
    have al : a < s1.heap.objs.size := by obtain ⟨_, q, _⟩ := pt; exact Heap.lt_size q
    refine ⟨s1.heap.objs.size + 1, [s1.heap.objs.size + 1, s1.heap.objs.size], _, _, H1, rfl, I2, turn_enumT a (s1.heap.objs.size + 1) s1.heap.objs.size, ⟨⟨.none, he⟩, ⟨_, hit, rfl, rfl⟩, Nat.succ_ne_self _, Nat.ne_of_lt al, Ne.symm (Nat.ne_of_lt (Nat.lt_succ_of_lt al))⟩, fun b hb => ?_, q⟩
    have hle : s1.heap.objs.size ≤ b := by
      rcases List.mem_cons.mp hb with rfl | hb
      · exact Nat.le_add_right _ _
      · obtain rfl := List.mem_singleton.mp hb
        exact Nat.le_refl _
    exact I1.fpOk hle (I1.hok.fresh hle)
theorem PI.or {X : Cx} {tg e : Expr} {wi wi' : TI} (h : PI X tg e wi) (h' : PI X tg e wi') : PI X tg e (fun σ H R => wi σ H R ∨ wi' σ H R) := ⟨fun pins s σ H R I q => q.elim (h.run pins s σ H R I) (h'.run pins s σ H R I)⟩
end XE

namespace K5
open PySem PySem.Spec PyProof.Rows L2 C8 XE
def InT : D → List Int → Prop
  | _, [] => True
  | .sq cs, k :: p => 0 ≤ k ∧ ∃ c, cs[k.toNat + 1]? = some c ∧ InT c p
  | _, _ :: _ => False
def PlV (H : Hp) (v : V) (p : List Int) : Prop := ∃ a, v = .ref a ∧ H a = some (.tup (p.map V.int))
theorem PlV.same {H H' : Hp} (s : Same H H') {v : V} {p : List Int} (h : PlV H v p) : PlV H' v p := by
  obtain ⟨a, e, q⟩ := h
  exact ⟨a, e, s _ _ q⟩
/-- a tree: its label, its children -/
theorem isT_inv {rs : List Rw} {t : D} (h : isT rs t = true) : ∃ z cs m, t = .sq (.fl (.str z) :: cs) ∧ many rs z = some m ∧ (cs.length : Int) = m ∧ isTs rs cs = true := by
  unfold isT at h
  split at h
  · rename_i z cs
    split at h
    · rename_i m hm
      rw [Bool.and_eq_true] at h
      exact ⟨z, cs, m, rfl, hm, of_decide_eq_true h.1, h.2⟩
    · cases h
  · cases h
theorem isTs_get {rs : List Rw} : ∀ {cs : List D}, isTs rs cs = true → ∀ {i : Nat} {c : D}, cs[i]? = some c → isT rs c = true
  | [], _, i, c, e => by cases e
  | x :: xs, h, i, c, e => by
    rw [isTs, Bool.and_eq_true] at h
    cases i with
    | zero => cases e; exact h.1
    | succ i => exact isTs_get h.2 e
theorem szs_get : ∀ {cs : List D} {i : Nat} {c : D}, cs[i]? = some c → sz c ≤ szs cs
  | [], i, c, e => by cases e
  | x :: xs, i, c, e => by
    rw [szs]
    cases i with
    | zero => cases e; omega
    | succ i => have := szs_get (cs := xs) (i := i) e; omega
theorem szs_app : ∀ (a b : List D), szs (a ++ b) = szs a + szs b
  | [], b => by rw [List.nil_append, szs, Nat.zero_add]
  | x :: a, b => by rw [List.cons_append, szs, szs, szs_app a b, Nat.add_assoc]
theorem sz_pos : ∀ d : D, 1 ≤ sz d
  | .fl _ => Nat.le_refl _
  | .emp => Nat.le_refl _
  | .sq xs => by rw [sz]; omega
theorem len_szs : ∀ cs : List D, cs.length ≤ szs cs
  | [] => Nat.le_refl _
  | x :: xs => by rw [szs, List.length_cons]; have := len_szs xs; have := sz_pos x; omega
theorem DAts.len {F : Addr → Prop} {H : Hp} : ∀ {ds : List D} {vs : List V}, DAts F H vs ds → vs.length = ds.length
  | [], [], _ => rfl
  | d :: ds, v :: vs, ⟨_, t⟩ => congrArg (· + 1) (DAts.len t)
  | [], _ :: _, k => (show False from k).elim
  | _ :: _, [], k => (show False from k).elim
theorem DAts.get {F : Addr → Prop} {H : Hp} : ∀ {ds : List D} {vs : List V}, DAts F H vs ds → ∀ {i : Nat} {v : V}, vs[i]? = some v → ∃ d, ds[i]? = some d ∧ DAt F H v d
  | [], [], _, i, v, e => by cases e
  | d :: ds, v :: vs, ⟨k, t⟩, i, v', e => by
    cases i with
    | zero => cases e; exact ⟨d, rfl, k⟩
    | succ i => exact DAts.get t e
  | [], _ :: _, k, _, _, _ => (show False from k).elim
  | _ :: _, [], k, _, _, _ => (show False from k).elim
/-- a tree's cell -/
theorem DAt.tree {rs : List Rw} {H : Hp} {v : V} {t : D} (h : DAt nol H v t) (ht : isT rs t = true) : ∃ a z cvs cs m, v = .ref a ∧ H a = some (.tup (.str z :: cvs)) ∧ t = .sq (.fl (.str z) :: cs) ∧ DAts nol H cvs cs ∧ many rs z = some m ∧ (cs.length : Int) = m ∧ isTs rs cs = true := by
  obtain ⟨z, cs, m, rfl, hm, hl, hs⟩ := isT_inv ht
  obtain ⟨a, vs, rfl, q, _, k⟩ := h
  have q : H a = some (.tup vs) := q.elim id fun e => e.1.elim
  cases vs with
  | nil => exact (show False from k).elim
  | cons v0 cvs =>
    obtain ⟨⟨e, _⟩, k⟩ := k
    subst e
    exact ⟨a, z, cvs, cs, m, rfl, q, rfl, k, hm, hl, hs⟩
theorem paired_app {α β : Type} {R : α → β → Prop} {a c : List α} {b d : List β} (h : Paired R a b) (h' : Paired R c d) : Paired R (a ++ c) (b ++ d) := by
  induction h with
  | nil => exact h'
  | cons q _ ih => exact .cons q ih
theorem not_whole {n : Nat} {i : Int} {o : Option Int} (h : 0 < i) (hn : 0 < n) : ¬ (HT.sIx n 0 (some i) = 0 ∧ HT.sIx n n o = n) := by
  intro z
  have z := z.1
  unfold HT.sIx at z
  dsimp only at z
  rw [if_neg (by omega)] at z
  omega
theorem not_whole_hi {n : Nat} {i : Int} {o : Option Int} (h : 0 ≤ i) (hn : i < n) : ¬ (HT.sIx n 0 o = 0 ∧ HT.sIx n n (some i) = n) := by
  intro z
  have z := z.2
  unfold HT.sIx at z
  dsimp only at z
  rw [if_neg (by omega)] at z
  omega
theorem DAts.app {F : Addr → Prop} {H : Hp} : ∀ {ds es : List D} {vs us : List V}, DAts F H vs ds → DAts F H us es → DAts F H (vs ++ us) (ds ++ es)
  | [], es, [], us, _, h => h
  | d :: ds, es, v :: vs, us, ⟨k, t⟩, h => ⟨k, DAts.app t h⟩
  | [], _, _ :: _, _, k, _ => (show False from k).elim
  | _ :: _, _, [], _, k, _ => (show False from k).elim
theorem DAts.take {F : Addr → Prop} {H : Hp} : ∀ {ds : List D} {vs : List V} (n : Nat), DAts F H vs ds → DAts F H (vs.take n) (ds.take n)
  | _, _, 0, _ => trivial
  | [], [], n + 1, _ => trivial
  | d :: ds, v :: vs, n + 1, ⟨k, t⟩ => ⟨k, DAts.take n t⟩
  | [], _ :: _, _ + 1, k => (show False from k).elim
  | _ :: _, [], _ + 1, k => (show False from k).elim
theorem DAts.drop {F : Addr → Prop} {H : Hp} : ∀ {ds : List D} {vs : List V} (n : Nat), DAts F H vs ds → DAts F H (vs.drop n) (ds.drop n)
  | _, _, 0, k => k
  | [], [], n + 1, _ => trivial
  | d :: ds, v :: vs, n + 1, ⟨_, t⟩ => DAts.drop n t
  | [], _ :: _, _ + 1, k => (show False from k).elim
  | _ :: _, [], _ + 1, k => (show False from k).elim
end K5

namespace K5
open PySem PySem.Spec PyProof.Rows L2 C8 XE
abbrev sLoose : Stmt := top 33
def isSq : D → Bool
  | .sq _ => true
  | _ => false
def isSt : D → Bool
  | .fl (.str _) => true
  | _ => false
theorem d_ty {K : PySem.W.Frag} {F : Addr → Prop} {H : Hp} {v : V} : ∀ {d : D}, DAt F H v d → ∃ T, (∀ H', Same H H' → TyX K H' v (.type T)) ∧ PySem.W.kitAny K (.type T) [.type "list", .type "tuple"] = some (isSq d) ∧ PySem.W.kitOne K (.type T) (.type "str") = some (isSt d) := by
  have z : ∀ T ∈ ["NoneType", "bool", "int", "str", "dict", "list", "tuple"], kitB T "list" = some (T == "list") ∧ kitB T "tuple" = some (T == "tuple") ∧ kitB T "str" = some (T == "str") := by decide +kernel
  have mk : ∀ (T : String) (b c : Bool), T ∈ ["NoneType", "bool", "int", "str", "dict", "list", "tuple"] → (T == "list" || T == "tuple") = b → (T == "str") = c → PySem.W.kitAny K (.type T) [.type "list", .type "tuple"] = some b ∧ PySem.W.kitOne K (.type T) (.type "str") = some c := by
    intro T b c hT e1 e2
    obtain ⟨h1, h2, h3⟩ := z T hT
    refine ⟨kitAny_cons (kit_ty h1) (fun e => ?_) (fun e => ?_), by rw [kit_ty h3, e2]⟩
    · rw [e, Bool.false_or] at e1
      exact kitAny_cons (b := (T == "tuple")) (kit_ty h2) (fun e' => by rw [← e1, e']; exact kitAny_nil) fun e' => by rw [← e1, e']
    · rw [e] at e1
      rw [← e1]; rfl
  intro d h
  cases d with
  | fl x =>
    obtain ⟨rfl, fx⟩ := h
    cases v with
    | non => exact ⟨"NoneType", fun _ _ => .base .non, mk _ _ _ (by decide) rfl rfl⟩
    | bl b => exact ⟨"bool", fun _ _ => .base (.bl b), mk _ _ _ (by decide) rfl rfl⟩
    | int i => exact ⟨"int", fun _ _ => .base (.int i), mk _ _ _ (by decide) rfl rfl⟩
    | str z => exact ⟨"str", fun _ _ => .base (.str z), mk _ _ _ (by decide) rfl rfl⟩
    | _ => cases fx
  | emp =>
    obtain ⟨a, rfl, q⟩ := h
    exact ⟨"dict", fun H' s => .base (.dK (s _ _ q)), mk _ _ _ (by decide) rfl rfl⟩
  | sq xs =>
    obtain ⟨a, vs, rfl, q, _⟩ := h
    rcases q with q | ⟨_, q⟩
    · exact ⟨"tuple", fun H' s => .base (.tup (s _ _ q)), mk _ _ _ (by decide) rfl rfl⟩
    · exact ⟨"list", fun H' s => .base (.lst (s _ _ q)), mk _ _ _ (by decide) rfl rfl⟩
def spLoose (N : Nat) : Sp := fun vs H Q _ => ∃ (st : Addr) (v : V) (d : D) (B : Nat) (cl : Addr), vs = [.ref st, v] ∧ DAt (oth st) H v d ∧ sz d ≤ N ∧ sz d ≤ 1000 ∧ StAt B H st cl ∧ B + sz d < 1000000000000000 ∧
  ∀ (v' : V) (H' : Hp), DAt (fun a => H a = none) H' v' d → StAt (B + sz d) H' st cl → But st H H' → Q v' H'
abbrev NLo : List Str := ["_law_state", "_law_thing", "_law_found", "_law_x"]
theorem scLoose : FnScope NLo ["_law_state", "_law_thing"] (fnScope sLoose) := fnScope_by (by decide +kernel)
theorem szs_take_succ {xs : List D} {i : Nat} (h : i < xs.length) : szs (xs.take (i + 1)) = szs (xs.take i) + sz xs[i] := by
  rw [List.take_succ_eq_append_getElem h, szs_app]
  rfl
theorem szs_take_le (xs : List D) (i : Nat) : szs (xs.take i) ≤ szs xs := by
  have : szs (xs.take i) + szs (xs.drop i) = szs xs := by rw [← szs_app, List.take_append_drop]
  omega
section
variable {P : Program} {w : World} {K : PySem.W.Frag} {mg : Str → Option Value} {base : Heap}
theorem loose_step {k : Nat} {N : Nat} {f : Addr} {fd : FuncData} (F : Def K mg "_law_loose" sLoose f fd) (b : Binds K fd ["_law_state", "_law_thing"] []) (T : Blt4 mg) (hk : 1 ≤ k) (C : Cal P w K mg base 1 "_law_take" spTake []) (CL : Cal P w K mg base k "_law_loose" (spLoose N) []) : Cal P w K mg base (k + 1) "_law_loose" (spLoose (N + 1)) [] := by
  refine cal0 F b .nil scLoose (fun vs H Q E h => ?_) (fun cdv A outer s H vs Q E hr h => ?_)
  · obtain ⟨st, v, d, B, cl, rfl, _⟩ := h
    rfl
  · obtain ⟨st, v, d, B, cl, rfl, hv, h0, h1, hst, hB, kk⟩ := h
    have nd := scLoose.nd
    refine ⟨_, pss_cons (ps_if (pt_val (pe_callB call_isiT (by rfl) T.isi (by decide +kernel) (pa_cons (pv 1) (pa_cons (pe_tup (pa_cons (pe_bt "list" T.list) (pa_cons (pe_bt "tuple" T.tup) pa_nil))) pa_nil))))
        (pss_cut (ps_setLc (i := 2) (own := [("_law_x", 3)]) (g := gName 3) (tt := tYes) rfl nd rfl rfl (by rfl) (PI.or (pi_list (pv 1)) (pi_tup (pv 1))) (blkOk_by (N := NLo) (sc := fnScope sLoose) (by decide +kernel)) (fun _ _ _ _ _ => pg_name (i := 3) nd rfl (Or.inl rfl)) (fun _ _ _ _ _ => pts_nil)
            (fun _ _ _ _ _ => pe_c CL hr (Nat.le_refl _) (by rfl) (pa_cons (pv 0) (pa_cons (pv 3) pa_nil))))
        (pss_one (ps_ret (pe_ifExp (pt_cmp (pc_eqI (pe_c C hr hk (by rfl) (pa_cons (pv 0) (pa_cons pe_int pa_nil))) pe_int)) (pv 2) (pe_callTy call_tuple_of (by rfl) T.tup (by decide +kernel) (pa_cons (pv 2) pa_nil))))))
        pss_nil)
      (pss_one (ps_ret (pv 1))), ?_⟩
    obtain ⟨Ty, ty, k1, _⟩ := d_ty (K := K) hv
    refine ⟨_, rfl, (by show 2 ≤ sizeLine; decide), fun p np => ⟨v, p, [.ty "list", .ty "tuple"], _, _, isSq d, rfl, upd_same, .cons (.ty _) (.cons (.ty _) .nil), ty _ (same_upd np), k1, isSq d, rfl, ?_⟩⟩
    have s1 : Same H (upd H p (.tup [.ty "list", .ty "tuple"])) := same_upd np
    generalize upd H p (.tup [.ty "list", .ty "tuple"]) = H1 at s1
    have hs1 := hst.same s1
    cases d with
    | fl x => exact iteF ⟨_, rfl, kk v H1 (DAt.hold (.same s1) (.fl x) hv) (hs1.mono (by omega)) (Same.but s1)⟩
    | emp => exact iteF ⟨_, rfl, kk v H1 (DAt.hold (.same s1) .emp hv) (hs1.mono (by omega)) (Same.but s1)⟩
    | sq xs =>
      obtain ⟨a, vs, rfl, q, ho, hxs⟩ := hv
      have hlen := hxs.len
      have hll := len_szs xs
      have hsz : sz (.sq xs) = 1 + szs xs := rfl
      rw [hsz] at h0 h1 hB
      refine iteT ?_
      refine ⟨fun σ H' => ∃ (Dd : Addr) (ys : List V), σ = [some (.ref st), some (.ref a), some (.ref Dd), none] ∧ H' Dd = some (.lst ys) ∧ DAts (fun a => H a = none) H' ys xs ∧ StAt (B + szs xs) H' st cl ∧ But st H H' ∧ H Dd = none, ?_, ?_⟩
      · -- the walk, over a list or a tuple
        have walk : ∀ (J : It), (∀ i H', i < xs.length → But st H H' → J.go i H') → (∀ H', But st H H' → J.stop xs.length H') → (∀ i H' x H'', But st H H' → J.yld i H' x H'' → H'' = H' ∧ vs[i]? = some x) → ∀ Da, H1 Da = none →
            ∃ W : Nat → Nat → Hp → Prop, (∃ m, W 0 m (upd H1 Da (.lst []))) ∧ ∀ i m H', W i m H' → (J.stop i H' ∧ gName 2 (.ref Da) (start NLo [V.ref st, V.ref a]) H' fun σ H' => ∃ (Dd : Addr) (ys : List V), σ = [some (.ref st), some (.ref a), some (.ref Dd), none] ∧ H' Dd = some (.lst ys) ∧ DAts (fun a => H a = none) H' ys xs ∧ StAt (B + szs xs) H' st cl ∧ But st H H' ∧ H Dd = none) ∨
              (J.go i H' ∧ ∃ Nx : Hp → Prop, (∀ H'', Nx H'' → ∃ m', m' < m ∧ W (i + 1) m' H'') ∧ ∀ x H'', J.yld i H' x H'' → gName 3 x (wipe (start NLo [V.ref st, V.ref a]) [3]) H'' fun σ2 H2 => wipe σ2 [3] = wipe (start NLo [V.ref st, V.ref a]) [3] ∧ tYes σ2 H2 fun b H3 =>
                if b = true then tCall (spLoose N) [] C8.E0 (tCons (tVar 0) (tCons (tVar 3) tNil)) σ2 H3 fun y H4 => ∃ acc, H4 Da = some (.lst acc) ∧ acc.length < sizeLine ∧ Nx (upd H4 Da (.lst (acc ++ [y]))) else Nx H3) := by
          intro J jgo jst jyl Da nDa
          have nDH : H Da = none := same_free s1 nDa
          obtain ⟨Ds, Dc⟩ := hst.new nDH
          refine lc_gen (J := J) xs.length (fun i H' => ∃ ys, H' Da = some (.lst ys) ∧ DAts (fun a => H a = none ∧ a ≠ Da) H' ys (xs.take i) ∧ StAt (B + szs (xs.take i)) H' st cl ∧ But st H H') ⟨[], upd_same, trivial, (hs1.put Ds Dc).mono (Nat.le_add_right _ _), (Same.but s1).upd nDH⟩
            (fun i H' hi ⟨_, _, _, _, bb⟩ => jgo i H' hi bb) (fun H' ⟨_, _, _, _, bb⟩ => jst H' bb) (fun i H' x H'' hi ⟨ys, hD, hys, hs, bb⟩ yl => ?_) (fun H' ⟨ys, hD, hys, hs, bb⟩ => ?_)
          · obtain ⟨rfl, hx⟩ := jyl i H' x H'' bb yl
            obtain ⟨dd, hd, hxd⟩ := hxs.get hx
            obtain ⟨_, ed⟩ := List.getElem?_eq_some_iff.mp hd
            have hts := szs_take_succ hi
            have htl := szs_take_le xs (i + 1)
            rw [ed] at hts
            refine ⟨rfl, ?_⟩
            unfold tYes
            dsimp only
            rw [if_pos rfl]
            refine ⟨_, rfl, _, rfl, st, x, dd, B + szs (xs.take i), cl, rfl, DAt.hold (.but hst bb fun _ h => h) _ hxd, by omega, by omega, hs, by omega, fun v' H5 hv' hs5 b5 => ?_⟩
            have hD5 := b5 _ _ hD Ds
            have hyl := hys.len
            rw [List.length_take] at hyl
            have bb5 := bb.trans b5
            refine ⟨ys, hD5, by rw [sizeLine_eq]; omega, ys ++ [v'], upd_same, ?_, by rw [hts, ← Nat.add_assoc]; exact hs5.put Ds Dc, bb5.upd nDH⟩
            rw [List.take_succ_eq_append_getElem hi, ed]
            have keepD : ∀ {G : Addr → Prop}, (∀ a, G a → a ≠ Da) → Hold G H5 (upd H5 Da (.lst (ys ++ [v']))) := fun hG => ⟨fun a _ e => by rw [upd_ne (ne_of e hD5 (by intro z; cases z))]; exact e, fun a e => by rw [upd_ne (ne_of e hD5 (by intro z; cases z))]; exact e, fun a _ g e => by rw [upd_ne (hG a g)]; exact e⟩
            refine DAts.app (DAts.hold (keepD fun a g => g.2) _ (DAts.hold (.but hs b5 fun a g => (hst.new g.1).1) _ hys)) ⟨?_, trivial⟩
            have nn : ∀ a, H'' a = none → H a = none ∧ a ≠ Da := fun a g => ⟨bb.free g (hs.new g).1, fun z => by rw [z, hD] at g; cases g⟩
            exact DAt.hold (keepD fun a g => g.2) _ (DAt.weak nn _ hv')
          · rw [List.take_of_length_le (Nat.le_refl _)] at hys hs
            exact ⟨Da, ys, rfl, hD, DAts.weak (fun _ g => g.1) _ hys, hs, bb, nDH⟩
        have stt : ∀ {o : HO} {H' : Hp}, But st H H' → H a = some o → a ≠ st → H' a = some o := fun bb e n => bb _ _ e n
        rcases q with q | ⟨hF, q⟩
        · have ne : a ≠ st := by
            obtain ⟨ns, i, c, h0, n, e1, _⟩ := hst
            exact ne_of q e1 (by intro z; cases z)
          refine .inr ⟨_, rfl, a, rfl, ⟨_, SqT.of (s1 _ _ q)⟩, walk (Itt K a) (fun i H' hi bb => ⟨vs, vs.getD i .non, SqT.of (bb _ _ q ne), getD_at (by omega)⟩) (fun H' bb => ⟨vs, SqT.of (bb _ _ q ne), by omega⟩) (fun i H' x H'' bb yl => ⟨yl.1, yl.2 _ (SqT.of (bb _ _ q ne))⟩)⟩
        · refine .inl ⟨_, rfl, a, rfl, ⟨_, SqL.of (s1 _ _ q)⟩, walk (Itl K a) (fun i H' hi bb => ⟨vs, vs.getD i .non, SqL.of (bb _ _ q hF), getD_at (by omega)⟩) (fun H' bb => ⟨vs, SqL.of (bb _ _ q hF), by omega⟩) (fun i H' x H'' bb yl => ⟨yl.1, yl.2 _ (SqL.of (bb _ _ q hF))⟩)⟩
      · rintro σ H2 ⟨Dd, ys, rfl, hD, hys, hs, bb, nD⟩
        obtain ⟨Ds, Dc⟩ := hst.new nD
        refine ⟨_, rfl, st, 2, B + szs xs, cl, rfl, by decide, by decide, hs, by omega, fun dg H3 _ _ hs3 b3 => ⟨dg, 0, rfl, rfl, _, rfl, ?_⟩⟩
        have hD3 := b3 _ _ hD Ds
        have hs3 : StAt (B + sz (.sq xs)) H3 st cl := by rw [hsz, Nat.add_comm 1, ← Nat.add_assoc]; exact hs3
        have hy3 := DAts.hold (.but hs b3 fun a g => (hst.new g).1) _ hys
        refine ite2 (fun _ => ?_) (fun _ => ?_)
        · exact ⟨_, rfl, kk _ H3 ⟨Dd, ys, rfl, .inr ⟨nD, hD3⟩, ho, hy3⟩ hs3 (bb.trans b3)⟩
        · refine ⟨_, rfl, Dd, ys, rfl, .inl ⟨SqL.of hD3, fun l nl => ?_⟩⟩
          obtain ⟨la, lc⟩ := hs3.new nl
          exact kk _ _ ⟨l, ys, rfl, .inl upd_same, ho, DAts.hold (.same (same_upd nl)) _ hy3⟩ (hs3.put la lc) ((bb.trans b3).trans (Same.but (same_upd nl)))
theorem c_loose {f : Addr} {fd : FuncData} (F : Def K mg "_law_loose" sLoose f fd) (b : Binds K fd ["_law_state", "_law_thing"] []) (T : Blt4 mg) (C : Cal P w K mg base 1 "_law_take" spTake []) : ∀ N : Nat, Cal P w K mg base (1 + N) "_law_loose" (spLoose N) []
  | 0 => by
    have no : ∀ {vs H Q E}, spLoose 0 vs H Q E → False := fun ⟨_, _, d, _, _, _, _, h, _⟩ => by have := sz_pos d; omega
    exact cal0 F b .nil scLoose (fun vs H Q E h => (no h).elim) (fun cdv A outer s H vs Q E hr h => (no h).elim)
  | N + 1 => loose_step F b T (Nat.le_add_right 1 N) C (c_loose F b T C N)
end
end K5

namespace K5
open PySem PySem.Spec PyProof.Rows L2 C8 XE
/-! _law_same of any data, the answer True -/
def sqo (t : Bool) (xs : List V) : HO := match t with
  | true => .tup xs
  | false => .lst xs
def nmo (t : Bool) : String := match t with
  | true => "tuple"
  | false => "list"
def EqN (H : Hp) : Nat → V → V → Prop
  | 0, _, _ => False
  | n + 1, x, y => (x = y ∧ Leaf H x) ∨ ∃ t a b xs ys, x = .ref a ∧ y = .ref b ∧ H a = some (sqo t xs) ∧ H b = some (sqo t ys) ∧ Paired (EqN H n) xs ys ∧ xs.length ≤ 100000
theorem EqN.same {H H' : Hp} (s : Same H H') : ∀ {n : Nat} {x y : V}, EqN H n x y → EqN H' n x y
  | 0, _, _, h => h
  | n + 1, x, y, h => h.imp (fun ⟨e, l⟩ => ⟨e, l.same s⟩) fun ⟨t, a, b, xs, ys, e1, e2, q1, q2, p, l⟩ => ⟨t, a, b, xs, ys, e1, e2, s _ _ q1, s _ _ q2, Paired.mono (fun _ _ h => EqN.same s h) p, l⟩
def spSameN (n : Nat) : Sp := fun vs H Q _ => ∃ x y : V, vs = [x, y] ∧ EqN H n x y ∧ ∀ H', Same H H' → Q (.bl true) H'
theorem sqo_seq {K : PySem.W.Frag} {H : Hp} {a : Addr} {t : Bool} {xs : List V} (h : H a = some (sqo t xs)) : SqL K H a xs ∨ SqT K H a xs := by
  cases t with
  | true => exact .inr (SqT.of h)
  | false => exact .inl (SqL.of h)
theorem sqo_ty {K : PySem.W.Frag} {H : Hp} {a : Addr} {t : Bool} {xs : List V} (h : H a = some (sqo t xs)) : TyX K H (.ref a) (.type (nmo t)) := by
  cases t with
  | true => exact .base (.tup h)
  | false => exact .base (.lst h)
theorem kit_sq {K : PySem.W.Frag} (t : Bool) : PySem.W.kitAny K (.type (nmo t)) [.type "list", .type "tuple"] = some true ∧ PySem.W.kitOne K (.type (nmo t)) (.type "list") = some (!t) ∧ PySem.W.kitOne K (.type (nmo t)) (.type "tuple") = some t := by
  have z : kitB "list" "list" = some true ∧ kitB "list" "tuple" = some false ∧ kitB "tuple" "list" = some false ∧ kitB "tuple" "tuple" = some true := by decide +kernel
  obtain ⟨z1, z2, z3, z4⟩ := z
  cases t with
  | true => exact ⟨kitAny_cons (kit_ty z3) (fun _ => kitAny_cons (kit_ty z4) (fun e => (nomatch e)) (fun _ => rfl)) (fun e => (nomatch e)), kit_ty z3, kit_ty z4⟩
  | false => exact ⟨kitAny_cons (kit_ty z1) (fun e => (nomatch e)) (fun _ => rfl), kit_ty z1, kit_ty z2⟩
abbrev NSa : List Str := ["_law_found", "_law_due", "_law_x", "_law_y"]
section
variable {P : Program} {w : World} {K : PySem.W.Frag} {mg : Str → Option Value} {base : Heap}
theorem same_step {k n : Nat} {f : Addr} {fd : FuncData} (F : Def K mg "_law_same" sSame f fd) (b : Binds K fd ["_law_found", "_law_due"] []) (T : Blt2 mg) (CS : Cal P w K mg base k "_law_same" (spSameN n) []) : Cal P w K mg base (k + 1) "_law_same" (spSameN (n + 1)) [] := by
  refine cal0 F b .nil scSame (fun vs H Q E h => ?_) (fun cdv A outer s H vs Q E hr h => ?_)
  · obtain ⟨x, y, rfl, _⟩ := h
    rfl
  · obtain ⟨x, y, rfl, hx, k⟩ := h
    have hu : (A.deeper (envOfC "_law_same" (fnScope sSame) s.heap.objs.size f cdv)).units + 64 < cLine := by have := hr.un; omega
    have nd := scSame.nd
    refine ⟨_, pss_cons (ps_if (pt_val (pe_callB call_isiT (by rfl) T.isi (by decide +kernel) (pa_cons (pv 1) (pa_cons (pe_tup (pa_cons (pe_bt "list" T.list) (pa_cons (pe_bt "tuple" T.tup) pa_nil))) pa_nil))))
        (pss_cons (ps_if (pw_or (pt_cmpR op_ne (pe_callB call_isi (by rfl) T.isi (by decide +kernel) (pa_cons (pv 0) (pa_cons (pe_bt "list" T.list) pa_nil))) (pe_callB call_isi (by rfl) T.isi (by decide +kernel) (pa_cons (pv 1) (pa_cons (pe_bt "list" T.list) pa_nil))) (nomark _))
            (pw_or1 (pt_cmpR op_ne (pe_callB call_isi (by rfl) T.isi (by decide +kernel) (pa_cons (pv 0) (pa_cons (pe_bt "tuple" T.tup) pa_nil))) (pe_callB call_isi (by rfl) T.isi (by decide +kernel) (pa_cons (pv 1) (pa_cons (pe_bt "tuple" T.tup) pa_nil))) (nomark _)))).pt pss_never pss_nil)
        (pss_one (ps_ret (pe_and (pe_cmpR op_eq (pe_callB call_len_seq (by rfl) T.len PySem.boot_len (pa_cons (pv 0) pa_nil)) (pe_callB call_len_seq (by rfl) T.len PySem.boot_len (pa_cons (pv 1) pa_nil)) (nomark _))
          (pe_one (pe_callB (cr_all rfl) (by rfl) T.all (by decide +kernel) (pa_cons (pe_lc (own := [("_law_x", 2), ("_law_y", 3)]) (g := gTup K 2 (gCons (gName 2) (gCons (gName 3) gNil))) (tt := tYes) rfl nd (RZ.pi_zipA (by rfl) T.zip (pa_cons (pv 0) (pa_cons (pv 1) pa_nil)))
            (blkOk_by (N := NSa) (sc := fnScope sSame) (by decide +kernel)) (fun _ _ _ _ _ => pg_tup rfl (pgs_cons (pg_name (i := 2) nd rfl (Or.inl rfl)) (pgs_cons (pg_name (i := 3) nd rfl (Or.inl rfl)) pgs_nil))) (fun _ _ _ _ _ => pts_nil)
            (fun _ _ _ _ _ => pe_c CS hr (Nat.le_refl _) (by rfl) (pa_cons (pv 2) (pa_cons (pv 3) pa_nil)))) pa_nil))))))) pss_nil)
      (pss_cons (ps_if (pt_val (pe_callB call_isi (by rfl) T.isi (by decide +kernel) (pa_cons (pv 1) (pa_cons (pe_bt "int" T.int) pa_nil))))
          (pss_one (ps_ret (pe_and (pe_callB call_isi (by rfl) T.isi (by decide +kernel) (pa_cons (pv 0) (pa_cons (pe_bt "int" T.int) pa_nil)))
            (pe_and (pe_cmpR op_eq (pe_callB call_isi (by rfl) T.isi (by decide +kernel) (pa_cons (pv 0) (pa_cons (pe_bt "bool" T.boo) pa_nil))) (pe_callB call_isi (by rfl) T.isi (by decide +kernel) (pa_cons (pv 1) (pa_cons (pe_bt "bool" T.boo) pa_nil))) (nomark _))
              (pe_one (pe_cmpR op_eq (pv 0) (pv 1) (nomark _))))))) pss_nil)
      (pss_one (ps_ret (pe_and (pe_cmpR op_isBl (pe_callB call_isiT (by rfl) T.isi (by decide +kernel) (pa_cons (pv 0) (pa_cons (pe_tup (pa_cons (pe_bt "int" T.int) (pa_cons (pe_bt "list" T.list) (pa_cons (pe_bt "tuple" T.tup) pa_nil)))) pa_nil))) pe_bl (nomark _))
        (pe_one (pe_cmpR (op_eq.or (op_eqV hu)) (pv 0) (pv 1) (nomark _))))))), ?_⟩
    rcases hx with ⟨rfl, hx⟩ | ⟨t, a, c, xs, ys, rfl, rfl, ha, hc, hp, hl⟩
    · obtain ⟨Ty, hT, ty, hs⟩ := leaf_ty (K := K) hx
      obtain ⟨k1, k2, k3, k4⟩ := kitLT (K := K) hT
      refine ⟨_, rfl, (by show 2 ≤ sizeLine; decide), fun p np => ⟨x, p, [.ty "list", .ty "tuple"], _, _, false, rfl, upd_same, .cons (.ty _) (.cons (.ty _) .nil), ty _ (same_upd np), k1, false, rfl, iteF ?_⟩⟩
      have s1 : Same H (upd H p (.tup [.ty "list", .ty "tuple"])) := same_upd np
      refine ⟨_, rfl, x, .ty "int", _, _, _, rfl, .ty _, ty _ s1, k3, _, rfl, ite2 (fun hi => ?_) (fun hi => ?_)⟩
      · have hsc : scal x x = true := by
          rcases hs with z | ⟨z, _⟩
          · exact z
          · rw [z] at hi
            cases hi
        refine ⟨_, rfl, x, .ty "int", _, _, _, rfl, .ty _, ty _ s1, k3, _, rfl, iteBt hi ?_⟩
        refine ⟨_, rfl, x, .ty "bool", _, _, _, rfl, .ty _, ty _ s1, k4, _, rfl, x, .ty "bool", _, _, _, rfl, .ty _, ty _ s1, k4, rfl, _, rfl, iteBt (decide_eq_true rfl) ?_⟩
        refine ⟨_, rfl, _, rfl, hsc, ?_⟩
        rw [decide_eq_true rfl]
        exact k _ s1
      · have hi : (Ty == "int" || Ty == "bool") = false := by simpa using hi
        rw [hi] at k2
        refine ⟨_, rfl, (by show 3 ≤ sizeLine; decide), fun p2 np2 => ?_⟩
        have s2 : Same H (upd (upd H p (.tup [.ty "list", .ty "tuple"])) p2 (.tup [.ty "int", .ty "list", .ty "tuple"])) := s1.trans (same_upd np2)
        refine ⟨x, p2, [.ty "int", .ty "list", .ty "tuple"], _, _, false, rfl, upd_same, .cons (.ty _) (.cons (.ty _) (.cons (.ty _) .nil)), ty _ s2, k2, false, false, rfl, rfl, _, rfl, iteBt (decide_eq_true rfl) ?_⟩
        refine ⟨_, rfl, _, rfl, ?_⟩
        rcases hs with hsc | ⟨_, a, kvs, rfl, e, dk⟩
        · refine .inl ⟨hsc, ?_⟩
          rw [decide_eq_true rfl]
          exact k _ s2
        · refine .inr ⟨1, by decide, .inr ⟨a, a, kvs, kvs, rfl, rfl, s2 _ _ e, s2 _ _ e, rfl, fun p hp => ⟨p.2, (dk p hp).1, .inl ⟨rfl, (dk p hp).2⟩⟩⟩, k _ s2⟩
    · obtain ⟨k1, k2, k3⟩ := kit_sq (K := K) t
      have hlen := Paired.length hp
      refine ⟨_, rfl, (by show 2 ≤ sizeLine; decide), fun p np => ⟨_, p, [.ty "list", .ty "tuple"], _, _, true, rfl, upd_same, .cons (.ty _) (.cons (.ty _) .nil), sqo_ty (same_upd np _ _ hc), k1, true, rfl, iteT ?_⟩⟩
      have s1 : Same H (upd H p (.tup [.ty "list", .ty "tuple"])) := same_upd np
      generalize upd H p (.tup [.ty "list", .ty "tuple"]) = H1 at s1
      have ha1 := s1 _ _ ha
      have hc1 := s1 _ _ hc
      refine ⟨_, rfl, _, .ty "list", _, _, _, rfl, .ty _, sqo_ty ha1, k2, _, rfl, _, .ty "list", _, _, _, rfl, .ty _, sqo_ty hc1, k2, rfl, _, rfl, iteBf (by rw [decide_eq_true rfl]; rfl) ?_⟩
      refine ⟨_, rfl, _, .ty "tuple", _, _, _, rfl, .ty _, sqo_ty ha1, k3, _, rfl, _, .ty "tuple", _, _, _, rfl, .ty _, sqo_ty hc1, k3, rfl, _, rfl, iteBf (by rw [decide_eq_true rfl]; rfl) ?_⟩
      refine ⟨_, rfl, a, xs, rfl, sqo_seq ha1, _, rfl, c, ys, rfl, sqo_seq hc1, rfl, _, rfl, iteBt (decide_eq_true (by rw [hlen])) ?_⟩
      -- the walk
      have walk : ∀ (J : It), (∀ i H', i < xs.length → Same H1 H' → J.go i H') → (∀ H', Same H1 H' → J.stop xs.length H') → (∀ i H' x H'', Same H1 H' → J.yld i H' x H'' → ∃ T' x' y', x = .ref T' ∧ H' T' = none ∧ H'' = upd H' T' (.tup [x', y']) ∧ xs[i]? = some x' ∧ ys[i]? = some y') → ∀ Da, H1 Da = none →
          ∃ W : Nat → Nat → Hp → Prop, (∃ m, W 0 m (upd H1 Da (.lst []))) ∧ ∀ i m H', W i m H' → (J.stop i H' ∧ (H' Da = some (.lst ((List.replicate xs.length true).map V.bl)) ∧ Same H1 H')) ∨
            (J.go i H' ∧ ∃ Nx : Hp → Prop, (∀ H'', Nx H'' → ∃ m', m' < m ∧ W (i + 1) m' H'') ∧ ∀ x H'', J.yld i H' x H'' → gTup K 2 (gCons (gName 2) (gCons (gName 3) gNil)) x (wipe (start NSa [.ref a, .ref c]) [2, 3]) H'' fun σ2 H2 => wipe σ2 [2, 3] = wipe (start NSa [.ref a, .ref c]) [2, 3] ∧ tYes σ2 H2 fun b H3 =>
              if b = true then tCall (spSameN n) [] C8.E0 (tCons (tVar 2) (tCons (tVar 3) tNil)) σ2 H3 fun y H4 => ∃ acc, H4 Da = some (.lst acc) ∧ acc.length < sizeLine ∧ Nx (upd H4 Da (.lst (acc ++ [y]))) else Nx H3) := by
        intro J jgo jst jyl Da nDa
        refine lc_gen (J := J) xs.length (fun i H' => H' Da = some (.lst ((List.replicate i true).map V.bl)) ∧ Same H1 H') ⟨upd_same, same_upd nDa⟩ (fun i H' hi ⟨_, sm⟩ => jgo i H' hi sm) (fun H' ⟨_, sm⟩ => jst H' sm) (fun i H' x H'' hi ⟨hD, sm⟩ yl => ?_) (fun H' h => h)
        obtain ⟨T', x', y', rfl, nT, rfl, hx, hy⟩ := jyl i H' x H'' sm yl
        have s3 : Same H' (upd H' T' (.tup [x', y'])) := same_upd nT
        refine ⟨T', [x', y'], rfl, SqT.of upd_same, rfl, x', [y'], rfl, y', [], rfl, rfl, ?_⟩
        generalize upd H' T' (.tup [x', y']) = H3 at s3
        refine ⟨rfl, ?_⟩
        unfold tYes
        dsimp only
        rw [if_pos rfl]
        obtain ⟨y2, hy2, he⟩ := paired_get hp hx
        rw [hy] at hy2
        obtain rfl := Option.some.inj hy2
        refine ⟨_, rfl, _, rfl, x', y', rfl, EqN.same (s1.trans (sm.trans s3)) he, fun H4 s4 => ⟨_, s4 _ _ (s3 _ _ hD), by rw [List.length_map, List.length_replicate, sizeLine_eq]; omega, ?_, fun b o q => by rw [upd_ne (ne_of_none q nDa)]; exact s4 _ _ (s3 _ _ (sm _ _ q))⟩⟩
        rw [upd_same, List.replicate_succ', List.map_append]
        rfl
      have fin : ∀ Da H', H' Da = some (.lst ((List.replicate xs.length true).map V.bl)) ∧ Same H1 H' → ∃ (a : Addr) (bs : List Bool), [V.ref Da] = [.ref a] ∧ SqL K H' a (bs.map V.bl) ∧ Q (.bl (bs.all id)) H' := fun Da H' ⟨hD, sm⟩ => by
        refine ⟨Da, _, rfl, SqL.of hD, ?_⟩
        rw [show (List.replicate xs.length true).all id = true from List.all_eq_true.mpr fun b hb => by rw [List.eq_of_mem_replicate hb]; rfl]
        exact k _ (s1.trans sm)
      have stp : ∀ {D : Addr → Hp → Prop}, True := trivial
      refine ⟨_, rfl, _, rfl, a, c, xs, ys, rfl, ?_⟩
      cases t with
      | true => 
        refine .inr ⟨SqT.of ha1, SqT.of hc1, fun Da nDa => ?_⟩
        obtain ⟨W, h0, h⟩ := walk (RZ.ItzT K a c) (fun i H' hi sm => ⟨xs, ys, xs.getD i .non, ys.getD i .non, SqT.of (sm _ _ ha1), SqT.of (sm _ _ hc1), getD_at hi, getD_at (by omega)⟩) (fun H' sm => ⟨xs, ys, SqT.of (sm _ _ ha1), SqT.of (sm _ _ hc1), .inl (Nat.le_refl _)⟩)
          (fun i H' x H'' sm yl => by obtain ⟨T', x', y', e1, e2, e3, e4, e5⟩ := yl; exact ⟨T', x', y', e1, e2, e3, e4 _ (SqT.of (sm _ _ ha1)), e5 _ (SqT.of (sm _ _ hc1))⟩) Da nDa
        exact ⟨W, h0, fun i m H' hw => (h i m H' hw).imp (fun ⟨q1, q2⟩ => ⟨q1, fin Da H' q2⟩) id⟩
      | false =>
        refine .inl ⟨SqL.of ha1, SqL.of hc1, fun Da nDa => ?_⟩
        obtain ⟨W, h0, h⟩ := walk (Itz K a c) (fun i H' hi sm => ⟨xs, ys, xs.getD i .non, ys.getD i .non, SqL.of (sm _ _ ha1), SqL.of (sm _ _ hc1), getD_at hi, getD_at (by omega)⟩) (fun H' sm => ⟨xs, ys, SqL.of (sm _ _ ha1), SqL.of (sm _ _ hc1), .inl (Nat.le_refl _)⟩)
          (fun i H' x H'' sm yl => by obtain ⟨T', x', y', e1, e2, e3, e4, e5⟩ := yl; exact ⟨T', x', y', e1, e2, e3, e4 _ (SqL.of (sm _ _ ha1)), e5 _ (SqL.of (sm _ _ hc1))⟩) Da nDa
        exact ⟨W, h0, fun i m H' hw => (h i m H' hw).imp (fun ⟨q1, q2⟩ => ⟨q1, fin Da H' q2⟩) id⟩
theorem c_same {f : Addr} {fd : FuncData} (F : Def K mg "_law_same" sSame f fd) (b : Binds K fd ["_law_found", "_law_due"] []) (T : Blt2 mg) : ∀ n : Nat, Cal P w K mg base (1 + n) "_law_same" (spSameN n) []
  | 0 => by
    have no : ∀ {vs H Q E}, spSameN 0 vs H Q E → False := fun ⟨_, _, _, h, _⟩ => h
    exact cal0 F b .nil scSame (fun vs H Q E h => (no h).elim) (fun cdv A outer s H vs Q E hr h => (no h).elim)
  | n + 1 => same_step F b T (c_same F b T n)
end
end K5

namespace K5
open PySem PySem.Spec PyProof.Rows L2 C8 XE
/-! places, pieces and puttings of trees, told exactly -/
mutual
def plcs : D → List (List Int)
  | .sq (_ :: cs) => [] :: plcss 0 cs
  | _ => [[]]
def plcss : Nat → List D → List (List Int)
  | _, [] => []
  | k, c :: cs => (plcs c).map ((k : Int) :: ·) ++ plcss (k + 1) cs
end
theorem plcss_snoc : ∀ (a : List D) (k : Nat) (c : D), plcss k (a ++ [c]) = plcss k a ++ (plcs c).map (((k + a.length : Nat) : Int) :: ·)
  | [], k, c => by simp [plcss]
  | x :: a, k, c => by
    rw [List.cons_append, plcss, plcss, plcss_snoc a (k + 1) c, List.append_assoc, List.length_cons, show k + 1 + a.length = k + (a.length + 1) by omega]
def subD : D → List Int → D
  | d, [] => d
  | .sq (_ :: cs), i :: p => subD (cs.getD i.toNat .emp) p
  | d, _ :: _ => d
def putD : D → List Int → D → D
  | _, [], o => o
  | .sq (x :: cs), i :: p, o => .sq (x :: cs.set i.toNat (putD (cs.getD i.toNat .emp) p o))
  | d, _ :: _, _ => d
abbrev sPlaces : Stmt := top 30
def spPlaces (N : Nat) : Sp := fun vs H Q _ => ∃ (v : V) (t : D) (rs : List Rw), vs = [v] ∧ DAt nol H v t ∧ isT rs t = true ∧ sz t ≤ N ∧ sz t ≤ 1000 ∧
  ∀ (l : Addr) (ws : List V) (ps : List (List Int)) (H' : Hp), H l = none → Same H H' → H' l = some (.lst ws) → Paired (PlV H') ws ps → ps ≠ [] → ps.length ≤ sz t → (∀ p ∈ ps, InT t p ∧ p.length ≤ sz t) → ps = plcs t → Q (.ref l) H'
abbrev NPl : List Str := ["_law_tree_here", "_law_found", "_law_k", "_law_child", "_law_place"]
theorem scPlaces : FnScope NPl ["_law_tree_here"] (fnScope sPlaces) := fnScope_by (by decide +kernel)
section
variable {P : Program} {w : World} {K : PySem.W.Frag} {mg : Str → Option Value} {base : Heap}
theorem places_step {k : Nat} {N : Nat} {f : Addr} {fd : FuncData} (F : Def K mg "_law_places" sPlaces f fd) (b : Binds K fd ["_law_tree_here"] []) (T : Blt4 mg) (CP : Cal P w K mg base k "_law_places" (spPlaces N) []) : Cal P w K mg base (k + 1) "_law_places" (spPlaces (N + 1)) [] := by
  refine cal0 F b .nil scPlaces (fun vs H Q E h => ?_) (fun cdv A outer s H vs Q E hr h => ?_)
  · obtain ⟨v, t, rs, rfl, _⟩ := h
    rfl
  · obtain ⟨v, t, rs, rfl, hv, ht, h0, h1, kk⟩ := h
    have nd := scPlaces.nd
    refine ⟨_, pss_cons (ps_set (i := 1) nd rfl (Or.inl rfl) (pe_lst (pa_cons (pe_tup pa_nil) pa_nil)))
      (pss_cons (ps_for PassesOwn.never rfl (pi_enumT (by rfl) T.enu (pa_cons (pe_slice sl_tup (pv 0) (po_some pe_int) po_none) pa_nil)) (pg_tup rfl (pgs_cons (pg_name (i := 2) nd rfl (by first | exact Or.inl rfl | exact Or.inr rfl)) (pgs_cons (pg_name (i := 3) nd rfl (by first | exact Or.inl rfl | exact Or.inr rfl)) pgs_nil)))
          (pss_one (ps_expr (pe_bm PySem.F.plainAttrs_list PySem.F.slot_list_extend PySem.F.type_list_extend mt_extend (pv 1) (pa_cons
            (pe_lc (own := [("_law_place", 4)]) (g := gName 4) (tt := tYes) rfl nd (pi_list (pe_c CP hr (Nat.le_refl _) (by rfl) (pa_cons (pv 3) pa_nil))) (blkOk_by (N := NPl) (sc := fnScope sPlaces) (by decide +kernel)) (fun _ _ _ _ _ => pg_name (i := 4) nd rfl (Or.inl rfl)) (fun _ _ _ _ _ => pts_nil)
              (fun _ _ _ _ _ => pe_op (show OpR _ (binaryOp .Add) (rCatT K) from op_catT) (pe_tup (pa_cons (pv 2) pa_nil)) (pv 4))) pa_nil)))))
      (pss_one (ps_ret (pv 1)))), ?_⟩
    obtain ⟨a, z, cvs, cs, m, rfl, ha, rfl, hcs, hm, hl, hts⟩ := hv.tree ht
    have hcl := hcs.len
    have hsz : sz (.sq (.fl (.str z) :: cs)) = 2 + szs cs := by rw [sz, szs, sz]; omega
    rw [hsz] at h0 h1
    refine ⟨(by show 0 ≤ sizeLine; decide), fun e0 ne0 => ⟨(by show 1 ≤ sizeLine; decide), fun fd nfd => ?_⟩⟩
    have fe : fd ≠ e0 := (ne_of_none upd_same nfd).symm
    have nfH : H fd = none := by rw [upd_ne fe] at nfd; exact nfd
    have s1 : Same H (upd (upd H e0 (.tup [])) fd (.lst [.ref e0])) := (same_upd ne0).trans (same_upd nfd)
    have hf1 : (upd (upd H e0 (.tup [])) fd (.lst [.ref e0])) fd = some (.lst [.ref e0]) := upd_same
    have he1 : (upd (upd H e0 (.tup [])) fd (.lst [.ref e0])) e0 = some (.tup []) := by rw [upd_ne fe.symm]; exact upd_same
    generalize upd (upd H e0 (.tup [])) fd (.lst [.ref e0]) = H1 at s1 hf1 he1
    refine ⟨_, rfl, 1, rfl, a, _, rfl, SqT.of (s1 _ _ ha), (fun z => by have := z.1; unfold HT.sIx at this; simp at this), fun p np => ?_⟩
    rw [cutFrom (by decide)]
    have cut1 : (V.str z :: cvs).drop (1 : Int).toNat = cvs := rfl
    rw [cut1]
    refine ⟨p, _, rfl, SqT.of upd_same, ?_⟩
    have npH : H p = none := same_free s1 np
    refine for_gen (J := IteT K p) cvs.length (fun i σ H' => ∃ (v2 v3 : Option V) (ws : List V) (ps : List (List Int)), σ = [some (.ref a), some (.ref fd), v2, v3, none] ∧ H' fd = some (.lst ws) ∧ Paired (PlV H') ws ps ∧ ps ≠ [] ∧ ps.length ≤ 1 + szs (cs.take i) ∧
        ((∀ q ∈ ps, InT (.sq (.fl (.str z) :: cs)) q ∧ q.length ≤ 1 + szs cs) ∧ ps = [] :: plcss 0 (cs.take i)) ∧ Same H H' ∧ H' p = some (.tup cvs))
      ⟨none, none, _, [[]], rfl, by rw [upd_ne (ne_of_none hf1 np)]; exact hf1, .cons ⟨e0, rfl, by rw [upd_ne (ne_of_none he1 np)]; exact he1⟩ .nil, (by simp), by simp, ⟨(fun q hq => by rw [List.mem_singleton.mp hq]; exact ⟨trivial, Nat.zero_le _⟩), rfl⟩, s1.trans (same_upd np), upd_same⟩
      (fun i σ H' hi ⟨_, _, _, _, _, _, _, _, _, _, _, hp⟩ => ⟨_, _, SqT.of hp, List.getElem?_eq_getElem hi⟩) (fun σ H' ⟨_, _, _, _, _, _, _, _, _, _, _, hp⟩ => ⟨_, SqT.of hp, Nat.le_refl _⟩) ?_
      (fun σ H' ⟨v2, v3, ws, ps, e, hf, hpw, hne, hpl, ⟨hin, hpe⟩, sm, _⟩ => by
        subst e
        refine ⟨_, rfl, kk fd ws ps H' nfH sm hf hpw hne ?_ (fun q hq => ⟨(hin q hq).1, ?_⟩) (by rw [hpe, hcl, List.take_of_length_le (Nat.le_refl _)]; rfl)⟩
        · rw [hsz, hcl, List.take_of_length_le (Nat.le_refl _)] at *; omega
        · have := (hin q hq).2; rw [hsz]; omega)
    rintro i σ H2 v H3 hi ⟨v2, v3, ws, ps, rfl, hf, hpw, hne, hpl, ⟨hin, hpe⟩, sm, hp⟩ ⟨T', x, rfl, nT, rfl, hx⟩
    have hx := hx _ (SqT.of hp)
    obtain ⟨c, hc, hxc⟩ := hcs.get hx
    obtain ⟨hci, ec⟩ := List.getElem?_eq_some_iff.mp hc
    refine ⟨T', [.int (i : Nat), x], rfl, SqT.of upd_same, rfl, .int (i : Nat), [x], rfl, x, [], rfl, rfl, ?_⟩
    have s3 : Same H2 (upd H2 T' (.tup [.int (i : Nat), x])) := same_upd nT
    generalize upd H2 T' (.tup [.int (i : Nat), x]) = H3 at s3
    have hf3 := s3 _ _ hf
    have szc := szs_get hc
    refine ⟨_, rfl, .inl ⟨rfl, _, SqL.of hf3⟩, _, rfl, x, c, rs, rfl, DAt.hold (.same (sm.trans s3)) _ hxc, isTs_get hts hc, by omega, by omega, fun l us qs H4 nl s4 hl4 hpu qne ql qin qe => ⟨l, rfl, ⟨_, SqL.of hl4⟩, fun Da nDa => ?_⟩⟩
    have hul := Paired.length hpu
    have nDH : H Da = none := same_free (sm.trans (s3.trans s4)) nDa
    have hf4 := s4 _ _ hf3
    have tki : szs (cs.take (i + 1)) = szs (cs.take i) + sz c := by
      rw [List.take_succ_eq_append_getElem hci, szs_app, ec]
      show _ + (sz c + 0) = _
      omega
    have tkl : szs (cs.take i) + szs (cs.drop i) = szs cs := by rw [← szs_app, List.take_append_drop]
    refine lc_gen (J := Itl K l) us.length (fun j H' => ∃ ys, H' Da = some (.lst ys) ∧ Paired (PlV H') ys ((qs.take j).map fun q => (i : Int) :: q) ∧ Same H4 H') ⟨[], upd_same, .nil, same_upd nDa⟩
      (fun j H' hj ⟨_, _, _, sm'⟩ => ⟨_, _, SqL.of (sm' _ _ hl4), List.getElem?_eq_getElem hj⟩) (fun H' ⟨_, _, _, sm'⟩ => ⟨_, SqL.of (sm' _ _ hl4), Nat.le_refl _⟩) (fun j H' v H'' hj ⟨ys, hD, hpy, sm'⟩ yl => ?_) (fun H' ⟨ys, hD, hpy, sm'⟩ => ?_)
    · obtain ⟨rfl, hy⟩ := yl
      have hy := hy _ (SqL.of (sm' _ _ hl4))
      obtain ⟨q, hq, hqv⟩ := paired_get hpu hy
      obtain ⟨qa, rfl, hqa⟩ := hqv
      have hyl := Paired.length hpy
      obtain ⟨hqj, eq'⟩ := List.getElem?_eq_some_iff.mp hq
      rw [List.length_map, List.length_take] at hyl
      have fin : ∀ (H9 : Hp) (ta : Addr), Same H'' H9 → H9 ta = some (.tup (((i : Int) :: q).map V.int)) → ∃ acc, H9 Da = some (.lst acc) ∧ acc.length < sizeLine ∧ ∃ ys, (upd H9 Da (.lst (acc ++ [.ref ta]))) Da = some (.lst ys) ∧ Paired (PlV (upd H9 Da (.lst (acc ++ [.ref ta])))) ys ((qs.take (j + 1)).map fun q => (i : Int) :: q) ∧ Same H4 (upd H9 Da (.lst (acc ++ [.ref ta]))) := by
        intro H9 ta s9 ht9
        have hD9 := s9 _ _ hD
        have tD : ∀ {b : Addr} {xs : List V}, H9 b = some (.tup xs) → (upd H9 Da (.lst (ys ++ [.ref ta]))) b = some (.tup xs) := fun e => by rw [upd_ne (ne_of e hD9 (by intro z; cases z))]; exact e
        refine ⟨ys, hD9, by rw [sizeLine_eq]; omega, _, upd_same, ?_, fun b o e => by rw [upd_ne (ne_of_none e nDa)]; exact s9 _ _ (sm' _ _ e)⟩
        rw [List.take_succ_eq_append_getElem hqj, List.map_append, eq']
        refine Paired.snoc (Paired.mono (fun _ _ ⟨a', e, q'⟩ => ⟨a', e, tD (s9 _ _ q')⟩) hpy) ⟨ta, rfl, tD ht9⟩
      refine ⟨rfl, ?_⟩
      unfold tYes
      dsimp only
      rw [if_pos rfl]
      refine ⟨_, rfl, (by show 1 ≤ sizeLine; decide), fun ta nta => ⟨_, rfl, ta, qa, _, _, rfl, rfl, SqT.of upd_same, SqT.of (by rw [upd_ne (ne_of_none (sm' _ _ hqa) nta)]; exact sm' _ _ hqa), by simp, ?_, fun e => ?_, fun e tb ntb => ?_⟩⟩
      · rw [List.length_map]
        have := (qin q (List.mem_of_getElem? hq)).2
        show 1 + q.length ≤ sizeLine
        rw [sizeLine_eq]; omega
      · refine fin _ ta (same_upd nta) ?_
        have : q = [] := List.map_eq_nil_iff.mp e
        rw [this]
        exact upd_same
      · exact fin _ tb ((same_upd nta).trans (same_upd ntb)) upd_same
    · have hyl := Paired.length hpy
      rw [List.length_map, hul, List.take_of_length_le (Nat.le_refl _)] at hyl
      rw [hul, List.take_of_length_le (Nat.le_refl _)] at hpy
      have hwl := Paired.length hpw
      have hf5 := sm' _ _ hf4
      refine ⟨fd, Da, ws, ys, rfl, rfl, hf5, hD, by rw [sizeLine_eq]; omega, ?_⟩
      have tF : ∀ {b : Addr} {xs : List V}, H' b = some (.tup xs) → (upd H' fd (.lst (ws ++ ys))) b = some (.tup xs) := fun e => by rw [upd_ne (ne_of e hf5 (by intro z; cases z))]; exact e
      have s5 : Same H2 H' := s3.trans (s4.trans sm')
      refine ⟨_, _, _, ps ++ qs.map (fun q => (i : Int) :: q), rfl, upd_same, ?_, ?_, ?_, ⟨?_, by rw [hpe, qe, List.take_succ_eq_append_getElem hci, ec, plcss_snoc, List.length_take, Nat.min_eq_left (Nat.le_of_lt hci), Nat.zero_add, List.cons_append]⟩, fun b o e => by rw [upd_ne (ne_of_none e nfH)]; exact s5 _ _ (sm _ _ e), tF (s5 _ _ hp)⟩
      · exact paired_app (Paired.mono (fun _ _ ⟨a', e, q'⟩ => ⟨a', e, tF (s5 _ _ q')⟩) hpw) (Paired.mono (fun _ _ ⟨a', e, q'⟩ => ⟨a', e, tF q'⟩) hpy)
      · intro e; exact hne (List.append_eq_nil_iff.mp e).1
      · rw [List.length_append, List.length_map, tki]; omega
      · intro q hq
        rcases List.mem_append.mp hq with h | h
        · exact hin q h
        · obtain ⟨q', hq', rfl⟩ := List.mem_map.mp h
          have := qin q' hq'
          refine ⟨⟨by omega, c, ?_, this.1⟩, by rw [List.length_cons]; omega⟩
          simpa using hc
theorem c_places {f : Addr} {fd : FuncData} (F : Def K mg "_law_places" sPlaces f fd) (b : Binds K fd ["_law_tree_here"] []) (T : Blt4 mg) : ∀ N : Nat, Cal P w K mg base (1 + N) "_law_places" (spPlaces N) []
  | 0 => by
    have no : ∀ {vs H Q E}, spPlaces 0 vs H Q E → False := fun ⟨_, t, _, _, _, _, h, _⟩ => by have := sz_pos t; omega
    exact cal0 F b .nil scPlaces (fun vs H Q E h => (no h).elim) (fun cdv A outer s H vs Q E hr h => (no h).elim)
  | N + 1 => places_step F b T (c_places F b T N)
end
abbrev sAt : Stmt := top 31
abbrev sPut : Stmt := top 32
def spAt (N : Nat) : Sp := fun vs H Q _ => ∃ (v : V) (pv : V) (t : D) (p : List Int) (rs : List Rw), vs = [v, pv] ∧ PlV H pv p ∧ DAt nol H v t ∧ isT rs t = true ∧ InT t p ∧ p.length < N ∧ p.length ≤ 1000 ∧
  ∀ (v' : V) (t' : D) (H' : Hp), Same H H' → DAt nol H' v' t' → isT rs t' = true → sz t' ≤ sz t → t' = subD t p → Q v' H'
def spPut (N : Nat) : Sp := fun vs H Q _ => ∃ (G : Addr → Prop) (v pv u : V) (t : D) (p : List Int) (rs : List Rw) (d : D), vs = [v, pv, u] ∧ PlV H pv p ∧ DAt nol H v t ∧ isT rs t = true ∧ InT t p ∧ p.length < N ∧ p.length ≤ 1000 ∧ DAt (G) H u d ∧ RowsOk rs ∧
  ∀ (v' : V) (d' : D) (H' : Hp), Same H H' → DAt (G) H' v' d' → sz d' ≤ sz t + sz d → d' = putD t p d → Q v' H'
theorem scAt : FnScope ["_law_tree_here", "_law_place"] ["_law_tree_here", "_law_place"] (fnScope sAt) := fnScope_by (by decide +kernel)
theorem scPut : FnScope ["_law_tree_here", "_law_place", "_law_other", "_law_k"] ["_law_tree_here", "_law_place", "_law_other"] (fnScope sPut) := fnScope_by (by decide +kernel)
section
variable {P : Program} {w : World} {K : PySem.W.Frag} {mg : Str → Option Value} {base : Heap}
theorem at_step {k : Nat} {N : Nat} {f : Addr} {fd : FuncData} (F : Def K mg "_law_at" sAt f fd) (b : Binds K fd ["_law_tree_here", "_law_place"] []) (T : Blt4 mg) (CA : Cal P w K mg base k "_law_at" (spAt N) []) : Cal P w K mg base (k + 1) "_law_at" (spAt (N + 1)) [] := by
  refine cal0 F b .nil scAt (fun vs H Q E h => ?_) (fun cdv A outer s H vs Q E hr h => ?_)
  · obtain ⟨v, pv, t, p, rs, rfl, _⟩ := h
    rfl
  · obtain ⟨v, pl, t, p, rs, rfl, hp, hv, ht, hin, hN, h1, kk⟩ := h
    have hu : (A.deeper (envOfC "_law_at" (fnScope sAt) s.heap.objs.size f cdv)).units + 64 < cLine := by have := hr.un; omega
    refine ⟨_, pss_one (ps_ret (pe_ifExp (pt_cmpR (op_eqNilT hu) (pv 1) (pe_tup pa_nil) (nomark _)) (pv 0)
      (pe_c CA hr (Nat.le_refl _) (by rfl) (pa_cons (pe_ix ix_tup (pv 0) (pe_op op_add (pe_ix ix_tup (pv 1) pe_int fun _ _ => rfl) pe_int) fun _ _ => rfl) (pa_cons (pe_slice sl_tup (pv 1) (po_some pe_int) po_none) pa_nil))))), ?_⟩
    obtain ⟨a, rfl, ha⟩ := hp
    refine ⟨_, rfl, (by show 0 ≤ sizeLine; decide), fun e ne => ⟨a, e, _, rfl, rfl, SqT.of (by rw [upd_ne (ne_of_none ha ne)]; exact ha), SqT.of upd_same, _, rfl, ?_⟩⟩
    have s1 : Same H (upd H e (.tup [])) := same_upd ne
    generalize upd H e (.tup []) = H1 at s1
    cases p with
    | nil => exact iteBt rfl ⟨_, rfl, kk v t H1 s1 (DAt.hold (.same s1) _ hv) ht (Nat.le_refl _) (by rw [subD])⟩
    | cons i p =>
      refine iteBf rfl ?_
      obtain ⟨b, z, cvs, cs, m, rfl, hb, rfl, hcs, hm, hl, hts⟩ := hv.tree ht
      have hcl := hcs.len
      obtain ⟨i0, c, hc, hin'⟩ := hin
      have hc : cs[i.toNat]? = some c := by simpa using hc
      obtain ⟨hlt, _⟩ := List.getElem?_eq_some_iff.mp hc
      have hx : cvs[i.toNat]? = some cvs[i.toNat] := List.getElem?_eq_getElem (by omega)
      obtain ⟨c', hc', hxc⟩ := hcs.get hx
      rw [hc] at hc'
      obtain rfl := Option.some.inj hc'
      refine ⟨_, rfl, _, rfl, a, _, 0, .int i, rfl, rfl, SqT.of (s1 _ _ ha), at_of (j := 0) (by omega) rfl, i, 1, rfl, rfl, b, _, i + 1, cvs[i.toNat], rfl, rfl, SqT.of (s1 _ _ hb), at_of (j := i.toNat + 1) (by omega) (by simpa using hx), ?_⟩
      refine ⟨_, rfl, 1, rfl, a, _, rfl, SqT.of (s1 _ _ ha), not_whole (by decide) (by simp), fun q nq => ?_⟩
      rw [cutFrom (by decide)]
      have s2 := s1.trans (same_upd nq (o := .tup (((i :: p).map V.int).drop (1 : Int).toNat)))
      refine ⟨_, .ref q, c, p, rs, rfl, ⟨q, rfl, upd_same⟩, DAt.hold (.same s2) _ hxc, isTs_get hts hc, hin', by rw [List.length_cons] at hN; omega, by rw [List.length_cons] at h1; omega, fun v' t' H' s' hv' ht' hz he => kk v' t' H' (s2.trans s') hv' ht' ?_ (by rw [he, subD, List.getD_eq_getElem?_getD, hc]; rfl)⟩
      have := szs_get hc
      rw [sz, szs]
      omega
theorem c_at {f : Addr} {fd : FuncData} (F : Def K mg "_law_at" sAt f fd) (b : Binds K fd ["_law_tree_here", "_law_place"] []) (T : Blt4 mg) : ∀ N : Nat, Cal P w K mg base (1 + N) "_law_at" (spAt N) []
  | 0 => by
    have no : ∀ {vs H Q E}, spAt 0 vs H Q E → False := fun ⟨_, _, _, _, _, _, _, _, _, _, h, _⟩ => by omega
    exact cal0 F b .nil scAt (fun vs H Q E h => (no h).elim) (fun cdv A outer s H vs Q E hr h => (no h).elim)
  | N + 1 => at_step F b T (c_at F b T N)
theorem put_step {k : Nat} {N : Nat} {f : Addr} {fd : FuncData} (F : Def K mg "_law_put" sPut f fd) (b : Binds K fd ["_law_tree_here", "_law_place", "_law_other"] []) (T : Blt4 mg) (CP : Cal P w K mg base k "_law_put" (spPut N) []) : Cal P w K mg base (k + 1) "_law_put" (spPut (N + 1)) [] := by
  refine cal0 F b .nil scPut (fun vs H Q E h => ?_) (fun cdv A outer s H vs Q E hr h => ?_)
  · obtain ⟨G, v, pv, u, t, p, rs, d, rfl, _⟩ := h
    rfl
  · obtain ⟨G, v, pl, u, t, p, rs, d, rfl, hp, hv, ht, hin, hN, h1, hd, ok, kk⟩ := h
    have nd := scPut.nd
    have hu : (A.deeper (envOfC "_law_put" (fnScope sPut) s.heap.objs.size f cdv)).units + 64 < cLine := by have := hr.un; omega
    refine ⟨_, pss_cons (ps_if (pt_cmpR (op_eqNilT hu) (pv 1) (pe_tup pa_nil) (nomark _)) (pss_one (ps_ret (pv 2))) pss_nil)
      (pss_cons (ps_set (i := 3) nd rfl (Or.inl rfl) (pe_op op_add (pe_ix ix_tup (pv 1) pe_int fun _ _ => rfl) pe_int))
      (pss_one (ps_ret (pe_op op_catT (pe_op op_catT (pe_slice sl_tup (pv 0) po_none (po_some (pv 3)))
          (pe_tup (pa_cons (pe_c CP hr (Nat.le_refl _) (by rfl) (pa_cons (pe_ix ix_tup (pv 0) (pv 3) fun _ _ => rfl) (pa_cons (pe_slice sl_tup (pv 1) (po_some pe_int) po_none) (pa_cons (pv 2) pa_nil)))) pa_nil)))
        (pe_slice sl_tup (pv 0) (po_some (pe_op op_add (pv 3) pe_int)) po_none))))), ?_⟩
    obtain ⟨a, rfl, ha⟩ := hp
    refine ⟨_, rfl, (by show 0 ≤ sizeLine; decide), fun e ne => ⟨a, e, _, rfl, rfl, SqT.of (by rw [upd_ne (ne_of_none ha ne)]; exact ha), SqT.of upd_same, _, rfl, ?_⟩⟩
    have s1 : Same H (upd H e (.tup [])) := same_upd ne
    generalize upd H e (.tup []) = H1 at s1
    cases p with
    | nil => exact iteBt rfl ⟨_, rfl, kk u d H1 s1 (DAt.hold (.same s1) _ hd) (by omega) (by rw [putD])⟩
    | cons i p =>
      refine iteBf rfl ?_
      obtain ⟨b, z, cvs, cs, m, rfl, hb, rfl, hcs, hm, hl, hts⟩ := hv.tree ht
      have hcl := hcs.len
      obtain ⟨i0, c, hc, hin'⟩ := hin
      have hc : cs[i.toNat]? = some c := by simpa using hc
      obtain ⟨hlt, ec⟩ := List.getElem?_eq_some_iff.mp hc
      have hx : cvs[i.toNat]? = some cvs[i.toNat] := List.getElem?_eq_getElem (by omega)
      obtain ⟨c', hc', hxc⟩ := hcs.get hx
      rw [hc] at hc'
      obtain rfl := Option.some.inj hc'
      have hm2 : m ≤ 2 := by obtain ⟨m', e, _, h⟩ := many_lab ok (many_some hm); rw [hm] at e; cases e; exact h
      have hnl : (i + 1).toNat = i.toNat + 1 := by omega
      refine ⟨_, rfl, a, _, 0, .int i, rfl, rfl, SqT.of (s1 _ _ ha), at_of (j := 0) (by omega) rfl, i, 1, rfl, rfl, ?_⟩
      refine ⟨_, rfl, _, rfl, i + 1, rfl, b, _, rfl, SqT.of (s1 _ _ hb), not_whole_hi (by omega) (by rw [List.length_cons]; omega), fun q nq => ?_⟩
      rw [cutTo (by omega), hnl, List.take_succ_cons]
      have s2 := s1.trans (same_upd nq (o := .tup (.str z :: cvs.take i.toNat)))
      have hq2 : (upd H1 q (.tup (.str z :: cvs.take i.toNat))) q = some (.tup (.str z :: cvs.take i.toNat)) := upd_same
      generalize upd H1 q (.tup (.str z :: cvs.take i.toNat)) = H2 at s2 hq2
      refine ⟨_, rfl, _, rfl, b, _, i + 1, cvs[i.toNat], rfl, rfl, SqT.of (s2 _ _ hb), at_of (j := i.toNat + 1) (by omega) (by simpa using hx), _, rfl, 1, rfl, a, _, rfl, SqT.of (s2 _ _ ha), not_whole (by decide) (by simp), fun r nr => ?_⟩
      rw [cutFrom (by decide)]
      have s3 := s2.trans (same_upd nr (o := .tup (((i :: p).map V.int).drop (1 : Int).toNat)))
      refine ⟨_, rfl, G, _, .ref r, u, c, p, rs, d, rfl, ⟨r, rfl, upd_same⟩, DAt.hold (.same s3) _ hxc, isTs_get hts hc, hin', by rw [List.length_cons] at hN; omega, by rw [List.length_cons] at h1; omega, DAt.hold (.same s3) _ hd, ok, fun v' d' H' s' hv' hz he => ⟨(by show 1 ≤ sizeLine; decide), fun x nx => ?_⟩⟩
      have s4 : Same H2 H' := (same_upd nr).trans s'
      have hq4 := s4 _ _ hq2
      have hb4 := s4 _ _ (s2 _ _ hb)
      refine ⟨q, x, _, _, rfl, rfl, SqT.of (by rw [upd_ne (ne_of_none hq4 nx)]; exact hq4), SqT.of upd_same, by simp, by rw [sizeLine_eq]; simp; omega, (fun e => by cases e), fun _ y ny => ?_⟩
      have s5 : Same H' (upd (upd H' x (.tup [v'])) y (.tup ((.str z :: cvs.take i.toNat) ++ [v']))) := (same_upd nx).trans (same_upd ny)
      have hy5 : (upd (upd H' x (.tup [v'])) y (.tup ((.str z :: cvs.take i.toNat) ++ [v']))) y = some (.tup ((.str z :: cvs.take i.toNat) ++ [v'])) := upd_same
      generalize upd (upd H' x (.tup [v'])) y (.tup ((.str z :: cvs.take i.toNat) ++ [v'])) = H5 at s5 hy5
      refine ⟨_, rfl, _, rfl, i + 1, 1, rfl, rfl, i + 1 + 1, rfl, b, _, rfl, SqT.of (s5 _ _ hb4), not_whole (by omega) (by simp), fun r2 nr2 => ?_⟩
      rw [cutFrom (by omega), show (i + 1 + 1).toNat = i.toNat + 1 + 1 by omega, List.drop_succ_cons]
      have s6 := s5.trans (same_upd nr2 (o := .tup (cvs.drop (i.toNat + 1))))
      have hy6 : (upd H5 r2 (.tup (cvs.drop (i.toNat + 1)))) y = some (.tup ((.str z :: cvs.take i.toNat) ++ [v'])) := by rw [upd_ne (ne_of_none hy5 nr2)]; exact hy5
      have s06 : Same H (upd H5 r2 (.tup (cvs.drop (i.toNat + 1)))) := s2.trans (s4.trans s6)
      have hr6 : (upd H5 r2 (.tup (cvs.drop (i.toNat + 1)))) r2 = some (.tup (cvs.drop (i.toNat + 1))) := upd_same
      generalize upd H5 r2 (.tup (cvs.drop (i.toNat + 1))) = H6 at s6 hy6 s06 hr6
      have wk : DAts (G) H6 cvs cs := DAts.hold (.same s06) _ (DAts.weak (fun _ h => h.elim) _ hcs)
      have all : DAts (G) H6 (cvs.take i.toNat ++ [v'] ++ cvs.drop (i.toNat + 1)) (cs.take i.toNat ++ [d'] ++ cs.drop (i.toNat + 1)) := DAts.app (DAts.app (DAts.take _ wk) ⟨DAt.hold (.same s6) _ hv', trivial⟩) (DAts.drop _ wk)
      have size : sz (.sq (.fl (.str z) :: (cs.take i.toNat ++ [d'] ++ cs.drop (i.toNat + 1)))) ≤ sz (.sq (.fl (.str z) :: cs)) + sz d := by
        show 1 + (1 + szs (cs.take i.toNat ++ [d'] ++ cs.drop (i.toNat + 1))) ≤ 1 + (1 + szs cs) + sz d
        rw [szs_app, szs_app, show szs [d'] = sz d' + 0 from rfl]
        have e1 : szs cs = szs (cs.take i.toNat) + szs (cs.drop i.toNat) := by rw [← szs_app, List.take_append_drop]
        rw [List.drop_eq_getElem_cons hlt, szs, ec] at e1
        omega
      have fin : ∀ (H7 : Hp) (c : Addr), Same H6 H7 → H7 c = some (.tup (.str z :: (cvs.take i.toNat ++ [v'] ++ cvs.drop (i.toNat + 1)))) → Q (.ref c) H7 := fun H7 c s7 hc7 =>
        kk _ (.sq (.fl (.str z) :: (cs.take i.toNat ++ [d'] ++ cs.drop (i.toNat + 1)))) H7 (s06.trans s7) ⟨c, _, rfl, .inl hc7, rfl, ⟨rfl, rfl⟩, DAts.hold (.same s7) _ all⟩ size (by rw [he, putD, List.getD_eq_getElem?_getD, hc, Option.getD_some, List.set_eq_take_append_cons_drop, if_pos hlt, List.append_assoc]; rfl)
      refine ⟨y, r2, _, _, rfl, rfl, SqT.of hy6, SqT.of hr6, by simp, by rw [sizeLine_eq]; simp; omega, fun e => ?_, fun _ c nc => fin _ c (same_upd nc) (by rw [upd_same]; simp)⟩
      refine fin H6 y (fun b o e => e) ?_
      rw [e, List.append_nil]
      exact hy6
theorem c_put {f : Addr} {fd : FuncData} (F : Def K mg "_law_put" sPut f fd) (b : Binds K fd ["_law_tree_here", "_law_place", "_law_other"] []) (T : Blt4 mg) : ∀ N : Nat, Cal P w K mg base (1 + N) "_law_put" (spPut N) []
  | 0 => by
    have no : ∀ {vs H Q E}, spPut 0 vs H Q E → False := fun ⟨_, _, _, _, _, _, _, _, _, _, _, _, _, h, _⟩ => by omega
    exact cal0 F b .nil scPut (fun vs H Q E h => (no h).elim) (fun cdv A outer s H vs Q E hr h => (no h).elim)
  | N + 1 => put_step F b T (c_put F b T N)
end
end K5

/-! e[:0:-1]: all but the first, from the back; of a list and of a tuple -/
namespace XR
open PySem PySem.Spec PySem.W PyProof.Rows L2
theorem back_range (n : Nat) : (List.range (n - 1)).map (fun k => n - 1 - k) = ((List.range (n - 1)).map (1 + ·)).reverse := by
  apply List.ext_getElem
  · simp
  · intro i h1 h2
    rw [List.getElem_map, List.getElem_reverse]
    simp at h1 ⊢
    omega
theorem fm_congr {α β : Type} {f g : α → Option β} : ∀ {l : List α}, (∀ m ∈ l, f m = g m) → l.filterMap f = l.filterMap g
  | [], _ => rfl
  | x :: l, h => by rw [List.filterMap_cons, List.filterMap_cons, h x List.mem_cons_self, fm_congr fun m hm => h m (List.mem_cons_of_mem _ hm)]
theorem back_pick {α : Type} (xs : Array α) : ((List.range (xs.size - 1)).map (fun k => xs.size - 1 - k)).filterMap (xs[·]?) = xs.toList.tail.reverse := by
  rw [back_range, List.filterMap_reverse, pick_run xs 1 (xs.size - 1), List.take_of_length_le (by simp), List.drop_one]
theorem back_bounds {n : Nat} (h : 0 < n) : sliceBounds none (some 0) (some (-1)) n = ((n : Int) - 1, 0, -1) := by
  have e : max (-1 : Int) (min 0 ((n : Int) - 1)) = 0 := by omega
  show ((n : Int) - 1, max (-1 : Int) (min (if (0 : Int) < 0 then 0 + (n : Int) else 0) ((n : Int) - 1)), (-1 : Int)) = _
  rw [if_neg (by decide), e]
theorem back_list {xs : Array Value} (h : 0 < xs.size) : slicePick xs none (some 0) (some (-1)) = xs.toList.tail.reverse.toArray := by
  have r : sliceRange ((xs.size : Int) - 1) 0 (-1) = (List.range (xs.size - 1)).map fun k => xs.size - 1 - k := by
    unfold sliceRange
    have n1 : ¬ ((-1 : Int) > 0) := by decide
    by_cases g : (xs.size : Int) - 1 > 0
    · have e : ((xs.size : Int) - 1 - 0 - -1 - 1) / (- -1) = ((xs.size - 1 : Nat) : Int) := by
        rw [show (- -1 : Int) = 1 by decide, Int.ediv_one]
        omega
      simp only [n1, if_false, g, if_true, e, Int.toNat_natCast]
      exact List.map_congr_left fun k hk => by have := List.mem_range.mp hk; omega
    · have e : xs.size - 1 = 0 := by omega
      simp only [n1, if_false, g, e]
      rfl
  unfold slicePick
  rw [back_bounds h]
  show ((sliceRange ((xs.size : Int) - 1) 0 (-1)).filterMap (xs[·]?)).toArray = _
  rw [r, back_pick]
section
variable {prog : Program} {w : World} {A : Around} {E : Value → Shared → Prop} {s : Shared}
theorem back_tuple {t sl : Addr} {xs : Array Value} {vl vu vs : Value} {Q : Value → Shared → Prop} (ht : IsTup s.heap t xs) (hs : s.heap.IsSliceOf sl vl vu vs) (pl : IsPart vl none) (pu : IsPart vu (some 0)) (ps : IsPart vs (some (-1))) (hn : 0 < xs.size) (hsz : xs.size ≤ sizeLine)
    (h : Q (.ref s.heap.objs.size) { s with heap := s.heap.push { cls := .type "tuple", data := .seq xs.toList.tail.reverse.toArray } }) : wpAny (model prog w) A (getItem (.ref t) (.ref sl)) Q E s := by
  have hz : sizeOk (.seq xs.toList.tail.reverse.toArray) := by show xs.toList.tail.reverse.toArray.size ≤ sizeLine; simp; omega
  obtain ⟨os, hos, hcs, hds⟩ := id hs
  unfold getItem
  try with_reducible refine wpAny_holding ?_
  first | refine wpAny_bind (wpAny_pure ?_) | skip
  refine wpAny_bind (wpAny_sequenceKey ht.typeIs (by decide) (wpAny_bind (wpAny_callSpecial?_slot (name := Str.ofString "__getitem__") ht.typeIs PyProof.Rows.slot_tuple_getitem (wpAny_call_entry PyProof.Rows.slot_tuple_getitem ht.typeIs entry_tuple_getitem ?_ (args_tuple_getitem _ _)))))
  show wpAny _ _ (Builtin.Tuple.tupleItemsOf (.ref t) >>= _) _ _ s
  refine wpAny_bind (tupleItemsOf_ ht (wpAny_bind (wpAny_typeOf (T := "slice") ⟨os, hos, hcs⟩ ?_)))
  rw [if_pos (by decide)]
  have app : ∀ {Q' : Int × Int × Nat → Shared → Prop} {A' : Around} {E' : Value → Shared → Prop}, Q' ((xs.size : Int) - 1, -1, xs.size - 1) s → wpAny (model prog w) A' (Builtin.Slice.sliceApplied (.ref sl) (pure (xs.size : Int))) Q' E' s := by
    intro Q' A' E' q
    unfold Builtin.Slice.sliceApplied Builtin.Slice.sliceFields
    refine wpAny_bind (wpAny_bind (wpAny_field hos hds (x := vl) rfl (wpAny_bind (wpAny_field hos hds (x := vu) rfl (wpAny_bind (wpAny_field hos hds (x := vs) rfl (wpAny_pure ?_)))))))
    refine wpAny_bind (HT.slicePart_ ps ?_)
    show wpAny _ _ (if ((-1 : Int) == 0) = true then _ else _) _ _ s
    rw [if_neg (by decide)]
    refine wpAny_bind (HT.slicePart_ pl (wpAny_bind (HT.slicePart_ pu (wpAny_bind (wpAny_pure ?_)))))
    have e1 : Builtin.Slice.sliceAdjust none (some 0) (-1) (xs.size : Int) = ((xs.size : Int) - 1, 0) := by
      have e : min (0 : Int) ((xs.size : Int) - 1) = 0 := by omega
      show ((xs.size : Int) - 1, (if (0 : Int) < 0 then max (0 + (xs.size : Int)) (-1) else min 0 ((xs.size : Int) - 1))) = _
      rw [if_neg (by decide), e]
    have e2 : Builtin.Slice.slicePlaces ((xs.size : Int) - 1) 0 (-1) = xs.size - 1 := by
      unfold Builtin.Slice.slicePlaces
      rw [if_neg (by decide)]
      by_cases g : (xs.size : Int) - 1 > 0
      · rw [if_pos g, show (- -1 : Int) = 1 by decide, Int.ediv_one]
        omega
      · rw [if_neg g]
        show (0 : Int).toNat = _
        omega
    show wpAny _ _ (match Builtin.Slice.sliceAdjust none (some 0) (-1) (xs.size : Int) with | (lo, hi) => pure (lo, (-1 : Int), Builtin.Slice.slicePlaces lo hi (-1))) _ _ s
    rw [e1]
    show wpAny _ _ (pure ((xs.size : Int) - 1, (-1 : Int), Builtin.Slice.slicePlaces ((xs.size : Int) - 1) 0 (-1))) _ _ s
    rw [e2]
    exact wpAny_pure q
  refine wpAny_bind (app ?_)
  show wpAny _ _ (if (((xs.size : Int) - 1) == 0 && (-1 : Int) == 1 && (xs.size - 1) == xs.size) = true then _ else _) _ _ s
  have hno : ¬ ((((xs.size : Int) - 1) == 0 && (-1 : Int) == 1 && (xs.size - 1) == xs.size) = true) := by
    intro q
    rw [Bool.and_eq_true, Bool.and_eq_true] at q
    exact absurd q.1.2 (by decide)
  rw [if_neg hno]
  have pk : ((List.range (xs.size - 1)).filterMap fun (m : Nat) => xs[(((xs.size : Int) - 1) + (m : Int) * (-1)).toNat]?).toArray = xs.toList.tail.reverse.toArray := by
    rw [← back_pick, List.filterMap_map]
    congr 1
    exact fm_congr fun m hm => by
      have := List.mem_range.mp hm
      have e : (((xs.size : Int) - 1) + (m : Int) * (-1)).toNat = xs.size - 1 - m := by omega
      show xs[(((xs.size : Int) - 1) + (m : Int) * (-1)).toNat]? = xs[xs.size - 1 - m]?
      rw [e]
  rw [pk]
  first
    | exact wpAny_bind (m := Builtin.Tuple.tupleExact _) (wpAny_newObj_type (wpAny_pure ⟨_, rfl, wpAny_pure h⟩) hz)
    | exact wpAny_bind (m := Builtin.Tuple.tupleExact _) (wpAny_newObj_type (wpAny_bind (wpAny_pure (wpAny_pure ⟨_, rfl, wpAny_pure h⟩))) hz)
    | exact wpAny_bind (wpAny_bind (m := Builtin.Tuple.tupleExact _) (wpAny_newObj_type (wpAny_pure (wpAny_pure ⟨_, rfl, wpAny_pure h⟩)) hz))
    | exact wpAny_bind (wpAny_bind (m := Builtin.Tuple.tupleExact _) (wpAny_newObj_type (wpAny_pure ⟨_, rfl, wpAny_pure h⟩) hz))
end
section
variable {X : Cx}
def tRev0 (K : PySem.W.Frag) (te : TE) : TE := fun σ H Q => te σ H fun x H1 => ∃ a xs, x = .ref a ∧ 0 < xs.length ∧ ((SqL K H1 a xs ∧ ∀ p, H1 p = none → Q (.ref p) (upd H1 p (.lst xs.tail.reverse))) ∨ (SqT K H1 a xs ∧ ∀ p, H1 p = none → Q (.ref p) (upd H1 p (.tup xs.tail.reverse))))
theorem vals_tail {xs : List V} {us : List Value} (h : Vals xs us) : Vals xs.tail us.tail := by
  cases h with
  | nil => exact .nil
  | cons _ t => exact t
theorem pe_rev0 {e : Expr} {te : TE} {k kz : Nat} {p0 p1 p2 p3 pos : Pos} (he : PE X e te) : PE X (.Subscript e (.Slice none (some (.Constant (.int 0) kz p0)) (some (.UnaryOp .USub (.Constant (.int 1) k p1) p2)) p3) pos) (tRev0 X.K te) := by
  refine ⟨fun pins s σ H Q I h => ?_⟩
  refine Subscript_ (thn (he.run pins s σ H _ I h) fun v s1 ⟨x, H1, I1, r1, q1⟩ => ?_)
  obtain ⟨a, xs, ex, hn, q⟩ := q1
  subst ex
  cases r1
  have hst : PO X (some (.UnaryOp .USub (.Constant (.int 1) k p1) p2)) (tPart (tUn (rU fun i => .int (-i)) (tC (.int 1)))) := po_some (pe_un un_neg pe_int)
  have hup : PO X (some (.Constant (.int 0) kz p0)) (tPart (tC (.int 0))) := po_some pe_int
  refine wpAny_Slice (thn (po_none.run pins s1 σ H1 (fun o H2 => o = none ∧ H2 = H1) I1 ⟨rfl, rfl⟩) fun vl s2 ⟨l, H2, I2, pl, el, e2⟩ => ?_)
  subst el e2
  refine thn (hup.run pins s2 σ H2 (fun o H3 => o = some 0 ∧ H3 = H2) I2 ⟨0, rfl, rfl, rfl⟩) fun vu s3 ⟨u, H3, I3, pu, eu, e3⟩ => ?_
  subst eu e3
  refine thn (hst.run pins s3 σ H3 (fun o H4 => o = some (-1) ∧ H4 = H3) I3 ⟨1, rfl, -1, rfl, rfl, rfl⟩) fun vs s4 ⟨o, H4, I4, ps, eo, e4⟩ => ?_
  subst eo e4
  have I5 : Inv X pins σ H4 { s4 with heap := s4.heap.push { cls := .type "slice", data := .fields #[vl, vu, vs] } } := I4.kept (t' := s4.toks) fun b ob q => Heap.get?_push_of_some _ q
  rcases q with ⟨hx, q⟩ | ⟨hx, q⟩
  · obtain ⟨its, r, ht, hz⟩ := I5.list hx
    have hlen := r.length
    show wpAny (model X.prog X.w) X.A (subscriptTail e (.Slice none (some (.Constant (.int 0) kz p0)) (some (.UnaryOp .USub (.Constant (.int 1) k p1) p2)) p3) (.ref a) (.ref s4.heap.objs.size)) (EP X pins σ Q) X.xe { s4 with heap := s4.heap.push { cls := .type "slice", data := .fields #[vl, vu, vs] } }
    refine tail_any (ops := [.ref a, .ref s4.heap.objs.size]) ht.isList.typeIs (PySem.slot_list_getitem.lookup) (wpAny_getItem_list_slice ht.isList (Heap.IsSliceOf.new _ vl vu vs) pl pu ps (by decide) ?_ (by rw [List.size_toArray]; omega)) (by with_unfolding_all rfl)
    rw [back_list (by rw [List.size_toArray]; omega)]
    refine ⟨.ref _, _, I5.laid (t' := s4.toks) (o := .lst xs.tail.reverse) (fun b ob q => Heap.get?_push_of_some _ q) (Nat.le_refl _) ?_, rfl, q _ (I5.hok.fresh (Nat.le_refl _))⟩
    exact ⟨by rw [List.length_reverse, List.length_tail]; omega, _, 0, (vals_tail r).reverse, Heap.get?_push_size _ rfl⟩
  · obtain ⟨its, r, ht, hz⟩ := I5.tuple hx
    have hlen := r.length
    show wpAny (model X.prog X.w) X.A (subscriptTail e (.Slice none (some (.Constant (.int 0) kz p0)) (some (.UnaryOp .USub (.Constant (.int 1) k p1) p2)) p3) (.ref a) (.ref s4.heap.objs.size)) (EP X pins σ Q) X.xe { s4 with heap := s4.heap.push { cls := .type "slice", data := .fields #[vl, vu, vs] } }
    refine tail_any (ops := [.ref a, .ref s4.heap.objs.size]) ht.typeIs (PyProof.Rows.slot_tuple_getitem.lookup) (back_tuple ht (Heap.IsSliceOf.new _ vl vu vs) pl pu ps (by rw [List.size_toArray]; omega) (by rw [List.size_toArray]; omega) ?_) (by with_unfolding_all rfl)
    refine ⟨.ref _, _, I5.laid (t' := s4.toks) (o := .tup xs.tail.reverse) (fun b ob q => Heap.get?_push_of_some _ q) (Nat.le_refl _) ?_, rfl, q _ (I5.hok.fresh (Nat.le_refl _))⟩
    exact ⟨by rw [List.length_reverse, List.length_tail]; omega, _, (vals_tail r).reverse, _, Heap.get?_push_size _ rfl, rfl, 0, rfl⟩
end
end XR

/-! xs.count(x) of flat data: a number from 0 to len(xs) -/
namespace XR
open PySem PySem.Spec PySem.W PyProof.Rows L2
section
variable {X : Cx}
def rCntF (K : PySem.W.Frag) : V → List V → Hp → VK → Prop := fun x xs H Q => ∃ (p : Addr) (ys : List V) (y : V), x = .ref p ∧ xs = [y] ∧ SqL K H p ys ∧ flatV y = true ∧ ys.all flatV = true ∧ ∀ c : Int, 0 ≤ c → c ≤ ys.length → Q (.int c) H
theorem mt_lcountF : MtR X "list.count" (rCntF X.K) := by
  intro pins s σ H x xs v us Q I rx rxs h
  obtain ⟨a, ys, y, rfl, rfl, hs, fy, fys, q⟩ := h
  cases rx
  cases rxs with
  | cons ry rt =>
    rename_i uy ut
    cases rt
    obtain ⟨its, rv, ⟨⟨cls, dd, data, sl⟩, n, ho, hc, hdn, hd⟩, hlen⟩ := I.list hs
    simp only at hc hd
    subst hc hd
    have hvl := rv.length
    refine call_meets PySem.F.slot_list_count ⟨_, ho, rfl⟩ PySem.F.entry_list_count (PySem.F.args_list_count_2 _ _)
      (SeqAt.list_countAt a its.toArray n dd sl uy (eqU y)) ⟨ho, fun u' hu' => mem_eqAt ry fy rv fys u' (by simpa using hu'), ?_⟩
    have hle : its.toArray.toList.countP (eqU y) ≤ ys.length := by
      have := List.countP_le_length (p := eqU y) (l := its)
      simp only [List.toList_toArray] at *
      omega
    refine ⟨.int (its.toArray.toList.countP (eqU y) : Nat), H, I.tok _, ⟨s.toks, rfl⟩, q _ (Int.natCast_nonneg _) (by omega)⟩
end
end XR

namespace K5
open PySem PySem.Spec PyProof.Rows L2 C8 XE XR
/-! is_hole, nodes_in_order -/
abbrev sHole : Stmt := top 7
abbrev sNodes : Stmt := top 8
def letters : Str := "abcdefghijklmnopqrstuvwxyz"
def wordS (z : Str) : Bool := decide (1 ≤ z.length) && (decide (z.length ≤ 8) && z.cps.toList.all fun c => decide (c ∈ letters.cps.toList))
mutual
/-- a shape: labels over shapes, holes -/
def isSh : D → Bool
  | .fl (.str z) => wordS z
  | .sq (.fl (.str z) :: cs) => wordS z && isShs cs
  | _ => false
def isShs : List D → Bool
  | [] => true
  | d :: ds => isSh d && isShs ds
end
mutual
/-- all nodes, in order -/
def nodesD : D → List D
  | .sq (x :: cs) => .sq (x :: cs) :: nodesDs cs
  | d => [d]
def nodesDs : List D → List D
  | [] => []
  | d :: ds => nodesD d ++ nodesDs ds
end
theorem isSh_inv {d : D} (h : isSh d = true) : (∃ z, d = .fl (.str z) ∧ wordS z = true) ∨ ∃ z cs, d = .sq (.fl (.str z) :: cs) ∧ wordS z = true ∧ isShs cs = true := by
  unfold isSh at h
  split at h
  · exact .inl ⟨_, rfl, h⟩
  · rw [Bool.and_eq_true] at h
    exact .inr ⟨_, _, rfl, h.1, h.2⟩
  · cases h
theorem isShs_mem : ∀ {ds : List D}, isShs ds = true → ∀ d ∈ ds, isSh d = true
  | [], _, d, h => by cases h
  | x :: ds, h, d, hd => by
    rw [isShs, Bool.and_eq_true] at h
    rcases List.mem_cons.mp hd with rfl | hd
    · exact h.1
    · exact isShs_mem h.2 d hd
theorem isShs_of : ∀ {ds : List D}, (∀ d ∈ ds, isSh d = true) → isShs ds = true
  | [], _ => rfl
  | x :: ds, h => by
    rw [isShs, h x List.mem_cons_self, isShs_of fun d hd => h d (List.mem_cons_of_mem _ hd)]
    rfl
theorem nodesDs_app : ∀ a b : List D, nodesDs (a ++ b) = nodesDs a ++ nodesDs b
  | [], b => rfl
  | x :: a, b => by rw [List.cons_append, nodesDs, nodesDs, nodesDs_app a b, List.append_assoc]
theorem nodes_pos (d : D) : 0 < (nodesD d).length := by
  cases d with
  | fl x => exact Nat.one_pos
  | emp => exact Nat.one_pos
  | sq xs =>
    cases xs with
    | nil => exact Nat.one_pos
    | cons x cs => rw [nodesD, List.length_cons]; omega
mutual
theorem nodes_sz : ∀ d : D, (nodesD d).length ≤ sz d
  | .fl _ => Nat.le_refl _
  | .emp => Nat.le_refl _
  | .sq [] => Nat.le_refl _
  | .sq (x :: cs) => by
    have := nodess_sz cs
    have := sz_pos x
    rw [nodesD, List.length_cons, sz, szs]
    omega
theorem nodess_sz : ∀ ds : List D, (nodesDs ds).length ≤ szs ds
  | [] => Nat.le_refl _
  | d :: ds => by
    have := nodes_sz d
    have := nodess_sz ds
    rw [nodesDs, List.length_append, szs]
    omega
end
theorem len_nodes : ∀ l : List D, l.length ≤ (nodesDs l).length
  | [] => Nat.le_refl _
  | c :: l => by
    have h1 := nodes_pos c
    have h2 := len_nodes l
    rw [nodesDs, List.length_append, List.length_cons]
    omega
theorem DAts.rev {F : Addr → Prop} {H : Hp} : ∀ {ds : List D} {vs : List V}, DAts F H vs ds → DAts F H vs.reverse ds.reverse
  | [], [], _ => trivial
  | d :: ds, v :: vs, ⟨k, t⟩ => by
    rw [List.reverse_cons, List.reverse_cons]
    exact DAts.app (DAts.rev t) ⟨k, trivial⟩
  | [], _ :: _, k => k.elim
  | _ :: _, [], k => k.elim
def spHole : Sp := fun vs H Q _ => ∃ (v : V) (d : D) (F : Addr → Prop), vs = [v] ∧ DAt F H v d ∧ Q (.bl (isSt d)) H
def spNodes : Sp := fun vs H Q _ => ∃ (v : V) (d : D) (F : Addr → Prop), vs = [v] ∧ DAt F H v d ∧ isSh d = true ∧ sz d ≤ 5000 ∧ ∀ p ws H', H p = none → Same H H' → H' p = some (.lst ws) → DAts F H ws (nodesD d) → Q (.ref p) H'
theorem scHole : FnScope ["node"] ["node"] (fnScope sHole) := fnScope_by (by decide +kernel)
abbrev NNo : List Str := ["shape", "found", "waiting", "node", "child"]
theorem scNodes : FnScope NNo ["shape"] (fnScope sNodes) := fnScope_by (by decide +kernel)
section
variable {P : Program} {w : World} {K : PySem.W.Frag} {mg : Str → Option Value} {base : Heap}
theorem c_hole {f : Addr} {fd : FuncData} (F : Def K mg "is_hole" sHole f fd) (b : Binds K fd ["node"] []) (T : Blt4 mg) : Cal P w K mg base 1 "is_hole" spHole [] := by
  refine cal0 F b .nil scHole (fun vs H Q E h => ?_) (fun cdv A outer s H vs Q E hr h => ?_)
  · obtain ⟨v, d, G, rfl, _⟩ := h
    rfl
  · obtain ⟨v, d, G, rfl, hv, k⟩ := h
    refine ⟨_, pss_one (ps_ret (pe_callB call_isi (by rfl) T.isi (by decide +kernel) (pa_cons (pv 0) (pa_cons (pe_bt "str" T.str) pa_nil)))), ?_⟩
    obtain ⟨Ty, ty, _, k2⟩ := d_ty (K := K) hv
    exact ⟨_, rfl, v, .ty "str", _, _, _, rfl, .ty _, ty H fun _ _ e => e, k2, k⟩
theorem c_nodes {f : Addr} {fd : FuncData} (F : Def K mg "nodes_in_order" sNodes f fd) (b : Binds K fd ["shape"] []) (T : Blt4 mg) (CH : Cal P w K mg base 1 "is_hole" spHole []) : Cal P w K mg base 2 "nodes_in_order" spNodes [] := by
  refine cal0 F b .nil scNodes (fun vs H Q E h => ?_) (fun cdv A outer s H vs Q E hr h => ?_)
  · obtain ⟨v, d, G, rfl, _⟩ := h
    rfl
  · obtain ⟨v, d, G, rfl, hv, hsh, hsz, k⟩ := h
    have nd := scNodes.nd
    refine ⟨_, pss_cons (ps_set (i := 1) nd rfl (Or.inl rfl) (pe_lst pa_nil))
      (pss_cons (ps_set (i := 2) nd rfl (Or.inl rfl) (pe_lst (pa_cons (pv 0) pa_nil)))
      (pss_cons (ps_while PassesOwn.never (pt_truth (pv 2) (by intro _; rfl))
        (pss_cons (ps_set (i := 3) nd rfl (Or.inl rfl) (pe_bm0 PySem.F.plainAttrs_list PySem.F.slot_list_pop PySem.F.type_list_pop mt_pop (pv 2)))
        (pss_cons (ps_expr (pe_bm PySem.F.plainAttrs_list PySem.F.slot_list_append PySem.F.type_list_append mt_append (pv 1) (pa_cons (pv 3) pa_nil)))
        (pss_one (ps_if (pt_not (pt_val (pe_c CH hr (by decide) (by rfl) (pa_cons (pv 3) pa_nil))))
          (pss_one (ps_for PassesOwn.never rfl (PI.or (pi_list (pe_rev0 (pv 3))) (pi_tup (pe_rev0 (pv 3)))) (pg_name (i := 4) nd rfl (Or.inl rfl))
            (pss_one (ps_expr (pe_bm PySem.F.plainAttrs_list PySem.F.slot_list_append PySem.F.type_list_append mt_append (pv 2) (pa_cons (pv 4) pa_nil))))))
          pss_nil)))))
      (pss_one (ps_ret (pv 1))))), ?_⟩
    refine ⟨(by show 0 ≤ sizeLine; decide), fun f1 nf => ⟨_, rfl, (by show 1 ≤ sizeLine; decide), fun w1 nw => ?_⟩⟩
    have fw : f1 ≠ w1 := ne_of_none upd_same nw
    have nwH : H w1 = none := by rw [upd_ne fw.symm] at nw; exact nw
    let Iv : Nat → L2.St → Hp → Prop := fun m σ H' => ∃ (v3 v4 : Option V) (wl fl : List V) (ds fs : List D), σ = [some v, some (.ref f1), some (.ref w1), v3, v4] ∧ m = (nodesDs ds.reverse).length ∧ H' f1 = some (.lst fl) ∧ H' w1 = some (.lst wl) ∧ Same H H' ∧ DAts G H fl fs ∧ DAts G H wl ds ∧ isShs ds = true ∧ fs ++ nodesDs ds.reverse = nodesD d
    refine ⟨Iv, ⟨_, none, none, [v], [], [d], [], rfl, rfl, by rw [upd_ne fw]; exact upd_same, upd_same, (same_upd nf).trans (same_upd nw), trivial, ⟨hv, trivial⟩, by rw [isShs, hsh]; rfl, by rw [List.nil_append]; show nodesD d ++ [] = _; rw [List.append_nil]⟩, ?_⟩
    rintro m σ H1 ⟨v3, v4, wl, fl, ds, fs, rfl, rfl, hf1, hw1, sm, hfs, hds, hss, heq⟩
    have hlen := hds.len
    have hfl := hfs.len
    have htot : fs.length + (nodesDs ds.reverse).length ≤ 5000 := by rw [← List.length_append, heq]; exact Nat.le_trans (nodes_sz d) hsz
    refine ⟨_, rfl, !wl.isEmpty, .inl ⟨wl, SqL.of hw1, rfl⟩, ?_⟩
    rcases List.eq_nil_or_concat ds with rfl | ⟨ds0, dl, rfl⟩
    · obtain rfl : wl = [] := List.length_eq_zero_iff.mp hlen
      refine iteBf rfl ⟨_, rfl, k f1 fl H1 nf sm hf1 ?_⟩
      have : fs = nodesD d := by rw [← heq]; show fs = fs ++ []; rw [List.append_nil]
      rw [← this]
      exact hfs
    · rw [List.concat_eq_append] at *
      rw [List.length_append] at hlen
      have hlen : wl.length = ds0.length + 1 := hlen
      obtain ⟨wl0, x, rfl⟩ : ∃ wl0 x, wl = wl0 ++ [x] := by
        rcases List.eq_nil_or_concat wl with rfl | ⟨a, x, e⟩
        · cases hlen
        · exact ⟨a, x, by rw [e, List.concat_eq_append]⟩
      have hl0 : wl0.length = ds0.length := by simpa using hlen
      have hd0 : DAts G H wl0 ds0 := by
        have := DAts.take ds0.length hds
        rw [List.take_left' hl0, List.take_left' rfl] at this
        exact this
      have hx : DAt G H x dl := by
        have := DAts.drop ds0.length hds
        rw [List.drop_left' hl0, List.drop_left' rfl] at this
        exact this.1
      have hshl := isShs_mem hss dl (List.mem_append_right _ (List.mem_singleton.mpr rfl))
      have hss0 : isShs ds0 = true := isShs_of fun q hq => isShs_mem hss q (List.mem_append_left _ hq)
      have hrev : (ds0 ++ [dl]).reverse = dl :: ds0.reverse := by rw [List.reverse_append]; rfl
      rw [hrev] at heq htot ⊢
      have hnd : nodesDs (dl :: ds0.reverse) = nodesD dl ++ nodesDs ds0.reverse := rfl
      rw [hnd] at heq htot ⊢
      rw [List.length_append] at htot
      have hnp := nodes_pos dl
      refine iteBt (by cases wl0 <;> rfl) ?_
      refine ⟨Iv ((nodesD dl ++ nodesDs ds0.reverse).length - 1), fun σ' H' hI => ⟨_, by rw [List.length_append]; omega, hI⟩, ?_⟩
      refine ⟨_, rfl, .inl ⟨rfl, _, SqL.of hw1⟩, w1, wl0 ++ [x], x, rfl, rfl, hw1, by simp, ?_⟩
      rw [List.dropLast_concat]
      have hf2 : (upd H1 w1 (.lst wl0)) f1 = some (.lst fl) := by rw [upd_ne fw]; exact hf1
      refine ⟨_, rfl, .inl ⟨rfl, _, SqL.of hf2⟩, _, rfl, f1, fl, x, rfl, rfl, hf2, by rw [hfl, sizeLine_eq]; omega, ?_⟩
      have hf3 : (upd (upd H1 w1 (.lst wl0)) f1 (.lst (fl ++ [x]))) f1 = some (.lst (fl ++ [x])) := upd_same
      have hw3 : (upd (upd H1 w1 (.lst wl0)) f1 (.lst (fl ++ [x]))) w1 = some (.lst wl0) := by rw [upd_ne fw.symm]; exact upd_same
      have s3 : Same H (upd (upd H1 w1 (.lst wl0)) f1 (.lst (fl ++ [x]))) := fun a o e => by rw [upd_ne (ne_of_none e nf), upd_ne (ne_of_none e nwH)]; exact sm _ _ e
      generalize upd (upd H1 w1 (.lst wl0)) f1 (.lst (fl ++ [x])) = H3 at hf3 hw3 s3
      refine ⟨_, rfl, x, dl, G, rfl, DAt.hold (.same s3) _ hx, isSt dl, rfl, ?_⟩
      have hfs3 : DAts G H (fl ++ [x]) (fs ++ [dl]) := DAts.app hfs ⟨hx, trivial⟩
      rcases isSh_inv hshl with ⟨z, rfl, _⟩ | ⟨z, cs, rfl, hwz, hcs⟩
      · refine iteBf rfl ?_
        exact ⟨some x, v4, wl0, fl ++ [x], ds0, fs ++ [.fl (.str z)], rfl, by simp [nodesD], hf3, hw3, s3, hfs3, hd0, hss0, by rw [← heq, List.append_assoc]; rfl⟩
      · refine iteBt rfl ?_
        obtain ⟨a, us, rfl, q, _, hus⟩ := hx
        match us, hus with
        | u :: us, ⟨hu, hus⟩ =>
          have hul := hus.len
          have heq3 : fs ++ [.sq (.fl (.str z) :: cs)] ++ nodesDs ((ds0 ++ cs.reverse).reverse) = nodesD d := by
            rw [← heq, List.reverse_append, List.reverse_reverse, nodesDs_app, List.append_assoc]
            rfl
          have hm3 : (nodesD (.sq (.fl (.str z) :: cs)) ++ nodesDs ds0.reverse).length - 1 = (nodesDs (ds0 ++ cs.reverse).reverse).length := by
            rw [List.reverse_append, List.reverse_reverse, nodesDs_app]
            show (_ :: (nodesDs cs ++ nodesDs ds0.reverse)).length - 1 = _
            rw [List.length_cons]
            omega
          have hcl := nodess_sz cs
          have hcz := len_nodes cs
          have hn1 : (nodesD (.sq (.fl (.str z) :: cs))).length = 1 + (nodesDs cs).length := by rw [nodesD, List.length_cons, Nat.add_comm]
          have hdl0 := len_nodes ds0.reverse
          rw [List.length_reverse] at hdl0
          have walk : ∀ (J : It) (H4 : Hp), Same H3 H4 → (∀ j H', j < us.reverse.length → (∀ b o, H4 b = some o → b ≠ w1 → H' b = some o) → J.go j H') → (∀ H', (∀ b o, H4 b = some o → b ≠ w1 → H' b = some o) → J.stop us.reverse.length H') → (∀ j H' x H'', (∀ b o, H4 b = some o → b ≠ w1 → H' b = some o) → J.yld j H' x H'' → H'' = H' ∧ us.reverse[j]? = some x) →
              ∃ W : Nat → Nat → L2.St → Hp → Prop, (∃ m, W 0 m [some v, some (.ref f1), some (.ref w1), some (.ref a), v4] H4) ∧ ∀ i m σ H, W i m σ H → (J.stop i H ∧ Iv ((nodesD (.sq (.fl (.str z) :: cs)) ++ nodesDs ds0.reverse).length - 1) σ H) ∨ (J.go i H ∧ ∃ N : L2.St → Hp → Prop, (∀ σ' H', N σ' H' → ∃ m', m' < m ∧ W (i + 1) m' σ' H') ∧
                ∀ x H', J.yld i H x H' → gName 4 x σ H' fun σ2 H2 => tDrop (tBM K "list" rAppend (tVar 2) (tCons (tVar 4) tNil)) { nx := N, rt := Q, bk := Iv ((nodesD (.sq (.fl (.str z) :: cs)) ++ nodesDs ds0.reverse).length - 1), ct := N } σ2 H2) := by
            intro J H4 s4 jgo jst jyl
            have hr : us.reverse.length = cs.length := by rw [List.length_reverse]; exact hul
            refine for_gen (J := J) (D := { nx := Iv ((nodesD (.sq (.fl (.str z) :: cs)) ++ nodesDs ds0.reverse).length - 1), rt := Q }) us.reverse.length (fun j σ H' => ∃ v4, σ = [some v, some (.ref f1), some (.ref w1), some (.ref a), v4] ∧ H' w1 = some (.lst (wl0 ++ us.reverse.take j)) ∧ ∀ b o, H4 b = some o → b ≠ w1 → H' b = some o)
              ⟨v4, rfl, by rw [List.take_zero, List.append_nil]; exact s4 _ _ hw3, fun b o e _ => e⟩ (fun j σ H' hj ⟨_, _, _, kp⟩ => jgo j H' hj kp) (fun σ H' ⟨_, _, _, kp⟩ => jst H' kp) ?_ ?_
            · rintro j σ H' y H'' hj ⟨v4, rfl, hw, kp⟩ yl
              obtain ⟨rfl, hy⟩ := jyl j H' y H'' kp yl
              obtain ⟨hlt, ey⟩ := List.getElem?_eq_some_iff.mp hy
              refine ⟨_, rfl, .inl ⟨rfl, _, SqL.of hw⟩, _, rfl, w1, _, y, rfl, rfl, hw, by rw [sizeLine_eq, List.length_append, List.length_take]; omega, some y, rfl, ?_, fun b o e n => by rw [upd_ne n]; exact kp b o e n⟩
              rw [upd_same, List.take_succ_eq_append_getElem hlt, ← List.append_assoc, ey]
            · rintro σ H' ⟨v4, rfl, hw, kp⟩
              rw [List.take_of_length_le (Nat.le_refl _)] at hw
              refine ⟨_, v4, _, _, ds0 ++ cs.reverse, _, rfl, hm3, kp _ _ (s4 _ _ hf3) fw, hw, fun b o e => kp b o (s4 _ _ (s3 _ _ e)) (ne_of_none e nwH), hfs3, DAts.app hd0 (DAts.rev hus), isShs_of fun q hq => ?_, heq3⟩
              rcases List.mem_append.mp hq with hq | hq
              · exact isShs_mem hss0 q hq
              · exact isShs_mem hcs q (List.mem_reverse.mp hq)
          have q3 : H3 a = some (.tup (u :: us)) ∨ H3 a = some (.lst (u :: us)) := q.imp (s3 _ _) (fun e => s3 _ _ e.2)
          rcases q3 with q3 | q3
          · refine .inr ⟨_, rfl, a, u :: us, rfl, Nat.succ_pos _, .inr ⟨SqT.of q3, fun p np => ⟨p, rfl, ⟨_, SqT.of upd_same⟩, ?_⟩⟩⟩
            have pw : p ≠ w1 := (ne_of_none hw3 np).symm
            exact walk (Itt K p) _ (same_upd np) (fun j H' hj kp => ⟨_, us.reverse.getD j .non, SqT.of (kp p _ upd_same pw), getD_at hj⟩) (fun H' kp => ⟨_, SqT.of (kp p _ upd_same pw), Nat.le_refl _⟩) (fun j H' x H'' kp yl => ⟨yl.1, yl.2 _ (SqT.of (kp p _ upd_same pw))⟩)
          · refine .inl ⟨_, rfl, a, u :: us, rfl, Nat.succ_pos _, .inl ⟨SqL.of q3, fun p np => ⟨p, rfl, ⟨_, SqL.of upd_same⟩, ?_⟩⟩⟩
            have pw : p ≠ w1 := (ne_of_none hw3 np).symm
            exact walk (Itl K p) _ (same_upd np) (fun j H' hj kp => ⟨_, us.reverse.getD j .non, SqL.of (kp p _ upd_same pw), getD_at hj⟩) (fun H' kp => ⟨_, SqL.of (kp p _ upd_same pw), Nat.le_refl _⟩) (fun j H' x H'' kp yl => ⟨yl.1, yl.2 _ (SqL.of (kp p _ upd_same pw))⟩)
        | [], hus => exact hus.elim
end
end K5

namespace K5
open PySem PySem.Spec PyProof.Rows L2 C8 XE XR SX
/-! node_text, text_of; what is built from the nodes, from the back -/
def stepG {α : Type} (leaf : Str → α) (node : Str → List α → α) (st : List α) : D → List α
  | .fl (.str z) => st ++ [leaf z]
  | .sq (.fl (.str z) :: cs) => st.take (st.length - cs.length) ++ [node z (st.drop (st.length - cs.length)).reverse]
  | _ => st
mutual
def valG {α : Type} (leaf : Str → α) (node : Str → List α → α) : D → List α
  | .fl (.str z) => [leaf z]
  | .sq (.fl (.str z) :: cs) => [node z (valGs leaf node cs)]
  | _ => []
def valGs {α : Type} (leaf : Str → α) (node : Str → List α → α) : List D → List α
  | [] => []
  | d :: ds => valG leaf node d ++ valGs leaf node ds
end
section
variable {α : Type} {leaf : Str → α} {node : Str → List α → α}
theorem valG_len : ∀ {d : D}, isSh d = true → (valG leaf node d).length = 1 := fun {d} h => by
  rcases isSh_inv h with ⟨z, rfl, _⟩ | ⟨z, cs, rfl, _, _⟩
  · simp [valG]
  · simp [valG]
theorem valGs_len : ∀ {ds : List D}, isShs ds = true → (valGs leaf node ds).length = ds.length
  | [], _ => rfl
  | d :: ds, h => by
    rw [isShs, Bool.and_eq_true] at h
    rw [valGs, List.length_append, valG_len h.1, valGs_len h.2, List.length_cons, Nat.add_comm]
mutual
theorem fold_g : ∀ (d : D) (st : List α), isSh d = true → (nodesD d).reverse.foldl (stepG leaf node) st = st ++ valG leaf node d
  | .fl x, st, h => by
    cases x with
    | str z => simp [nodesD, stepG, valG]
    | _ => cases h
  | .emp, st, h => by cases h
  | .sq [], st, h => by cases h
  | .sq (x :: cs), st, h => by
    rcases isSh_inv h with ⟨z, e, _⟩ | ⟨z, cs', e, _, hcs⟩
    · cases e
    · cases e
      rw [nodesD, List.reverse_cons, List.foldl_append, folds_g cs st hcs]
      show stepG leaf node (st ++ (valGs leaf node cs).reverse) (.sq (.fl (.str z) :: cs)) = _
      have hl : (st ++ (valGs leaf node cs).reverse).length - cs.length = st.length := by rw [List.length_append, List.length_reverse, valGs_len hcs]; omega
      unfold stepG
      dsimp only
      rw [hl, List.take_left' rfl, List.drop_left' rfl, List.reverse_reverse, valG]
theorem folds_g : ∀ (ds : List D) (st : List α), isShs ds = true → (nodesDs ds).reverse.foldl (stepG leaf node) st = st ++ (valGs leaf node ds).reverse
  | [], st, _ => by simp [nodesDs, valGs]
  | d :: ds, st, h => by
    rw [isShs, Bool.and_eq_true] at h
    have h1 := valG_len (leaf := leaf) (node := node) h.1
    rw [nodesDs, List.reverse_append, List.foldl_append, folds_g ds st h.2, fold_g d _ h.1, valGs, List.reverse_append, List.append_assoc]
    congr 2
    match valG leaf node d, h1 with
    | [a], _ => rfl
end
end
mutual
/-- behind a node stand those beneath it -/
theorem nodes_split : ∀ (d : D) {pre post : List D} {x : D} {cs : List D}, nodesD d = pre ++ .sq (x :: cs) :: post → ∃ rest, post = nodesDs cs ++ rest
  | .fl y, pre, post, x, cs, e => by
    have e : [D.fl y] = pre ++ .sq (x :: cs) :: post := by rw [← e]; simp [nodesD]
    cases pre with
    | nil => cases e
    | cons p pre => simp at e
  | .emp, pre, post, x, cs, e => by
    have e : [D.emp] = pre ++ .sq (x :: cs) :: post := by rw [← e]; simp [nodesD]
    cases pre with
    | nil => cases e
    | cons p pre => simp at e
  | .sq [], pre, post, x, cs, e => by
    have e : [D.sq []] = pre ++ .sq (x :: cs) :: post := by rw [← e]; simp [nodesD]
    cases pre with
    | nil => cases e
    | cons p pre => simp at e
  | .sq (y :: es), pre, post, x, cs, e => by
    rw [nodesD] at e
    cases pre with
    | nil =>
      injection e with e1 e2
      injection e1 with e1
      injection e1 with e1 e3
      subst e3
      exact ⟨[], by rw [List.append_nil]; exact e2.symm⟩
    | cons p pre =>
      injection e with _ e2
      exact nodess_split es e2
theorem nodess_split : ∀ (ds : List D) {pre post : List D} {x : D} {cs : List D}, nodesDs ds = pre ++ .sq (x :: cs) :: post → ∃ rest, post = nodesDs cs ++ rest
  | [], pre, post, x, cs, e => by
    have e : [] = pre ++ .sq (x :: cs) :: post := by rw [← e]; simp [nodesDs]
    cases pre <;> cases e
  | d :: ds, pre, post, x, cs, e => by
    rw [nodesDs] at e
    rcases List.append_eq_append_iff.mp e with ⟨a, e1, e2⟩ | ⟨c, e1, e2⟩
    · exact nodess_split ds e2
    · cases c with
      | nil =>
        rw [List.nil_append] at e2
        exact nodess_split ds (pre := []) e2.symm
      | cons c0 c =>
        injection e2 with e3 e4
        subst e3
        obtain ⟨rest, e5⟩ := nodes_split d e1
        exact ⟨rest ++ nodesDs ds, by rw [e4, e5]; exact List.append_assoc _ _ _⟩
end
theorem isSh_nodes : ∀ {d : D}, isSh d = true → ∀ n ∈ nodesD d, isSh n = true := by
  have go : ∀ n : Nat, (∀ d : D, sz d ≤ n → isSh d = true → ∀ m ∈ nodesD d, isSh m = true) ∧ ∀ ds : List D, szs ds ≤ n → isShs ds = true → ∀ m ∈ nodesDs ds, isSh m = true := by
    intro n
    induction n with
    | zero =>
      refine ⟨fun d h => by have := sz_pos d; omega, fun ds h _ m hm => ?_⟩
      cases ds with
      | nil => cases hm
      | cons d ds => rw [szs] at h; have := sz_pos d; omega
    | succ n ih =>
      have one : ∀ d : D, sz d ≤ n + 1 → isSh d = true → ∀ m ∈ nodesD d, isSh m = true := fun d h hs m hm => by
        rcases isSh_inv hs with ⟨z, rfl, hz⟩ | ⟨z, cs, rfl, _, hcs⟩
        · have : m = .fl (.str z) := by simpa [nodesD] using hm
          rw [this]; exact hs
        · rw [nodesD] at hm
          rcases List.mem_cons.mp hm with rfl | hm
          · exact hs
          · rw [sz, szs] at h
            have := sz_pos (.fl (.str z))
            exact ih.2 cs (by omega) hcs m hm
      refine ⟨one, fun ds => ?_⟩
      induction ds with
      | nil => intro _ _ m hm; cases hm
      | cons d ds ihd =>
        intro h hs m hm
        rw [isShs, Bool.and_eq_true] at hs
        rw [szs] at h
        rw [nodesDs] at hm
        rcases List.mem_append.mp hm with hm | hm
        · exact one d (by omega) hs.1 m hm
        · exact ihd (by omega) hs.2 m hm
  exact fun {d} h n hn => (go (sz d)).1 d (Nat.le_refl _) h n hn
/-- at each node the stack is high enough -/
theorem stack_high {α : Type} {leaf : Str → α} {node : Str → List α → α} {d : D} (h : isSh d = true) {j : Nat} {x : D} {cs : List D} (hj : (nodesD d).reverse[j]? = some (.sq (x :: cs))) : cs.length ≤ (((nodesD d).reverse.take j).foldl (stepG leaf node) []).length := by
  obtain ⟨hlt, e⟩ := List.getElem?_eq_some_iff.mp hj
  have e1 : (nodesD d).reverse = (nodesD d).reverse.take j ++ .sq (x :: cs) :: (nodesD d).reverse.drop (j + 1) := by
    rw [← e, List.getElem_cons_drop, List.take_append_drop]
  have e2 := congrArg List.reverse e1
  rw [List.reverse_reverse, List.reverse_append, List.reverse_cons, List.append_assoc] at e2
  obtain ⟨rest, e3⟩ := nodes_split d e2
  have hn := isSh_nodes h (.sq (x :: cs)) (by rw [e2]; simp)
  have hcs : isShs cs = true := by
    rcases isSh_inv hn with ⟨z, e, _⟩ | ⟨z, cs', e, _, hcs⟩
    · cases e
    · cases e; exact hcs
  have e3 : ((nodesD d).reverse.take j).reverse = nodesDs cs ++ rest := e3
  have e4 : (nodesD d).reverse.take j = rest.reverse ++ (nodesDs cs).reverse := by rw [← List.reverse_append, ← e3, List.reverse_reverse]
  rw [e4, List.foldl_append, folds_g cs _ hcs, List.length_append, List.length_reverse, valGs_len hcs]
  omega
end K5

namespace K5
open PySem PySem.Spec PyProof.Rows L2 C8 XE XR
/-! filled, as_tuples, size -/
abbrev sFilled : Stmt := top 10
abbrev sAsT : Stmt := top 11
abbrev sSize : Stmt := top 13
mutual
theorem DAt.off {F : Addr → Prop} {H : Hp} {p : Addr} (n : H p = none) : ∀ (d : D) {v : V}, DAt F H v d → DAt (fun a => F a ∧ a ≠ p) H v d
  | .fl x, _, e => e
  | .emp, _, e => e
  | .sq xs, _, ⟨a, vs, e, q, o, k⟩ => ⟨a, vs, e, q.imp id fun ⟨f, q⟩ => ⟨⟨f, ne_of_none q n⟩, q⟩, o, DAts.off n xs k⟩
theorem DAts.off {F : Addr → Prop} {H : Hp} {p : Addr} (n : H p = none) : ∀ (ds : List D) {vs : List V}, DAts F H vs ds → DAts (fun a => F a ∧ a ≠ p) H vs ds
  | [], [], _ => trivial
  | d :: ds, v :: vs, ⟨k, t⟩ => ⟨DAt.off n d k, DAts.off n ds t⟩
  | [], _ :: _, k => k
  | _ :: _, [], k => k
end
theorem Hold.but1 {F : Addr → Prop} {H H' : Hp} {p : Addr} {xs : List V} (hp : H p = some (.lst xs)) (b : But p H H') (hF : ∀ a, F a → a ≠ p) : Hold F H H' :=
  ⟨fun a _ e => b _ _ e (ne_of e hp (by intro z; cases z)), fun a e => b _ _ e (ne_of e hp (by intro z; cases z)), fun a _ g e => b _ _ e (hF a g)⟩

def ndD (z : Str) (cs : List D) : D := .sq (.fl (.str z) :: cs)
def sub (f : Str → D) (d : D) : D := (valG f ndD d).headD .emp
theorem sub_fl (f : Str → D) (z : Str) : sub f (.fl (.str z)) = f z := by unfold sub; rw [valG]; rfl
theorem valGs_sub {f : Str → D} : ∀ {cs : List D}, isShs cs = true → valGs f ndD cs = cs.map (sub f)
  | [], _ => rfl
  | c :: cs, h => by
    rw [isShs, Bool.and_eq_true] at h
    have h1 := valG_len (leaf := f) (node := ndD) h.1
    rw [valGs, valGs_sub h.2, List.map_cons]
    unfold sub
    match valG f ndD c, h1 with
    | [t], _ => rfl
theorem sub_sq {f : Str → D} {z : Str} {cs : List D} (h : isShs cs = true) : sub f (.sq (.fl (.str z) :: cs)) = .sq (.fl (.str z) :: cs.map (sub f)) := by
  rw [← valGs_sub h]
  unfold sub
  rw [valG]
  rfl
theorem sub_idN : ∀ (n : Nat) (d : D), sz d ≤ n → isSh d = true → sub (fun z => .fl (.str z)) d = d
  | 0, d, h, _ => by have := sz_pos d; omega
  | n + 1, d, hn, h => by
    rcases isSh_inv h with ⟨z, rfl, _⟩ | ⟨z, cs, rfl, _, hcs⟩
    · exact sub_fl _ z
    · have hsc : sz (.sq (.fl (.str z) :: cs)) = 2 + szs cs := by rw [sz, szs, sz]; omega
      rw [sub_sq hcs]
      have : cs.map (sub fun z => .fl (.str z)) = cs := by
        conv => rhs; rw [← List.map_id cs]
        refine List.map_congr_left fun c hc => ?_
        obtain ⟨i, hi⟩ := List.getElem?_of_mem hc
        have := szs_get hi
        exact sub_idN n c (by omega) (isShs_mem hcs c hc)
      rw [this]
theorem step_len {α : Type} {leaf : Str → α} {node : Str → List α → α} (st : List α) (n : D) : (stepG leaf node st n).length ≤ st.length + 1 := by
  unfold stepG
  split
  · simp
  · rw [List.length_append, List.length_take, List.length_singleton]; omega
  · omega
theorem fold_len {α : Type} {leaf : Str → α} {node : Str → List α → α} : ∀ (ns : List D) (st : List α), (ns.foldl (stepG leaf node) st).length ≤ st.length + ns.length
  | [], st => Nat.le_refl _
  | n :: ns, st => by
    have h1 := fold_len (leaf := leaf) (node := node) ns (stepG leaf node st n)
    have h2 := step_len (leaf := leaf) (node := node) st n
    rw [List.foldl_cons, List.length_cons]
    omega
def spFilled : Sp := fun vs H Q _ => ∃ (v : V) (d : D) (F : Addr → Prop) (c : Addr) (kvs : List (Key × V)) (g : Str → D), vs = [v, .ref c] ∧ DAt F H v d ∧ isSh d = true ∧ sz d ≤ 5000 ∧ H c = some (.dK kvs) ∧
  (∀ z, wordS z = true → DAt nol H ((valV kvs (.inr z)).getD (.str z)) (g z)) ∧ ∀ v' H', Same H H' → DAt nol H' v' (sub g d) → Q v' H'
def spAsT : Sp := fun vs H Q _ => ∃ (v : V) (d : D) (F : Addr → Prop), vs = [v] ∧ DAt F H v d ∧ isSh d = true ∧ sz d ≤ 5000 ∧ ∀ v' H', Same H H' → DAt nol H' v' d → Q v' H'
abbrev NFi : List Str := ["shape", "contents", "made", "node", "children", "_"]
theorem scFilled : FnScope NFi ["shape", "contents"] (fnScope sFilled) := fnScope_by (by decide +kernel)
theorem scAsT : FnScope ["shape"] ["shape"] (fnScope sAsT) := fnScope_by (by decide +kernel)
theorem scSize : FnScope ["tree"] ["tree"] (fnScope sSize) := fnScope_by (by decide +kernel)
section
variable {P : Program} {w : World} {K : PySem.W.Frag} {mg : Str → Option Value} {base : Heap}
theorem c_filled {f : Addr} {fd : FuncData} (F : Def K mg "filled" sFilled f fd) (b : Binds K fd ["shape", "contents"] []) (T : Blt4 mg) (CN : Cal P w K mg base 2 "nodes_in_order" spNodes []) (CH : Cal P w K mg base 1 "is_hole" spHole []) : Cal P w K mg base 3 "filled" spFilled [] := by
  refine cal0 F b .nil scFilled (fun vs H Q E h => ?_) (fun cdv A outer s H vs Q E hr h => ?_)
  · obtain ⟨v, d, G, c, kvs, g, rfl, _⟩ := h
    rfl
  · obtain ⟨v, d, G, c, kvs, g, rfl, hv, hsh, hsz, hc, hg, k⟩ := h
    have nd := scFilled.nd
    have hu1 : (A.deeper (envOfC "filled" (fnScope sFilled) s.heap.objs.size f cdv)).units + 1 < cLine := by have := hr.un; omega
    refine ⟨_, pss_cons (ps_set (i := 2) nd rfl (Or.inl rfl) (pe_lst pa_nil))
      (pss_cons (ps_for PassesOwn.never rfl (pi_list (pe_revL (pe_c CN hr (by decide) (by rfl) (pa_cons (pv 0) pa_nil)))) (pg_name (i := 3) nd rfl (Or.inl rfl))
        (pss_one (ps_if (pt_val (pe_c CH hr (by decide) (by rfl) (pa_cons (pv 3) pa_nil)))
          (pss_one (ps_expr (pe_bm PySem.F.plainAttrs_list PySem.F.slot_list_append PySem.F.type_list_append mt_append (pv 2) (pa_cons (pe_dget2 hu1 (pv 1) (pv 3) (pv 3) ⟨rfl, rfl, rfl, rfl⟩) pa_nil))))
          (pss_cons (ps_set (i := 4) nd rfl (Or.inl rfl) (pe_lst pa_nil))
          (pss_cut (ps_for PassesOwn.never rfl (PI.or (pi_list (pe_slice sl_list (pv 3) (po_some pe_int) po_none)) (pi_tup (pe_slice sl_tup (pv 3) (po_some pe_int) po_none))) (pg_name (i := 5) nd rfl (Or.inl rfl))
            (pss_one (ps_expr (pe_bm PySem.F.plainAttrs_list PySem.F.slot_list_append PySem.F.type_list_append mt_append (pv 4) (pa_cons (pe_bm0 PySem.F.plainAttrs_list PySem.F.slot_list_pop PySem.F.type_list_pop mt_pop (pv 2)) pa_nil)))))
          (pss_one (ps_expr (pe_bm PySem.F.plainAttrs_list PySem.F.slot_list_append PySem.F.type_list_append mt_append (pv 2) (pa_cons (pe_tup (pa_cons (pe_ix ix_seq (pv 3) pe_int fun _ _ => rfl) (StX.pa_star (pv 4) pa_nil))) pa_nil)))))))))
      (pss_one (ps_ret (pe_ix ix_list (pv 2) pe_int fun _ _ => rfl)))), ?_⟩
    have hsl := sizeLine_eq
    refine ⟨(by show 0 ≤ sizeLine; decide), fun m1 nm => ?_⟩
    have s0 : Same H (upd H m1 (.lst [])) := same_upd nm
    have hv0 : DAt (fun a => G a ∧ a ≠ m1) (upd H m1 (.lst [])) v d := DAt.hold (.same s0) _ (DAt.off nm _ hv)
    have hm0 : (upd H m1 (.lst [])) m1 = some (.lst []) := upd_same
    have cm : c ≠ m1 := ne_of_none hc nm
    generalize upd H m1 (.lst []) = H0 at s0 hv0 hm0
    refine ⟨_, rfl, v, d, _, rfl, hv0, hsh, hsz, fun p ws H1 np s1 hp hws => ⟨p, ws, rfl, SqL.of hp, fun q nq => ⟨q, rfl, ⟨_, SqL.of upd_same⟩, ?_⟩⟩⟩
    have s2 : Same H0 (upd H1 q (.lst ws.reverse)) := s1.trans (same_upd nq)
    have hq2 : (upd H1 q (.lst ws.reverse)) q = some (.lst ws.reverse) := upd_same
    have hm2 := s2 _ _ hm0
    have qm : q ≠ m1 := (ne_of_none (s1 _ _ hm0) nq).symm
    generalize upd H1 q (.lst ws.reverse) = H2 at s2 hq2 hm2
    have hc2 := s2 _ _ (s0 _ _ hc)
    have hws2 : DAts (fun a => G a ∧ a ≠ m1) H2 ws.reverse (nodesD d).reverse := DAts.hold (.same s2) _ (DAts.rev hws)
    have hwl := hws2.len
    have hnl : (nodesD d).reverse.length ≤ 5000 := by rw [List.length_reverse]; exact Nat.le_trans (nodes_sz d) hsz
    have hnsh : ∀ n ∈ (nodesD d).reverse, isSh n = true := fun n hn => isSh_nodes hsh n (List.mem_reverse.mp hn)
    refine for_gen (J := Itl K q) (nodesD d).reverse.length (fun j σ H' => ∃ v3 v4 v5 ls, σ = [some v, some (.ref c), some (.ref m1), v3, v4, v5] ∧ H' m1 = some (.lst ls) ∧ DAts nol H' ls (((nodesD d).reverse.take j).foldl (stepG g ndD) []) ∧ But m1 H2 H') ⟨_, _, _, [], rfl, hm2, trivial, .refl⟩
      (fun j σ H' hj ⟨_, _, _, _, _, _, _, b⟩ => ⟨_, ws.reverse.getD j .non, SqL.of (b _ _ hq2 qm), getD_at (by omega)⟩) (fun σ H' ⟨_, _, _, _, _, _, _, b⟩ => ⟨_, SqL.of (b _ _ hq2 qm), by omega⟩) ?_ ?_
    · rintro j σ H3 x H3' hj ⟨v3, v4, v5, ls, rfl, hm, hls, b⟩ ⟨rfl, hx⟩
      have hx := hx _ (SqL.of (b _ _ hq2 qm))
      obtain ⟨n, hn, hxn⟩ := hws2.get hx
      have hxn := DAt.hold (.but1 hm2 b fun a g => g.2) _ hxn
      obtain ⟨hlt, en⟩ := List.getElem?_eq_some_iff.mp hn
      have hnS := hnsh n (by rw [← en]; exact List.getElem_mem hlt)
      have hst : ((nodesD d).reverse.take (j + 1)).foldl (stepG g ndD) [] = stepG g ndD (((nodesD d).reverse.take j).foldl (stepG g ndD) []) n := by
        rw [List.take_succ_eq_append_getElem hlt, List.foldl_append, en]
        rfl
      have hfl := fold_len (leaf := g) (node := ndD) ((nodesD d).reverse.take j) []
      rw [List.length_take, List.length_nil] at hfl
      have hhigh : ∀ z cs, n = .sq (.fl (.str z) :: cs) → cs.length ≤ (((nodesD d).reverse.take j).foldl (stepG g ndD) []).length := fun z cs e => stack_high hsh (by rw [hn, e])
      rw [hst]
      generalize ((nodesD d).reverse.take j).foldl (stepG g ndD) [] = st at hls hhigh hfl
      have hll := hls.len
      have hcn := b _ _ hc2 cm
      refine ⟨_, rfl, x, n, _, rfl, hxn, isSt n, rfl, ?_⟩
      rcases isSh_inv hnS with ⟨z, rfl, hz⟩ | ⟨z, cs, rfl, hz, hcs⟩
      · obtain ⟨rfl, _⟩ := hxn
        have hgz : DAt nol H3' ((valV kvs (.inr z)).getD (.str z)) (g z) := DAt.hold (.but1 hm2 b fun _ h => h.elim) _ (DAt.hold (.same (s0.trans s2)) _ (hg z hz))
        refine iteBt rfl ⟨_, rfl, .inl ⟨rfl, _, SqL.of hm⟩, _, rfl, c, rfl, .inl ⟨kvs, .inl hcn⟩, _, rfl, _, rfl, _, DGet.k (k := .inr z) hcn, m1, ls, _, rfl, rfl, hm, by omega, _, v4, v5, _, rfl, upd_same, ?_, fun c o e n => by rw [upd_ne n]; exact b _ _ e n⟩
        have h10 : Hold nol H3' (upd H3' m1 (.lst (ls ++ [(valV kvs (.inr z)).getD (.str z)]))) := .but1 hm (fun b o e n => by rw [upd_ne n]; exact e) fun _ h => h.elim
        exact DAts.app (DAts.hold h10 _ hls) ⟨DAt.hold h10 _ hgz, trivial⟩
      · refine iteBf rfl ⟨(by show 0 ≤ sizeLine; decide), fun t1 nt => ?_⟩
        have hcl := hhigh z cs rfl
        obtain ⟨a, us, rfl, qa, _, hus⟩ := hxn
        match us, hus with
        | [], hus => exact hus.elim
        | u :: us, ⟨hu, hus⟩ =>
          obtain ⟨rfl, _⟩ := hu
          have hul := hus.len
          have tm : t1 ≠ m1 := (ne_of_none hm nt).symm
          have sA : Same H3' (upd H3' t1 (.lst [])) := same_upd nt
          have htA : (upd H3' t1 (.lst [])) t1 = some (.lst []) := upd_same
          generalize upd H3' t1 (.lst []) = H4 at sA htA
          have hm4 := sA _ _ hm
          refine ⟨fun σ H' => ∃ v5, σ = [some v, some (.ref c), some (.ref m1), some (.ref a), some (.ref t1), v5] ∧ H' m1 = some (.lst (ls.take (ls.length - cs.length))) ∧ H' t1 = some (.lst (ls.drop (ls.length - cs.length)).reverse) ∧ (∀ c o, H4 c = some o → c ≠ m1 → c ≠ t1 → H' c = some o), ?_, ?_⟩
          · have walk : ∀ (J : It) (H5 : Hp), Same H4 H5 → (∀ j H', j < us.length → (∀ c o, H5 c = some o → c ≠ m1 → c ≠ t1 → H' c = some o) → J.go j H') → (∀ H', (∀ c o, H5 c = some o → c ≠ m1 → c ≠ t1 → H' c = some o) → J.stop us.length H') → (∀ j H' x H'', (∀ c o, H5 c = some o → c ≠ m1 → c ≠ t1 → H' c = some o) → J.yld j H' x H'' → H'' = H') →
                ∃ W : Nat → Nat → L2.St → Hp → Prop, (∃ m, W 0 m [some v, some (.ref c), some (.ref m1), some (.ref a), some (.ref t1), v5] H5) ∧ ∀ i m σ H, W i m σ H → (J.stop i H ∧ ∃ v5, σ = [some v, some (.ref c), some (.ref m1), some (.ref a), some (.ref t1), v5] ∧ H m1 = some (.lst (ls.take (ls.length - cs.length))) ∧ H t1 = some (.lst (ls.drop (ls.length - cs.length)).reverse) ∧ (∀ c o, H4 c = some o → c ≠ m1 → c ≠ t1 → H c = some o)) ∨ (J.go i H ∧ ∃ N : L2.St → Hp → Prop, (∀ σ' H', N σ' H' → ∃ m', m' < m ∧ W (i + 1) m' σ' H') ∧
                  ∀ x H', J.yld i H x H' → gName 5 x σ H' fun σ2 H2 => tDrop (tBM K "list" rAppend (tVar 4) (tCons (tBM0 K "list" rPop (tVar 2)) tNil)) { nx := N, rt := Q, bk := fun σ H' => ∃ v5, σ = [some v, some (.ref c), some (.ref m1), some (.ref a), some (.ref t1), v5] ∧ H' m1 = some (.lst (ls.take (ls.length - cs.length))) ∧ H' t1 = some (.lst (ls.drop (ls.length - cs.length)).reverse) ∧ (∀ c o, H4 c = some o → c ≠ m1 → c ≠ t1 → H' c = some o), ct := N } σ2 H2) := by
              intro J H5 s5 jgo jst jyl
              refine for_gen (J := J) (D := { nx := fun σ H' => ∃ v5, σ = [some v, some (.ref c), some (.ref m1), some (.ref a), some (.ref t1), v5] ∧ H' m1 = some (.lst (ls.take (ls.length - cs.length))) ∧ H' t1 = some (.lst (ls.drop (ls.length - cs.length)).reverse) ∧ (∀ c o, H4 c = some o → c ≠ m1 → c ≠ t1 → H' c = some o), rt := Q }) us.length
                (fun i σ H' => ∃ v5, σ = [some v, some (.ref c), some (.ref m1), some (.ref a), some (.ref t1), v5] ∧ H' m1 = some (.lst (ls.take (ls.length - i))) ∧ H' t1 = some (.lst (ls.drop (ls.length - i)).reverse) ∧ (∀ c o, H5 c = some o → c ≠ m1 → c ≠ t1 → H' c = some o))
                ⟨v5, rfl, by rw [Nat.sub_zero, List.take_length]; exact s5 _ _ hm4, by rw [Nat.sub_zero, List.drop_length]; exact s5 _ _ htA, fun c o e _ _ => e⟩ (fun i σ H' hi ⟨_, _, _, _, kp⟩ => jgo i H' hi kp) (fun σ H' ⟨_, _, _, _, kp⟩ => jst H' kp) ?_ ?_
              · rintro i σ H' y H'' hi ⟨v5, rfl, h1, h2, kp⟩ yl
                obtain rfl := jyl i H' y H'' kp yl
                have hlt2 : ls.length - i - 1 < ls.length := by omega
                have e1 : ls.take (ls.length - i) = ls.take (ls.length - (i + 1)) ++ [ls[ls.length - i - 1]] := by
                  have e0 := List.take_succ_eq_append_getElem hlt2
                  rw [show ls.length - i - 1 + 1 = ls.length - i by omega] at e0
                  exact e0
                have e2 : ls.drop (ls.length - (i + 1)) = ls[ls.length - i - 1] :: ls.drop (ls.length - i) := by
                  have : ls.length - (i + 1) = ls.length - i - 1 := by omega
                  rw [this, List.drop_eq_getElem_cons hlt2]
                  congr 2
                  omega
                refine ⟨_, rfl, .inl ⟨rfl, _, SqL.of h2⟩, _, rfl, .inl ⟨rfl, _, SqL.of h1⟩, m1, _, ls[ls.length - i - 1], rfl, rfl, h1, ?_, ?_⟩
                · rw [e1, List.length_append]
                  simp
                · refine ⟨t1, _, _, rfl, rfl, by rw [upd_ne tm]; exact h2, by rw [List.length_reverse, List.length_drop]; omega, _, rfl, ?_, ?_, fun c o e n1 n2 => by rw [upd_ne n2, upd_ne n1]; exact kp c o e n1 n2⟩
                  · rw [upd_ne tm.symm, upd_same, e1]
                    congr 2
                    simp
                  · rw [upd_same, e2, List.reverse_cons]
              · rintro σ H' ⟨v5, rfl, h1, h2, kp⟩
                rw [hul] at h1 h2
                exact ⟨v5, rfl, h1, h2, fun c o e n1 n2 => kp c o (s5 _ _ e) n1 n2⟩
            have qa4 : H4 a = some (.tup (.str z :: us)) ∨ H4 a = some (.lst (.str z :: us)) := qa.imp (sA _ _) fun e => sA _ _ e.2
            rcases qa4 with qa4 | qa4
            · refine .inr ⟨_, rfl, 1, rfl, a, _, rfl, SqT.of qa4, not_whole (by decide) (by simp), fun p3 n3 => ?_⟩
              rw [cutFrom (by decide)]
              have e3 : (V.str z :: us).drop (1 : Int).toNat = us := rfl
              rw [e3]
              refine ⟨p3, rfl, ⟨_, SqT.of upd_same⟩, ?_⟩
              have pm : p3 ≠ m1 := (ne_of_none hm4 n3).symm
              have pt : p3 ≠ t1 := (ne_of_none htA n3).symm
              exact walk (Itt K p3) _ (same_upd n3) (fun j H' hj kp => ⟨_, us.getD j .non, SqT.of (kp p3 _ upd_same pm pt), getD_at hj⟩) (fun H' kp => ⟨_, SqT.of (kp p3 _ upd_same pm pt), Nat.le_refl _⟩) (fun j H' x H'' kp yl => yl.1)
            · refine .inl ⟨_, rfl, 1, rfl, a, _, rfl, SqL.of qa4, fun p3 n3 => ?_⟩
              rw [cutFrom (by decide)]
              have e3 : (V.str z :: us).drop (1 : Int).toNat = us := rfl
              rw [e3]
              refine ⟨p3, rfl, ⟨_, SqL.of upd_same⟩, ?_⟩
              have pm : p3 ≠ m1 := (ne_of_none hm4 n3).symm
              have pt : p3 ≠ t1 := (ne_of_none htA n3).symm
              exact walk (Itl K p3) _ (same_upd n3) (fun j H' hj kp => ⟨_, us.getD j .non, SqL.of (kp p3 _ upd_same pm pt), getD_at hj⟩) (fun H' kp => ⟨_, SqL.of (kp p3 _ upd_same pm pt), Nat.le_refl _⟩) (fun j H' x H'' kp yl => yl.1)
          · rintro σ H5 ⟨v5, rfl, h1, h2, kp⟩
            have am : a ≠ m1 := by
              rcases qa with qa | qa
              · exact ne_of qa hm (by intro z; cases z)
              · exact qa.1.2
            have at1 : a ≠ t1 := by
              rcases qa with qa | qa
              · exact ne_of_none qa nt
              · exact ne_of_none qa.2 nt
            have qa5 : H5 a = some (.tup (.str z :: us)) ∨ H5 a = some (.lst (.str z :: us)) := qa.imp (fun e => kp _ _ (sA _ _ e) am at1) fun e => kp _ _ (sA _ _ e.2) am at1
            have h35 : Hold nol H3' H5 := ⟨fun a vs e => kp _ _ (sA _ _ e) (ne_of e hm (by intro z; cases z)) (ne_of_none e nt), fun a e => kp _ _ (sA _ _ e) (ne_of e hm (by intro z; cases z)) (ne_of_none e nt), fun _ _ h => h.elim⟩
            have hls5 := DAts.hold h35 _ hls
            have fin : ∀ p, H5 p = none → ∃ (l : Addr) (xs : List V) (y : V), V.ref m1 = .ref l ∧ [V.ref p] = [y] ∧ (upd H5 p (.tup (.str z :: (ls.drop (ls.length - cs.length)).reverse))) l = some (.lst xs) ∧ xs.length < sizeLine ∧
                ∃ v3 v4' v5' ls', [some v, some (.ref c), some (.ref m1), some (.ref a), some (.ref t1), v5] = [some v, some (.ref c), some (.ref m1), v3, v4', v5'] ∧ (upd (upd H5 p (.tup (.str z :: (ls.drop (ls.length - cs.length)).reverse))) l (.lst (xs ++ [y]))) m1 = some (.lst ls') ∧ DAts nol (upd (upd H5 p (.tup (.str z :: (ls.drop (ls.length - cs.length)).reverse))) l (.lst (xs ++ [y]))) ls' (stepG g ndD st (.sq (.fl (.str z) :: cs))) ∧ But m1 H2 (upd (upd H5 p (.tup (.str z :: (ls.drop (ls.length - cs.length)).reverse))) l (.lst (xs ++ [y]))) := by
              intro p np
              have sp := same_upd np (o := .tup (.str z :: (ls.drop (ls.length - cs.length)).reverse))
              have hpp : (upd H5 p (.tup (.str z :: (ls.drop (ls.length - cs.length)).reverse))) p = some (.tup (.str z :: (ls.drop (ls.length - cs.length)).reverse)) := upd_same
              generalize upd H5 p (.tup (.str z :: (ls.drop (ls.length - cs.length)).reverse)) = H6 at sp hpp
              have hm6 := sp _ _ h1
              have hls6 := DAts.hold (.same sp) _ hls5
              refine ⟨m1, _, _, rfl, rfl, hm6, by rw [List.length_take]; omega, _, _, _, _, rfl, upd_same, ?_, fun c o e n1 => ?_⟩
              · have h10 : Hold nol H6 (upd H6 m1 (.lst (ls.take (ls.length - cs.length) ++ [.ref p]))) := .but1 hm6 (fun b o e n => by rw [upd_ne n]; exact e) fun _ h => h.elim
                show DAts nol _ _ (st.take (st.length - cs.length) ++ [ndD z (st.drop (st.length - cs.length)).reverse])
                rw [← hll]
                exact DAts.app (DAts.hold h10 _ (DAts.take _ hls6)) ⟨DAt.hold h10 _ ⟨p, _, rfl, .inl hpp, rfl, ⟨rfl, rfl⟩, DAts.rev (DAts.drop _ hls6)⟩, trivial⟩
              · rw [upd_ne n1]
                exact sp _ _ (kp c o (sA _ _ (b _ _ e n1)) n1 (ne_of_none (b _ _ e n1) nt))
            have len : ((ls.drop (ls.length - cs.length)).reverse).length ≤ 5000 := by rw [List.length_reverse, List.length_drop]; omega
            refine ⟨_, rfl, .inl ⟨rfl, _, SqL.of h1⟩, _, rfl, ?_⟩
            rcases qa5 with qa5 | qa5
            · exact .inr (.inl ⟨a, _, 0, _, rfl, rfl, SqT.of qa5, at_of (j := 0) (by omega) rfl, _, rfl, t1, _, rfl, .inr (SqL.of h2), by rw [List.length_cons, List.append_nil]; omega, fun p np => by rw [List.append_nil]; exact fin p np⟩)
            · exact .inl ⟨a, _, 0, _, rfl, rfl, SqL.of qa5, at_of (j := 0) (by omega) rfl, _, rfl, t1, _, rfl, .inr (SqL.of h2), by rw [List.length_cons, List.append_nil]; omega, fun p np => by rw [List.append_nil]; exact fin p np⟩
    · rintro σ H3 ⟨v3, v4, v5, ls, rfl, hm, hls, b⟩
      rw [List.take_length, fold_g d [] hsh, List.nil_append] at hls
      have h1 := valG_len (leaf := g) (node := ndD) hsh
      have sm : Same H H3 := fun c o e => b _ _ (s2 _ _ (s0 _ _ e)) (ne_of_none e nm)
      have e1 : valG g ndD d = [sub g d] := by
        unfold sub
        match valG g ndD d, h1 with
        | [t], _ => rfl
      rw [e1] at hls
      match ls, hls with
      | [x], ⟨hx, _⟩ => exact ⟨_, rfl, m1, _, 0, x, rfl, rfl, SqL.of hm, at_of (j := 0) (by omega) rfl, k x H3 sm hx⟩
end
end K5

namespace K5
open PySem PySem.Spec PyProof.Rows L2 C8 XE XR
/-! as_tuples, size, nodes_with_places -/
abbrev sNwp : Stmt := top 9
abbrev NNw : List Str := ["shape", "found", "waiting", "node", "place", "k"]
theorem scNwp : FnScope NNw ["shape"] (fnScope sNwp) := fnScope_by (by decide +kernel)
def spSize : Sp := fun vs H Q _ => ∃ (v : V) (d : D) (F : Addr → Prop), vs = [v] ∧ DAt F H v d ∧ isSh d = true ∧ sz d ≤ 5000 ∧ ∀ H', Same H H' → Q (.int (nodesD d).length) H'
mutual
/-- all nodes with their places, in order -/
def nodesP (pl : List Int) : D → List (D × List Int)
  | .sq (x :: cs) => (.sq (x :: cs), pl) :: nodesPs pl 0 cs
  | d => [(d, pl)]
def nodesPs (pl : List Int) : Nat → List D → List (D × List Int)
  | _, [] => []
  | k, c :: cs => nodesP (pl ++ [(k : Int)]) c ++ nodesPs pl (k + 1) cs
end
def flatP (l : List (D × List Int)) : List (D × List Int) := l.flatMap fun q => nodesP q.2 q.1
theorem flatP_app (a b : List (D × List Int)) : flatP (a ++ b) = flatP a ++ flatP b := List.flatMap_append
def chP (pl : List Int) : Nat → List D → List (D × List Int)
  | _, [] => []
  | k, c :: cs => (c, pl ++ [(k : Int)]) :: chP pl (k + 1) cs
theorem flat_ch {pl : List Int} : ∀ (cs : List D) (k : Nat), flatP (chP pl k cs) = nodesPs pl k cs
  | [], _ => rfl
  | c :: cs, k => by
    rw [chP, nodesPs, ← flat_ch cs (k + 1)]
    rfl
theorem chP_len {pl : List Int} : ∀ (cs : List D) (k : Nat), (chP pl k cs).length = cs.length
  | [], _ => rfl
  | c :: cs, k => by rw [chP, List.length_cons, List.length_cons, chP_len cs]
theorem chP_get {pl : List Int} : ∀ {cs : List D} {i : Nat} {c : D}, cs[i]? = some c → ∀ {k : Nat}, (chP pl k cs)[i]? = some (c, pl ++ [((k + i : Nat) : Int)])
  | [], i, c, h, k => by cases h
  | x :: cs, 0, c, h, k => by cases h; rfl
  | x :: cs, i + 1, c, h, k => by
    rw [List.getElem?_cons_succ] at h
    rw [chP, List.getElem?_cons_succ, chP_get h, show k + 1 + i = k + (i + 1) by omega]
theorem chP_mem {pl : List Int} {cs : List D} {k i : Nat} {q : D × List Int} (h : (chP pl k cs)[i]? = some q) : ∃ c, cs[i]? = some c ∧ q = (c, pl ++ [((k + i : Nat) : Int)]) := by
  obtain ⟨hl, _⟩ := List.getElem?_eq_some_iff.mp h
  rw [chP_len] at hl
  have h' := chP_get (pl := pl) (List.getElem?_eq_getElem hl) (k := k)
  rw [h'] at h
  exact ⟨_, List.getElem?_eq_getElem hl, (Option.some.inj h).symm⟩
mutual
theorem nodesP_len {pl : List Int} : ∀ d : D, (nodesP pl d).length = (nodesD d).length
  | .fl _ => rfl
  | .emp => rfl
  | .sq [] => rfl
  | .sq (x :: cs) => by rw [nodesP, nodesD, List.length_cons, List.length_cons, nodesPs_len cs 0]
theorem nodesPs_len {pl : List Int} : ∀ (cs : List D) (k : Nat), (nodesPs pl k cs).length = (nodesDs cs).length
  | [], _ => rfl
  | c :: cs, k => by rw [nodesPs, nodesDs, List.length_append, List.length_append, nodesP_len c, nodesPs_len cs (k + 1)]
end
mutual
theorem nodesP_deep : ∀ (d : D) (pl : List Int), ∀ q ∈ nodesP pl d, q.2.length ≤ pl.length + sz d
  | .fl _, pl, q, hq => by rw [List.mem_singleton.mp hq]; exact Nat.le_add_right _ _
  | .emp, pl, q, hq => by rw [List.mem_singleton.mp hq]; exact Nat.le_add_right _ _
  | .sq [], pl, q, hq => by rw [List.mem_singleton.mp hq]; exact Nat.le_add_right _ _
  | .sq (x :: cs), pl, q, hq => by
    rw [nodesP] at hq
    rcases List.mem_cons.mp hq with rfl | hq
    · exact Nat.le_add_right _ _
    · have := nodesPs_deep cs pl 0 q hq
      have := sz_pos x
      rw [sz, szs]
      omega
theorem nodesPs_deep : ∀ (cs : List D) (pl : List Int) (k : Nat), ∀ q ∈ nodesPs pl k cs, q.2.length ≤ pl.length + 1 + szs cs
  | [], pl, k, q, hq => by cases hq
  | c :: cs, pl, k, q, hq => by
    rw [nodesPs] at hq
    rw [szs]
    rcases List.mem_append.mp hq with hq | hq
    · have := nodesP_deep c (pl ++ [(k : Int)]) q hq
      rw [List.length_append, List.length_singleton] at this
      omega
    · have := nodesPs_deep cs pl (k + 1) q hq
      omega
end
theorem nodesP_self (pl : List Int) (d : D) : (d, pl) ∈ nodesP pl d := by
  cases d with
  | fl _ => exact List.mem_singleton.mpr rfl
  | emp => exact List.mem_singleton.mpr rfl
  | sq xs =>
    cases xs with
    | nil => exact List.mem_singleton.mpr rfl
    | cons x cs => exact List.mem_cons_self
theorem flatP_len : ∀ l : List (D × List Int), l.length ≤ (flatP l).length
  | [] => Nat.le_refl _
  | q :: l => by
    have h1 : 0 < (nodesP q.2 q.1).length := by rw [nodesP_len]; exact nodes_pos q.1
    have h2 := flatP_len l
    show _ ≤ (nodesP q.2 q.1 ++ flatP l).length
    rw [List.length_append, List.length_cons]
    omega
def NP2 (F : Addr → Prop) (H H' : Hp) (v : V) (q : D × List Int) : Prop := ∃ t p nv, v = .ref t ∧ H' t = some (.tup [nv, .ref p]) ∧ DAt F H nv q.1 ∧ H' p = some (.tup (q.2.map V.int))
theorem paired_snoc' {α β : Type} {R : α → β → Prop} : ∀ {ys : List β} {xs : List α} {y : β}, Paired R xs (ys ++ [y]) → ∃ xs0 x, xs = xs0 ++ [x] ∧ Paired R xs0 ys ∧ R x y
  | [], _, _, .cons q .nil => ⟨[], _, rfl, .nil, q⟩
  | _ :: ys, _, _, .cons q t => by
    obtain ⟨xs0, x, rfl, h1, h2⟩ := paired_snoc' t
    exact ⟨_ :: xs0, x, rfl, .cons q h1, h2⟩
def NPV (F : Addr → Prop) (H : Hp) (v : V) (q : D × List Int) : Prop := ∃ t p nv, v = .ref t ∧ H t = some (.tup [nv, .ref p]) ∧ DAt F H nv q.1 ∧ H p = some (.tup (q.2.map V.int))
def spNwp : Sp := fun vs H Q _ => ∃ (v : V) (d : D) (F : Addr → Prop), vs = [v] ∧ DAt F H v d ∧ isSh d = true ∧ sz d ≤ 5000 ∧ ∀ p ws H', H p = none → Same H H' → H' p = some (.lst ws) → Paired (NPV F H') ws (nodesP [] d) → Q (.ref p) H'
section
variable {P : Program} {w : World} {K : PySem.W.Frag} {mg : Str → Option Value} {base : Heap}
theorem c_asT {f : Addr} {fd : FuncData} (F : Def K mg "as_tuples" sAsT f fd) (b : Binds K fd ["shape"] []) (T : Blt4 mg) (CF : Cal P w K mg base 3 "filled" spFilled []) : Cal P w K mg base 4 "as_tuples" spAsT [] := by
  refine cal0 F b .nil scAsT (fun vs H Q E h => ?_) (fun cdv A outer s H vs Q E hr h => ?_)
  · obtain ⟨v, d, G, rfl, _⟩ := h
    rfl
  · obtain ⟨v, d, G, rfl, hv, hsh, hsz, k⟩ := h
    refine ⟨_, pss_one (ps_ret (pe_c CF hr (by decide) (by rfl) (pa_cons (pv 0) (pa_cons pe_dnewK pa_nil)))), _, rfl, fun p np => ?_⟩
    have sp : Same H (upd H p (.dK [])) := same_upd np
    refine ⟨v, d, G, p, [], fun z => .fl (.str z), rfl, DAt.hold (.same sp) _ hv, hsh, hsz, upd_same, fun z _ => ⟨rfl, rfl⟩, fun v' H' s hd' => k v' H' (sp.trans s) (by rw [sub_idN _ d (Nat.le_refl _) hsh] at hd'; exact hd')⟩
theorem c_size {f : Addr} {fd : FuncData} (F : Def K mg "size" sSize f fd) (b : Binds K fd ["tree"] []) (T : Blt4 mg) (CN : Cal P w K mg base 2 "nodes_in_order" spNodes []) : Cal P w K mg base 3 "size" spSize [] := by
  refine cal0 F b .nil scSize (fun vs H Q E h => ?_) (fun cdv A outer s H vs Q E hr h => ?_)
  · obtain ⟨v, d, G, rfl, _⟩ := h
    rfl
  · obtain ⟨v, d, G, rfl, hv, hsh, hsz, k⟩ := h
    refine ⟨_, pss_one (ps_ret (pe_callB call_len_seq (by rfl) T.len PySem.boot_len (pa_cons (pe_c CN hr (by decide) (by rfl) (pa_cons (pv 0) pa_nil)) pa_nil))), _, rfl, v, d, G, rfl, hv, hsh, hsz, fun p ws H1 np s1 hp hws => ⟨p, ws, rfl, .inl (SqL.of hp), ?_⟩⟩
    rw [hws.len]
    exact k H1 s1
theorem c_nwp {f : Addr} {fd : FuncData} (F : Def K mg "nodes_with_places" sNwp f fd) (b : Binds K fd ["shape"] []) (T : Blt4 mg) (hrev : mg "reversed" = none) (CH : Cal P w K mg base 1 "is_hole" spHole []) : Cal P w K mg base 2 "nodes_with_places" spNwp [] := by
  refine cal0 F b .nil scNwp (fun vs H Q E h => ?_) (fun cdv A outer s H vs Q E hr h => ?_)
  · obtain ⟨v, d, G, rfl, _⟩ := h
    rfl
  · obtain ⟨v, d, G, rfl, hv, hsh, hsz, k⟩ := h
    have nd := scNwp.nd
    refine ⟨_, pss_cons (ps_set (i := 1) nd rfl (Or.inl rfl) (pe_lst pa_nil))
      (pss_cons (ps_set (i := 2) nd rfl (Or.inl rfl) (pe_lst (pa_cons (pe_tup (pa_cons (pv 0) (pa_cons (pe_tup pa_nil) pa_nil))) pa_nil)))
      (pss_cons (ps_while PassesOwn.never (pt_truth (pv 2) (by intro _; rfl))
        (pss_cons (ps_asg (pe_bm0 PySem.F.plainAttrs_list PySem.F.slot_list_pop PySem.F.type_list_pop mt_pop (pv 2)) (pg_tup rfl (pgs_cons (pg_name (i := 3) nd rfl (Or.inl rfl)) (pgs_cons (pg_name (i := 4) nd rfl (Or.inl rfl)) pgs_nil))))
        (pss_cons (ps_expr (pe_bm PySem.F.plainAttrs_list PySem.F.slot_list_append PySem.F.type_list_append mt_append (pv 1) (pa_cons (pe_tup (pa_cons (pv 3) (pa_cons (pv 4) pa_nil))) pa_nil)))
        (pss_one (ps_if (pt_not (pt_val (pe_c CH hr (by decide) (by rfl) (pa_cons (pv 3) pa_nil))))
          (pss_one (ps_for PassesOwn.never rfl (pi_revR (by rfl) hrev (prg_1 (by rfl) T.ran (pe_op op_sub (pe_callB call_len_seq (by rfl) T.len PySem.boot_len (pa_cons (pv 3) pa_nil)) pe_int))) (pg_name (i := 5) nd rfl (Or.inl rfl))
            (pss_one (ps_expr (pe_bm PySem.F.plainAttrs_list PySem.F.slot_list_append PySem.F.type_list_append mt_append (pv 2) (pa_cons (pe_tup (pa_cons (pe_ix ix_seq (pv 3) (pe_op op_add (pv 5) pe_int) fun _ _ => rfl) (pa_cons (pe_tup (StX.pa_star (pv 4) (pa_cons (pv 5) pa_nil))) pa_nil))) pa_nil))))))
          pss_nil)))))
      (pss_one (ps_ret (pv 1))))), ?_⟩
    have hsl := sizeLine_eq
    refine ⟨(by show 0 ≤ sizeLine; decide), fun f1 nf => ⟨_, rfl, (by show 0 ≤ sizeLine; decide), fun e0 ne0 => ⟨(by show 2 ≤ sizeLine; decide), fun t0 nt0 => ⟨(by show 1 ≤ sizeLine; decide), fun w1 nw => ?_⟩⟩⟩⟩
    have sF : Same H (upd H f1 (.lst [])) := same_upd nf
    have hF : (upd H f1 (.lst [])) f1 = some (.lst []) := upd_same
    generalize upd H f1 (.lst []) = HF at *
    have sE : Same HF (upd HF e0 (.tup [])) := same_upd ne0
    have hE : (upd HF e0 (.tup [])) e0 = some (.tup []) := upd_same
    generalize upd HF e0 (.tup []) = HE at *
    have sT : Same HE (upd HE t0 (.tup [v, .ref e0])) := same_upd nt0
    have hT : (upd HE t0 (.tup [v, .ref e0])) t0 = some (.tup [v, .ref e0]) := upd_same
    generalize upd HE t0 (.tup [v, .ref e0]) = HT at *
    have sFT : Same HF HT := sE.trans sT
    have fw : f1 ≠ w1 := ne_of_none (sFT _ _ hF) nw
    have nwH : H w1 = none := same_free (sF.trans sFT) nw
    have sW : Same HT (upd HT w1 (.lst [.ref t0])) := same_upd nw
    have hW : (upd HT w1 (.lst [.ref t0])) w1 = some (.lst [.ref t0]) := upd_same
    generalize upd HT w1 (.lst [.ref t0]) = HW at *
    let Iv : Nat → L2.St → Hp → Prop := fun m σ H' => ∃ (v3 v4 v5 : Option V) (wl fl : List V) (ds fs : List (D × List Int)), σ = [some v, some (.ref f1), some (.ref w1), v3, v4, v5] ∧ m = (flatP ds.reverse).length ∧ H' f1 = some (.lst fl) ∧ H' w1 = some (.lst wl) ∧ Same H H' ∧ Paired (NP2 G H H') fl fs ∧ Paired (NP2 G H H') wl ds ∧ (∀ q ∈ ds, isSh q.1 = true) ∧ fs ++ flatP ds.reverse = nodesP [] d
    refine ⟨Iv, ⟨_, none, none, none, [.ref t0], [], [(d, [])], [], rfl, rfl, sW _ _ (sFT _ _ hF), hW, sF.trans (sFT.trans sW), .nil, .cons ⟨t0, e0, v, rfl, sW _ _ hT, hv, sW _ _ (sT _ _ hE)⟩ .nil, fun q hq => by rw [List.mem_singleton.mp hq]; exact hsh, by show [] ++ (nodesP [] d ++ []) = _; rw [List.nil_append, List.append_nil]⟩, ?_⟩
    rintro m σ H1 ⟨v3, v4, v5, wl, fl, ds, fs, rfl, rfl, hf1, hw1, sm, hfs, hds, hss, heq⟩
    have hlen := Paired.length hds
    have hfl := Paired.length hfs
    have hcount : (nodesP [] d).length ≤ 5000 := by rw [nodesP_len]; exact Nat.le_trans (nodes_sz d) hsz
    have htot : fs.length + (flatP ds.reverse).length ≤ 5000 := by rw [← List.length_append, heq]; exact hcount
    refine ⟨_, rfl, !wl.isEmpty, .inl ⟨wl, SqL.of hw1, rfl⟩, ?_⟩
    rcases List.eq_nil_or_concat ds with rfl | ⟨ds0, dl, rfl⟩
    · obtain rfl : wl = [] := List.length_eq_zero_iff.mp hlen
      refine iteBf rfl ⟨_, rfl, k f1 fl H1 nf sm hf1 ?_⟩
      have : fs = nodesP [] d := by rw [← heq]; show fs = fs ++ []; rw [List.append_nil]
      rw [← this]
      exact Paired.mono (fun _ _ ⟨t, p, nv, e, h1, h2, h3⟩ => ⟨t, p, nv, e, h1, DAt.hold (.same sm) _ h2, h3⟩) hfs
    · rw [List.concat_eq_append] at *
      obtain ⟨wl0, x, rfl, hd0, hx⟩ := paired_snoc' hds
      have hl0 := Paired.length hd0
      obtain ⟨n, pl⟩ := dl
      obtain ⟨t, p, nv, rfl, hxt, hxn, hxp⟩ := hx
      have hshl : isSh n = true := hss (n, pl) (List.mem_append_right _ (List.mem_singleton.mpr rfl))
      have hss0 : ∀ q ∈ ds0, isSh q.1 = true := fun q hq => hss q (List.mem_append_left _ hq)
      have hrev : (ds0 ++ [(n, pl)]).reverse = (n, pl) :: ds0.reverse := by rw [List.reverse_append]; rfl
      rw [hrev] at heq htot ⊢
      have hnd : flatP ((n, pl) :: ds0.reverse) = nodesP pl n ++ flatP ds0.reverse := rfl
      rw [hnd] at heq htot ⊢
      rw [List.length_append] at htot
      have hnp : 0 < (nodesP pl n).length := by rw [nodesP_len]; exact nodes_pos n
      have hpl : pl.length ≤ 5000 := by
        have hm : (n, pl) ∈ nodesP [] d := by
          rw [← heq]
          exact List.mem_append_right _ (List.mem_append_left _ (nodesP_self pl n))
        have := nodesP_deep d [] (n, pl) hm
        simp at this
        omega
      refine iteBt (by cases wl0 <;> rfl) ?_
      refine ⟨Iv ((nodesP pl n ++ flatP ds0.reverse).length - 1), fun σ' H' hI => ⟨_, by rw [List.length_append]; omega, hI⟩, ?_⟩
      refine ⟨_, rfl, .inl ⟨rfl, _, SqL.of hw1⟩, w1, wl0 ++ [.ref t], .ref t, rfl, rfl, hw1, by simp, ?_⟩
      rw [List.dropLast_concat]
      have tW : ∀ {a : Addr} {xs : List V}, H1 a = some (.tup xs) → (upd H1 w1 (.lst wl0)) a = some (.tup xs) := fun e => by rw [upd_ne (ne_of e hw1 (by intro z; cases z))]; exact e
      have hf2 : (upd H1 w1 (.lst wl0)) f1 = some (.lst fl) := by rw [upd_ne fw]; exact hf1
      have hw2 : (upd H1 w1 (.lst wl0)) w1 = some (.lst wl0) := upd_same
      have s2 : Same H (upd H1 w1 (.lst wl0)) := fun a o e => by rw [upd_ne (ne_of_none e nwH)]; exact sm _ _ e
      generalize upd H1 w1 (.lst wl0) = H2 at tW hf2 hw2 s2
      refine ⟨t, [nv, .ref p], rfl, SqT.of (tW hxt), rfl, nv, [.ref p], rfl, .ref p, [], rfl, rfl, ?_⟩
      refine ⟨_, rfl, .inl ⟨rfl, _, SqL.of hf2⟩, _, rfl, _, rfl, (by show 2 ≤ sizeLine; decide), fun t2 nt2 => ?_⟩
      have s23 : Same H2 (upd H2 t2 (.tup [nv, .ref p])) := same_upd nt2
      have ht2 : (upd H2 t2 (.tup [nv, .ref p])) t2 = some (.tup [nv, .ref p]) := upd_same
      generalize upd H2 t2 (.tup [nv, .ref p]) = H2' at s23 ht2
      have hf2' := s23 _ _ hf2
      refine ⟨f1, fl, _, rfl, rfl, hf2', by omega, ?_⟩
      have tF : ∀ {a : Addr} {xs : List V}, H2' a = some (.tup xs) → (upd H2' f1 (.lst (fl ++ [.ref t2]))) a = some (.tup xs) := fun e => by rw [upd_ne (ne_of e hf2' (by intro z; cases z))]; exact e
      have hf3 : (upd H2' f1 (.lst (fl ++ [.ref t2]))) f1 = some (.lst (fl ++ [.ref t2])) := upd_same
      have hw3 : (upd H2' f1 (.lst (fl ++ [.ref t2]))) w1 = some (.lst wl0) := by rw [upd_ne fw.symm]; exact s23 _ _ hw2
      have s3 : Same H (upd H2' f1 (.lst (fl ++ [.ref t2]))) := fun a o e => by rw [upd_ne (ne_of_none e nf)]; exact s23 _ _ (s2 _ _ e)
      have tt3 : ∀ {a : Addr} {xs : List V}, H1 a = some (.tup xs) → (upd H2' f1 (.lst (fl ++ [.ref t2]))) a = some (.tup xs) := fun e => tF (s23 _ _ (tW e))
      have ht3 := tF ht2
      generalize upd H2' f1 (.lst (fl ++ [.ref t2])) = H3 at hf3 hw3 s3 tt3 ht3
      have np2 : ∀ {v : V} {q : D × List Int}, NP2 G H H1 v q → NP2 G H H3 v q := fun ⟨t, p, nv, e, h1, h2, h3⟩ => ⟨t, p, nv, e, tt3 h1, h2, tt3 h3⟩
      have hfs3 : Paired (NP2 G H H3) (fl ++ [.ref t2]) (fs ++ [(n, pl)]) := Paired.snoc (Paired.mono (fun _ _ h => np2 h) hfs) ⟨t2, p, nv, rfl, ht3, hxn, tt3 hxp⟩
      have hd3 : Paired (NP2 G H H3) wl0 ds0 := Paired.mono (fun _ _ h => np2 h) hd0
      have hp3 := tt3 hxp
      refine ⟨_, rfl, nv, n, G, rfl, DAt.hold (.same s3) _ hxn, isSt n, rfl, ?_⟩
      rcases isSh_inv hshl with ⟨z, rfl, _⟩ | ⟨z, cs, rfl, hwz, hcs⟩
      · refine iteBf rfl ?_
        exact ⟨some nv, some (.ref p), v5, wl0, fl ++ [.ref t2], ds0, fs ++ [(.fl (.str z), pl)], rfl, by simp [nodesP], hf3, hw3, s3, hfs3, hd3, hss0, by rw [← heq, List.append_assoc]; rfl⟩
      · refine iteBt rfl ?_
        obtain ⟨a, us, rfl, qa, _, hus⟩ := hxn
        have hul := DAts.len hus
        rw [List.length_cons] at hul
        have qa3 : H3 a = some (.tup us) ∨ H3 a = some (.lst us) := qa.imp (s3 _ _) fun e => s3 _ _ e.2
        have nfa : a ≠ f1 := by
          rcases qa with q | q
          · exact ne_of_none q nf
          · exact ne_of_none q.2 nf
        have nwa : a ≠ w1 := by
          rcases qa with q | q
          · exact ne_of_none q nwH
          · exact ne_of_none q.2 nwH
        have hsq : SqL K H3 a us ∨ SqT K H3 a us := qa3.elim (fun e => .inr (SqT.of e)) fun e => .inl (SqL.of e)
        have hcz : cs.length ≤ 5000 := by
          have h1 := len_nodes cs
          have h2 := nodesP_len (pl := pl) (.sq (.fl (.str z) :: cs))
          rw [nodesD, List.length_cons] at h2
          omega
        have hdl0 : ds0.length ≤ 5000 := by
          have := flatP_len ds0.reverse
          rw [List.length_reverse] at this
          omega
        have en : ((((us.length : Nat) : Int) - 1) - 0).toNat = cs.length := by omega
        refine ⟨_, rfl, a, us, rfl, hsq, (us.length : Nat), 1, rfl, rfl, _, rfl, by omega, by omega, by omega, by omega, ?_⟩
        rw [en]
        have hch : (chP pl 0 cs).length = cs.length := chP_len cs 0
        have heq3 : fs ++ [(.sq (.fl (.str z) :: cs), pl)] ++ flatP ((ds0 ++ (chP pl 0 cs).reverse).reverse) = nodesP [] d := by
          rw [← heq, List.reverse_append, List.reverse_reverse, flatP_app, List.append_assoc]
          show fs ++ ((.sq (.fl (.str z) :: cs), pl) :: (flatP (chP pl 0 cs) ++ flatP ds0.reverse)) = fs ++ ((.sq (.fl (.str z) :: cs), pl) :: nodesPs pl 0 cs ++ flatP ds0.reverse)
          rw [flat_ch]
          rfl
        have hm3 : (nodesP pl (.sq (.fl (.str z) :: cs)) ++ flatP ds0.reverse).length - 1 = (flatP (ds0 ++ (chP pl 0 cs).reverse).reverse).length := by
          rw [List.reverse_append, List.reverse_reverse, flatP_app, flat_ch]
          show (_ :: (nodesPs pl 0 cs ++ flatP ds0.reverse)).length - 1 = _
          rw [List.length_cons]
          omega
        refine for_rangeC (fun i σ H' => ∃ (v5 : Option V) (xl : List V), σ = [some v, some (.ref f1), some (.ref w1), some (.ref a), some (.ref p), v5] ∧ H' f1 = some (.lst (fl ++ [.ref t2])) ∧ H' w1 = some (.lst (wl0 ++ xl)) ∧ Same H H' ∧ (∀ b xs, H3 b = some (.tup xs) → H' b = some (.tup xs)) ∧ Paired (NP2 G H H') xl ((chP pl 0 cs).drop (cs.length - i)).reverse)
          ⟨v5, [], rfl, hf3, by rw [List.append_nil]; exact hw3, s3, fun _ _ e => e, by rw [Nat.sub_zero, ← hch, List.drop_length]; exact .nil⟩ ?_ ?_
        · rintro i σ H' hi ⟨v5, xl, rfl, hf', hw', s', t', hp'⟩
          have hxl := Paired.length hp'
          rw [List.length_reverse, List.length_drop, hch] at hxl
          have hj : cs.length - (i + 1) < (chP pl 0 cs).length := by omega
          have hju : cs.length - i < us.length := by omega
          have ek : (0 : Int) + ((cs.length : Nat) : Int) - 1 + (i : Nat) * (-1) = ((cs.length - (i + 1) : Nat) : Int) := by omega
          rw [ek]
          have qa' : H' a = some (.tup us) ∨ H' a = some (.lst us) := qa.imp (s' _ _) fun e => s' _ _ e.2
          obtain ⟨c, hc, hcd⟩ := DAts.get hus (List.getElem?_eq_getElem hju)
          have hc' : cs[cs.length - (i + 1)]? = some c := by
            have e : cs.length - i = (cs.length - (i + 1)) + 1 := by omega
            rw [e, List.getElem?_cons_succ] at hc
            exact hc
          have hchj := chP_get (pl := pl) hc' (k := 0)
          have hat : atI us (((cs.length - (i + 1) : Nat) : Int) + 1) = some us[cs.length - i] := at_of (j := cs.length - i) (by omega) (List.getElem?_eq_getElem hju)
          rw [Nat.zero_add] at hchj
          have ech : (chP pl 0 cs)[cs.length - (i + 1)] = (c, pl ++ [((cs.length - (i + 1) : Nat) : Int)]) := by
            rw [List.getElem?_eq_getElem hj] at hchj
            exact Option.some.inj hchj
          have edr : ((chP pl 0 cs).drop (cs.length - (i + 1))).reverse = ((chP pl 0 cs).drop (cs.length - i)).reverse ++ [(c, pl ++ [((cs.length - (i + 1) : Nat) : Int)])] := by
            rw [List.drop_eq_getElem_cons hj, List.reverse_cons, ech, show cs.length - (i + 1) + 1 = cs.length - i by omega]
          have fin : ∀ e1, H' e1 = none → ∀ t1, (upd H' e1 (.tup (pl.map V.int ++ [.int ((cs.length - (i + 1) : Nat) : Int)]))) t1 = none → ∃ (l : Addr) (xs : List V) (y : V), V.ref w1 = .ref l ∧ [V.ref t1] = [y] ∧ (upd (upd H' e1 (.tup (pl.map V.int ++ [.int ((cs.length - (i + 1) : Nat) : Int)]))) t1 (.tup [us[cs.length - i], .ref e1])) l = some (.lst xs) ∧ xs.length < sizeLine ∧
              ∃ (v5 : Option V) (xl : List V), [some v, some (.ref f1), some (.ref w1), some (.ref a), some (.ref p), some (.int ((cs.length - (i + 1) : Nat) : Int))] = [some v, some (.ref f1), some (.ref w1), some (.ref a), some (.ref p), v5] ∧ (upd (upd (upd H' e1 (.tup (pl.map V.int ++ [.int ((cs.length - (i + 1) : Nat) : Int)]))) t1 (.tup [us[cs.length - i], .ref e1])) l (.lst (xs ++ [y]))) f1 = some (.lst (fl ++ [.ref t2])) ∧ (upd (upd (upd H' e1 (.tup (pl.map V.int ++ [.int ((cs.length - (i + 1) : Nat) : Int)]))) t1 (.tup [us[cs.length - i], .ref e1])) l (.lst (xs ++ [y]))) w1 = some (.lst (wl0 ++ xl)) ∧ Same H (upd (upd (upd H' e1 (.tup (pl.map V.int ++ [.int ((cs.length - (i + 1) : Nat) : Int)]))) t1 (.tup [us[cs.length - i], .ref e1])) l (.lst (xs ++ [y]))) ∧ (∀ b xs', H3 b = some (.tup xs') → (upd (upd (upd H' e1 (.tup (pl.map V.int ++ [.int ((cs.length - (i + 1) : Nat) : Int)]))) t1 (.tup [us[cs.length - i], .ref e1])) l (.lst (xs ++ [y]))) b = some (.tup xs')) ∧
                Paired (NP2 G H (upd (upd (upd H' e1 (.tup (pl.map V.int ++ [.int ((cs.length - (i + 1) : Nat) : Int)]))) t1 (.tup [us[cs.length - i], .ref e1])) l (.lst (xs ++ [y])))) xl ((chP pl 0 cs).drop (cs.length - (i + 1))).reverse := by
            intro e1 ne1 t1 nt1
            have sA : Same H' (upd H' e1 (.tup (pl.map V.int ++ [.int ((cs.length - (i + 1) : Nat) : Int)]))) := same_upd ne1
            have hA : (upd H' e1 (.tup (pl.map V.int ++ [.int ((cs.length - (i + 1) : Nat) : Int)]))) e1 = some (.tup (pl.map V.int ++ [.int ((cs.length - (i + 1) : Nat) : Int)])) := upd_same
            generalize upd H' e1 (.tup (pl.map V.int ++ [.int ((cs.length - (i + 1) : Nat) : Int)])) = HA at sA hA nt1 ⊢
            have sB : Same HA (upd HA t1 (.tup [us[cs.length - i], .ref e1])) := same_upd nt1
            have hB : (upd HA t1 (.tup [us[cs.length - i], .ref e1])) t1 = some (.tup [us[cs.length - i], .ref e1]) := upd_same
            generalize upd HA t1 (.tup [us[cs.length - i], .ref e1]) = HB at sB hB ⊢
            have sAB := sA.trans sB
            have hwB := sAB _ _ hw'
            have tB : ∀ b xs', HB b = some (.tup xs') → (upd HB w1 (.lst (wl0 ++ xl ++ [.ref t1]))) b = some (.tup xs') := fun b xs' e => by rw [upd_ne (ne_of e hwB (by intro z; cases z))]; exact e
            refine ⟨w1, _, _, rfl, rfl, hwB, by rw [List.length_append]; omega, _, xl ++ [.ref t1], rfl, by rw [upd_ne fw]; exact sAB _ _ hf', by rw [upd_same, List.append_assoc], fun b o e => by rw [upd_ne (ne_of_none e nwH)]; exact sAB _ _ (s' _ _ e), fun b xs' e => tB _ _ (sAB _ _ (t' _ _ e)), ?_⟩
            rw [edr]
            exact Paired.snoc (Paired.mono (fun _ _ ⟨t, p, nv, e, h1, h2, h3⟩ => ⟨t, p, nv, e, tB _ _ (sAB _ _ h1), h2, tB _ _ (sAB _ _ h3)⟩) hp') ⟨t1, e1, us[cs.length - i], rfl, tB _ _ hB, hcd, by rw [List.map_append]; exact tB _ _ (sB _ _ hA)⟩
          refine ⟨_, rfl, .inl ⟨rfl, _, SqL.of hw'⟩, _, rfl, _, rfl, ((cs.length - (i + 1) : Nat) : Int), 1, rfl, rfl, ?_⟩
          rcases qa' with qa' | qa'
          · exact .inr (.inl ⟨a, _, _, _, rfl, rfl, SqT.of qa', hat, _, rfl, p, _, rfl, .inl (SqT.of (t' _ _ hp3)), _, rfl, by rw [List.length_append, List.length_map, List.length_singleton]; show pl.length + 1 ≤ _; omega, fun e1 ne1 => ⟨(by show 2 ≤ sizeLine; decide), fun t1 nt1 => fin e1 ne1 t1 nt1⟩⟩)
          · exact .inl ⟨a, _, _, _, rfl, rfl, SqL.of qa', hat, _, rfl, p, _, rfl, .inl (SqT.of (t' _ _ hp3)), _, rfl, by rw [List.length_append, List.length_map, List.length_singleton]; show pl.length + 1 ≤ _; omega, fun e1 ne1 => ⟨(by show 2 ≤ sizeLine; decide), fun t1 nt1 => fin e1 ne1 t1 nt1⟩⟩
        · rintro σ H' ⟨v5, xl, rfl, hf', hw', s', t', hp'⟩
          rw [Nat.sub_self, List.drop_zero] at hp'
          have mo : ∀ {v : V} {q : D × List Int}, NP2 G H H3 v q → NP2 G H H' v q := fun ⟨t, p, nv, e, h1, h2, h3⟩ => ⟨t, p, nv, e, t' _ _ h1, h2, t' _ _ h3⟩
          refine ⟨some (.ref a), some (.ref p), v5, wl0 ++ xl, fl ++ [.ref t2], ds0 ++ (chP pl 0 cs).reverse, fs ++ [(.sq (.fl (.str z) :: cs), pl)], rfl, hm3, hf', hw', s', Paired.mono (fun _ _ h => mo h) hfs3, paired_app (Paired.mono (fun _ _ h => mo h) hd3) hp', fun q hq => ?_, heq3⟩
          rcases List.mem_append.mp hq with hq | hq
          · exact hss0 q hq
          · obtain ⟨i, hi⟩ := List.getElem?_of_mem (List.mem_reverse.mp hq)
            obtain ⟨c, hc, e⟩ := chP_mem hi
            rw [e]
            exact isShs_mem hcs c (List.mem_of_getElem? hc)
end
end K5

namespace K5
open PySem PySem.Spec PyProof.Rows L2 C8 XE XR
/-! places -/
abbrev sPlT : Stmt := top 14
abbrev NPlT : List Str := ["tree", "_", "place"]
theorem scPlT : FnScope NPlT ["tree"] (fnScope sPlT) := fnScope_by (by decide +kernel)
def spPlT : Sp := fun vs H Q _ => ∃ (v : V) (d : D) (F : Addr → Prop), vs = [v] ∧ DAt F H v d ∧ isSh d = true ∧ sz d ≤ 5000 ∧ ∀ p ws H', H p = none → Same H H' → H' p = some (.lst ws) → Paired (PlV H') ws ((nodesP [] d).map fun q : D × List Int => q.2) → Q (.ref p) H'
section
variable {P : Program} {w : World} {K : PySem.W.Frag} {mg : Str → Option Value} {base : Heap}
theorem c_plT {f : Addr} {fd : FuncData} (F : Def K mg "places" sPlT f fd) (b : Binds K fd ["tree"] []) (T : Blt4 mg) (CN : Cal P w K mg base 2 "nodes_with_places" spNwp []) : Cal P w K mg base 3 "places" spPlT [] := by
  refine cal0 F b .nil scPlT (fun vs H Q E h => ?_) (fun cdv A outer s H vs Q E hr h => ?_)
  · obtain ⟨v, d, G, rfl, _⟩ := h
    rfl
  · obtain ⟨v, d, G, rfl, hv, hsh, hsz, k⟩ := h
    have nd := scPlT.nd
    refine ⟨_, pss_one (ps_ret (pe_lc (own := [("_", 1), ("place", 2)]) (g := gTup K 2 (gCons (gName 1) (gCons (gName 2) gNil))) (tt := tYes) rfl nd (pi_list (pe_c CN hr (by decide) (by rfl) (pa_cons (pv 0) pa_nil))) (blkOk_by (N := NPlT) (sc := fnScope sPlT) (by decide +kernel))
        (fun _ _ _ _ _ => pg_tup rfl (pgs_cons (pg_name (i := 1) nd rfl (Or.inl rfl)) (pgs_cons (pg_name (i := 2) nd rfl (Or.inl rfl)) pgs_nil))) (fun _ _ _ _ _ => pts_nil) (fun _ _ _ _ _ => pv 2))), ?_⟩
    have hsl := sizeLine_eq
    refine ⟨_, rfl, v, d, G, rfl, hv, hsh, hsz, fun lq us H1 nlq s1 hlq hpu => ⟨lq, rfl, ⟨us, SqL.of hlq⟩, fun Da nDa => ?_⟩⟩
    have hul := Paired.length hpu
    have hcount : (nodesP [] d).length ≤ 5000 := by rw [nodesP_len]; exact Nat.le_trans (nodes_sz d) hsz
    generalize nodesP [] d = qs at hpu hul hcount k
    refine lc_gen (J := Itl K lq) us.length (fun i H' => ∃ ys, H' Da = some (.lst ys) ∧ Paired (PlV H') ys ((qs.take i).map fun q : D × List Int => q.2) ∧ Same H1 H') ⟨[], upd_same, .nil, same_upd nDa⟩ (fun i H' hi ⟨_, _, _, sm⟩ => ⟨us, us.getD i .non, SqL.of (sm _ _ hlq), getD_at hi⟩) (fun H' ⟨_, _, _, sm⟩ => ⟨us, SqL.of (sm _ _ hlq), Nat.le_refl _⟩) (fun i H' x H'' hi ⟨ys, hD, hpy, sm⟩ yl => ?_) (fun H' ⟨ys, hD, hpy, sm⟩ => ?_)
    · obtain ⟨rfl, hx⟩ := yl
      have hx := hx _ (SqL.of (sm _ _ hlq))
      obtain ⟨q, hq, qt, qa, nv, rfl, hqt, _, hqa⟩ := paired_get hpu hx
      obtain ⟨hlt, e⟩ := List.getElem?_eq_some_iff.mp hq
      have hyl := Paired.length hpy
      rw [List.length_map, List.length_take] at hyl
      refine ⟨qt, [nv, .ref qa], rfl, SqT.of (sm _ _ hqt), rfl, nv, [.ref qa], rfl, .ref qa, [], rfl, rfl, rfl, ?_⟩
      unfold tYes
      dsimp only
      rw [if_pos rfl]
      have tD : ∀ {a : Addr} {xs : List V}, H'' a = some (.tup xs) → (upd H'' Da (.lst (ys ++ [.ref qa]))) a = some (.tup xs) := fun e => by rw [upd_ne (ne_of e hD (by intro z; cases z))]; exact e
      refine ⟨_, rfl, _, hD, by omega, _, upd_same, ?_, fun b o e => by rw [upd_ne (ne_of_none e nDa)]; exact sm _ _ e⟩
      rw [List.take_succ_eq_append_getElem hlt, List.map_append, e]
      exact Paired.snoc (Paired.mono (fun _ _ ⟨a, e, q⟩ => ⟨a, e, tD q⟩) hpy) ⟨qa, rfl, tD (sm _ _ hqa)⟩
    · rw [List.take_of_length_le (by omega)] at hpy
      exact k Da ys H' (same_free s1 nDa) (s1.trans sm) hD hpy
end
end K5

namespace K5
open PySem PySem.Spec PyProof.Rows L2 C8 XE
/-! is_number, is_row, of any data -/
abbrev sNum : Stmt := top 4
abbrev sRow : Stmt := top 5
def numB : D → Bool
  | .fl (.int _) => true
  | _ => false
theorem d_ty2 {K : PySem.W.Frag} {F : Addr → Prop} {H : Hp} {v : V} : ∀ {d : D}, DAt F H v d → ∃ T, (∀ H', Same H H' → TyX K H' v (.type T)) ∧ PySem.W.kitAny K (.type T) [.type "list", .type "tuple"] = some (isSq d) ∧ PySem.W.kitOne K (.type T) (.type "str") = some (isSt d) ∧
    ∃ b, PySem.W.kitOne K (.type T) (.type "int") = some (numB d || b) ∧ PySem.W.kitOne K (.type T) (.type "bool") = some b ∧ (b = true → numB d = false) := by
  have z : ∀ T ∈ ["NoneType", "bool", "int", "str", "dict", "list", "tuple"], kitB T "list" = some (T == "list") ∧ kitB T "tuple" = some (T == "tuple") ∧ kitB T "str" = some (T == "str") ∧ kitB T "int" = some (T == "int" || T == "bool") ∧ kitB T "bool" = some (T == "bool") := by decide +kernel
  have mk : ∀ (T : String) (b c n : Bool), T ∈ ["NoneType", "bool", "int", "str", "dict", "list", "tuple"] → (T == "list" || T == "tuple") = b → (T == "str") = c → (T == "int") = n → PySem.W.kitAny K (.type T) [.type "list", .type "tuple"] = some b ∧ PySem.W.kitOne K (.type T) (.type "str") = some c ∧
      ∃ b, PySem.W.kitOne K (.type T) (.type "int") = some (n || b) ∧ PySem.W.kitOne K (.type T) (.type "bool") = some b ∧ (b = true → n = false) := by
    intro T b c n hT e1 e2 e3
    obtain ⟨h1, h2, h3, h4, h5⟩ := z T hT
    refine ⟨kitAny_cons (kit_ty h1) (fun e => ?_) (fun e => ?_), by rw [kit_ty h3, e2], T == "bool", by rw [kit_ty h4, e3], kit_ty h5, fun hb => ?_⟩
    · rw [e, Bool.false_or] at e1
      exact kitAny_cons (b := (T == "tuple")) (kit_ty h2) (fun e' => by rw [← e1, e']; exact kitAny_nil) fun e' => by rw [← e1, e']
    · rw [e] at e1
      rw [← e1]; rfl
    · rw [← e3, beq_iff_eq.mp hb]
      rfl
  intro d h
  cases d with
  | fl x =>
    obtain ⟨rfl, fx⟩ := h
    cases v with
    | non => exact ⟨"NoneType", fun _ _ => .base .non, mk _ _ _ _ (by decide) rfl rfl rfl⟩
    | bl b => exact ⟨"bool", fun _ _ => .base (.bl b), mk _ _ _ _ (by decide) rfl rfl rfl⟩
    | int i => exact ⟨"int", fun _ _ => .base (.int i), mk _ _ _ _ (by decide) rfl rfl rfl⟩
    | str z => exact ⟨"str", fun _ _ => .base (.str z), mk _ _ _ _ (by decide) rfl rfl rfl⟩
    | _ => cases fx
  | emp =>
    obtain ⟨a, rfl, q⟩ := h
    exact ⟨"dict", fun H' s => .base (.dK (s _ _ q)), mk _ _ _ _ (by decide) rfl rfl rfl⟩
  | sq xs =>
    obtain ⟨a, vs, rfl, q, _⟩ := h
    rcases q with q | ⟨_, q⟩
    · exact ⟨"tuple", fun H' s => .base (.tup (s _ _ q)), mk _ _ _ _ (by decide) rfl rfl rfl⟩
    · exact ⟨"list", fun H' s => .base (.lst (s _ _ q)), mk _ _ _ _ (by decide) rfl rfl rfl⟩
def spNum : Sp := fun vs H Q _ => ∃ (v : V) (d : D) (F : Addr → Prop), vs = [v] ∧ DAt F H v d ∧ Q (.bl (numB d)) H
def spRow : Sp := fun vs H Q _ => ∃ (v : V) (d : D) (F : Addr → Prop), vs = [v] ∧ DAt F H v d ∧ ∀ H', Same H H' → Q (.bl (isSq d)) H'
theorem scNum : FnScope ["thing"] ["thing"] (fnScope sNum) := fnScope_by (by decide +kernel)
theorem scRow : FnScope ["thing"] ["thing"] (fnScope sRow) := fnScope_by (by decide +kernel)
section
variable {P : Program} {w : World} {K : PySem.W.Frag} {mg : Str → Option Value} {base : Heap}
theorem c_num {f : Addr} {fd : FuncData} (F : Def K mg "is_number" sNum f fd) (b : Binds K fd ["thing"] []) (T : Blt4 mg) : Cal P w K mg base 1 "is_number" spNum [] := by
  refine cal0 F b .nil scNum (fun vs H Q E h => ?_) (fun cdv A outer s H vs Q E hr h => ?_)
  · obtain ⟨v, d, G, rfl, _⟩ := h
    rfl
  · obtain ⟨v, d, G, rfl, hv, k⟩ := h
    refine ⟨_, pss_one (ps_ret (pe_and (pe_callB call_isi (by rfl) T.isi (by decide +kernel) (pa_cons (pv 0) (pa_cons (pe_bt "int" T.int) pa_nil))) (pe_one (pe_not (pe_callB call_isi (by rfl) T.isi (by decide +kernel) (pa_cons (pv 0) (pa_cons (pe_bt "bool" T.boo) pa_nil))))))), ?_⟩
    obtain ⟨Ty, ty, _, _, bb, k1, k2, k3⟩ := d_ty2 (K := K) hv
    have ty0 := ty H fun _ _ e => e
    refine ⟨_, rfl, v, .ty "int", _, _, _, rfl, .ty _, ty0, k1, _, rfl, ?_⟩
    cases hn : numB d with
    | true =>
      have : bb = false := by
        cases bb with
        | false => rfl
        | true => have := k3 rfl; rw [hn] at this; cases this
      subst this
      refine iteBt rfl ⟨_, rfl, v, .ty "bool", _, _, _, rfl, .ty _, ty0, k2, _, rfl, ?_⟩
      rw [hn] at k
      exact k
    | false =>
      rw [hn] at k
      cases bb with
      | true => exact iteBt rfl ⟨_, rfl, v, .ty "bool", _, _, _, rfl, .ty _, ty0, k2, _, rfl, k⟩
      | false => exact iteBf rfl k
theorem c_row {f : Addr} {fd : FuncData} (F : Def K mg "is_row" sRow f fd) (b : Binds K fd ["thing"] []) (T : Blt4 mg) : Cal P w K mg base 1 "is_row" spRow [] := by
  refine cal0 F b .nil scRow (fun vs H Q E h => ?_) (fun cdv A outer s H vs Q E hr h => ?_)
  · obtain ⟨v, d, G, rfl, _⟩ := h
    rfl
  · obtain ⟨v, d, G, rfl, hv, k⟩ := h
    refine ⟨_, pss_one (ps_ret (pe_callB call_isiT (by rfl) T.isi (by decide +kernel) (pa_cons (pv 0) (pa_cons (pe_tup (pa_cons (pe_bt "list" T.list) (pa_cons (pe_bt "tuple" T.tup) pa_nil))) pa_nil)))), ?_⟩
    obtain ⟨Ty, ty, k1, _⟩ := d_ty2 (K := K) hv
    exact ⟨_, rfl, (by show 2 ≤ sizeLine; decide), fun p np => ⟨v, p, [.ty "list", .ty "tuple"], _, _, _, rfl, upd_same, .cons (.ty _) (.cons (.ty _) .nil), ty _ (same_upd np), k1, k _ (same_upd np)⟩⟩
end
end K5

namespace K5
open PySem PySem.Spec PyProof.Rows L2 C8 XE XR
/-! _law_size -/
abbrev sLSize : Stmt := top 29
abbrev NLs : List Str := ["_law_tree_here", "_law_child"]
theorem scLSize : FnScope NLs ["_law_tree_here"] (fnScope sLSize) := fnScope_by (by decide +kernel)
def spLSize (N : Nat) : Sp := fun vs H Q _ => ∃ (v : V) (d : D) (rs : List Rw), vs = [v] ∧ DAt nol H v d ∧ isT rs d = true ∧ sz d ≤ N ∧ sz d ≤ 5000 ∧ ∀ H', Same H H' → Q (.int (nodesD d).length) H'
section
variable {P : Program} {w : World} {K : PySem.W.Frag} {mg : Str → Option Value} {base : Heap}
theorem lsize_step {k N : Nat} {f : Addr} {fd : FuncData} (F : Def K mg "_law_size" sLSize f fd) (b : Binds K fd ["_law_tree_here"] []) (T : Blt4 mg) (hsum : mg "sum" = none) (CL : Cal P w K mg base k "_law_size" (spLSize N) []) : Cal P w K mg base (k + 1) "_law_size" (spLSize (N + 1)) [] := by
  refine cal0 F b .nil scLSize (fun vs H Q E h => ?_) (fun cdv A outer s H vs Q E hr h => ?_)
  · obtain ⟨v, d, rs, rfl, _⟩ := h
    rfl
  · obtain ⟨v, d, rs, rfl, hv, ht, hN, hsz, kk⟩ := h
    have nd := scLSize.nd
    refine ⟨_, pss_one (ps_ret (pe_op op_add pe_int (pe_callB (cr_sum rfl) (by rfl) hsum (by decide +kernel) (pa_cons (pe_lc (own := [("_law_child", 1)]) (g := gName 1) (tt := tYes) rfl nd (pi_tup (pe_slice sl_tup (pv 0) (po_some pe_int) po_none)) (blkOk_by (N := NLs) (sc := fnScope sLSize) (by decide +kernel))
        (fun _ _ _ _ _ => pg_name (i := 1) nd rfl (Or.inl rfl)) (fun _ _ _ _ _ => pts_nil) (fun _ _ _ _ _ => pe_c CL hr (Nat.le_refl _) (by rfl) (pa_cons (pv 1) pa_nil))) pa_nil)))), ?_⟩
    have hsl := sizeLine_eq
    obtain ⟨a, z, cvs, cs, m, rfl, qa, rfl, hus, hm, hml, hts⟩ := hv.tree ht
    have hul := hus.len
    have hsc : sz (.sq (.fl (.str z) :: cs)) = 2 + szs cs := by rw [sz, szs, sz]; omega
    rw [hsc] at hN hsz
    have hcl := len_szs cs
    refine ⟨_, rfl, 1, rfl, a, _, rfl, SqT.of qa, not_whole (by decide) (by simp), fun p np => ?_⟩
    rw [cutFrom (by decide)]
    have e3 : (V.str z :: cvs).drop (1 : Int).toNat = cvs := rfl
    rw [e3]
    refine ⟨p, rfl, ⟨_, SqT.of upd_same⟩, fun Da nDa => ?_⟩
    have sp : Same H (upd H p (.tup cvs)) := same_upd np
    have hpp : (upd H p (.tup cvs)) p = some (.tup cvs) := upd_same
    generalize upd H p (.tup cvs) = H1 at sp hpp nDa
    refine lc_gen (J := Itt K p) cvs.length (fun j H' => H' Da = some (.lst (((cs.take j).map fun c => ((nodesD c).length : Int)).map V.int)) ∧ Same H1 H') ⟨upd_same, same_upd nDa⟩ (fun j H' hj ⟨_, sm⟩ => ⟨_, cvs.getD j .non, SqT.of (sm _ _ hpp), getD_at hj⟩) (fun H' ⟨_, sm⟩ => ⟨_, SqT.of (sm _ _ hpp), Nat.le_refl _⟩) (fun j H' x H'' hj ⟨hD, sm⟩ yl => ?_) (fun H' ⟨hD, sm⟩ => ?_)
    · obtain ⟨rfl, hx⟩ := yl
      have hx := hx _ (SqT.of (sm _ _ hpp))
      obtain ⟨c, hc, hxc⟩ := hus.get hx
      obtain ⟨hlt, ec⟩ := List.getElem?_eq_some_iff.mp hc
      have hszc := szs_get hc
      refine ⟨rfl, ?_⟩
      unfold tYes
      dsimp only
      rw [if_pos rfl]
      refine ⟨_, rfl, x, c, rs, rfl, DAt.hold (.same (sp.trans sm)) _ hxc, isTs_get hts hc, by omega, by omega, fun H3 s3 => ⟨_, s3 _ _ hD, by rw [List.length_map, List.length_map, List.length_take]; omega, ?_, fun b o e => by rw [upd_ne (ne_of_none e nDa)]; exact s3 _ _ (sm _ _ e)⟩⟩
      rw [upd_same, List.take_succ_eq_append_getElem hlt, ec, List.map_append, List.map_append]
      rfl
    · rw [hul, List.take_length] at hD
      have es : ∀ l : List D, (l.map fun c => ((nodesD c).length : Int)).sum = ((nodesDs l).length : Int) := fun l => by
        induction l with
        | nil => rfl
        | cons x xs ih => rw [List.map_cons, List.sum_cons, ih, nodesDs, List.length_append]; omega
      refine ⟨Da, _, rfl, SqL.of hD, 1, _, rfl, rfl, ?_⟩
      have hk := kk H' (sp.trans sm)
      rw [nodesD, List.length_cons] at hk
      rw [es]
      show Q (.int ((1 : Int) + ((nodesDs cs).length : Int))) H'
      rw [show (1 : Int) + ((nodesDs cs).length : Int) = (((nodesDs cs).length + 1 : Nat) : Int) by omega]
      exact hk
theorem c_lsize {f : Addr} {fd : FuncData} (F : Def K mg "_law_size" sLSize f fd) (b : Binds K fd ["_law_tree_here"] []) (T : Blt4 mg) (hsum : mg "sum" = none) : ∀ N : Nat, Cal P w K mg base (1 + N) "_law_size" (spLSize N) []
  | 0 => by
    have no : ∀ {vs H Q E}, spLSize 0 vs H Q E → False := fun ⟨_, d, _, _, _, _, h, _⟩ => by have := sz_pos d; omega
    exact cal0 F b .nil scLSize (fun vs H Q E h => (no h).elim) (fun cdv A outer s H vs Q E hr h => (no h).elim)
  | N + 1 => lsize_step F b T hsum (c_lsize F b T hsum N)
end
end K5

/-! Making an own exception whose __init__ says super().__init__(text) and stores its parameters. -/
namespace XI
open PySem PySem.W PySem.Calls PyProof.Rows PySem.HandSPX
section
variable {prog : Program} {w : World} {M : Model} {A : Around} {E : Value → Shared → Prop} {hp : Heap} {g : Array GenState} {d : Drawn} {t : Nat} {os : OsState}
variable {cn cq : Str} {C N : Addr} {bs bm tl : List Value} {sn : List Str} {sub : List Value} {ab : Bool} {col : Option Bool} {dd : Option Addr} {k0 k1 k2 k3 k5 : Option Value} {B n0 n1 : String} {us : List Value} {kw : List (Str × Value)}
theorem chk (FB : ExcBaseFacts B n0 n1 tl) (ht : ∀ Y : String, bm.contains (.type Y) = tl.contains (.type Y)) {Q : Unit → Shared → Prop}
    (oC : hp.get? C = some (excClassObj cn cq C N bs bm true sn sub ab col dd k0 k1 k2 k3 k5 n0)) (q : Q () ⟨hp, g, d, t, os⟩) : wpAny M A (checkBuiltinCall n0 ⟨.ref C :: us, kw⟩) Q E ⟨hp, g, d, t, os⟩ := by
  have inB : (Value.ref C :: bm).contains (.type B) = true := by simp only [List.contains_cons, ht, FB.hasB, Bool.or_true]
  have st := FB.noStar
  simp only [checkBuiltinCall, FB.newKind, FB.newSplit, FB.newRow]
  repeat (first
    | (refine wpAny_isSubtype_exc oC ?_; rw [inB])
    | refine wpAny_loadPart_at oC ?_
    | refine wpAny_madeBy_exc oC ?_
    | refine wpAny_staticBase_exc oC ?_
    | wp_step
    | simp only [bne_self_eq_false, Bool.false_eq_true, if_false])
  exact q
theorem chkT {Q : Unit → Shared → Prop} (oC : hp.get? C = some (excClassObj cn cq C N bs bm true sn sub ab col dd k0 k1 k2 k3 k5 n0)) (q : Q () ⟨hp, g, d, t, os⟩) :
    wpAny M A (checkBuiltinCall "type.__call__" ⟨.ref C :: us, kw⟩) Q E ⟨hp, g, d, t, os⟩ := by
  have z := tc_sub
  have ty : (⟨hp, g, d, t, os⟩ : Shared).TypeIs (.ref C) "type" := ⟨_, oC, rfl⟩
  simp only [checkBuiltinCall, tc_kind, tc_split]
  repeat (any_goals (first
    | assumption
    | with_reducible refine wpAny_onRaise ?_
    | with_reducible refine wpAny_loadPart_at oC ?_
    | with_reducible refine wpAny_map ?_
    | wp_step))
end
section
variable {prog : Program} {w : World} {A : Around} {E : Value → Shared → Prop} {R : Result → Shared → Prop} {hp : Heap} {g : Array GenState} {d : Drawn} {t : Nat} {os : OsState}
variable {cn cq : Str} {C N fI : Addr} {bs bm tl : List Value} {sn : List Str} {sub : List Value} {ab : Bool} {col : Option Bool} {dd : Option Addr} {k0 k1 k2 k3 k5 : Option Value} {B n0 n1 : String} {us : List Value} {kw : List (Str × Value)}
/-- the tuple of the arguments, and the new exception behind it -/
abbrev two (hp : Heap) (C : Addr) (us : List Value) : Heap := (hp.push (kdv_tup us)).push (excO C hp.objs.size)
theorem newE (FB : ExcBaseFacts B n0 n1 tl) (ht : ∀ Y : String, bm.contains (.type Y) = tl.contains (.type Y)) (oC : hp.get? C = some (excClassObj cn cq C N bs bm true sn sub ab col dd k0 k1 k2 k3 k5 n0)) (hl : us.length ≤ sizeLine)
    (q : R (.ok (.ret (.ref (hp.objs.size + 1)))) ⟨two hp C us, g, d, t, os⟩) : codeAny (model prog w) A (.builtin n0 ⟨.ref C :: us, kw⟩) R ⟨hp, g, d, t, os⟩ := by
  have en := FB.ends
  have inB : (Value.ref C :: bm).contains (.type B) = true := by simp only [List.contains_cons, ht, FB.hasB, Bool.or_true]
  have noA : (Value.ref C :: bm).contains (.type "AttributeError") = false := by rw [List.contains_cons, ht, FB.noAttr] <;> rfl
  have noN : (Value.ref C :: bm).contains (.type "NameError") = false := by rw [List.contains_cons, ht, FB.noName] <;> rfl
  refine codeAny_builtinAt FB.entry ?_
  unfold Builtin.«BaseException.__new__»
  refine PySem.wpAt_bind ?_
  show PySem.wpAt _ _ _ (stack >>= _) _ _ _
  refine PySem.wpAt_bind (PySem.wpAt_stack fun p below => PySem.wpAt_of_wpAny ?_)
  wp_walk
  refine PySem.wpAt_of_wpAny ?_
  rw [FB.owner]
  repeat (first
    | (with_reducible refine wpAny_isSubtype_exc oC ?_; first | rw [inB] | rw [noA] | rw [noN])
    | with_reducible refine wpAny_madeHere_exc FB.canon oC ?_
    | with_reducible refine wpAny_loadPart_at oC ?_
    | wp_step)
  show R _ _
  rw [Heap.size_push]
  exact q
theorem tcall (FB : ExcBaseFacts B n0 n1 tl) (ht : ∀ Y : String, bm.contains (.type Y) = tl.contains (.type Y)) {Q : Fin → Shared → Prop}
    (oC : hp.get? C = some (excClassObj cn cq C N bs bm true sn sub ab col dd k0 k1 k2 k3 k5 n0)) (li : Looks (model prog w) hp (typeLookup (.ref C) "__init__") (some (.ref fI)))
    (lb : ∀ self, Looks (model prog w) hp (bindSpecial (.ref fI) self) (.ref fI, [self])) (hl : us.length ≤ sizeLine)
    (q : codeAny (model prog w) A (.call (.ref fI) ⟨.ref (hp.objs.size + 1) :: us, kw⟩) (fun r s' => match r with | .ok (.ret v) => v = .none ∧ Q (.done (.ret (.ref (hp.objs.size + 1)))) s' | .ok _ => False | .error e => E e s') ⟨two hp C us, g, d, t, os⟩) :
    wpAny (model prog w) A (Builtin.«type.__call__» ⟨.ref C :: us, kw⟩) Q E ⟨hp, g, d, t, os⟩ := by
  repeat (first
    | with_reducible refine wpAny_madeBy_exc oC ?_
    | with_reducible refine wpAny_loadPart_at oC ?_
    | wp_step)
  refine codeAny_call_builtin_code (Code.quiet_builtin _ FB.quiet) (chk FB ht oC ?_)
  refine newE FB ht oC hl ?_
  show wpAny _ _ _ _ _ _
  have kp : ∀ b o, hp.get? b = some o → (two hp C us).get? b = some o := fun b o e => Heap.get?_push_of_some _ (Heap.get?_push_of_some _ e)
  have oC1 := kp _ _ oC
  have oX : (two hp C us).get? (hp.objs.size + 1) = some (excO C hp.objs.size) := by heap_get
  have inC : (Value.ref C :: bm).contains (.ref C) = true := by simp
  have li1 := li.keeps kp
  have lb1 := (lb (.ref (hp.objs.size + 1))).keeps kp
  unfold isInstance
  repeat (first
    | (with_reducible refine wpAny_isSubtype_exc oC1 ?_; rw [inC])
    | with_reducible refine wpAny_loadPart_at oX ?_
    | wp_step)
  show wpAny _ _ (typeLookup (.ref C) _) _ _ _
  refine li1.at (wpAny_holding (wpAny_bind (lb1.at ?_)))
  refine wpAny_bind (wpAny_call (codeAny_mono q fun r s' z => ?_))
  rcases r with e | (v | _ | _ | _) <;> first | exact z | exact z.elim | skip
  obtain ⟨rfl, z⟩ := z
  first
    | exact wpAny_pure (wpAny_pure z)
    | (wp_walk; exact z)
/-- C(us, kw): the new exception, then its own __init__ -/
theorem callE (FB : ExcBaseFacts B n0 n1 tl) (ht : ∀ Y : String, bm.contains (.type Y) = tl.contains (.type Y))
    (oC : hp.get? C = some (excClassObj cn cq C N bs bm true sn sub ab col dd k0 k1 k2 k3 k5 n0)) (li : Looks (model prog w) hp (typeLookup (.ref C) "__init__") (some (.ref fI)))
    (lb : ∀ self, Looks (model prog w) hp (bindSpecial (.ref fI) self) (.ref fI, [self])) (hl : us.length ≤ sizeLine)
    (q : codeAny (model prog w) (A.under (.builtin "type.__call__" ⟨.ref C :: us, kw⟩)) (.call (.ref fI) ⟨.ref (hp.objs.size + 1) :: us, kw⟩) (InitBack (hp.objs.size + 1) R) ⟨two hp C us, g, d, t, os⟩) :
    codeAny (model prog w) A (.call (.ref C) ⟨us, kw⟩) R ⟨hp, g, d, t, os⟩ := by
  have z1 := tc_lookup
  have z2 := tc_bind (.ref C)
  have ty : (⟨hp, g, d, t, os⟩ : Shared).TypeIs (.ref C) "type" := ⟨_, oC, rfl⟩
  refine codeAny_of_tree ?_
  show wpAny _ _ (callAny (.ref C) _) _ _ _
  repeat (any_goals (first
    | assumption
    | with_reducible refine wpAny_loadPart_at oC ?_
    | wp_step))
  refine ⟨rfl, codeAny_call_builtin_at (Code.quiet_builtin _ (by decide +kernel)) entry_typeCall (chkT oC (tcall FB ht oC li lb hl (codeAny_mono q fun r s' z => ?_)))⟩
  rcases r with e | (v | _ | _ | _) <;> exact z
end
end XI

namespace XI
open PySem PySem.W PySem.Calls PyProof.Rows PySem.HandSPX
section
variable {prog : Program} {w : World} {A : Around} {E : Value → Shared → Prop} {R : Result → Shared → Prop} {s : Shared} {K : Frag} {mg mb : Str → Option Value} {C fI cc cda x L t0 : Addr} {qual tx : Str} {scope : Scope} {params : Arguments} {body : List Stmt}
/-- behind the wrapper's call the args are laid anew -/
theorem wrapCall {cn cq : Str} {N u : Addr} {bs bm tl : List Value} {sn : List Str} {sub : List Value} {ab : Bool} {col : Option Bool} {dd : Option Addr} {k0 k1 k2 k3 k5 : Option Value} {B n0 n1 : String} {us : List Value} {Q : Value → Shared → Prop}
    (FB : ExcBaseFacts B n0 n1 tl) (oC : s.heap.get? C = some (excClassObj cn cq C N bs bm true sn sub ab col dd k0 k1 k2 k3 k5 n0)) (ox : s.heap.get? x = some (excO C t0)) (ou : s.heap.get? u = some (kxs_mw n1 x)) (hl : us.length ≤ sizeLine)
    (q : ∀ h' t1, (∀ b o, b ≠ x → s.heap.get? b = some o → h'.get? b = some o) → h'.get? x = some (excO C t1) → Q .none { s with heap := h' }) : wpAny (model prog w) A (call (.ref u) us) Q E s := by
  obtain ⟨hp, g, d, tk, os⟩ := s
  refine wpAny_call (codeAny_of_tree ?_)
  show wpAny _ A.in1 (callAny (.ref u) ⟨us, []⟩) _ _ _
  simp only [callAny]
  refine wpAny_bind (wpAny_load ou ?_)
  simp only [show (Value.type "method-wrapper" == Value.type "method" || Value.type "method-wrapper" == Value.type "builtin_function_or_method" || Value.type "method-wrapper" == Value.type "method-wrapper") = true by decide, if_true, kxs_mw]
  refine KFB.if_so (by decide) (wpAny_bind (check_bound_init FB.toExcCallFacts oC ox rfl (wpAny_bind (wpAny_pure (wpAny_pure ⟨plainId_quiet FB.init.plain _, codeAny_builtin FB.initEntry ?_⟩)))))
  exact exc_init_tree (t0 := t0) (cls := .ref C) (dv := none) (c2 := .none) (c3 := .none) (b4 := .bool false) ox hl fun h' kp e _ => q h' _ kp e
theorem superPart {p0 p1 p2 p3 p4 p5 : Pos} {k : Nat} {Q : Flow → Shared → Prop} {oc od doc pm an ct osl dV kV} {cl : Value} {cld : Option Addr} {csl : Array (Option Value)} {ccl : Value} {cdd : Option Addr} {ccs : Array (Option Value)} {vs : Array Value} {file : Str} {tf : Tok} {m : Str → Option Value}
    (X : K.In s.heap) (gl : s.heap.Ns mainGlobals mg) (bl : s.heap.Ns builtinsNs mb) (hbb : ∀ y : Str, y ≠ "__name__" → mb y = bootBuiltins y) (hsu : mg "super" = none)
    (hf : K.lookup fI = some ⟨oc, od, .func (ksFn "__init__" qual params body scope dV kV doc pm an (.ref cda) ct cc), osl⟩) (hp1 : ∃ ar, (params.posonlyargs ++ params.args).head? = some ar ∧ ar.arg = ("self" : Str))
    (hcell : K.lookup cc = some ⟨cl, cld, .cell (some (.ref C)), csl⟩) (hcode : K.lookup cda = some ⟨ccl, cdd, .fields vs, ccs⟩) (hvs : vs[2]? = some (.str file tf)) (hfile : ((prog.main.file : Str) == file) = true)
    (htop : (prog.main.scope.names.lookup ("super" : Str)).isSome = false)
    (T : L2.OexC K C) (hsup : ks_superIn K C C "__init__" = some (some (.builtin "ValueError.__init__"))) (hop : nsIn K cStatics "thirdparty.any" = some none) (hB : subIn K (.ref C) (.type "ValueError") = some true) (hmr : mroIn K C (.ref C) = some true)
    (hks : scope.names.lookup ("super" : Str) = some .globalImplicit) (hkc : scope.names.lookup ("__class__" : Str) = some .free) (hka : scope.names.lookup ("self" : Str) = some .local) (hk : scope.kind = .function)
    (ns : s.heap.Ns L m) (hm : m "self" = some (.ref x)) (ox : s.heap.get? x = some (excO C t0)) (nx : K.lookup x = none)
    (q : ∀ h' t' t1, (∀ b o, b ≠ x → s.heap.get? b = some o → h'.get? b = some o) → h'.get? x = some (excO C t1) → Q .next { s with heap := h', toks := t' })
    {pl : Sem Bool} (he : eval (.Call (.Attribute (.Call (.Name "super" p0) [] [] p1) "__init__" p2) [.Constant (.str tx) k p3] [] p4) (ksEnv qual scope L fI (.ref cda) cc) = (do
      let ov ← attributeBase (.Call (.Name "super" p0) [] [] p1) "__init__" (ksEnv qual scope L fI (.ref cda) cc) (eval (.Call (.Name "super" p0) [] [] p1) (ksEnv qual scope L fI (.ref cda) cc))
      standAt p2.atName
      let (fx, first) ← holding [ov] (getMethod ov "__init__" pl)
      callWith p4 fx first (backTo p4 (starEach [.Constant (.str tx) k p3] (ksEnv qual scope L fI (.ref cda) cc))) [])) (hsw : swapsWith (.Call (.Attribute (.Call (.Name "super" p0) [] [] p1) "__init__" p2) [.Constant (.str tx) k p3] [] p4) none p5.line (ksEnv qual scope L fI (.ref cda) cc) = pure false) :
    PySem.wpAt (model prog w) A (.func body (ksEnv qual scope L fI (.ref cda) cc)) (exec (.Expr (.Call (.Attribute (.Call (.Name "super" p0) [] [] p1) "__init__" p2) [.Constant (.str tx) k p3] [] p4) p5) (ksEnv qual scope L fI (.ref cda) cc)) Q E s := by
  obtain ⟨nm, qq, N, bs, bm, sn, sub, ab, col, dd, k0, k1, k2, k3, k5, hC, hbm⟩ := T.cls
  have hcl : clsIn K C = some { name := nm, bases := bs, mro := .ref C :: bm, ns := N, qualname := qq, hasDict := true, slotNames := sn, subclasses := sub, abstract := ab, collection := col, hasDel := false } := by unfold clsIn; rw [hC] <;> rfl
  obtain ⟨ar, har, hara⟩ := hp1
  have hxC : x ≠ C := fun z => by
    rw [z, hC] at nx
    cases nx
  obtain ⟨hp, g, d, t, os⟩ := s
  have oC : hp.get? C = _ := X _ _ hC
  refine ks_wpAt_Expr_any (ks_wpAt_MethodCall ?_ he) (by simp [interactive, hk]) hsw
  refine ks_wpAt_super_base hks hkc (by decide +kernel) rfl (X _ _ hf) rfl har rfl (X _ _ hcode) rfl hvs hfile htop ?_
  refine ks_loadName_global hk hks (loadGlobal_builtin gl hsu bl ((hbb _ (by decide +kernel)).trans (by decide +kernel)) ⟨rfl, ?_⟩)
  refine wpAny_loadName_free hk hkc rfl ⟨_, X _ _ hcell, rfl⟩ ?_
  rw [hara]
  refine wpAny_loadName_local hk hka ns hm ?_
  refine ks_wpAny_isType_cls oC rfl ⟨rfl, ?_⟩
  refine ks_wpAny_call_super oC rfl ox rfl (fun c e => by cases e) (looks_mroIn X hmr) fun h1 e1 kp1 => ?_
  have X1 : K.In h1 := X.keeps kp1
  have I1 : InstAt h1 x (excO C t0) C none := ⟨kp1 _ _ ox, rfl, rfl, trivial⟩
  have al : alongIn K "__init__" (((Value.ref C :: bm).dropWhile (· != .ref C)).drop 1) = some (some (.builtin "ValueError.__init__")) := by
    have z := hsup
    unfold ks_superIn at z
    rw [hcl] at z
    exact z
  refine kxs_getMethod kxs_ValueError (K := K) e1 (looks_opaque X1 hop) ((looks_clsIn X1 hcl).andThen .now) rfl X1 al (I1.type.andThen (looks_subIn X1 hB)) hxC (by decide +kernel) ?_
  have kp2 : ∀ b o, hp.get? b = some o → (h1.push (kxs_mw "ValueError.__init__" x)).get? b = some o := fun b o e => Heap.get?_push_of_some _ (kp1 _ _ e)
  have ou : (h1.push (kxs_mw "ValueError.__init__" x)).get? h1.objs.size = some (kxs_mw "ValueError.__init__" x) := Heap.get?_push_at rfl rfl
  refine kxs_callWith (i := "ValueError.__init__") (x := x) rfl (evalArgs_plain ?_)
  refine spliced_cons (Constant_str (k := k) (pos := p3) (spliced_nil ⟨ou, ?_⟩))
  exact wrapCall PySem.F.excBase_ValueError (kp2 _ _ oC) (kp2 _ _ ox) ou (by show 1 ≤ sizeLine; decide) fun h' t1 kq ex => q h' _ t1 (fun b o hb e => kq b o hb (kp2 b o e)) ex
/-- the rows self.f = f -/
inductive Stores : List Str → List Stmt → Prop where
  | nil : Stores [] []
  | cons {f : Str} {q1 q2 q3 q4 : Pos} {fs : List Str} {b : List Stmt} (h : Stores fs b) : Stores (f :: fs) (.Assign [.Attribute (.Name "self" q1) f q2] (.Name f q3) q4 :: b)
/-- an exception at x of the class at C, made since h: what its attributes are -/
structure ExAt (h h' : Heap) (L x C : Addr) (fs : List (Str × Value)) : Prop where
  keep : ∀ b o, b ≠ x → h.get? b = some o → h'.get? b = some o
  some0 : fs = [] → ∃ t1, h'.get? x = some (excO C t1)
  some1 : fs ≠ [] → ∃ t1 dx m0, h'.get? x = some { cls := .ref C, dict := some dx, data := .fields #[.ref t1, .none, .none, .none, .bool false, .none] } ∧ L < dx ∧ dx ≠ x ∧ h'.Ns1 dx m0 ∧ (∀ y, m0 y = fs.lookup y) ∧ Within m0 (fs.map (·.1))
theorem lookup_cons2 {α : Type} (y f : Str) (v : α) (fs : List (Str × α)) : ((f, v) :: fs).lookup y = if y = f then some v else fs.lookup y := by
  by_cases e : y = f
  · rw [if_pos e, List.lookup_cons, show (y == f) = true from beq_iff_eq.mpr e]
  · rw [if_neg e, List.lookup_cons, show (y == f) = false from beq_eq_false_iff_ne.mpr e]
theorem storesRun {hb : Heap} {env : Env} {m : Str → Option Value} {Q : Flow → Shared → Prop} (T : L2.OexC K C) (hk : env.scope.kind = .function) (hself : env.kindOf "self" = some .local) (hm : m "self" = some (.ref x)) (nx : K.lookup x = none) (hxL : x ≠ env.locals) (hLs : hb.objs.size ≤ env.locals)
    (hxs : x < hb.objs.size) (hKb : K.In hb) : ∀ (todo : List (Str × Value)) (b : List Stmt) (old : List (Str × Value)) (s : Shared), Stores (todo.map (·.1)) b → old.length + todo.length ≤ 900 → (∀ p ∈ todo, env.kindOf p.1 = some .local ∧ (p.1 == ("__debug__" : Str)) = false ∧ m p.1 = some p.2 ∧ findIn K (.ref C) p.1 = some none) →
      K.In s.heap → s.heap.Ns env.locals m → ExAt hb s.heap env.locals x C old → (∀ h' t', ExAt hb h' env.locals x C (todo.reverse ++ old) → Q .next { s with heap := h', toks := t' }) → wpAny (model prog w) A (execs b env) Q E s
  | [], _, old, s, .nil, _, _, _, _, D, q => wpAny_execs_nil (q s.heap s.toks D)
  | (f, v) :: todo, _, old, s, .cons hS, hl, hp, X, ns, D, q => by
    obtain ⟨nm, qq, N, bs, bm, sn, sub, ab, col, dd, k0, k1, k2, k3, k5, hC, hbm⟩ := T.cls
    have hcl : clsIn K C = some { name := nm, bases := bs, mro := .ref C :: bm, ns := N, qualname := qq, hasDict := true, slotNames := sn, subclasses := sub, abstract := ab, collection := col, hasDel := false } := by unfold clsIn; rw [hC] <;> rfl
    obtain ⟨l1, l2, l3, l4⟩ := hp (f, v) List.mem_cons_self
    have go : ∀ h' t', K.In h' → h'.Ns env.locals m → ExAt hb h' env.locals x C ((f, v) :: old) → wpAny (model prog w) A (execs _ env) Q E { s with heap := h', toks := t' } := fun h' t' X' ns' D' =>
      storesRun T hk hself hm nx hxL hLs hxs hKb todo _ ((f, v) :: old) { s with heap := h', toks := t' } hS (by simp only [List.length_cons] at hl ⊢; omega) (fun p hp' => hp p (List.mem_cons_of_mem _ hp')) X' ns' D' fun h2 t2 D2 => q h2 t2 (by rw [List.reverse_cons, List.append_assoc]; exact D2)
    refine wpAny_execs_cons (plainObj_wpAny_Assign_Attribute ?_)
    refine wpAny_Name (wpAny_loadName_local hk l1 ns l3 ?_) l2
    refine wpAny_Name (wpAny_loadName_local hk hself ns hm ?_) (by decide)
    obtain ⟨h, g, d, t, os⟩ := s
    have keepK : ∀ h' : Heap, (∀ b o, b ≠ x → h.get? b = some o → h'.get? b = some o) → K.In h' := fun h' kp a o e => kp a o (fun z => by rw [z, nx] at e; cases e) (X a o e)
    have hlt := ns.lt
    cases old with
    | nil =>
      obtain ⟨t1, ho⟩ := D.some0 rfl
      refine set_plain X (ox := excO C t1) (od := none) ⟨ho, rfl, rfl, trivial⟩ T.sa ?_
      refine exc_osa X ho hcl (show refsVE (.ref C :: bm) = true from hbm) rfl l4 fun h' tk' dx kp dn dne hx hn => ?_
      obtain ⟨oL, eL, pL, e1, e2⟩ := ns
      have hbd : env.locals < dx := Nat.lt_of_lt_of_le hlt dn
      refine go h' tk' (keepK h' kp) ⟨oL, eL, pL, kp _ _ (Ne.symm hxL) e1, e2⟩ ⟨fun b o hbx e => kp b o hbx (D.keep b o hbx e), (fun z => nomatch z), fun _ => ⟨t1, dx, _, hx, hbd, dne, hn, fun y => ?_, ?_⟩⟩
      · rw [lookup_cons2] <;> rfl
      · exact .cons f v .nil
    | cons p old =>
      obtain ⟨t1, dx, m0, ho, dn, dne, hns, hmap, hw⟩ := D.some1 (by simp)
      obtain ⟨oD, _, _, hoD, _, _⟩ := hns.count hw
      refine set_plain X (ox := { cls := .ref C, dict := some dx, data := .fields #[.ref t1, .none, .none, .none, .bool false, .none] }) (od := some oD) ⟨ho, rfl, rfl, hoD⟩ T.sa ?_
      refine PySem.OEX.osa_old X ho hns hw (by simp only [List.length_map, List.length_cons] at hl ⊢; omega) hcl (show refsVE (.ref C :: bm) = true from hbm) rfl l4 fun h' tk' kp hn => ?_
      obtain ⟨oL, eL, pL, e1, e2⟩ := ns
      refine go h' tk' (fun a o e => ?_) ⟨oL, eL, pL, kp _ _ (Nat.ne_of_lt dn) e1, e2⟩ ⟨fun b o hbx e => kp b o (Nat.ne_of_lt (Nat.lt_of_lt_of_le (Heap.lt_size e) (Nat.le_trans hLs (Nat.le_of_lt dn)))) (D.keep b o hbx e), (fun z => nomatch z), fun _ => ⟨t1, dx, _, kp _ _ (Ne.symm dne) ho, dn, dne, hn, fun y => ?_, ?_⟩⟩
      · refine kp a o (fun z => ?_) (X a o e)
        have y := Heap.lt_size (hKb a o e)
        rw [z] at y
        exact absurd (Nat.lt_of_lt_of_le y (Nat.le_trans hLs (Nat.le_of_lt dn))) (Nat.lt_irrefl _)
      · rw [lookup_cons2, hmap]
      · exact .cons f v hw
/-- what the written part and the text say of C's own __init__ -/
structure IniK (prog : Program) (K : Frag) (C fI : Addr) (qual : Str) (params : Arguments) (body : List Stmt) (scope : Scope) (fs : List Str) : Prop where
  fn : ∃ oc od dV kV doc pm an cda ct osl cc cl cld csl ccl cdd ccs, ∃ (vs : Array Value) (file : Str) (tf : Tok), K.lookup fI = some ⟨oc, od, .func (ksFn "__init__" qual params body scope dV kV doc pm an (.ref cda) ct cc), osl⟩ ∧ codeIn K (.ref cda) qual = true ∧
    K.lookup cc = some ⟨cl, cld, .cell (some (.ref C)), csl⟩ ∧ K.lookup cda = some ⟨ccl, cdd, .fields vs, ccs⟩ ∧ vs[2]? = some (.str file tf) ∧ ((prog.main.file : Str) == file) = true
  sup : ks_superIn K C C "__init__" = some (some (.builtin "ValueError.__init__"))
  ini : findIn K (.ref C) "__init__" = some (some (.ref fI))
  ity : typeIn K (.ref fI) = some (.type "function")
  opa : nsIn K cStatics "thirdparty.any" = some none
  suB : subIn K (.ref C) (.type "ValueError") = some true
  suC : mroIn K C (.ref C) = some true
  par : (params.posonlyargs ++ params.args).head?.map (·.arg) = some "self"
  top : (prog.main.scope.names.lookup ("super" : Str)).isSome = false
  ssu : scope.names.lookup ("super" : Str) = some .globalImplicit
  scl : scope.names.lookup ("__class__" : Str) = some .free
  sse : scope.names.lookup ("self" : Str) = some .local
  kin : scope.kind = .function
  cel : ∀ y ∈ scope.names, y.2 ≠ .cell
  nco : scope.isCoroutine = false
  nge : scope.isGenerator = false
  fie : ∀ f ∈ fs, scope.names.lookup f = some .local ∧ (f == ("__debug__" : Str)) = false ∧ findIn K (.ref C) f = some none ∧ f ≠ "self"
  ndf : fs.Nodup
  bod : ∃ (p0 p1 p2 p3 p4 p5 : Pos) (k : Nat) (tx : Str) (b : List Stmt), body = .Expr (.Call (.Attribute (.Call (.Name "super" p0) [] [] p1) "__init__" p2) [.Constant (.str tx) k p3] [] p4) p5 :: b ∧ Stores fs b ∧
    ∀ (L fI' cda' cc' : Addr), ∃ pl, eval (.Call (.Attribute (.Call (.Name "super" p0) [] [] p1) "__init__" p2) [.Constant (.str tx) k p3] [] p4) (ksEnv qual scope L fI' (.ref cda') cc') = (do
      let ov ← attributeBase (.Call (.Name "super" p0) [] [] p1) "__init__" (ksEnv qual scope L fI' (.ref cda') cc') (eval (.Call (.Name "super" p0) [] [] p1) (ksEnv qual scope L fI' (.ref cda') cc'))
      standAt p2.atName
      let (fx, first) ← holding [ov] (getMethod ov "__init__" pl)
      callWith p4 fx first (backTo p4 (starEach [.Constant (.str tx) k p3] (ksEnv qual scope L fI' (.ref cda') cc'))) []) ∧ swapsWith (.Call (.Attribute (.Call (.Name "super" p0) [] [] p1) "__init__" p2) [.Constant (.str tx) k p3] [] p4) none p5.line (ksEnv qual scope L fI' (.ref cda') cc') = pure false
theorem lookup_nd {α : Type} : ∀ {l : List (Str × α)} {f : Str} {v : α}, (l.map (·.1)).Nodup → (f, v) ∈ l → l.lookup f = some v
  | [], _, _, _, h => nomatch h
  | (f', v') :: l, f, v, nd, h => by
    rw [lookup_cons2]
    rcases List.mem_cons.mp h with e | h
    · cases e
      rw [if_pos rfl]
    · have nd' := List.nodup_cons.mp nd
      by_cases e : f = f'
      · exact absurd (List.mem_map.mpr ⟨(f, v), h, e⟩) nd'.1
      · rw [if_neg e]
        exact lookup_nd nd'.2 h
theorem zip_fst : ∀ {fs : List Str} {us : List Value}, us.length = fs.length → (fs.zip us).map (·.1) = fs
  | [], [], _ => rfl
  | f :: fs, u :: us, h => by
    have z : us.length = fs.length := Nat.succ.inj h
    simp only [List.zip_cons_cons, List.map_cons, zip_fst z]
theorem initE {fs : List Str} {us : List Value} {args : Args} (J : IniK prog K C fI qual params body scope fs) (T : L2.OexC K C) (X : K.In s.heap) (gl : s.heap.Ns mainGlobals mg) (bl : s.heap.Ns builtinsNs mb) (hbb : ∀ y : Str, y ≠ "__name__" → mb y = bootBuiltins y) (hsu : mg "super" = none)
    (hlim : s.heap.NoLimit) (hroom : A.depth < recursionLimit) (hus : us.length = fs.length) (hfl : fs.length ≤ 900)
    (hbind : ∀ fd : FuncData, (∃ oc od osl, K.lookup fI = some ⟨oc, od, .func fd, osl⟩) → BindsTo s fd args (("self", .ref x) :: fs.zip us)) (ox : s.heap.get? x = some (excO C t0)) (nx : K.lookup x = none)
    (q : ∀ h' t', ExAt s.heap h' s.heap.objs.size x C (fs.zip us).reverse → R (.ok (.ret .none)) { s with heap := h', toks := t' }) : codeAny (model prog w) A (.call (.ref fI) args) R s := by
  obtain ⟨oc, od, dV, kV, doc, pm, an, cda, ct, osl, cc, cl, cld, csl, ccl, cdd, ccs, vs, file, tf, hf, hcd, hcell, hcode, hvs, hfile⟩ := J.fn
  obtain ⟨p0, p1, p2, p3, p4, p5, k, tx, b, rfl, hS, hev⟩ := J.bod
  refine ks_codeAny_call_defAt hroom (X _ _ hf) rfl hlim (codeRec_of X hcd) rfl (hbind _ ⟨_, _, _, hf⟩) J.cel (fun y hy => ?_) (fun h1 hn kp => ?_) J.nco J.nge J.kin
  · rcases List.mem_cons.mp hy with rfl | hy
    · exact J.sse
    · exact (J.fie y.1 (List.of_mem_zip hy).1).1
  · obtain ⟨pl, he, hsw⟩ := hev s.heap.objs.size fI cda cc
    have par : ∃ ar, (params.posonlyargs ++ params.args).head? = some ar ∧ ar.arg = ("self" : Str) := by
      cases z : (params.posonlyargs ++ params.args).head? with
      | none => have y := J.par; rw [z] at y; cases y
      | some ar => have y := J.par; rw [z] at y; exact ⟨ar, rfl, Option.some.inj y⟩
    have hxL : x ≠ s.heap.objs.size := Nat.ne_of_lt (Heap.lt_size ox)
    have zf := zip_fst hus
    have nd : (((("self", Value.ref x) :: fs.zip us) : List (Str × Value)).reverse.map (·.1)).Nodup := by
      rw [List.map_reverse, List.map_cons, zf]
      refine (List.reverse_perm _).nodup_iff.mpr ?_
      exact List.nodup_cons.mpr ⟨fun z => (J.fie _ z).2.2.2 rfl, J.ndf⟩
    have mm : ∀ p ∈ ((("self", Value.ref x) :: fs.zip us) : List (Str × Value)), ((("self", Value.ref x) :: fs.zip us) : List (Str × Value)).reverse.lookup p.1 = some p.2 := fun p hp => lookup_nd nd (List.mem_reverse.mpr hp)
    refine ks_wpAt_execs_cons (superPart (X.keeps kp) (gl.keeps kp) (bl.keeps kp) hbb hsu hf par hcell hcode hvs hfile J.top T J.sup J.opa J.suB J.suC J.ssu J.scl J.sse J.kin hn (mm _ List.mem_cons_self) (kp _ _ ox) nx (fun h2 t2 t1 kp2 ex => ?_) he hsw)
    have kp3 : ∀ b o, b ≠ x → s.heap.get? b = some o → h2.get? b = some o := fun b o hb e => kp2 b o hb (kp b o e)
    obtain ⟨oL, eL, pL, e1, e2⟩ := hn
    refine PySem.wpAt_of_wpAny (storesRun (hb := s.heap) (env := ksEnv qual scope s.heap.objs.size fI (.ref cda) cc) T J.kin J.sse (mm _ List.mem_cons_self) nx hxL (Nat.le_refl _) (Heap.lt_size ox) X (fs.zip us) b [] _ (by rw [zf]; exact hS) (by have z := congrArg List.length zf; rw [List.length_map] at z; show 0 + _ ≤ 900; omega) (fun p hp => ?_) (fun a o e => kp3 a o (fun z => by rw [z, nx] at e; cases e) (X a o e)) ⟨oL, eL, pL, kp2 _ _ (Ne.symm hxL) e1, e2⟩ ⟨kp3, fun _ => ⟨t1, ex⟩, fun z => absurd rfl z⟩ fun h' t' D => ?_)
    · have y := J.fie p.1 (List.of_mem_zip hp).1
      exact ⟨y.1, y.2.1, mm p (List.mem_cons_of_mem _ hp), y.2.2.1⟩
    · rw [List.append_nil] at D
      exact q h' t' D
end
end XI

namespace XI
open PySem PySem.Spec PyProof.Rows L2
/-- the abstract heap behind C(..): the new exception at a, its own dict at d -/
def mkH (H : Hp) (a d C : Addr) : List (Str × V) → Hp
  | [] => upd H a (exo a C none)
  | p :: fl => upd (upd H d (exd d (p :: fl))) a (exo a C (some d))
theorem mkH_ne {H : Hp} {a d C b : Addr} : ∀ {fl : List (Str × V)}, b ≠ a → b ≠ d → mkH H a d C fl b = H b
  | [], h, _ => upd_ne h
  | _ :: _, h, h2 => (upd_ne h).trans (upd_ne h2)
theorem same_mk {H : Hp} {a d C : Addr} {fl : List (Str × V)} (ha : H a = none) (hd : H d = none) : Same H (mkH H a d C fl) := fun b o e => by
  rw [mkH_ne (ne_of_none e ha) (ne_of_none e hd)]
  exact e
theorem relO_zip {fs : List Str} : ∀ {vs : List V} {us : List Value}, Vals vs us → ∀ y, RelO ((fs.zip vs).reverse.lookup y) ((fs.zip us).reverse.lookup y) := by
  have key : ∀ (fs : List Str) (vs : List V) (us : List Value) (al : List (Str × V)) (bl : List (Str × Value)), Vals vs us → (∀ y, RelO (al.lookup y) (bl.lookup y)) → ∀ y, RelO (((fs.zip vs).reverse ++ al).lookup y) (((fs.zip us).reverse ++ bl).lookup y) := by
    intro fs
    induction fs with
    | nil => intro vs us al bl _ h y; exact h y
    | cons f fs ih =>
      intro vs us al bl r h y
      cases r with
      | nil => exact h y
      | cons rv rr =>
        simp only [List.zip_cons_cons, List.reverse_cons, List.append_assoc, List.singleton_append]
        refine ih _ _ _ _ rr (fun z => ?_) y
        rw [lookup_cons2, lookup_cons2]
        by_cases e : z = f
        · rw [if_pos e, if_pos e]; exact rv
        · rw [if_neg e, if_neg e]; exact h z
  intro vs us r y
  have z := key fs vs us [] [] r (fun _ => True.intro) y
  rw [List.append_nil, List.append_nil] at z
  exact z
theorem n21 (n : Nat) : n + 2 ≠ n + 1 := by omega
theorem n12 (n : Nat) : n + 1 ≤ n + 2 := by omega
theorem nlt {n m : Nat} (h : n + 2 < m) : n ≤ m := by omega
theorem nlt1 {n m : Nat} (h : n + 2 < m) : n + 1 ≤ m := by omega
section
variable {X : Cx} {pins : List (Addr × Obj)} {σ : L2.St} {H : Hp} {s : Shared} {C fI : Addr} {qual : Str} {params : Arguments} {body : List Stmt} {scope : Scope} {fs : List Str}
/-- C(us, ks = ws): what the parameters but self hold is vals -/
theorem mkE {us ws vals : List Value} {vs : List V} {ks : List Str} {Q : VK} {E : Value → Shared → Prop} (J : IniK X.prog X.K C fI qual params body scope fs) (T : OexC X.K C) (hsu : X.mg "super" = none) (hr : Room 1 X.A) (I : Inv X pins σ H s)
    (hl : us.length ≤ sizeLine) (r : Vals vs vals) (hv : vals.length = fs.length) (hfl : fs.length ≤ 900)
    (hbind : ∀ (s : Shared) (y : Value) (fd : FuncData), (∃ oc od osl, X.K.lookup fI = some ⟨oc, od, .func fd, osl⟩) → BindsTo s fd ⟨y :: us, ks.zip ws⟩ (("self", y) :: fs.zip vals))
    (q : ∀ a d, H a = none → H d = none → d ≠ a → Q (.ref a) (mkH H a d C (fs.zip vs).reverse)) : wpAny (model X.prog X.w) X.A (call (.ref C) us (ks.zip ws)) (EP X pins σ Q) E s := by
  obtain ⟨nm, qq, N, bs, bm, sn, sub, ab, col, dd, k0, k1, k2, k3, k5, hC, hbm⟩ := T.cls
  obtain ⟨hp, g, dr, tk, os⟩ := s
  have X0 := I.kIn
  have kp : ∀ b o, hp.get? b = some o → (two hp C us).get? b = some o := fun b o e => Heap.get?_push_of_some _ (Heap.get?_push_of_some _ e)
  have hsz : (two hp C us).objs.size = hp.objs.size + 2 := by rw [Heap.size_push, Heap.size_push]
  have hget : (two hp C us).get? (hp.objs.size + 1) = some (PySem.HandSPX.excO C hp.objs.size) := by heap_get
  have nx : X.K.lookup (hp.objs.size + 1) = none := by
    cases e : X.K.lookup (hp.objs.size + 1) with
    | none => rfl
    | some o => exact absurd (Nat.lt_of_succ_lt (Heap.lt_size (X0 _ _ e))) (Nat.lt_irrefl _)
  obtain ⟨mb, hb1, hb2⟩ := I.mod.blt
  have hn : H (hp.objs.size + 1) = none := I.hok.fresh (Nat.le_succ _)
  refine wpAny_call (callE PySem.F.excBase_ValueError (fun Y => PySem.HandSPX.refsVE_contains Y bm hbm) (X0 _ _ hC) (PySem.W.looks_findIn X0 J.ini) (fun self => PySem.W.bind_fn X0 self J.ity) hl
    (initE (s := ⟨two hp C us, g, dr, tk, os⟩) J T (X0.keeps kp) ((I.mod.glob.keeps I.bk).keeps kp) ((hb1.keeps I.bk).keeps kp) hb2 hsu (I.nolimit.keeps kp) (by have := hr.dp; show X.A.depth + 1 < _; omega) hv hfl (fun fd hfd => hbind _ _ fd hfd) hget nx fun h' t' D => ⟨rfl, ?_⟩))
  have K2 : ∀ b o, hp.get? b = some o → h'.get? b = some o := fun b o e => D.keep b o (Nat.ne_of_lt (Nat.lt_succ_of_lt (Heap.lt_size e))) (kp b o e)
  have neb : ∀ {b : Addr} {o : Obj}, hp.get? b = some o → b ≠ hp.objs.size + 1 := fun e => Nat.ne_of_lt (Nat.lt_succ_of_lt (Heap.lt_size e))
  have rel := relO_zip (fs := fs) r
  have done : ∀ (d : Addr) (H' : Hp), d ≠ hp.objs.size + 1 → H d = none → hp.objs.size + 1 ≤ d → (∀ b, b ≠ hp.objs.size + 1 → b ≠ d → H' b = H b) → HOk X.prog X.w H' h' → Q (.ref (hp.objs.size + 1)) H' →
      EP X pins σ Q (.ref (hp.objs.size + 1)) ⟨h', g, dr, t', os⟩ := fun d H' _ hd hdl hH hok q' => by
    have ned : ∀ {b : Addr} {o : Obj}, hp.get? b = some o → b ≠ d := fun e => Nat.ne_of_lt (Nat.lt_of_lt_of_le (Nat.lt_succ_of_lt (Heap.lt_size e)) hdl)
    have st : ∀ b o, H b = some o → H' b = some o := fun b o e => by
      rw [hH b (ne_of_none e hn) (ne_of_none e hd)]
      exact e
    refine ⟨.ref (hp.objs.size + 1), H', I.un (t' := t') (h' := h') ⟨fun b o e _ _ _ => K2 b o e, fun b o e _ _ _ => ⟨o.slots, K2 b o e⟩, fun b o e n _ => ?_, fun b o e _ => ⟨o, K2 b o e⟩, fun b xs e => st _ _ e, fun b o u e => st _ _ e, fun b ps e => ⟨#[], by rw [st _ _ e]; simp⟩⟩ hok, rfl, q'⟩
    rw [hH b (neb e) (ned e)]
    exact n
  have old : ∀ (H' : Hp), (∀ b o, H b = some o → H' b = some o) → ∀ b o, H b = some o → ObjOk X.prog X.w H' h' b o := fun H' st b o e =>
    (I.hok b o e).stay (fun c v _ z => K2 c v z) (fun c z => st _ _ z) fun c xs z => st _ _ z
  by_cases hfs : fs = []
  · subst hfs
    obtain ⟨t1, ho⟩ := D.some0 rfl
    have hd : H (hp.objs.size + 2) = none := I.hok.fresh (Nat.le_add_right _ 2)
    have q' := q (hp.objs.size + 1) (hp.objs.size + 2) hn hd (n21 _)
    have e0 : mkH H (hp.objs.size + 1) (hp.objs.size + 2) C (([] : List Str).zip vs).reverse = upd H (hp.objs.size + 1) (exo (hp.objs.size + 1) C none) := rfl
    rw [e0] at q'
    refine done (hp.objs.size + 2) _ (n21 _) hd (n12 _) (fun b h1 _ => upd_ne h1) (fun b o e => ?_) q'
    by_cases hb : b = hp.objs.size + 1
    · subst hb
      rw [upd_same] at e
      cases e
      exact exo_ok ho
    · rw [upd_ne hb] at e
      exact old _ (fun c u z => by rw [upd_ne (ne_of_none z hn)]; exact z) b o e
  · have hne : (fs.zip vals).reverse ≠ [] := fun z => by
      have z2 := congrArg List.length z
      rw [List.length_reverse, List.length_zip, hv, Nat.min_self] at z2
      exact hfs (List.length_eq_zero_iff.mp z2)
    obtain ⟨t1, dx, m0, ho, dn, dne, hns, hmap, hw⟩ := D.some1 hne
    have dn' : hp.objs.size + 2 < dx := by rw [← hsz]; exact dn
    have hd : H dx = none := I.hok.fresh (nlt dn')
    have q' := q (hp.objs.size + 1) dx hn hd dne
    have rel' : ∀ f, RelO ((fs.zip vs).reverse.lookup f) (m0 f) := fun f => by rw [hmap]; exact rel f
    cases hfl2 : (fs.zip vs).reverse with
    | nil =>
      have z2 := congrArg List.length hfl2
      rw [List.length_reverse, List.length_zip, r.length, hv, Nat.min_self] at z2
      exact absurd (List.length_eq_zero_iff.mp z2) hfs
    | cons p fl =>
      rw [hfl2] at q' rel'
      refine done dx _ dne hd (nlt1 dn') (fun b h1 h2 => (upd_ne h1).trans (upd_ne h2)) (fun b o e => ?_) q'
      by_cases hb : b = hp.objs.size + 1
      · subst hb
        have e' := upd_same.symm.trans e
        cases e'
        exact exo_ok ho
      · have e' := (upd_ne hb).symm.trans e
        by_cases hb2 : b = dx
        · subst hb2
          have e2 := upd_same.symm.trans e'
          cases e2
          exact exd_ok hns rel'
        · have e2 := (upd_ne hb2).symm.trans e'
          exact old _ (fun c u z => by
            show upd (upd H dx _) _ _ c = _
            rw [upd_ne (ne_of_none z hn), upd_ne (ne_of_none z hd)]
            exact z) b o e2
end
end XI

namespace XI
open PySem PySem.Spec PyProof.Rows L2
/-- an own exception class under its name, with the parameters fs of its __init__ (all stored) -/
structure EC (prog : Program) (K : PySem.W.Frag) (mg : Str → Option Value) (x : Str) (C : Addr) (fs : List Str) : Prop where
  ini : ∃ fI qual params body scope, IniK prog K C fI qual params body scope fs ∧
    (∀ (s : Shared) (y : Value) (fd : FuncData), (∃ oc od osl, K.lookup fI = some ⟨oc, od, .func fd, osl⟩) → ∀ us : List Value, us.length = fs.length → BindsTo s fd ⟨y :: us, []⟩ (("self", y) :: fs.zip us)) ∧
    ∀ (s : Shared) (y : Value) (fd : FuncData), (∃ oc od osl, K.lookup fI = some ⟨oc, od, .func fd, osl⟩) → ∀ (ks : List Str) (ws us : List Value), ks.length = ws.length → (ks.zip ws).Perm (fs.zip us) → us.length = fs.length → ks.length = fs.length → BindsTo s fd ⟨[y], ks.zip ws⟩ (("self", y) :: fs.zip us)
  oex : OexC K C
  gC : mg x = some (.ref C)
  su : mg "super" = none
  is : ExcC K C
  fl : fs.length ≤ 900
def tMkP (C : Addr) (fs : List Str) (t : TA) : TE := fun σ H Q => t σ H fun vs H1 => vs.length = fs.length ∧ ∀ a d, H1 a = none → H1 d = none → d ≠ a → Q (.ref a) (mkH H1 a d C (fs.zip vs).reverse)
def tMkK (C : Addr) (fs : List Str) (g : List V → List V) (t : TA) : TE := fun σ H Q => t σ H fun ws H1 => ∀ a d, H1 a = none → H1 d = none → d ≠ a → Q (.ref a) (mkH H1 a d C (fs.zip (g ws)).reverse)
section
variable {X : Cx} {x : Str} {C : Addr} {fs : List Str} {e : Expr} {es : List Expr} {kws : List Keyword} {t : TA} {te : TE} {p pos : Pos}
theorem lenOk {vs : List V} {us : List Value} {n : Nat} (r : Vals vs us) (h : vs.length = n) (hn : n ≤ 900) : us.length ≤ sizeLine := by
  rw [← r.length, h, sizeLine_eq]
  omega
theorem pe_excP (c : EC X.prog X.K X.mg x C fs) (hr : Room 1 X.A) (hg : Gl X x) (ha : PA X (e :: es) t) (hdb : (x == ("__debug__" : Str)) = false := by decide)
    (he : starEach (e :: es) X.env = (false, eval e X.env) :: starEach es X.env := by rfl) (hpl : (backTo pos (starEach es X.env)).any (·.1) = false := by rfl) : PE X (.Call (.Name x p) (e :: es) [] pos) (tMkP C fs t) := by
  obtain ⟨fI, qual, params, body, scope, J, b1, _⟩ := c.ini
  refine ⟨fun pins s σ H Q I h => ?_⟩
  refine wpAny_Call_Name_kw (ld_glob I hg c.gC ?_ hdb)
  refine PySem.W.callWith_K (h₀ := X.base) I.ok.mod.kin c.oex.kC (thn (ha.run pos pins s σ H _ I h) fun us s1 ⟨vs, H1, I1, r, hl, q⟩ => ⟨I1.kIn, ?_⟩) he hpl
  exact mkE (ks := []) (ws := []) J c.oex c.su hr I1 (lenOk r hl c.fl) r (r.length.symm.trans hl) c.fl (fun s y fd hf => b1 s y fd hf us (r.length.symm.trans hl)) q
theorem pe_exc0 (c : EC X.prog X.K X.mg x C []) (hr : Room 1 X.A) (hg : Gl X x) (hdb : (x == ("__debug__" : Str)) = false := by decide) : PE X (.Call (.Name x p) [] [] pos) (tMkP C [] tNil) := by
  obtain ⟨fI, qual, params, body, scope, J, b1, _⟩ := c.ini
  refine ⟨fun pins s σ H Q I h => ?_⟩
  refine wpAny_Call_Name_kw (ld_glob I hg c.gC ?_ hdb)
  refine PySem.W.callWith_K0 I.kIn c.oex.kC ?_
  exact mkE (ks := []) (ws := []) (us := []) (vs := []) (vals := []) J c.oex c.su hr I (Nat.zero_le _) .nil rfl (Nat.zero_le _) (fun s y fd hf => b1 s y fd hf [] rfl) h.2
theorem pe_excK {ks : List Str} {g : List V → List V} {gu : List Value → List Value} (c : EC X.prog X.K X.mg x C fs) (hr : Room 1 X.A) (hg : Gl X x) (hk : PK X kws t) (hall : (backToKw pos (keywordEach kws X.env)).all (·.1.isSome) = true := by rfl)
    (hks : (backToKw pos (keywordEach kws X.env)).filterMap (·.1) = ks := by rfl) (hkl : ks.length = fs.length := by rfl)
    (hgu : ∀ (vs : List V) (us : List Value), Vals vs us → us.length = fs.length → Vals (g vs) (gu us) ∧ (gu us).length = fs.length ∧ (ks.zip us).Perm (fs.zip (gu us))) (hdb : (x == ("__debug__" : Str)) = false := by decide)
    (hpl : ((backTo pos (starEach [] X.env)).any (·.1) || (backToKw pos (keywordEach kws X.env)).any (·.1.isNone)) = false := by rfl) :
    PE X (.Call (.Name x p) [] kws pos) (fun σ H Q => t σ H fun ws H1 => ws.length = fs.length ∧ ∀ a d, H1 a = none → H1 d = none → d ≠ a → Q (.ref a) (mkH H1 a d C (fs.zip (g ws)).reverse)) := by
  obtain ⟨fI, qual, params, body, scope, J, _, b2⟩ := c.ini
  refine ⟨fun pins s σ H Q I h => ?_⟩
  refine wpAny_Call_Name_kw (ld_glob I hg c.gC ?_ hdb)
  refine PySem.W.callWith_KW0 (h₀ := X.base) I.ok.mod.kin c.oex.kC hall (thn (hk.run pos pins s σ H _ I h) fun ws s1 ⟨vs, H1, I1, r, hl, q⟩ => ⟨I1.kIn, ?_⟩) hpl
  rw [hks]
  have e1 : ws.length = fs.length := r.length.symm.trans hl
  obtain ⟨r2, l2, pm⟩ := hgu vs ws r e1
  exact mkE (us := []) J c.oex c.su hr I1 (Nat.zero_le _) r2 l2 c.fl (fun s y fd hf => b2 s y fd hf ks ws (gu ws) (hkl.trans e1.symm) pm l2 hkl) q
/-- e.f, e an exception that was made -/
def tExf (K : PySem.W.Frag) (f : Str) (te : TE) : TE := fun σ H Q => te σ H fun y H1 => ∃ a C d fl v, y = .ref a ∧ H1 a = some (exo a C (some d)) ∧ H1 d = some (exd d fl) ∧ ExcC K C ∧ PySem.W.findIn K (.ref C) f = some none ∧ fl.lookup f = some v ∧ Q v H1
theorem inst_exo {pins : List (Addr × Obj)} {σ : L2.St} {H : Hp} {s : Shared} {a d : Addr} {fl : List (Str × V)} (I : Inv X pins σ H s) (ha : H a = some (exo a C (some d))) (hd : H d = some (exd d fl)) :
    ∃ (ox od : Obj) (mA : Str → Option Value), PySem.W.InstAt s.heap a ox C (some od) ∧ (∀ f, PySem.W.lookIn f od = some (mA f)) ∧ ∀ f, RelO (fl.lookup f) (mA f) := by
  obtain ⟨t1, ho⟩ := exo_at I.hok ha
  obtain ⟨mA, hns, rel⟩ := exd_at I.hok hd
  obtain ⟨od, e, hl⟩ := lookIn_ns hns
  exact ⟨_, od, mA, ⟨ho, rfl, rfl, e⟩, hl, rel⟩
theorem pe_exf {f : Str} (he : PE X e te) (hb : attributeBase e f X.env (eval e X.env) = eval e X.env := by rfl) : PE X (.Attribute e f pos) (tExf X.K f te) := by
  refine ⟨fun pins s σ H Q I h => ?_⟩
  refine attr_of hb (thn (he.run pins s σ H _ I h) fun u s1 hh => ?_)
  obtain ⟨y, H1, I1, ry, a, C, d, fl, v, rfl, ea, ed, T, hno, hv, q⟩ := hh
  obtain rfl : u = Value.ref a := ry
  obtain ⟨ox, od, mA, J, hl, rel⟩ := inst_exo I1 ea ed
  obtain ⟨u, hu, ru⟩ := RelO.some_of (v := v) (o := mA f) (by rw [← hv]; exact rel f)
  exact HandSPX.exc_get I1.kIn J T.hg T.hk T.hs (PySem.W.findObj_own T.hd hno rfl (by rw [hl, hu])) (handed_of ru) ⟨v, H1, I1.tok _, ru, q⟩
/-- isinstance(e, c), e an exception that was made -/
def rIsX (K : PySem.W.Frag) : List V → Hp → VK → Prop := fun xs H Q => ∃ (a C : Addr) (c : V) (u : Value) (b : Bool), xs = [.ref a, c] ∧ ClsV c u ∧ (H a = some (exo a C none) ∨ ∃ d fl, H a = some (exo a C (some d)) ∧ H d = some (exd d fl)) ∧ ExcC K C ∧ PySem.W.kitOne K (.ref C) u = some b ∧ Q (.bl b) H
theorem call_isX : CallR X (.builtin "isinstance") (rIsX X.K) := by
  intro pins s σ H xs us Q I r h
  obtain ⟨a, C, c, u, b, rfl, hc, hE, T, hk, q⟩ := h
  obtain ⟨u1, u2, rfl, r1, r2⟩ := vals2 r
  obtain rfl : u1 = Value.ref a := r1
  have e2 := hc.eq r2
  subst e2
  have cl : (PySem.W.clsIn X.K C).isSome = true := by
    obtain ⟨cd, h1, _⟩ := PySem.W.any_some T.hd
    rw [h1] <;> rfl
  have fin : ∀ {ox : Obj} {od : Option Obj}, PySem.W.InstAt s.heap a ox C od → wpAny (model X.prog X.w) X.A (call (.builtin "isinstance") [.ref a, u2]) (EP X pins σ Q) X.xe s := fun J =>
    PySem.W.kia_one (PySem.W.kitx_exc cl T.hg T.hk T.hs T.ha T.hn T.ht T.hm) I.kIn J hk (fun z => nomatch z) fun tk => ⟨.bl b, H, I.tok tk, rfl, q⟩
  rcases hE with ea | ⟨d, fl, ea, ed⟩
  · obtain ⟨t1, ho⟩ := exo_at I.hok ea
    exact fin (od := none) ⟨ho, rfl, rfl, trivial⟩
  · obtain ⟨ox, od, mA, J, _, _⟩ := inst_exo I ea ed
    exact fin J
end
end XI

namespace XI
open PySem PySem.Spec PyProof.Rows L2
/-- what stands of an exception's fields behind its making: nothing, or its own dict at d -/
def dH (H : Hp) (d : Addr) : List (Str × V) → Hp
  | [] => H
  | p :: fl => upd H d (.xd (p :: fl))
def dO (d : Addr) : List (Str × V) → Option Addr
  | [] => none
  | _ :: _ => some d
section
variable {X : Cx} {pins : List (Addr × Obj)} {σ : L2.St} {H : Hp} {s : Shared} {C fI : Addr} {qual : Str} {params : Arguments} {body : List Stmt} {scope : Scope} {fs : List Str}
/-- the making of an exception that is let go at once (to be raised) -/
theorem mkM {us ws vals : List Value} {vs : List V} {ks : List Str} {Q : XK} {E : Value → Shared → Prop} (J : IniK X.prog X.K C fI qual params body scope fs) (T : OexC X.K C) (hsu : X.mg "super" = none) (hr : Room 1 X.A) (I : Inv X pins σ H s)
    (hl : us.length ≤ sizeLine) (r : Vals vs vals) (hv : vals.length = fs.length) (hfl : fs.length ≤ 900)
    (hbind : ∀ (s : Shared) (y : Value) (fd : FuncData), (∃ oc od osl, X.K.lookup fI = some ⟨oc, od, .func fd, osl⟩) → BindsTo s fd ⟨y :: us, ks.zip ws⟩ (("self", y) :: fs.zip vals))
    (q : ∀ d, H d = none → Q (.ref C) (dO d (fs.zip vs).reverse) (dH H d (fs.zip vs).reverse)) : wpAny (model X.prog X.w) X.A (call (.ref C) us (ks.zip ws)) (MkP X pins σ Q) E s := by
  obtain ⟨nm, qq, N, bs, bm, sn, sub, ab, col, dd, k0, k1, k2, k3, k5, hC, hbm⟩ := T.cls
  obtain ⟨hp, g, dr, tk, os⟩ := s
  have X0 := I.kIn
  have kp : ∀ b o, hp.get? b = some o → (two hp C us).get? b = some o := fun b o e => Heap.get?_push_of_some _ (Heap.get?_push_of_some _ e)
  have hsz : (two hp C us).objs.size = hp.objs.size + 2 := by rw [Heap.size_push, Heap.size_push]
  have hget : (two hp C us).get? (hp.objs.size + 1) = some (PySem.HandSPX.excO C hp.objs.size) := by heap_get
  have nx : X.K.lookup (hp.objs.size + 1) = none := by
    cases e : X.K.lookup (hp.objs.size + 1) with
    | none => rfl
    | some o => exact absurd (Nat.lt_of_succ_lt (Heap.lt_size (X0 _ _ e))) (Nat.lt_irrefl _)
  obtain ⟨mb, hb1, hb2⟩ := I.mod.blt
  have hn : H (hp.objs.size + 1) = none := I.hok.fresh (Nat.le_succ _)
  refine wpAny_call (callE PySem.F.excBase_ValueError (fun Y => PySem.HandSPX.refsVE_contains Y bm hbm) (X0 _ _ hC) (PySem.W.looks_findIn X0 J.ini) (fun self => PySem.W.bind_fn X0 self J.ity) hl
    (initE (s := ⟨two hp C us, g, dr, tk, os⟩) J T (X0.keeps kp) ((I.mod.glob.keeps I.bk).keeps kp) ((hb1.keeps I.bk).keeps kp) hb2 hsu (I.nolimit.keeps kp) (by have := hr.dp; show X.A.depth + 1 < _; omega) hv hfl (fun fd hfd => hbind _ _ fd hfd) hget nx fun h' t' D => ⟨rfl, ?_⟩))
  have K2 : ∀ b o, hp.get? b = some o → h'.get? b = some o := fun b o e => D.keep b o (Nat.ne_of_lt (Nat.lt_succ_of_lt (Heap.lt_size e))) (kp b o e)
  have neb : ∀ {b : Addr} {o : Obj}, hp.get? b = some o → b ≠ hp.objs.size + 1 := fun e => Nat.ne_of_lt (Nat.lt_succ_of_lt (Heap.lt_size e))
  have rel := relO_zip (fs := fs) r
  obtain ⟨G, gk', gn'⟩ := restrict h' fun b => decide (b ≠ hp.objs.size + 1)
  have gk : ∀ b, b ≠ hp.objs.size + 1 → G.get? b = h'.get? b := fun b hb => gk' b (decide_eq_true hb)
  have ge : G.get? (hp.objs.size + 1) = none := gn' _ (by simp)
  have K3 : ∀ b o, hp.get? b = some o → G.get? b = some o := fun b o e => (gk b (neb e)).trans (K2 b o e)
  have sub : ∀ b o, G.get? b = some o → h'.get? b = some o := fun b o z => by
    by_cases hb : b = hp.objs.size + 1
    · rw [hb, ge] at z
      cases z
    · exact (gk b hb).symm.trans z
  have done : ∀ (d : Addr) (H' : Hp) (od : Option Addr) (tu : Addr), d ≠ hp.objs.size + 1 → H d = none → hp.objs.size + 1 ≤ d → (∀ b, b ≠ d → H' b = H b) → HOk X.prog X.w H' G → h'.get? (hp.objs.size + 1) = some ({ cls := .ref C, dict := od, data := .fields #[.ref tu, .none, .none, .none, .bool false, .none] } : Obj) → Q (.ref C) od H' →
      MkP X pins σ Q (.ref (hp.objs.size + 1)) ⟨h', g, dr, t', os⟩ := fun d H' od tu nd hd hdl hH hok ha q' => by
    have ned : ∀ {b : Addr} {o : Obj}, hp.get? b = some o → b ≠ d := fun e => Nat.ne_of_lt (Nat.lt_of_lt_of_le (Nat.lt_succ_of_lt (Heap.lt_size e)) hdl)
    have st : ∀ b o, H b = some o → H' b = some o := fun b o e => by
      rw [hH b (ne_of_none e hd)]
      exact e
    have J1 : Inv X pins σ H' ⟨G, g, dr, t', os⟩ := I.un (t' := t') (h' := G) ⟨fun b o e _ _ _ => K3 b o e, fun b o e _ _ _ => ⟨o.slots, K3 b o e⟩, fun b o e n _ => by rw [hH b (ned e)]; exact n, fun b o e _ => ⟨o, K3 b o e⟩, fun b xs e => st _ _ e, fun b o u e => st _ _ e, fun b ps e => ⟨#[], by rw [st _ _ e]; simp⟩⟩ hok
    refine ⟨hp.objs.size + 1, _, _, ⟨G, g, dr, t', os⟩, H', .ref C, od, rfl, J1, sub, ge, ha, ⟨rfl, rfl⟩, rfl, rfl, ?_, rfl, J1.bare, raises_own T.exC T.tyC, q'⟩
    rw [hH _ nd.symm]
    exact hn
  have old : ∀ (H' : Hp), (∀ b o, H b = some o → H' b = some o) → ∀ b o, H b = some o → ObjOk X.prog X.w H' G b o := fun H' st b o e =>
    (I.hok b o e).stay (fun c v _ z => K3 c v z) (fun c z => st _ _ z) fun c xs z => st _ _ z
  by_cases hfs : fs = []
  · subst hfs
    obtain ⟨t1, ho⟩ := D.some0 rfl
    have hd : H (hp.objs.size + 2) = none := I.hok.fresh (Nat.le_add_right _ 2)
    exact done (hp.objs.size + 2) H none t1 (n21 _) hd (n12 _) (fun b _ => rfl) (fun b o e => old _ (fun c u z => z) b o e) ho (q (hp.objs.size + 2) hd)
  · have hne : (fs.zip vals).reverse ≠ [] := fun z => by
      have z2 := congrArg List.length z
      rw [List.length_reverse, List.length_zip, hv, Nat.min_self] at z2
      exact hfs (List.length_eq_zero_iff.mp z2)
    obtain ⟨t1, dx, m0, ho, dn, dne, hns, hmap, hw⟩ := D.some1 hne
    have dn' : hp.objs.size + 2 < dx := by rw [← hsz]; exact dn
    have hd : H dx = none := I.hok.fresh (nlt dn')
    have q' := q dx hd
    have rel' : ∀ f, RelO ((fs.zip vs).reverse.lookup f) (m0 f) := fun f => by rw [hmap]; exact rel f
    cases hfl2 : (fs.zip vs).reverse with
    | nil =>
      have z2 := congrArg List.length hfl2
      rw [List.length_reverse, List.length_zip, r.length, hv, Nat.min_self] at z2
      exact absurd (List.length_eq_zero_iff.mp z2) hfs
    | cons p fl =>
      rw [hfl2] at q' rel'
      refine done dx _ (some dx) t1 dne hd (nlt1 dn') (fun b h2 => upd_ne h2) (fun b o e => ?_) ho q'
      by_cases hb2 : b = dx
      · subst hb2
        have e2 := upd_same.symm.trans e
        cases e2
        exact ⟨m0, hns.at fun o y => (gk b dne).trans y, rel'⟩
      · have e2 := (upd_ne hb2).symm.trans e
        exact old _ (fun c u z => by
          show upd H dx _ c = _
          rw [upd_ne (ne_of_none z hd)]
          exact z) b o e2
end
section
variable {X : Cx} {x : Str} {C : Addr} {fs : List Str} {e : Expr} {es : List Expr} {t : TA} {p pos : Pos}
/-- raise C(e, ..) -/
theorem pmk_X (c : EC X.prog X.K X.mg x C fs) (hr : Room 1 X.A) (hg : Gl X x) (ha : PA X (e :: es) t) (hdb : (x == ("__debug__" : Str)) = false := by decide)
    (he : starEach (e :: es) X.env = (false, eval e X.env) :: starEach es X.env := by rfl) (hpl : (backTo pos (starEach es X.env)).any (·.1) = false := by rfl) :
    PMk X (.Call (.Name x p) (e :: es) [] pos) (fun σ H Q => t σ H fun vs H1 => vs.length = fs.length ∧ ∀ d, H1 d = none → Q (.ref C) (dO d (fs.zip vs).reverse) (dH H1 d (fs.zip vs).reverse)) := by
  intro pins s σ H Q I h
  obtain ⟨fI, qual, params, body, scope, J, b1, _⟩ := c.ini
  refine wpAny_Call_Name_kw (ld_glob I hg c.gC ?_ hdb)
  refine PySem.W.callWith_K (h₀ := X.base) I.ok.mod.kin c.oex.kC (thn (ha.run pos pins s σ H _ I h) fun us s1 ⟨vs, H1, I1, r, hl, q⟩ => ⟨I1.kIn, ?_⟩) he hpl
  exact mkM (ks := []) (ws := []) J c.oex c.su hr I1 (lenOk r hl c.fl) r (r.length.symm.trans hl) c.fl (fun s y fd hf => b1 s y fd hf us (r.length.symm.trans hl)) q
theorem pmk_X0 (c : EC X.prog X.K X.mg x C []) (hr : Room 1 X.A) (hg : Gl X x) (hdb : (x == ("__debug__" : Str)) = false := by decide) : PMk X (.Call (.Name x p) [] [] pos) (fun _ H Q => Q (.ref C) none H) := by
  intro pins s σ H Q I h
  obtain ⟨fI, qual, params, body, scope, J, b1, _⟩ := c.ini
  refine wpAny_Call_Name_kw (ld_glob I hg c.gC ?_ hdb)
  refine PySem.W.callWith_K0 I.kIn c.oex.kC ?_
  exact mkM (ks := []) (ws := []) (us := []) (vs := []) (vals := []) J c.oex c.su hr I (Nat.zero_le _) .nil rfl (Nat.zero_le _) (fun s y fd hf => b1 s y fd hf [] rfl) fun d _ => h
end
end XI

/-! a method called, an object made, in a try -/
namespace XI
open PySem PySem.Spec PyProof.Rows L2
section
variable {X : Cx} {CX : CXT} {k : Nat} {f C : Addr} {fd : FuncData} {ps : List Str} {sp : Sp} {E : L2.St → XK} {x m : Str} {p pos apos : Pos} {e o : Expr} {es : List Expr} {ta : TE} {t : TA}
def tMethS (C : Addr) (m : Str) (sp : Sp) (E : L2.St → XK) (ta : TE) (t : TA) : TE := fun σ H Q => ta σ H fun x H1 => ∃ a dx fs, x = .ref a ∧ H1 a = some (.ins C dx fs) ∧ fs.lookup m = none ∧ t σ H1 fun vs H2 => sp (x :: vs) H2 Q (E σ)
theorem pe_methS {pl : Sem Bool} (he : PE X o ta) (c : Cls X.K C) (hm : Meth X.K C m f) (F : FnOk X.prog X.w X.K X.mg X.base CX k f fd ps sp) (hr : Room k X.A) (hb : Binds X.K fd ps []) (hx : ∀ σ, PassesAt CX X σ (E σ)) (ha : PA X (e :: es) t)
    (hst : starEach (e :: es) X.env = (false, eval e X.env) :: starEach es X.env := by rfl) (hpl : (backTo pos (starEach es X.env)).any (·.1) = false := by rfl)
    (ht : eval (.Call (.Attribute o m apos) (e :: es) [] pos) X.env = (do
      let ov ← eval o X.env; standAt apos.atName
      let (g, first) ← holding [ov] (getMethod ov m pl)
      callWith pos g first (backTo pos (starEach (e :: es) X.env)) (backToKw pos (keywordEach [] X.env))) := by rfl) : PE X (.Call (.Attribute o m apos) (e :: es) [] pos) (tMethS C m sp E ta t) := by
  refine ⟨fun pins s σ H Q I h => PySem.W.methodCall_KW (pl := pl) (thn (he.run pins s σ H _ I h) fun u s1 hh => ?_) ht⟩
  obtain ⟨y, H1, I1, ry, a, dx, fs, rfl, ea, l, q⟩ := hh
  obtain rfl : u = Value.ref a := ry
  refine getmeth_ok I1 ea c hm l (PySem.W.callWith_K (first := [.ref a]) (h₀ := X.base) I.ok.mod.kin hm.kp (thn (ha.run pos pins s1 σ H1 _ I1 q) fun us s2 hh2 => ?_) hst hpl)
  obtain ⟨vs, H2, I2, r, q2⟩ := hh2
  exact ⟨I2.kIn, run_fnS (us := .ref a :: us) (vs := .ref a :: vs) F hr hb (hx σ) I2 (.cons rfl r) q2⟩
def tMakeS (C : Addr) (sp : Sp) (E : L2.St → XK) (t : TA) : TE := fun σ H Q => t σ H fun vs H1 => ∀ y dx, H1 y = none → H1 dx = none → dx ≠ y → sp (.ref y :: vs) (upd (upd H1 dx (.own y)) y (.ins C dx [])) (fun v H2 => v = .non ∧ Q (.ref y) H2) (E σ)
theorem run_makeS {pins : List (Addr × Obj)} {σ : L2.St} {H : Hp} {s : Shared} {Q : VK} {us : List Value} {vs : List V} (M : Mk X.K C f) (F : FnOk X.prog X.w X.K X.mg X.base CX k f fd ps sp) (hr : Room (k + 1) X.A) (hb : Binds X.K fd ps [])
    (hx : PassesAt CX X σ (E σ)) (I : Inv X pins σ H s) (r : Vals vs us)
    (h : ∀ y dx, H y = none → H dx = none → dx ≠ y → sp (.ref y :: vs) (upd (upd H dx (.own y)) y (.ins C dx [])) (fun v H2 => v = .non ∧ Q (.ref y) H2) (E σ)) : wpAny (model X.prog X.w) X.A (call (.ref C) us) (EP X pins σ Q) X.xe s := by
  obtain ⟨N, hN⟩ : ∃ N, N = s.heap.objs.size := ⟨_, rfl⟩
  have q0 := h (s.heap.objs.size + 1) s.heap.objs.size (I.hok.fresh (Nat.le_succ _)) (I.hok.fresh (Nat.le_refl _)) (Nat.ne_of_lt (Nat.lt_succ_self _))
  have I2 := Inv.made (C := C) I
  have r2 : Vals (V.ref (s.heap.objs.size + 1) :: vs) (Value.ref (s.heap.objs.size + 1) :: us) := .cons rfl r
  have hl : (Value.ref (s.heap.objs.size + 1) :: us).length = ps.length := by rw [← r2.length, F.len _ _ _ _ q0]
  have hb2 := hb _ (Value.ref (s.heap.objs.size + 1) :: us) I2.kIn (by rw [List.append_nil]; exact hl)
  rw [List.append_nil] at hb2
  refine wpAny_call (make_map (f := f) I.kIn M.makes M.init (beq_iff_eq.mp M.fn) (codeAny_mono (F.run _ X.stack _ _ ⟨_, []⟩ _ _ _ (E σ) (hr.make C us []) (I2.env0.make C us []) hb2 r2 q0) fun r s' hq' => ?_))
  cases r with
  | error er => exact hx pins _ _ er s' I2 hq'
  | ok fl =>
    cases fl with
    | ret u =>
      obtain ⟨v, H', I3, rv, ev, q3⟩ := I2.after hq'
      subst ev
      exact ⟨rv, ⟨V.ref (s.heap.objs.size + 1), H', I3, rfl, q3⟩⟩
    | next => exact hq'.elim
    | brk => exact hq'.elim
    | cont => exact hq'.elim
theorem pe_makeS (M : Mk X.K C f) (F : FnOk X.prog X.w X.K X.mg X.base CX k f fd ps sp) (hr : Room (k + 1) X.A) (hg : Gl X x) (hm : X.mg x = some (.ref C)) (hb : Binds X.K fd ps []) (hx : ∀ σ, PassesAt CX X σ (E σ)) (ha : PA X (e :: es) t)
    (hdb : (x == ("__debug__" : Str)) = false := by decide) (he : starEach (e :: es) X.env = (false, eval e X.env) :: starEach es X.env := by rfl) (hpl : (backTo pos (starEach es X.env)).any (·.1) = false := by rfl) :
    PE X (.Call (.Name x p) (e :: es) [] pos) (tMakeS C sp E t) := by
  refine ⟨fun pins s σ H Q I h => wpAny_Call_Name_kw (ld_glob I hg hm ?_ hdb)⟩
  refine PySem.W.callWith_K (h₀ := X.base) I.ok.mod.kin M.kp (thn (ha.run pos pins s σ H _ I h) fun us s1 hh => ?_) he hpl
  obtain ⟨vs, H1, I1, r, q⟩ := hh
  exact ⟨I1.kIn, run_makeS M F hr hb (hx σ) I1 r q⟩
end
end XI

namespace K5
open PySem PySem.Spec PyProof.Rows L2 C8 XE XI
/-! nodes_down -/
abbrev sDown : Stmt := top 15
abbrev NDo : List Str := ["tree", "place", "nodes", "k", "node"]
theorem scDown : FnScope NDo ["tree", "place"] (fnScope sDown) := fnScope_by (by decide +kernel)
/-- what it raises, with one field -/
def exO (BL : Addr) (f : Str) (v : V) (H : Hp) (E : XK) : Prop := ∀ H' d, Same H H' → H' d = none → E (.ref BL) (some d) (upd H' d (.xd [(f, v)]))
/-- the child of that number -/
def kidD (d dk : D) : Option D := match d, dk with
  | .sq (_ :: cs), .fl (.int i) => if 0 ≤ i then cs[i.toNat]? else none
  | _, _ => none
/-- the nodes on the way down, behind the first -/
def downD (d : D) : List D → Option (List D)
  | [] => some []
  | k :: ks => (kidD d k).bind fun c => (downD c ks).map (c :: ·)
def downP (d : D) : D → Option (List D)
  | .sq ks => downD d ks
  | _ => none
def spDown (NP : Addr) : Sp := fun vs H Q E => ∃ (v pw : V) (d dp : D) (F G : Addr → Prop) (rs : List Rw), vs = [v, pw] ∧ DAt F H v d ∧ isT rs d = true ∧ sz d ≤ 5000 ∧ DAt G H pw dp ∧ sz dp ≤ 100000 ∧ (downP d dp = none → exO NP "place" pw H E) ∧
  (∀ ds, downP d dp = some ds → ∀ p ws H', H p = none → Same H H' → H' p = some (.lst ws) → DAts F H' ws (d :: ds) → Q (.ref p) H')
section
variable {P : Program} {w : World} {K : PySem.W.Frag} {mg : Str → Option Value} {base : Heap}
theorem lt_walk {K : PySem.W.Frag} {i : Nat} {σ : L2.St} {H : Hp} {R : It → Hp → Prop} {a : Addr} {vs : List V} (hi : σ[i]? = some (some (.ref a))) (q : H a = some (.tup vs) ∨ H a = some (.lst vs))
    (h : ∀ J : It, (∀ j H', j < vs.length → H' a = H a → J.go j H') → (∀ H', H' a = H a → J.stop vs.length H') → (∀ j H' x H'', H' a = H a → J.yld j H' x H'' → H'' = H' ∧ vs[j]? = some x) → R J H) : iList K (tVar i) σ H R ∨ iTup K (tVar i) σ H R := by
  rcases q with q | q
  · exact .inr ⟨_, hi, a, rfl, ⟨vs, SqT.of q⟩, h _ (fun j H' hj e => ⟨vs, vs.getD j .non, SqT.of (by rw [e]; exact q), getD_at hj⟩) (fun H' e => ⟨vs, SqT.of (by rw [e]; exact q), Nat.le_refl _⟩) (fun j H' x H'' e y => ⟨y.1, y.2 _ (SqT.of (by rw [e]; exact q))⟩)⟩
  · exact .inl ⟨_, hi, a, rfl, ⟨vs, SqL.of q⟩, h _ (fun j H' hj e => ⟨vs, vs.getD j .non, SqL.of (by rw [e]; exact q), getD_at hj⟩) (fun H' e => ⟨vs, SqL.of (by rw [e]; exact q), Nat.le_refl _⟩) (fun j H' x H'' e y => ⟨y.1, y.2 _ (SqL.of (by rw [e]; exact q))⟩)⟩
theorem row_ix {K : PySem.W.Frag} {t : Addr} {u1 u2 : V} {H : Hp} (ht : H t = some (.tup [u1, u2]) ∨ H t = some (.lst [u1, u2])) {Q : VK} : (Q u1 H → rIx K (.ref t) (.int 0) H Q) ∧ (Q u2 H → rIx K (.ref t) (.int 1) H Q) := by
  rcases ht with qb | qb
  · exact ⟨fun h => .inr (.inl ⟨t, _, 0, _, rfl, rfl, SqT.of qb, at_of (j := 0) (by omega) rfl, h⟩), fun h => .inr (.inl ⟨t, _, 1, _, rfl, rfl, SqT.of qb, at_of (j := 1) (by omega) rfl, h⟩)⟩
  · exact ⟨fun h => .inl ⟨t, _, 0, _, rfl, rfl, SqL.of qb, at_of (j := 0) (by omega) rfl, h⟩, fun h => .inl ⟨t, _, 1, _, rfl, rfl, SqL.of qb, at_of (j := 1) (by omega) rfl, h⟩⟩
/-- a def that may let an own exception out, by its body -/
theorem fnX {x qual : Str} {st : Stmt} {f : Addr} {fd : FuncData} {N ps : List Str} {k : Nat} {sp : Sp} (F : C8.Fun K x qual st f fd) (S : FnScope N ps (fnScope st)) (len : ∀ vs H Q E, sp vs H Q E → vs.length = ps.length)
    (hbody : ∀ (cdv : Value) (A : Around) (outer : List Env) (s : Shared) (H : Hp) (vs : List V) (Q : VK) (E : XK), Room k (A.deeper (envOfC qual (fnScope st) s.heap.objs.size f cdv)) → sp vs H Q E →
      ∃ t, PSs (cxOf (L2.CX P w) P w K mg base N qual (fnScope st) f cdv A outer s H E) (fnBody st) t ∧ t { nx := fun _ H' => Q .non H', rt := Q } (start N vs) H) : FnOk P w K mg base (L2.CX P w) (k + 1) f fd ps sp := by
  obtain ⟨oc, od, dV, kV, doc, pm, an, cdv, ct, osl, rfl, lk, hcd⟩ := F.ex
  exact fn_of lk hcd S len fun A outer s H vs Q E hr hsp => hbody cdv A outer s H vs Q E hr hsp
theorem c_down {NP f : Addr} {fd : FuncData} (F : Def K mg "nodes_down" sDown f fd) (T : Blt4 mg) (EN : EC P K mg "NoPlace" NP ["place"]) (CR : Cal P w K mg base 1 "is_row" spRow []) (CN : Cal P w K mg base 1 "is_number" spNum []) : FnOk P w K mg base (L2.CX P w) 4 f fd ["tree", "place"] (spDown NP) := by
  refine fnX F.fn scDown (fun vs H Q E h => ?_) (fun cdv A outer s H vs Q E hr h => ?_)
  · obtain ⟨v, pw, d, dp, F, G, rs, rfl, _⟩ := h
    rfl
  · obtain ⟨v, pw, d, dp, F, G, rs, rfl, hv, ht, hz, hp, hpz, kE, k⟩ := h
    have nd := scDown.nd
    refine ⟨_, pss_cons (ps_if (pt_not (pt_val (pe_c CR hr (by decide) (by rfl) (pa_cons (pv 1) pa_nil)))) (pss_one (ps_raise rfl (takes_of rfl rfl rfl rfl) (pmk_X EN (hr.mono (by decide)) (by rfl) (pa_cons (pv 1) pa_nil)))) pss_nil)
      (pss_cons (ps_set (i := 2) nd rfl (Or.inl rfl) (pe_lst (pa_cons (pv 0) pa_nil)))
      (pss_cons (ps_for (passes_of rfl) rfl (PI.or (pi_list (pv 1)) (pi_tup (pv 1))) (pg_name (i := 3) nd rfl (Or.inl rfl))
        (pss_cons (ps_set (i := 4) nd rfl (Or.inl rfl) (pe_ix ix_list (pv 2) (pe_un un_neg pe_int) fun _ _ => rfl))
        (pss_cons (ps_if (pw_or (pt_not (pt_val (pe_c CN hr (by decide) (by rfl) (pa_cons (pv 3) pa_nil)))) (pw_or (pt_cmp (pc_lt (pv 3) pe_int)) (pw_or1 (pt_cmp (pc_ge (pv 3) (pe_op op_sub (pe_callB call_len_seq (by rfl) T.len PySem.boot_len (pa_cons (pv 4) pa_nil)) pe_int)))))).pt
          (pss_one (ps_raise rfl (takes_of rfl rfl rfl rfl) (pmk_X EN (hr.mono (by decide)) (by rfl) (pa_cons (pv 1) pa_nil)))) pss_nil)
        (pss_one (ps_expr (pe_bm PySem.F.plainAttrs_list PySem.F.slot_list_append PySem.F.type_list_append mt_append (pv 2) (pa_cons (pe_ix ix_seq (pv 4) (pe_op op_add (pv 3) pe_int) fun _ _ => rfl) pa_nil)))))))
      (pss_one (ps_ret (pv 2))))), ?_⟩
    have hsl := sizeLine_eq
    refine ⟨_, rfl, pw, dp, G, rfl, hp, fun H1 s1 => ⟨isSq dp, rfl, ?_⟩⟩
    cases hsq : isSq dp with
    | false =>
      have : downP d dp = none := by
        cases dp with
        | sq ks => cases hsq
        | _ => rfl
      exact iteBt rfl ⟨_, rfl, rfl, fun dd ndd => kE this H1 dd s1 ndd⟩
    | true =>
      refine iteBf rfl ?_
      cases dp with
      | fl x => cases hsq
      | emp => cases hsq
      | sq ks =>
      obtain ⟨pa, kvs, rfl, qp, _, hks⟩ := hp
      have hkl := hks.len
      have hksz : ks.length ≤ 100000 := by
        have := len_szs ks
        rw [sz] at hpz
        omega
      refine ⟨_, rfl, (by show 1 ≤ sizeLine; decide), fun n1 nn => ?_⟩
      have s12 : Same H1 (upd H1 n1 (.lst [v])) := same_upd nn
      have hn2 : (upd H1 n1 (.lst [v])) n1 = some (.lst [v]) := upd_same
      have nnH : H n1 = none := same_free s1 nn
      generalize upd H1 n1 (.lst [v]) = H2 at s12 hn2
      have s2 : Same H H2 := s1.trans s12
      have qp2 : H2 pa = some (.tup kvs) ∨ H2 pa = some (.lst kvs) := qp.imp (s2 _ _) fun e => s2 _ _ e.2
      have pn : pa ≠ n1 := by
        rcases qp with q | q
        · exact ne_of_none q nnH
        · exact ne_of_none q.2 nnH
      refine lt_walk (a := pa) (vs := kvs) rfl qp2 fun J jgo jst jyl => for_gen (J := J) kvs.length (fun i σ H' => ∃ (v3 v4 : Option V) (ns0 : List V) (cv : V) (ds0 : List D) (cur : D), σ = [some v, some (.ref pa), some (.ref n1), v3, v4] ∧ H' n1 = some (.lst (ns0 ++ [cv])) ∧ ds0.length = i ∧ DAts F H ns0 ds0 ∧ DAt F H cv cur ∧ isT rs cur = true ∧ (downP d (.sq ks)).map (d :: ·) = (downD cur (ks.drop i)).map (ds0 ++ cur :: ·) ∧ Same H H' ∧ H' pa = H2 pa)
        ⟨none, none, [], v, [], d, rfl, hn2, rfl, trivial, hv, ht, rfl, s2, rfl⟩ (fun i σ H' hi ⟨_, _, _, _, _, _, _, _, _, _, _, _, _, _, e⟩ => jgo i H' hi e) (fun σ H' ⟨_, _, _, _, _, _, _, _, _, _, _, _, _, _, e⟩ => jst H' e) ?_ ?_
      · rintro i σ H' x H'' hi ⟨v3, v4, ns0, cv, ds0, cur, rfl, hn, hdl, hd0, hcv, hct, heq, sm, hpa⟩ yl
        obtain ⟨rfl, hx⟩ := jyl i H' x H'' hpa yl
        obtain ⟨dk, hk, hxk⟩ := hks.get hx
        obtain ⟨hki, ek⟩ := List.getElem?_eq_some_iff.mp hk
        have hnl := hd0.len
        have hdrop : ks.drop i = dk :: ks.drop (i + 1) := by rw [List.drop_eq_getElem_cons hki, ek]
        rw [hdrop] at heq
        have bad : kidD cur dk = none → ∀ dd, H'' dd = none → E (.ref NP) (some dd) (upd H'' dd (.xd [("place", .ref pa)])) := fun hb dd ndd => by
          refine kE ?_ H'' dd sm ndd
          have e : downD cur (dk :: ks.drop (i + 1)) = none := by rw [downD, hb]; rfl
          rw [e] at heq
          cases hd : downP d (.sq ks) with
          | none => rfl
          | some l => rw [hd] at heq; cases heq
        have hat : atI (ns0 ++ [cv]) (-1) = some cv := by
          have e : ixN (ns0 ++ [cv]).length (-1) = some ns0.length := by
            unfold ixN
            rw [if_neg (by decide), if_pos (by rw [List.length_append, List.length_singleton]; omega)]
            congr 1
            rw [List.length_append, List.length_singleton]
            omega
          unfold atI
          rw [e]
          simp
        obtain ⟨z, cs, m, rfl, hm, hml, hts⟩ := isT_inv hct
        have hcv0 := hcv
        obtain ⟨ca, cus, rfl, qc, _, hcus⟩ := hcv
        have hcl := hcus.len
        rw [List.length_cons] at hcl
        have qc' : H'' ca = some (.tup cus) ∨ H'' ca = some (.lst cus) := qc.imp (sm _ _) fun e => sm _ _ e.2
        have hsq : SqL K H'' ca cus ∨ SqT K H'' ca cus := qc'.elim (fun e => .inr (SqT.of e)) fun e => .inl (SqL.of e)
        refine ⟨_, rfl, 1, rfl, n1, _, _, _, rfl, rfl, SqL.of hn, hat, ?_⟩
        refine ⟨_, rfl, x, dk, G, rfl, DAt.hold (.same sm) _ hxk, numB dk, rfl, ?_⟩
        cases hnum : numB dk with
        | false =>
          refine iteBt rfl (iteBt rfl ⟨_, rfl, rfl, fun dd ndd => bad ?_ dd ndd⟩)
          unfold kidD
          split
          · cases hnum
          · rfl
        | true =>
          obtain ⟨y, rfl⟩ : ∃ y, dk = .fl (.int y) := by
            unfold numB at hnum
            split at hnum
            · exact ⟨_, rfl⟩
            · cases hnum
          obtain ⟨rfl, _⟩ := hxk
          refine iteBf rfl ⟨_, rfl, y, 0, rfl, rfl, _, rfl, ite2 (fun c => iteBt rfl ⟨_, rfl, rfl, fun dd ndd => bad ?_ dd ndd⟩) (fun c => ?_)⟩
          · have c := of_decide_eq_true c
            show (if 0 ≤ y then cs[y.toNat]? else none) = none
            rw [if_neg (by omega)]
          · have y0 : 0 ≤ y := by
              have : ¬ y < 0 := fun e => c (decide_eq_true e)
              omega
            refine ⟨_, rfl, _, rfl, ca, cus, rfl, hsq, (cus.length : Nat), 1, rfl, rfl, y, _, rfl, rfl, _, rfl, ite2 (fun c => ⟨_, rfl, rfl, fun dd ndd => bad ?_ dd ndd⟩) (fun c => ?_)⟩
            · have c := of_decide_eq_true c
              show (if 0 ≤ y then cs[y.toNat]? else none) = none
              rw [if_pos y0, List.getElem?_eq_none (by omega)]
            · have yl : y.toNat < cs.length := by
                have : ¬ ((cus.length : Nat) : Int) - 1 ≤ y := fun e => c (decide_eq_true e)
                omega
              have hju : y.toNat + 1 < cus.length := by omega
              obtain ⟨e, he, hed⟩ := hcus.get (List.getElem?_eq_getElem hju)
              rw [List.getElem?_cons_succ] at he
              have hat2 : atI cus (y + 1) = some cus[y.toNat + 1] := at_of (j := y.toNat + 1) (by omega) (List.getElem?_eq_getElem hju)
              have hkid : kidD (.sq (.fl (.str z) :: cs)) (.fl (.int y)) = some e := by
                show (if 0 ≤ y then cs[y.toNat]? else none) = some e
                rw [if_pos y0, he]
              have hnew : (downP d (.sq ks)).map (d :: ·) = (downD e (ks.drop (i + 1))).map ((ds0 ++ [D.sq (.fl (.str z) :: cs)]) ++ e :: ·) := by
                rw [heq, downD, hkid]
                show ((downD e (ks.drop (i + 1))).map (e :: ·)).map _ = _
                rw [Option.map_map]
                congr 1
                funext l
                simp
              have fin : ∃ (l : Addr) (xs : List V) (yy : V), V.ref n1 = .ref l ∧ [cus[y.toNat + 1]] = [yy] ∧ H'' l = some (.lst xs) ∧ xs.length < sizeLine ∧ ∃ (v3 v4 : Option V) (ns0 : List V) (cv : V) (ds0 : List D) (cur : D), [some v, some (V.ref pa), some (.ref n1), some (.int y), some (.ref ca)] = [some v, some (.ref pa), some (.ref n1), v3, v4] ∧ (upd H'' l (.lst (xs ++ [yy]))) n1 = some (.lst (ns0 ++ [cv])) ∧ ds0.length = i + 1 ∧ DAts F H ns0 ds0 ∧ DAt F H cv cur ∧ isT rs cur = true ∧ (downP d (.sq ks)).map (d :: ·) = (downD cur (ks.drop (i + 1))).map (ds0 ++ cur :: ·) ∧ Same H (upd H'' l (.lst (xs ++ [yy]))) ∧ (upd H'' l (.lst (xs ++ [yy]))) pa = H2 pa :=
                ⟨n1, _, _, rfl, rfl, hn, by rw [List.length_append, List.length_singleton]; omega, _, _, ns0 ++ [.ref ca], cus[y.toNat + 1], ds0 ++ [.sq (.fl (.str z) :: cs)], e, rfl, upd_same, by rw [List.length_append, hdl]; rfl, DAts.app hd0 ⟨hcv0, trivial⟩, hed, isTs_get hts he, hnew, fun b o eb => by rw [upd_ne (ne_of_none eb nnH)]; exact sm _ _ eb, by rw [upd_ne pn]; exact hpa⟩
              refine ⟨_, rfl, .inl ⟨rfl, _, SqL.of hn⟩, _, rfl, _, rfl, y, 1, rfl, rfl, ?_⟩
              rcases qc' with q | q
              · exact .inr (.inl ⟨ca, _, _, _, rfl, rfl, SqT.of q, hat2, fin⟩)
              · exact .inl ⟨ca, _, _, _, rfl, rfl, SqL.of q, hat2, fin⟩
      · rintro σ H' ⟨v3, v4, ns0, cv, ds0, cur, rfl, hn, hdl, hd0, hcv, hct, heq, sm, hpa⟩
        rw [hkl, List.drop_length] at heq
        refine ⟨_, rfl, ?_⟩
        have e : downD cur [] = some [] := rfl
        rw [e] at heq
        cases hd : downP d (.sq ks) with
        | none => rw [hd] at heq; cases heq
        | some l =>
          rw [hd] at heq
          have heq : d :: l = ds0 ++ [cur] := Option.some.inj heq
          refine k l hd n1 _ H' nnH sm hn ?_
          rw [heq]
          exact DAts.hold (.same sm) _ (DAts.app hd0 ⟨hcv, trivial⟩)
end
end K5

namespace K5
open PySem PySem.Spec PyProof.Rows L2 C8 XE XI
/-! piece -/
abbrev sPiece : Stmt := top 16
theorem scPiece : FnScope ["tree", "place"] ["tree", "place"] (fnScope sPiece) := fnScope_by (by decide +kernel)
theorem menu_word : ∀ z ∈ menu, wordS z = true := by decide +kernel
theorem labs_word {rs : List Rw} (ok : RowsOk rs) {z : Str} (h : z ∈ labs rs) : wordS z = true := by
  obtain ⟨r, hr, rfl⟩ := List.mem_map.mp h
  rcases List.mem_append.mp hr with h' | h'
  · exact menu_word _ (ok.mem r h').1
  · rw [List.mem_singleton.mp h']; decide +kernel
theorem isT_shN {rs : List Rw} (ok : RowsOk rs) : ∀ (n : Nat) (t : D), sz t ≤ n → isT rs t = true → isSh t = true
  | 0, t, h, _ => by have := sz_pos t; omega
  | n + 1, t, h, ht => by
    obtain ⟨z, cs, m, rfl, hm, _, hts⟩ := isT_inv ht
    rw [isSh, labs_word ok (many_some hm), isShs_of fun c hc => ?_]
    · rfl
    · obtain ⟨i, hi⟩ := List.getElem?_of_mem hc
      have := szs_get hi
      have e : sz (.sq (.fl (.str z) :: cs)) = 2 + szs cs := by rw [sz, szs, sz]; omega
      exact isT_shN ok n c (by omega) (isTs_get hts hi)
theorem isT_sh {rs : List Rw} (ok : RowsOk rs) {t : D} (h : isT rs t = true) : isSh t = true := isT_shN ok _ t (Nat.le_refl _) h
theorem kid_tree {rs : List Rw} {d dk c : D} (ht : isT rs d = true) (h : kidD d dk = some c) : isT rs c = true ∧ sz c ≤ sz d := by
  obtain ⟨z, cs, m, rfl, _, _, hts⟩ := isT_inv ht
  unfold kidD at h
  split at h
  · rename_i x cs' i e
    injection e with e
    injection e with _ e
    subst e
    split at h
    · have := szs_get h
      refine ⟨isTs_get hts h, ?_⟩
      rw [sz, szs]
      omega
    · cases h
  · cases h
theorem down_tree {rs : List Rw} : ∀ (ks : List D) (d : D) (ds : List D), isT rs d = true → downD d ks = some ds → ∀ x ∈ d :: ds, isT rs x = true ∧ sz x ≤ sz d
  | [], d, ds, ht, h, x, hx => by
    cases h
    rw [List.mem_singleton.mp hx]
    exact ⟨ht, Nat.le_refl _⟩
  | k :: ks, d, ds, ht, h, x, hx => by
    rw [downD] at h
    cases hk : kidD d k with
    | none => rw [hk] at h; cases h
    | some c =>
      rw [hk] at h
      obtain ⟨h1, h2⟩ := kid_tree ht hk
      cases hd : downD c ks with
      | none => rw [Option.bind_some, hd] at h; cases h
      | some l =>
        rw [Option.bind_some, hd] at h
        cases h
        rcases List.mem_cons.mp hx with rfl | hx
        · exact ⟨ht, Nat.le_refl _⟩
        · obtain ⟨h3, h4⟩ := down_tree ks c l h1 hd x hx
          exact ⟨h3, by omega⟩
/-- the piece at a place -/
def pieceD (d dp : D) : Option D := (downP d dp).map fun ds => (d :: ds).getLastD d
def spPiece (NP : Addr) : Sp := fun vs H Q E => ∃ (v pw : V) (d dp : D) (F G : Addr → Prop) (rs : List Rw), vs = [v, pw] ∧ DAt F H v d ∧ isT rs d = true ∧ RowsOk rs ∧ sz d ≤ 5000 ∧ DAt G H pw dp ∧ sz dp ≤ 100000 ∧ (pieceD d dp = none → exO NP "place" pw H E) ∧
  (∀ t, pieceD d dp = some t → ∀ v' H', Same H H' → DAt nol H' v' t → Q v' H')
theorem at_m1 (xs : List V) (x : V) : atI (xs ++ [x]) (-1) = some x := by
  have e : ixN (xs ++ [x]).length (-1) = some xs.length := by
    unfold ixN
    rw [if_neg (by decide), if_pos (by rw [List.length_append, List.length_singleton]; omega)]
    congr 1
    rw [List.length_append, List.length_singleton]
    omega
  unfold atI
  rw [e]
  simp
theorem dats_snoc {F : Addr → Prop} {H : Hp} : ∀ {ds : List D} {ws : List V} {d : D}, DAts F H ws (ds ++ [d]) → ∃ ws0 x, ws = ws0 ++ [x] ∧ DAts F H ws0 ds ∧ DAt F H x d
  | [], [x], _, ⟨h, _⟩ => ⟨[], x, rfl, trivial, h⟩
  | _ :: ds, w :: ws, _, ⟨h, t⟩ => by
    obtain ⟨ws0, x, rfl, h1, h2⟩ := dats_snoc t
    exact ⟨w :: ws0, x, rfl, ⟨h, h1⟩, h2⟩
  | [], [], _, h => h.elim
  | [], _ :: _ :: _, _, h => h.2.elim
  | _ :: _, [], _, h => h.elim
section
variable {P : Program} {w : World} {K : PySem.W.Frag} {mg : Str → Option Value} {base : Heap}
theorem c_piece {NP f fu : Addr} {fd du : FuncData} (F : Def K mg "piece" sPiece f fd) (DU : Def K mg "nodes_down" sDown fu du) (bu : Binds K du ["tree", "place"] []) (FU : FnOk P w K mg base (L2.CX P w) 4 fu du ["tree", "place"] (spDown NP)) (CA : Cal P w K mg base 4 "as_tuples" spAsT []) : FnOk P w K mg base (L2.CX P w) 6 f fd ["tree", "place"] (spPiece NP) := by
  refine fnX F.fn scPiece (fun vs H Q E h => ?_) (fun cdv A outer s H vs Q E hr h => ?_)
  · obtain ⟨v, pw, d, dp, F, G, rs, rfl, _⟩ := h
    rfl
  · obtain ⟨v, pw, d, dp, F, G, rs, rfl, hv, ht, ok, hz, hp, hpz, kE, k⟩ := h
    have nd := scPiece.nd
    refine ⟨_, pss_one (ps_ret (pe_c CA hr (by decide) (by rfl) (pa_cons (pe_ix ix_list (pe_call FU (hr.mono (by decide)) (by rfl) DU.mgf DU.kp bu .nil (passes_call (takes_of rfl rfl rfl rfl) (fun _ _ _ _ h => h)) (pa_cons (pv 0) (pa_cons (pv 1) pa_nil))) (pe_un un_neg pe_int) fun _ _ => rfl) pa_nil))), ?_⟩
    refine ⟨_, rfl, _, rfl, v, pw, d, dp, F, G, rs, rfl, hv, ht, hz, hp, hpz, fun hn => kE (by unfold pieceD; rw [hn]; rfl), fun ds hds p ws H1 np s1 hpp hws => ?_⟩
    obtain ⟨ds0, cur, e⟩ : ∃ a b, d :: ds = a ++ [b] := by
      rcases List.eq_nil_or_concat (d :: ds) with h | ⟨a, b, h⟩
      · cases h
      · exact ⟨a, b, by rw [h, List.concat_eq_append]⟩
    have hds' := hds
    obtain ⟨ct, cz⟩ : isT rs cur = true ∧ sz cur ≤ sz d := by
      cases dp with
      | sq ks => exact down_tree ks d ds ht hds cur (by rw [e]; simp)
      | _ => cases hds
    have hpc : pieceD d dp = some cur := by
      unfold pieceD
      rw [hds', Option.map_some, e]
      simp
    rw [e] at hws
    obtain ⟨ws0, x, rfl, _, hx⟩ := dats_snoc hws
    exact ⟨1, rfl, p, _, _, _, rfl, rfl, SqL.of hpp, at_m1 ws0 x, x, cur, F, rfl, hx, isT_sh ok ct, by omega, fun v' H' s hd' => k cur hpc v' H' (s1.trans s) hd'⟩
end
end K5

namespace K5
open PySem PySem.Spec PyProof.Rows L2 C8 XE XI
/-! placed -/
abbrev sPlaced : Stmt := top 17
abbrev NPc : List Str := ["tree", "place", "other", "nodes", "made", "depth", "node", "k"]
theorem scPlaced : FnScope NPc ["tree", "place", "other"] (fnScope sPlaced) := fnScope_by (by decide +kernel)
/-- another piece at a place -/
def setD (d : D) (o : D) : List D → D
  | [] => o
  | k :: ks => match d, k with
    | .sq (x :: cs), .fl (.int i) => .sq (x :: cs.set i.toNat (setD (cs.getD i.toNat .emp) o ks))
    | _, _ => d
def putP (d o dp : D) : Option D := match dp with
  | .sq ks => (downD d ks).map fun _ => setD d o ks
  | _ => none
theorem down_len : ∀ (ks : List D) (d : D) (ds : List D), downD d ks = some ds → ds.length = ks.length
  | [], d, ds, h => by cases h; rfl
  | k :: ks, d, ds, h => by
    rw [downD] at h
    cases hk : kidD d k with
    | none => rw [hk] at h; cases h
    | some c =>
      rw [hk] at h
      cases hd : downD c ks with
      | none => rw [Option.bind_some, hd] at h; cases h
      | some l =>
        rw [Option.bind_some, hd] at h
        cases h
        rw [List.length_cons, List.length_cons, down_len ks c l hd]
theorem kid_inv {x : D} {cs : List D} {kd c : D} (h : kidD (.sq (x :: cs)) kd = some c) : ∃ y : Int, kd = .fl (.int y) ∧ 0 ≤ y ∧ cs[y.toNat]? = some c := by
  cases kd with
  | fl v =>
    cases v with
    | int y =>
      have h : (if 0 ≤ y then cs[y.toNat]? else none) = some c := h
      split at h
      · exact ⟨y, rfl, by assumption, h⟩
      · cases h
    | _ => cases h
  | _ => cases h
theorem down_kid : ∀ (ks : List D) (d : D) (ds : List D), downD d ks = some ds → ∀ j, j < ks.length → kidD ((d :: ds).getD j .emp) (ks.getD j .emp) = some ((d :: ds).getD (j + 1) .emp)
  | [], d, ds, h, j, hj => by cases hj
  | k :: ks, d, ds, h, j, hj => by
    rw [downD] at h
    cases hk : kidD d k with
    | none => rw [hk] at h; cases h
    | some c =>
      rw [hk] at h
      cases hd : downD c ks with
      | none => rw [Option.bind_some, hd] at h; cases h
      | some l =>
        rw [Option.bind_some, hd] at h
        cases h
        cases j with
        | zero => exact hk
        | succ j => exact down_kid ks c l hd j (Nat.lt_of_succ_lt_succ hj)
def spPlaced (NP : Addr) : Sp := fun vs H Q E => ∃ (v pw ov : V) (d dp o : D) (F G J : Addr → Prop) (rs rs' : List Rw), vs = [v, pw, ov] ∧ DAt F H v d ∧ isT rs d = true ∧ RowsOk rs ∧ sz d ≤ 5000 ∧ DAt G H pw dp ∧ sz dp ≤ 100000 ∧ DAt J H ov o ∧ isT rs' o = true ∧ RowsOk rs' ∧ sz o ≤ 5000 ∧ (putP d o dp = none → exO NP "place" pw H E) ∧
  (∀ t, putP d o dp = some t → ∀ v' H', Same H H' → DAt nol H' v' t → Q v' H')
section
variable {P : Program} {w : World} {K : PySem.W.Frag} {mg : Str → Option Value} {base : Heap}
theorem c_placed {NP f fu : Addr} {fd du : FuncData} (F : Def K mg "placed" sPlaced f fd) (T : Blt4 mg) (hrev : mg "reversed" = none) (DU : Def K mg "nodes_down" sDown fu du) (bu : Binds K du ["tree", "place"] []) (FU : FnOk P w K mg base (L2.CX P w) 4 fu du ["tree", "place"] (spDown NP)) (CA : Cal P w K mg base 4 "as_tuples" spAsT []) : FnOk P w K mg base (L2.CX P w) 6 f fd ["tree", "place", "other"] (spPlaced NP) := by
  refine fnX F.fn scPlaced (fun vs H Q E h => ?_) (fun cdv A outer s H vs Q E hr h => ?_)
  · obtain ⟨v, pw, ov, d, dp, o, F, G, J, rs, rs', rfl, _⟩ := h
    rfl
  · obtain ⟨v, pw, ov, d, dp, o, F, G, J, rs, rs', rfl, hv, ht, ok, hz, hp, hpz, ho, hot, oko, hoz, kE, k⟩ := h
    have nd := scPlaced.nd
    refine ⟨_, pss_cons (ps_set (i := 3) nd rfl (Or.inl rfl) (pe_call FU (hr.mono (by decide)) (by rfl) DU.mgf DU.kp bu .nil (passes_call (takes_of rfl rfl rfl rfl) (fun _ _ _ _ h => h)) (pa_cons (pe_c CA hr (by decide) (by rfl) (pa_cons (pv 0) pa_nil)) (pa_cons (pv 1) pa_nil))))
      (pss_cons (ps_set (i := 4) nd rfl (Or.inl rfl) (pe_c CA hr (by decide) (by rfl) (pa_cons (pv 2) pa_nil)))
      (pss_cons (ps_for (passes_of rfl) rfl (pi_revR (by rfl) hrev (prg_1 (by rfl) T.ran (pe_callB call_len_seq (by rfl) T.len PySem.boot_len (pa_cons (pv 1) pa_nil)))) (pg_name (i := 5) nd rfl (Or.inl rfl))
        (pss_cons (ps_set (i := 6) nd rfl (Or.inl rfl) (pe_ix ix_list (pv 3) (pv 5) fun _ _ => rfl))
        (pss_cons (ps_set (i := 7) nd rfl (Or.inl rfl) (pe_ix ix_seq (pv 1) (pv 5) fun _ _ => rfl))
        (pss_one (ps_set (i := 4) nd rfl (Or.inl rfl) (pe_op op_catT (pe_op op_catT (pe_slice sl_tup (pv 6) po_none (po_some (pe_op op_add (pv 7) pe_int))) (pe_tup (pa_cons (pv 4) pa_nil))) (pe_slice sl_tup (pv 6) (po_some (pe_op op_add (pv 7) pe_int)) po_none)))))))
      (pss_one (ps_ret (pv 4))))), ?_⟩
    refine ⟨_, rfl, v, d, F, rfl, hv, isT_sh ok ht, hz, fun v1 H1 s1 hd1 => ⟨_, rfl, v1, pw, d, dp, nol, G, rs, rfl, hd1, ht, hz, DAt.hold (.same s1) _ hp, hpz, fun hn => ?_, fun ds hds p ws H2 np s2 hpp hws => ?_⟩⟩
    · have : putP d o dp = none := by
        unfold putP
        cases dp with
        | sq ks =>
          show (downD d ks).map _ = none
          rw [show downD d ks = none from hn]
          rfl
        | _ => rfl
      exact fun H' dd s' n => kE this H' dd (s1.trans s') n
    · refine ⟨_, rfl, ov, o, J, rfl, DAt.hold (.same (s1.trans s2)) _ ho, isT_sh oko hot, hoz, fun v3 H3 s3 hd3 => ?_⟩
      cases dp with
      | fl x => cases hds
      | emp => cases hds
      | sq ks =>
      have hds : downD d ks = some ds := hds
      obtain ⟨pa, kvs, rfl, qp, _, hks⟩ := hp
      have hkl := hks.len
      have s03 : Same H H3 := s1.trans (s2.trans s3)
      have qp3 : H3 pa = some (.tup kvs) ∨ H3 pa = some (.lst kvs) := qp.imp (s03 _ _) fun e => s03 _ _ e.2
      have hsq : SqL K H3 pa kvs ∨ SqT K H3 pa kvs := qp3.elim (fun e => .inr (SqT.of e)) fun e => .inl (SqL.of e)
      have hk0 : ks.length ≤ 100000 := by
        have := len_szs ks
        rw [sz] at hpz
        omega
      refine ⟨_, rfl, pa, kvs, rfl, hsq, _, rfl, by omega, by omega, by omega, by omega, ?_⟩
      have en : (((kvs.length : Nat) : Int) - 0).toNat = ks.length := by omega
      rw [en]
      have hdl := down_len ks d ds hds
      have hpp3 := s3 _ _ hpp
      have hws3 : DAts nol H3 ws (d :: ds) := DAts.hold (.same s3) _ hws
      have hksz : ks.length ≤ 100000 := by
        have := len_szs ks
        rw [sz] at hpz
        omega
      have hwl := hws.len
      refine for_rangeC (fun i σ H' => ∃ (v5 v6 v7 : Option V) (mv : V), σ = [some v, some (.ref pa), some ov, some (.ref p), some mv, v5, v6, v7] ∧ Same H3 H' ∧ DAt nol H' mv (setD ((d :: ds).getD (ks.length - i) .emp) o (ks.drop (ks.length - i))))
        ⟨none, none, none, v3, rfl, fun _ _ e => e, by rw [Nat.sub_zero, List.drop_length]; exact hd3⟩ ?_ ?_
      · rintro i σ H' hi ⟨v5, v6, v7, mv, rfl, s', hmv⟩
        have ek : (0 : Int) + ((ks.length : Nat) : Int) - 1 + (i : Nat) * (-1) = ((ks.length - (i + 1) : Nat) : Int) := by omega
        rw [ek]
        have hj : ks.length - (i + 1) < ks.length := by omega
        have hjk : ks.length - (i + 1) < kvs.length := by omega
        have hjw : ks.length - (i + 1) < ws.length := by rw [hwl, List.length_cons]; omega
        have ej : ks.length - (i + 1) + 1 = ks.length - i := by omega
        have kid := down_kid ks d ds hds _ hj
        rw [ej] at kid
        have hdrop : ks.drop (ks.length - (i + 1)) = ks[ks.length - (i + 1)] :: ks.drop (ks.length - i) := by rw [List.drop_eq_getElem_cons hj, ej]
        rw [hdrop]
        obtain ⟨kd, hkd, hkv⟩ := hks.get (List.getElem?_eq_getElem hjk)
        rw [List.getElem?_eq_getElem hj] at hkd
        have hkd := Option.some.inj hkd
        have ekd : ks.getD (ks.length - (i + 1)) .emp = kd := by rw [List.getD_eq_getElem?_getD, List.getElem?_eq_getElem hj, Option.getD_some, hkd]
        rw [ekd] at kid
        rw [hkd]
        obtain ⟨n, hn, hwn⟩ := hws3.get (List.getElem?_eq_getElem hjw)
        have en2 : (d :: ds).getD (ks.length - (i + 1)) .emp = n := by rw [List.getD_eq_getElem?_getD, hn]; rfl
        rw [en2] at kid ⊢
        have hnm : n ∈ d :: ds := List.mem_of_getElem? hn
        obtain ⟨hnt, hnz⟩ := down_tree ks d ds ht hds n hnm
        generalize (d :: ds).getD (ks.length - i) .emp = c at kid hmv
        generalize ks.drop (ks.length - i) = kr at hmv
        obtain ⟨b, z, cvs, cs, m, hbv, hb, rfl, hcs, hm, hml, hts⟩ := hwn.tree hnt
        obtain ⟨y, rfl, y0, hcy⟩ := kid_inv kid
        obtain ⟨hkv, _⟩ := hkv
        have hcl := hcs.len
        obtain ⟨hlt, ec⟩ := List.getElem?_eq_some_iff.mp hcy
        have hnl : (y + 1).toNat = y.toNat + 1 := by omega
        have hcz : cs.length ≤ 5000 := by
          have := len_szs cs
          rw [sz, szs, sz] at hnz
          omega
        have hset : setD (.sq (.fl (.str z) :: cs)) o (.fl (.int y) :: kr) = .sq (.fl (.str z) :: (cs.take y.toNat ++ [setD c o kr] ++ cs.drop (y.toNat + 1))) := by
          show D.sq (_ :: cs.set y.toNat (setD (cs.getD y.toNat .emp) o kr)) = _
          rw [List.getD_eq_getElem?_getD, hcy, Option.getD_some, List.set_eq_take_append_cons_drop, if_pos hlt, List.append_assoc]
          rfl
        rw [hset]
        have hat1 : atI ws ((ks.length - (i + 1) : Nat) : Int) = some (.ref b) := at_of (j := ks.length - (i + 1)) (by omega) (by rw [List.getElem?_eq_getElem hjw, hbv])
        have hat2 : atI kvs ((ks.length - (i + 1) : Nat) : Int) = some (.int y) := at_of (j := ks.length - (i + 1)) (by omega) (by rw [List.getElem?_eq_getElem hjk, hkv])
        have hb' := s' _ _ hb
        refine ⟨_, rfl, _, rfl, p, _, _, _, rfl, rfl, SqL.of (s' _ _ hpp3), hat1, ?_⟩
        have qp' : H' pa = some (.tup kvs) ∨ H' pa = some (.lst kvs) := qp3.imp (s' _ _) (s' _ _)
        refine ⟨_, rfl, _, rfl, ?_⟩
        suffices hh : _ from by
          rcases qp' with q | q
          · exact .inr (.inl ⟨pa, _, _, _, rfl, rfl, SqT.of q, hat2, hh⟩)
          · exact .inl ⟨pa, _, _, _, rfl, rfl, SqL.of q, hat2, hh⟩
        refine ⟨_, rfl, _, rfl, y, 1, rfl, rfl, y + 1, rfl, b, _, rfl, SqT.of hb', not_whole_hi (by omega) (by rw [List.length_cons]; omega), fun q nq => ?_⟩
        rw [cutTo (by omega), hnl, List.take_succ_cons]
        have sq2 : Same H' (upd H' q (.tup (.str z :: cvs.take y.toNat))) := same_upd nq
        have hq2 : (upd H' q (.tup (.str z :: cvs.take y.toNat))) q = some (.tup (.str z :: cvs.take y.toNat)) := upd_same
        generalize upd H' q (.tup (.str z :: cvs.take y.toNat)) = H4 at sq2 hq2
        refine ⟨_, rfl, (by show 1 ≤ sizeLine; decide), fun x nx => ?_⟩
        refine ⟨q, x, _, _, rfl, rfl, SqT.of (by rw [upd_ne (ne_of_none hq2 nx)]; exact hq2), SqT.of upd_same, by simp, by rw [sizeLine_eq]; simp; omega, (fun e => by cases e), fun _ g ng => ?_⟩
        have s5 : Same H4 (upd (upd H4 x (.tup [mv])) g (.tup ((.str z :: cvs.take y.toNat) ++ [mv]))) := (same_upd nx).trans (same_upd ng)
        have hg5 : (upd (upd H4 x (.tup [mv])) g (.tup ((.str z :: cvs.take y.toNat) ++ [mv]))) g = some (.tup ((.str z :: cvs.take y.toNat) ++ [mv])) := upd_same
        generalize upd (upd H4 x (.tup [mv])) g (.tup ((.str z :: cvs.take y.toNat) ++ [mv])) = H5 at s5 hg5
        have s05 := sq2.trans s5
        refine ⟨_, rfl, _, rfl, y, 2, rfl, rfl, y + 2, rfl, b, _, rfl, SqT.of (s05 _ _ hb'), not_whole (by omega) (by simp), fun r2 nr2 => ?_⟩
        rw [cutFrom (by omega), show (y + 2).toNat = y.toNat + 1 + 1 by omega, List.drop_succ_cons]
        have s6 := s5.trans (same_upd nr2 (o := .tup (cvs.drop (y.toNat + 1))))
        have hg6 : (upd H5 r2 (.tup (cvs.drop (y.toNat + 1)))) g = some (.tup ((.str z :: cvs.take y.toNat) ++ [mv])) := by rw [upd_ne (ne_of_none hg5 nr2)]; exact hg5
        have s06 : Same H' (upd H5 r2 (.tup (cvs.drop (y.toNat + 1)))) := sq2.trans s6
        have hr6 : (upd H5 r2 (.tup (cvs.drop (y.toNat + 1)))) r2 = some (.tup (cvs.drop (y.toNat + 1))) := upd_same
        generalize upd H5 r2 (.tup (cvs.drop (y.toNat + 1))) = H6 at s6 hg6 s06 hr6
        have s36 : Same H3 H6 := s'.trans s06
        have wk : DAts nol H6 cvs cs := DAts.hold (.same s36) _ hcs
        have all : DAts nol H6 (cvs.take y.toNat ++ [mv] ++ cvs.drop (y.toNat + 1)) (cs.take y.toNat ++ [setD c o kr] ++ cs.drop (y.toNat + 1)) := DAts.app (DAts.app (DAts.take _ wk) ⟨DAt.hold (.same s06) _ hmv, trivial⟩) (DAts.drop _ wk)
        have fin : ∀ (H7 : Hp) (c' : Addr), Same H6 H7 → H7 c' = some (.tup (.str z :: (cvs.take y.toNat ++ [mv] ++ cvs.drop (y.toNat + 1)))) → Same H3 H7 ∧ DAt nol H7 (.ref c') (.sq (.fl (.str z) :: (cs.take y.toNat ++ [setD c o kr] ++ cs.drop (y.toNat + 1)))) := fun H7 c' s7 hc7 =>
          ⟨s36.trans s7, c', _, rfl, .inl hc7, rfl, ⟨rfl, rfl⟩, DAts.hold (.same s7) _ all⟩
        refine ⟨g, r2, _, _, rfl, rfl, SqT.of hg6, SqT.of hr6, by simp, by rw [sizeLine_eq]; simp; omega, fun e => ?_, fun _ c' nc => ?_⟩
        · have := fin H6 g (fun b o e => e) (by rw [e, List.append_nil]; exact hg6)
          exact ⟨_, _, _, _, rfl, this⟩
        · have := fin _ c' (same_upd nc) (by first | exact upd_same | (rw [upd_same]; simp))
          exact ⟨_, _, _, _, rfl, this⟩
      · rintro σ H' ⟨v5, v6, v7, mv, rfl, s', hmv⟩
        rw [Nat.sub_self, List.drop_zero] at hmv
        refine ⟨_, rfl, k (setD d o ks) ?_ mv H' (s03.trans s') hmv⟩
        show (downD d ks).map _ = _
        rw [hds]
        rfl
end
end K5

namespace K5
open PySem PySem.Spec PyProof.Rows L2 C8 XE XI
/-! new data, laid item by item: what the text writes of it -/
/-- te lays d, wherever H has grown to -/
def GE (H : Hp) (σ : L2.St) (te : TE) (d : D) : Prop := ∀ H0, Same H H0 → ∀ Q : VK, (∀ v H1, Same H0 H1 → DAt (fun a => H a = none) H1 v d → Q v H1) → te σ H0 Q
def GA (H : Hp) (σ : L2.St) (t : TA) (ds : List D) : Prop := ∀ H0, Same H H0 → ∀ Q : List V → Hp → Prop, (∀ vs H1, Same H0 H1 → DAts (fun a => H a = none) H1 vs ds → Q vs H1) → t σ H0 Q
/-- small things: short texts, small numbers, no dict -/
def okX : V → Bool
  | .int i => decide (-9 ≤ i) && decide (i ≤ 9)
  | .str z => decide (z.length ≤ 20) && PyData.strOk z
  | .non => true
  | .bl _ => true
  | _ => false
mutual
def okD : D → Bool
  | .fl x => okX x
  | .emp => false
  | .sq xs => okDs xs
def okDs : List D → Bool
  | [] => true
  | x :: xs => okD x && okDs xs
end
theorem okDs_all : ∀ ds : List D, okDs ds = ds.all okD
  | [] => rfl
  | d :: ds => by rw [okDs, List.all_cons, okDs_all ds]
section
variable {H : Hp} {σ : L2.St}
theorem ge_c {x : V} (h : flatV x = true) : GE H σ (tC x) (.fl x) := fun H0 s0 Q k => k x H0 (fun _ _ e => e) ⟨rfl, h⟩
theorem ga_nil : GA H σ tNil [] := fun H0 s0 Q k => k [] H0 (fun _ _ e => e) trivial
theorem ga_cons {te : TE} {t : TA} {d : D} {ds : List D} (h : GE H σ te d) (h2 : GA H σ t ds) : GA H σ (tCons te t) (d :: ds) := fun H0 s0 Q k =>
  h H0 s0 _ fun v H1 s1 hv => h2 H1 (s0.trans s1) _ fun vs H2 s2 hvs => k (v :: vs) H2 (s1.trans s2) ⟨DAt.hold (.same s2) _ hv, hvs⟩
theorem ge_tup {t : TA} {ds : List D} (h : GA H σ t ds) (o : hdOk ds = true) (hl : ds.length ≤ 1000) : GE H σ (tTup t) (.sq ds) := fun H0 s0 Q k =>
  h H0 s0 _ fun vs H1 s1 hvs => ⟨by rw [hvs.len, sizeLine_eq]; omega, fun p np => k (.ref p) _ (s1.trans (same_upd np)) ⟨p, vs, rfl, .inl upd_same, o, DAts.hold (.same (same_upd np)) _ hvs⟩⟩
theorem ge_lst {t : TA} {ds : List D} (h : GA H σ t ds) (o : hdOk ds = true) (hl : ds.length ≤ 1000) : GE H σ (tLst t) (.sq ds) := fun H0 s0 Q k =>
  h H0 s0 _ fun vs H1 s1 hvs => ⟨by rw [hvs.len, sizeLine_eq]; omega, fun p np => k (.ref p) _ (s1.trans (same_upd np)) ⟨p, vs, rfl, .inr ⟨same_free (s0.trans s1) np, upd_same⟩, o, DAts.hold (.same (same_upd np)) _ hvs⟩⟩
theorem ge_neg {i : Int} : GE H σ (tUn (rU fun i => V.int (-i)) (tC (.int i))) (.fl (.int (-i))) := fun H0 s0 Q k => by
  refine ⟨i, rfl, ?_⟩
  exact k (.int (-i)) H0 (fun _ _ e => e) ⟨rfl, rfl⟩
abbrev tRow2 (a b : V) : TE := tTup (tCons (tC a) (tCons (tC b) tNil))
theorem ge_row {a b : V} (ha : flatV a = true) (hb : flatV b = true) : GE H σ (tRow2 a b) (.sq [.fl a, .fl b]) := ge_tup (ga_cons (ge_c ha) (ga_cons (ge_c hb) ga_nil)) rfl (by simp)
end
theorem DAts.mem {F : Addr → Prop} {H : Hp} {ds : List D} {vs : List V} (h : DAts F H vs ds) {v : V} (hv : v ∈ vs) : ∃ d ∈ ds, DAt F H v d := by
  obtain ⟨i, hi⟩ := List.getElem?_of_mem hv
  obtain ⟨d, hd, q⟩ := h.get hi
  exact ⟨d, List.mem_of_getElem? hd, q⟩
theorem asg_lst {t : TA} {g : TG} {D : Ends} {σ : L2.St} {H : Hp} {ds : List K5.D} (h : GA H σ t ds) (hl : ds.length ≤ 1000)
    (k : ∀ p vs H', H p = none → H' p = some (.lst vs) → DAts (fun a => H a = none ∧ a ≠ p) H' vs ds → Same H H' → g (.ref p) σ H' D.nx) : tAsg (tLst t) g D σ H :=
  h H (Same.refl _) _ fun vs H2 s2 hvs => ⟨by rw [hvs.len, sizeLine_eq]; omega, fun p np => k p vs _ (same_free s2 np) upd_same (DAts.hold (.same (same_upd np)) _ (DAts.off np _ hvs)) (s2.trans (same_upd np))⟩
/-- xs.extend([..]), the list written there -/
theorem ext_lst {K : PySem.W.Frag} {t : TA} {i : Nat} {D : Ends} {σ : L2.St} {H : Hp} {ds : List K5.D} {p : Addr} {vs1 : List V} (h : GA H σ t ds) (hi : σ[i]? = some (some (.ref p))) (hp : H p = some (.lst vs1)) (hl : vs1.length + ds.length ≤ 1000)
    (k : ∀ vs2 H' q, H q = none → Same H H' → H' q = none → DAts (fun a => H a = none) H' vs2 ds → vs2.length = ds.length → D.nx σ (upd (upd H' q (.lst vs2)) p (.lst (vs1 ++ vs2)))) : tDrop (tBM K "list" rExtend (tVar i) (tCons (tLst t) tNil)) D σ H := by
  refine ⟨_, hi, .inl ⟨rfl, _, SqL.of hp⟩, ?_⟩
  refine h H (Same.refl _) _ fun vs2 H3 s3 hvs2 => ⟨by rw [hvs2.len, sizeLine_eq]; omega, fun q nq => ?_⟩
  have hp3 := s3 _ _ hp
  have pq : p ≠ q := ne_of_none hp3 nq
  have e2 := hvs2.len
  exact ⟨p, q, vs1, vs2, rfl, rfl, by rw [upd_ne pq]; exact hp3, upd_same, by rw [e2, sizeLine_eq]; omega, k vs2 H3 q (same_free s3 nq) s3 nq hvs2 e2⟩
theorem szs_le {ds : List D} {m : Nat} (h : ∀ d ∈ ds, sz d ≤ m) : szs ds ≤ m * ds.length := by
  induction ds with
  | nil => exact Nat.zero_le _
  | cons d ds ih =>
    have h1 := h d List.mem_cons_self
    have h2 := ih fun e he => h e (List.mem_cons_of_mem _ he)
    rw [szs, List.length_cons, Nat.mul_succ]
    omega
theorem okDs_app {a b : List D} (h : okDs a = true) (h' : okDs b = true) : okDs (a ++ b) = true := by
  rw [okDs_all, List.all_append, ← okDs_all, ← okDs_all, h, h']
  rfl
theorem okDs_mem {a : List D} (h : okDs a = true) {d : D} (hd : d ∈ a) : okD d = true := by
  rw [okDs_all] at h
  exact List.all_eq_true.mp h d hd
theorem okDs_of {a : List D} (h : ∀ d ∈ a, okD d = true) : okDs a = true := by
  rw [okDs_all]
  exact List.all_eq_true.mpr h
end K5

namespace K5
open PySem PySem.Spec PyProof.Rows L2 C8 XE XI
/-! _law_is_place -/
abbrev sIsP : Stmt := top 36
abbrev NIp : List Str := ["_law_tree_here", "_law_thing", "_law_x"]
theorem scIsP : FnScope NIp ["_law_tree_here", "_law_thing"] (fnScope sIsP) := fnScope_by (by decide +kernel)
def intsD : List D → Option (List Int)
  | [] => some []
  | .fl (.int i) :: ds => (intsD ds).map (i :: ·)
  | _ :: _ => none
def isPl (t d : D) : Bool := match d with
  | .sq ks => match intsD ks with
    | some p => (plcs t).any fun q => decide (q = p)
    | none => false
  | _ => false
theorem intsD_all : ∀ {ks : List D}, (ks.map numB).all id = true → ∃ p, intsD ks = some p ∧ ks = p.map fun i => D.fl (.int i)
  | [], _ => ⟨[], rfl, rfl⟩
  | d :: ds, h => by
    rw [List.map_cons, List.all_cons, Bool.and_eq_true] at h
    obtain ⟨p, e1, e2⟩ := intsD_all h.2
    have h1 : numB d = true := h.1
    unfold numB at h1
    split at h1
    · rename_i i
      exact ⟨i :: p, by rw [intsD, e1]; rfl, by rw [e2]; rfl⟩
    · cases h1
theorem intsD_not : ∀ {ks : List D}, (ks.map numB).all id = false → intsD ks = none
  | [], h => by cases h
  | d :: ds, h => by
    rw [List.map_cons, List.all_cons] at h
    cases hd : numB d with
    | false =>
      unfold intsD
      split
      · rename_i e; cases e
      · rename_i i ds' e
        injection e with e1 e2
        subst e1
        cases hd
      · rfl
    | true =>
      unfold numB at hd
      split at hd
      · rename_i i
        have h2 : (ds.map numB).all id = false := h
        rw [intsD, intsD_not h2]
        rfl
      · cases hd
theorem dats_ints {F : Addr → Prop} {H : Hp} : ∀ {p : List Int} {vs : List V}, DAts F H vs (p.map fun i => D.fl (.int i)) → vs = p.map V.int
  | [], [], _ => rfl
  | i :: p, v :: vs, ⟨⟨e, _⟩, t⟩ => by rw [e, dats_ints t]; rfl
  | [], _ :: _, h => h.elim
  | _ :: _, [], h => h.elim
theorem dp_ints {K : PySem.W.Frag} {H : Hp} : ∀ p : List Int, DpAll K H (p.map V.int) (p.map PyData.int)
  | [] => .nil
  | _ :: p => .cons (.int _) (dp_ints p)
theorem dp_pls {K : PySem.W.Frag} {H : Hp} : ∀ {ps : List (List Int)} {ws : List V}, Paired (PlV H) ws ps → DpAll K H ws (ps.map fun p => PyData.tuple (p.map PyData.int))
  | [], _, .nil => .nil
  | p :: ps, _, .cons ⟨a, e, q⟩ h => by
    subst e
    exact .cons (.tup (SqT.of q) (dp_ints p)) (dp_pls h)
theorem lay_ints : ∀ p : List Int, PyData.canLayAll0 (p.map PyData.int) = true ∧ PyData.depthAll (p.map PyData.int) ≤ 1
  | [] => by simp [PyData.canLayAll0, PyData.depthAll]
  | i :: p => by
    obtain ⟨h1, h2⟩ := lay_ints p
    constructor
    · simp [PyData.canLayAll0, PyData.canLay0, h1]
    · simp only [List.map_cons, PyData.depthAll, PyData.depth]
      omega
theorem lay_pls : ∀ ps : List (List Int), PyData.canLayAll0 (ps.map fun p => PyData.tuple (p.map PyData.int)) = true ∧ PyData.depthAll (ps.map fun p => PyData.tuple (p.map PyData.int)) ≤ 4
  | [] => by simp [PyData.canLayAll0, PyData.depthAll]
  | p :: ps => by
    obtain ⟨h1, h2⟩ := lay_pls ps
    obtain ⟨h3, h4⟩ := lay_ints p
    constructor
    · simp [PyData.canLayAll0, PyData.canLay0, h1, h3]
    · simp only [List.map_cons, PyData.depthAll, PyData.depth]
      omega
theorem eqv_ints : ∀ p q : List Int, PyData.eqv (.tuple (p.map PyData.int)) (.tuple (q.map PyData.int)) = decide (p = q) := by
  have go : ∀ p q : List Int, PyData.eqvAll (p.map PyData.int) (q.map PyData.int) = decide (p = q) := by
    intro p
    induction p with
    | nil => intro q; cases q <;> simp [PyData.eqvAll]
    | cons i p ih =>
      intro q
      cases q with
      | nil => simp [PyData.eqvAll]
      | cons j q =>
        rw [List.map_cons, List.map_cons, PyData.eqvAll, ih, Bool.eq_iff_iff]
        simp [PyData.eqv]
  intro p q
  rw [PyData.eqv, go]
def spIsP : Sp := fun vs H Q _ => ∃ (v u : V) (t d : D) (rs : List Rw) (F : Addr → Prop), vs = [v, u] ∧ DAt nol H v t ∧ isT rs t = true ∧ sz t ≤ 60 ∧ DAt F H u d ∧ sz d ≤ 100000 ∧ ∀ H', Same H H' → Q (.bl (isPl t d)) H'
section
variable {P : Program} {w : World} {K : PySem.W.Frag} {mg : Str → Option Value} {base : Heap}
theorem c_isP {f : Addr} {fd : FuncData} (F : Def K mg "_law_is_place" sIsP f fd) (b : Binds K fd ["_law_tree_here", "_law_thing"] []) (T : Blt4 mg) (CP : Cal P w K mg base 61 "_law_places" (spPlaces 60) []) : Cal P w K mg base 62 "_law_is_place" spIsP [] := by
  refine cal0 F b .nil scIsP (fun vs H Q E h => ?_) (fun cdv A outer s H vs Q E hr h => ?_)
  · obtain ⟨v, u, t, d, rs, G, rfl, _⟩ := h
    rfl
  · obtain ⟨v, u, t, d, rs, G, rfl, hv, ht, hz, hd, hdz, kk⟩ := h
    have nd := scIsP.nd
    have hu : (A.deeper (envOfC "_law_is_place" (fnScope sIsP) s.heap.objs.size f cdv)).units + 65 < cLine := by have := hr.un; omega
    refine ⟨_, pss_cons (ps_if (pt_not (pt_val (pe_callB call_isiT (by rfl) T.isi (by decide +kernel) (pa_cons (pv 1) (pa_cons (pe_tup (pa_cons (pe_bt "list" T.list) (pa_cons (pe_bt "tuple" T.tup) pa_nil))) pa_nil))))) (pss_one (ps_ret pe_bl)) pss_nil)
      (pss_cons (ps_if (pt_not (pt_val (pe_callB (cr_all rfl) (by rfl) T.all (by decide +kernel) (pa_cons (pe_lc (own := [("_law_x", 2)]) (g := gName 2) (tt := tYes) rfl nd (PI.or (pi_list (pv 1)) (pi_tup (pv 1))) (blkOk_by (N := NIp) (sc := fnScope sIsP) (by decide +kernel))
        (fun _ _ _ _ _ => pg_name (i := 2) nd rfl (Or.inl rfl)) (fun _ _ _ _ _ => pts_nil) (fun _ _ _ _ _ => pe_and (pe_callB (show CallR _ (.builtin "isinstance") (rIsi K) from call_isi) (by rfl) T.isi (by decide +kernel) (pa_cons (pv 2) (pa_cons (pe_bt "int" T.int) pa_nil))) (pe_one (pe_not (pe_callB (show CallR _ (.builtin "isinstance") (rIsi K) from call_isi) (by rfl) T.isi (by decide +kernel) (pa_cons (pv 2) (pa_cons (pe_bt "bool" T.boo) pa_nil))))))) pa_nil)))) (pss_one (ps_ret pe_bl)) pss_nil)
      (pss_one (ps_ret (pe_cmpR (op_inD hu) (pe_callTy call_tuple_of (by rfl) T.tup (by decide +kernel) (pa_cons (pv 1) pa_nil)) (pe_c CP hr (by decide) (by rfl) (pa_cons (pv 0) pa_nil)) (by rfl))))), ?_⟩
    obtain ⟨Ty, ty, k1, _⟩ := d_ty2 (K := K) hd
    refine ⟨_, rfl, (by show 2 ≤ sizeLine; decide), fun p np => ⟨u, p, [.ty "list", .ty "tuple"], _, _, isSq d, rfl, upd_same, .cons (.ty _) (.cons (.ty _) .nil), ty _ (same_upd np), k1, isSq d, rfl, ?_⟩⟩
    have s1 : Same H (upd H p (.tup [.ty "list", .ty "tuple"])) := same_upd np
    generalize upd H p (.tup [.ty "list", .ty "tuple"]) = H1 at s1
    cases d with
    | fl x => exact iteBt rfl (kk H1 s1)
    | emp => exact iteBt rfl (kk H1 s1)
    | sq ks =>
      refine iteBf rfl ?_
      obtain ⟨ua, us, rfl, q, _, hks⟩ := hd
      have hkl := hks.len
      have hkz : ks.length ≤ 100000 := by
        have := len_szs ks
        rw [sz] at hdz
        omega
      have hq1 : H1 ua = some (.tup us) ∨ H1 ua = some (.lst us) := q.imp (s1 _ _) fun e => s1 _ _ e.2
      have eqa : ∀ {H' : Hp}, Same H1 H' → H' ua = H1 ua := fun sm => by rcases hq1 with e | e <;> rw [e] <;> exact sm _ _ e
      have hsl := sizeLine_eq
      refine lt_walk (a := ua) (vs := us) rfl hq1 fun J jgo jst jyl => fun Da nDa => ?_
      refine lc_gen (J := J) us.length (fun j H' => H' Da = some (.lst (((ks.take j).map numB).map V.bl)) ∧ Same H1 H') ⟨upd_same, same_upd nDa⟩ (fun j H' hj ⟨_, sm⟩ => jgo j H' hj (eqa sm)) (fun H' ⟨_, sm⟩ => jst H' (eqa sm)) (fun j H' x H'' hj ⟨hD, sm⟩ yl => ?_) (fun H' ⟨hD, sm⟩ => ?_)
      · obtain ⟨rfl, hx⟩ := jyl j H' x H'' (eqa sm) yl
        obtain ⟨c, hc, hxc⟩ := hks.get hx
        obtain ⟨hlt, ec⟩ := List.getElem?_eq_some_iff.mp hc
        refine ⟨rfl, ?_⟩
        unfold tYes
        dsimp only
        rw [if_pos rfl]
        obtain ⟨Ty, ty, _, _, bb, k1, k2, k3⟩ := d_ty2 (K := K) hxc
        have ty0 := ty H'' (s1.trans sm)
        have fin : ∃ acc, H'' Da = some (.lst acc) ∧ acc.length < sizeLine ∧ (upd H'' Da (.lst (acc ++ [.bl (numB c)]))) Da = some (.lst (((ks.take (j + 1)).map numB).map V.bl)) ∧ Same H1 (upd H'' Da (.lst (acc ++ [.bl (numB c)]))) := by
          refine ⟨_, hD, by rw [List.length_map, List.length_map, List.length_take]; omega, ?_, fun b o e => by rw [upd_ne (ne_of_none e nDa)]; exact sm _ _ e⟩
          rw [upd_same, List.take_succ_eq_append_getElem hlt, ec, List.map_append, List.map_append]
          rfl
        refine ⟨_, rfl, x, .ty "int", _, _, _, rfl, .ty _, ty0, k1, _, rfl, ?_⟩
        cases hn : numB c with
        | true =>
          have : bb = false := by
            cases bb with
            | false => rfl
            | true => have := k3 rfl; rw [hn] at this; cases this
          subst this
          rw [hn] at fin
          exact iteBt rfl ⟨_, rfl, x, .ty "bool", _, _, _, rfl, .ty _, ty0, k2, _, rfl, fin⟩
        | false =>
          rw [hn] at fin
          cases bb with
          | true => exact iteBt rfl ⟨_, rfl, x, .ty "bool", _, _, _, rfl, .ty _, ty0, k2, _, rfl, fin⟩
          | false => exact iteBf rfl fin
      · rw [hkl, List.take_length] at hD
        refine ⟨Da, _, rfl, SqL.of hD, (ks.map numB).all id, rfl, ?_⟩
        cases hall : (ks.map numB).all id with
        | false =>
          refine iteBt rfl ?_
          have := kk H' (s1.trans sm)
          rw [isPl, intsD_not hall] at this
          exact this
        | true =>
          refine iteBf rfl ?_
          obtain ⟨p, e1, e2⟩ := intsD_all hall
          have hpl : isPl t (.sq ks) = (plcs t).any fun q => decide (q = p) := by rw [isPl, e1]
          rw [hpl] at kk
          subst e2
          obtain rfl := dats_ints hks
          have hq' : H' ua = some (.tup (p.map V.int)) ∨ H' ua = some (.lst (p.map V.int)) := hq1.imp (sm _ _) (sm _ _)
          have fin : ∀ (q : Addr) (H2 : Hp), Same H' H2 → H2 q = some (.tup (p.map V.int)) → (tCall (spPlaces 60) [] C8.E0 (tCons (tVar 0) tNil)) [some v, some (.ref ua), none] H2 fun y H3 => rInD K (.ref q) y H3 fun b H4 => Q b H4 := fun q H2 s2 hq => by
            have s02 := s1.trans (sm.trans s2)
            refine ⟨_, rfl, v, t, rs, rfl, DAt.hold (.same s02) _ hv, ht, hz, by omega, fun l ws ps H3 nl s3 hl hps _ _ _ e => ?_⟩
            subst e
            obtain ⟨a1, a2⟩ := lay_pls (plcs t)
            obtain ⟨b1, b2⟩ := lay_ints p
            refine ⟨.tuple (p.map PyData.int), (plcs t).map fun p => PyData.tuple (p.map PyData.int), .tup (SqT.of (s3 _ _ hq)) (dp_ints p), .lst (SqL.of hl) (dp_pls hps), ?_, ?_, ?_⟩
            · unfold SeqAt.shaped
              rw [PyData.canLay0, b1, Bool.true_and, decide_eq_true_eq, PyData.depth]
              omega
            · unfold SeqAt.shaped
              rw [PyData.canLay0, a1, Bool.true_and, decide_eq_true_eq, PyData.depth]
              omega
            · have := kk H3 (s02.trans s3)
              rw [List.any_map]
              have ef : ((fun z => PyData.eqv z (.tuple (p.map PyData.int))) ∘ fun p => PyData.tuple (p.map PyData.int)) = fun q => decide (q = p) := by
                funext q
                exact eqv_ints q p
              rw [ef]
              exact this
          refine ⟨_, rfl, ua, p.map V.int, rfl, ?_⟩
          rcases hq' with e | e
          · exact .inr ⟨SqT.of e, fin ua H' (fun _ _ e => e) e⟩
          · exact .inl ⟨SqL.of e, fun q nq => fin q _ (same_upd nq) upd_same⟩
end
end K5

namespace K5
open PySem PySem.Spec PyProof.Rows L2 C8 XE XI
/-! _law_odd -/
abbrev sOddP : Stmt := top 35
abbrev NOd : List Str := ["_law_state", "_law_tree_here", "_law_place", "_law_found", "_law_at_here", "_law_truths", "_law_x"]
theorem scOdd : FnScope NOd ["_law_state", "_law_tree_here"] (fnScope sOddP) := fnScope_by (by decide +kernel)
def pD (p : List Int) : List D := p.map fun i => .fl (.int i)
def tCat (K : PySem.W.Frag) (x : TE) : TE := tOp (rCatA K) (tVar 2) (tTup (tCons x tNil))
def tNeg1 : TE := tUn (rU fun i => V.int (-i)) (tC (.int 1))
def odd1 (p : List Int) : List D := [.fl .non, .fl (.int 5), .fl (.str "a"), .emp, .fl (.bl true), .sq (pD p ++ [.fl (.int 2)]), .sq (pD p ++ [.fl (.int (-1))]), .sq (pD p ++ [.fl (.str "0")])]
def odd2 (p : List Int) : List D := [.sq (pD p ++ [.fl .non]), .sq [.sq (pD p)], .sq (pD p)]
def rLst (K : PySem.W.Frag) : List V → Hp → VK → Prop := fun xs H Q => ∃ p ys, xs = [.ref p] ∧ (SqL K H p ys ∨ SqT K H p ys) ∧ ∀ l, H l = none → Q (.ref l) (upd H l (.lst ys))
theorem pD_dats {F : Addr → Prop} {H : Hp} : ∀ p : List Int, DAts F H (p.map V.int) (pD p)
  | [] => trivial
  | _ :: p => ⟨⟨rfl, rfl⟩, pD_dats p⟩
theorem szs_pD : ∀ p : List Int, szs (pD p) = p.length
  | [] => rfl
  | _ :: p => by show 1 + szs (pD p) = _; rw [szs_pD p, List.length_cons]; omega
theorem hdOk_pD (p : List Int) (x : V) : hdOk (pD p ++ [.fl x]) = true := by cases p <;> rfl
theorem hdOk_pD' (p : List Int) : hdOk (pD p) = true := by cases p <;> rfl
section
variable {K : PySem.W.Frag} {H : Hp} {σ : L2.St} {a : Addr} {p : List Int}
theorem ge_cat {te : TE} {x : V} (hi : σ[2]? = some (some (.ref a))) (ha : H a = some (.tup (p.map V.int))) (hp : p.length ≤ 5000) (h : GE H σ te (.fl x)) (hx : flatV x = true) : GE H σ (tCat K te) (.sq (pD p ++ [.fl x])) := fun H0 s0 Q k => by
  refine ⟨_, hi, h H0 s0 _ fun v H1 s1 hv => ⟨(by show 1 ≤ sizeLine; decide), fun q nq => ?_⟩⟩
  obtain ⟨rfl, _⟩ := hv
  have s2 : Same H0 (upd H1 q (.tup [v])) := s1.trans (same_upd nq)
  have hq : (upd H1 q (.tup [v])) q = some (.tup [v]) := upd_same
  generalize upd H1 q (.tup [v]) = H2 at s2 hq
  have ha2 := s2 _ _ (s0 _ _ ha)
  have all : DAts (fun a => H a = none) H2 (p.map V.int ++ [v]) (pD p ++ [.fl v]) := DAts.app (pD_dats p) ⟨⟨rfl, hx⟩, trivial⟩
  refine ⟨a, q, _, _, rfl, rfl, SqT.of ha2, SqT.of hq, by rw [sizeLine_eq]; simp; omega, fun e => ?_, fun _ e => (nomatch e), fun _ _ c nc => ?_⟩
  · rw [e] at all
    exact k _ H2 s2 ⟨q, _, rfl, .inl hq, hdOk_pD p v, all⟩
  · exact k _ _ (s2.trans (same_upd nc)) ⟨c, _, rfl, .inl upd_same, hdOk_pD p v, DAts.hold (.same (same_upd nc)) _ all⟩
theorem ge_dic : GE H σ tDNewK .emp := fun H0 s0 Q k d hd => k (.ref d) _ (same_upd hd) ⟨d, rfl, upd_same⟩
theorem ge_pl (hi : σ[2]? = some (some (.ref a))) (ha : H a = some (.tup (p.map V.int))) : GE H σ (tVar 2) (.sq (pD p)) := fun H0 s0 Q k => ⟨_, hi, k (.ref a) H0 (fun _ _ e => e) ⟨a, _, rfl, .inl (s0 _ _ ha), hdOk_pD' p, pD_dats p⟩⟩
theorem ge_lpl (hi : σ[2]? = some (some (.ref a))) (ha : H a = some (.tup (p.map V.int))) : GE H σ (tCB (rLst K) (tCons (tVar 2) tNil)) (.sq (pD p)) := fun H0 s0 Q k =>
  ⟨_, hi, a, p.map V.int, rfl, .inr (SqT.of (s0 _ _ ha)), fun l nl => k (.ref l) _ (same_upd nl) ⟨l, _, rfl, .inr ⟨same_free s0 nl, upd_same⟩, hdOk_pD' p, pD_dats p⟩⟩
theorem slA_any {xs : List V} {lo hi : Option Int} {Q : VK} (ha : H a = some (.tup xs)) (k : ∀ q H', Same H H' → H' q = some (.tup (cutV xs lo hi)) → Q (.ref q) H') : rSlA K (.ref a) lo hi H Q := by
  refine ⟨a, xs, rfl, SqT.of ha, fun hw => k a H (fun _ _ e => e) ?_, fun _ q nq => k q _ (same_upd nq) upd_same⟩
  have e : cutV xs lo hi = xs := by
    unfold cutV
    rw [hw.1, hw.2, List.drop_zero, Nat.sub_zero, List.take_length]
  rw [e]
  exact ha
theorem catA_any {xs ys : List V} {b : Addr} {Q : VK} (ha : H a = some (.tup xs)) (hb : H b = some (.tup ys)) (hl : xs.length + ys.length ≤ sizeLine) (k : ∀ q H', Same H H' → H' q = some (.tup (xs ++ ys)) → Q (.ref q) H') : rCatA K (.ref a) (.ref b) H Q := by
  refine ⟨a, b, xs, ys, rfl, rfl, SqT.of ha, SqT.of hb, hl, fun e => k b H (fun _ _ e => e) ?_, fun _ e => k a H (fun _ _ e => e) ?_, fun _ _ q nq => k q _ (same_upd nq) upd_same⟩
  · rw [e]; exact hb
  · rw [e, List.append_nil]; exact ha
end
def spOdd : Sp := fun vs H Q _ => ∃ (st : Addr) (v : V) (t : D) (rs : List Rw) (B : Nat) (cl : Addr), vs = [.ref st, v] ∧ DAt nol H v t ∧ isT rs t = true ∧ sz t ≤ 60 ∧ StAt B H st cl ∧ B + 20 < 1000000000000000 ∧
  ∀ (l : Addr) (ws : List V) (ds : List D) (H' : Hp), H l = none → H' l = some (.lst ws) → DAts (oth st) H' ws ds → (∀ d ∈ ds, sz d ≤ 64) → ds.length ≤ 20 → StAt (B + 20) H' st cl → But st H H' → Q (.ref l) H'
section
variable {P : Program} {w : World} {K : PySem.W.Frag} {mg : Str → Option Value} {base : Heap}
theorem c_odd {f : Addr} {fd : FuncData} (F : Def K mg "_law_odd" sOddP f fd) (b : Binds K fd ["_law_state", "_law_tree_here"] []) (T : Blt4 mg) (C : Cal P w K mg base 1 "_law_take" spTake []) (CO : Cal P w K mg base 2 "_law_one" spOne []) (CP : Cal P w K mg base 61 "_law_places" (spPlaces 60) []) : Cal P w K mg base 62 "_law_odd" spOdd [] := by
  refine cal0 F b .nil scOdd (fun vs H Q E h => ?_) (fun cdv A outer s H vs Q E hr h => ?_)
  · obtain ⟨st, v, t, rs, B, cl, rfl, _⟩ := h
    rfl
  · obtain ⟨st, v, t, rs, B, cl, rfl, hv, ht, hz, hst, hB, kk⟩ := h
    have nd := scOdd.nd
    refine ⟨_, pss_cut (ps_set (i := 2) nd rfl (Or.inl rfl) (pe_c CO hr (by decide) (by rfl) (pa_cons (pv 0) (pa_cons (pe_c CP hr (by decide) (by rfl) (pa_cons (pv 1) pa_nil)) pa_nil))))
      (pss_cut (ps_set (i := 3) nd rfl (Or.inl rfl) (pe_lst (pa_cons pe_non (pa_cons pe_int (pa_cons pe_str (pa_cons pe_dnewK (pa_cons pe_bl (pa_cons (pe_op op_catA (pv 2) (pe_tup (pa_cons pe_int pa_nil))) (pa_cons (pe_op op_catA (pv 2) (pe_tup (pa_cons (pe_un un_neg pe_int) pa_nil))) (pa_cons (pe_op op_catA (pv 2) (pe_tup (pa_cons pe_str pa_nil))) pa_nil))))))))))
      (pss_cut (ps_expr (pe_bm PySem.F.plainAttrs_list PySem.F.slot_list_extend PySem.F.type_list_extend mt_extend (pv 3) (pa_cons (pe_lst (pa_cons (pe_op op_catA (pv 2) (pe_tup (pa_cons pe_non pa_nil))) (pa_cons (pe_tup (pa_cons (pv 2) pa_nil)) (pa_cons (pe_callTy (show CallR _ (.type "list") (rLst K) from call_list_of) (by rfl) T.list (by decide +kernel) (pa_cons (pv 2) pa_nil)) pa_nil)))) pa_nil)))
      (pss_cut (ps_set (i := 4) nd rfl (Or.inl rfl) (pe_c C hr (by decide) (by rfl) (pa_cons (pv 0) (pa_cons (pe_op op_add (pe_callB call_len_seq (by rfl) T.len PySem.boot_len (pa_cons (pv 2) pa_nil)) pe_int) pa_nil))))
      (pss_cut (ps_set (i := 5) nd rfl (Or.inl rfl) (pe_callTy call_tuple_of (by rfl) T.tup (by decide +kernel) (pa_cons (pe_lc (own := [("_law_x", 6)]) (g := gName 6) (tt := tYes) rfl nd (pi_tup (pv 2)) (blkOk_by (N := NOd) (sc := fnScope sOddP) (by decide +kernel))
        (fun _ _ _ _ _ => pg_name (i := 6) nd rfl (Or.inl rfl)) (fun _ _ _ _ _ => pts_nil) (fun _ _ _ _ _ => pe_cmpR (show OpR _ (compareOp .Eq) rEq from op_eq) (pv 6) pe_int (by rfl))) pa_nil)))
      (pss_one (ps_ret (pe_op op_cat (pv 3) (pe_lst (pa_cons (pe_op op_catA (pe_op op_catA (pe_slice sl_tupA (pv 2) po_none (po_some (pv 4))) (pe_tup (pa_cons (pe_op op_add pe_int (pe_c C hr (by decide) (by rfl) (pa_cons (pv 0) (pa_cons pe_int pa_nil)))) pa_nil))) (pe_slice sl_tupA (pv 2) (po_some (pe_op op_add (pv 4) pe_int)) po_none))
        (pa_cons (pv 5) (pa_cons (pe_lst (pa_cons pe_bl pa_nil)) (pa_cons (pe_tup (pa_cons pe_bl pa_nil)) pa_nil)))))))))))), ?_⟩
    have nst : ∀ {a : Addr}, H a = none → a ≠ st := fun n => (hst.new n).1
    -- the place
    refine ⟨fun σ H' => ∃ (pa : Addr) (p : List Int), σ = [some (.ref st), some v, some (.ref pa), none, none, none, none] ∧ H' pa = some (.tup (p.map V.int)) ∧ p.length ≤ 60 ∧ pa ≠ st ∧ StAt (B + 1) H' st cl ∧ But st H H', ?_, ?_⟩
    · refine ⟨_, rfl, _, rfl, v, t, rs, rfl, hv, ht, hz, by omega, fun l ws ps H1 nl s1 hl hps hne hpl hin _ => ?_⟩
      have hwl := Paired.length hps
      have hp0 : 0 < ps.length := List.length_pos_iff.mpr hne
      refine ⟨st, l, ws, B, cl, rfl, .inl hl, nst nl, by omega, by omega, hst.same s1, by omega, fun x H2 hx hs2 b2 => ?_⟩
      obtain ⟨i, hi⟩ := List.getElem?_of_mem hx
      obtain ⟨p, hp, pa, rfl, hpa⟩ := paired_get hps hi
      have hpm := hin p (List.mem_of_getElem? hp)
      obtain ⟨ns, a1, a2, a3, a4, hst0, _⟩ := id (hst.same s1)
      have pst : pa ≠ st := ne_of hpa hst0 (by intro z; cases z)
      exact ⟨pa, p, rfl, b2 _ _ hpa pst, Nat.le_trans hpm.2 hz, pst, hs2, (Same.but s1).trans b2⟩
    rintro σ H1 ⟨pa, p, rfl, hpa, hpl, pst, hs1, b1⟩
    -- the first eight
    refine ⟨fun σ H' => ∃ (fo : Addr) (vs : List V), σ = [some (.ref st), some v, some (.ref pa), some (.ref fo), none, none, none] ∧ H' fo = some (.lst vs) ∧ H1 fo = none ∧ DAts (fun a => H1 a = none ∧ a ≠ fo) H' vs (odd1 p) ∧ Same H1 H', ?_, ?_⟩
    · refine asg_lst (ds := odd1 p) ?_ (by show 8 ≤ 1000; decide) fun fo vs H' np hp hv sm => ⟨fo, vs, rfl, hp, np, hv, sm⟩
      unfold odd1
      refine ga_cons (ge_c rfl) (ga_cons (ge_c rfl) (ga_cons (ge_c rfl) (ga_cons ge_dic (ga_cons (ge_c rfl) (ga_cons (ge_cat rfl hpa (by omega) (ge_c rfl) rfl) (ga_cons (ge_cat rfl hpa (by omega) ge_neg rfl) (ga_cons (ge_cat rfl hpa (by omega) (ge_c rfl) rfl) ga_nil)))))))
    rintro σ H2 ⟨fo, vs1, rfl, hf2, nf, hv1, s12⟩
    have hl0 : vs1.length = 8 := hv1.len
    -- three more
    refine ⟨fun σ H' => ∃ (vs : List V), σ = [some (.ref st), some v, some (.ref pa), some (.ref fo), none, none, none] ∧ H' fo = some (.lst vs) ∧ DAts (fun a => H1 a = none ∧ a ≠ fo) H' vs (odd1 p ++ odd2 p) ∧ Same H1 H', ?_, ?_⟩
    · refine ext_lst (ds := odd2 p) ?_ rfl hf2 (by rw [hl0]; show 8 + 3 ≤ 1000; decide) fun vs2 H3 q nq0 s3 nq hvs2 hl2 => ?_
      · have hpa2 := s12 _ _ hpa
        unfold odd2
        exact ga_cons (ge_cat rfl hpa2 (by omega) (ge_c rfl) rfl) (ga_cons (ge_tup (ga_cons (ge_pl rfl hpa2) ga_nil) rfl (by simp)) (ga_cons (ge_lpl rfl hpa2) ga_nil))
      · have hp3 := s3 _ _ hf2
        have s13 : Same H1 H3 := s12.trans s3
        have sH : Same H1 (upd (upd H3 q (.lst vs2)) fo (.lst (vs1 ++ vs2))) := fun a o e => by
          have e3 := s13 _ _ e
          rw [upd_ne (ne_of_none e nf), upd_ne (ne_of_none e3 nq)]
          exact e3
        refine ⟨vs1 ++ vs2, rfl, upd_same, ?_, sH⟩
        have keep : ∀ {G : Addr → Prop}, (∀ a, G a → a ≠ fo) → Hold G H3 (upd (upd H3 q (.lst vs2)) fo (.lst (vs1 ++ vs2))) := fun hG => ⟨fun a _ e => by rw [upd_ne (ne_of e hp3 (by intro z; cases z)), upd_ne (ne_of_none e nq)]; exact e, fun a e => by rw [upd_ne (ne_of e hp3 (by intro z; cases z)), upd_ne (ne_of_none e nq)]; exact e, fun a _ g e => by rw [upd_ne (hG a g), upd_ne (ne_of_none e nq)]; exact e⟩
        refine DAts.app (DAts.hold (keep fun a g => g.2) _ (DAts.hold (.same s3) _ hv1)) (DAts.hold (keep fun a g => g.2) _ (DAts.weak (fun a g => ⟨same_free s12 g, fun e => by rw [e, hf2] at g; cases g⟩) _ hvs2))
    rintro σ H3 ⟨vs, rfl, hf3, hvs, s13⟩
    have hlv : vs.length = 11 := hvs.len
    have ne_f : fo ≠ st := (hs1.new nf).1
    have hs3 := hs1.same s13
    have hvs' : DAts (oth st) H3 vs (odd1 p ++ odd2 p) := DAts.weak (fun a g => (hs1.new g.1).1) _ hvs
    have nfH : H fo = none := b1.free nf ne_f
    have b13 : But st H H3 := b1.trans (Same.but s13)
    -- where
    refine ⟨fun σ H' => ∃ (k : Int), σ = [some (.ref st), some v, some (.ref pa), some (.ref fo), some (.int k), none, none] ∧ 0 ≤ k ∧ k ≤ p.length ∧ StAt (B + 2) H' st cl ∧ But st H3 H', ?_, ?_⟩
    · refine ⟨_, rfl, _, rfl, pa, _, rfl, .inr (SqT.of (s13 _ _ hpa)), _, 1, rfl, rfl, st, _, B + 1, cl, rfl, by omega, by rw [List.length_map]; omega, hs3, by omega, fun d H4 d0 d1 hs4 b4 => ⟨d, rfl, d0, by rw [List.length_map] at d1; omega, hs4, b4⟩⟩
    rintro σ H4 ⟨k, rfl, k0, k1, hs4, b4⟩
    have hpa4 := b4 _ _ (s13 _ _ hpa) pst
    -- the truths
    refine ⟨fun σ H' => ∃ (ta : Addr), σ = [some (.ref st), some v, some (.ref pa), some (.ref fo), some (.int k), some (.ref ta), none] ∧ H' ta = some (.tup (p.map fun i => V.bl (decide (V.int i = V.int 1)))) ∧ Same H4 H', ?_, ?_⟩
    · refine ⟨_, rfl, pa, rfl, ⟨_, SqT.of hpa4⟩, fun Da nDa => ?_⟩
      have hsl := sizeLine_eq
      refine lc_gen (J := Itt K pa) (p.map V.int).length (fun j H' => H' Da = some (.lst ((p.take j).map fun i => V.bl (decide (V.int i = V.int 1)))) ∧ Same H4 H') ⟨upd_same, same_upd nDa⟩ (fun j H' hj ⟨_, sm⟩ => ⟨_, _, SqT.of (sm _ _ hpa4), List.getElem?_eq_getElem hj⟩) (fun H' ⟨_, sm⟩ => ⟨_, SqT.of (sm _ _ hpa4), Nat.le_refl _⟩) (fun j H' x H'' hj ⟨hD, sm⟩ yl => ?_) (fun H' ⟨hD, sm⟩ => ?_)
      · obtain ⟨rfl, hx⟩ := yl
        have hx := hx _ (SqT.of (sm _ _ hpa4))
        obtain ⟨i, hi, rfl⟩ : ∃ i, p[j]? = some i ∧ V.int i = x := by simpa using hx
        obtain ⟨hlt, ei⟩ := List.getElem?_eq_some_iff.mp hi
        refine ⟨rfl, ?_⟩
        unfold tYes
        dsimp only
        rw [if_pos rfl]
        refine ⟨_, rfl, rfl, _, hD, by rw [List.length_map, List.length_take]; omega, ?_, fun b o e => by rw [upd_ne (ne_of_none e nDa)]; exact sm _ _ e⟩
        rw [upd_same, List.take_succ_eq_append_getElem hlt, ei, List.map_append]
        rfl
      · rw [List.length_map, List.take_length] at hD
        exact ⟨Da, _, rfl, .inl ⟨SqL.of hD, fun l nl => ⟨l, rfl, upd_same, sm.trans (same_upd nl)⟩⟩⟩
    rintro σ H5 ⟨ta, rfl, hta, s45⟩
    have hs5 := hs4.same s45
    have hpa5 := s45 _ _ hpa4
    have nl1 : (p.map V.int).length ≤ 900 := by rw [List.length_map]; omega
    refine ⟨_, rfl, _, rfl, _, rfl, k, rfl, slA_any hpa5 fun q1 H6 s56 hq1 => ?_⟩
    rw [cutTo k0] at hq1
    have hs6 := hs5.same s56
    refine ⟨_, rfl, st, 2, B + 2, cl, rfl, by decide, by decide, hs6, by omega, fun d H7 d0 d1 hs7 b7 => ⟨1, d, rfl, rfl, (by show 1 ≤ sizeLine; decide), fun q2 nq2 => ?_⟩⟩
    obtain ⟨ns6, a1, a2, a3, a4, hst6, _⟩ := id hs6
    have q1st : q1 ≠ st := ne_of hq1 hst6 (by intro z; cases z)
    have hq17 := b7 _ _ hq1 q1st
    have hpa7 := b7 _ _ (s56 _ _ hpa5) pst
    have hta7 := b7 _ _ (s56 _ _ hta) (ne_of (s56 _ _ hta) hst6 (by intro z; cases z))
    have b37 : But st H3 H7 := b4.trans ((Same.but (s45.trans s56)).trans b7)
    have s78 : Same H7 (upd H7 q2 (.tup [.int (1 + d)])) := same_upd nq2
    have hq2 : (upd H7 q2 (.tup [.int (1 + d)])) q2 = some (.tup [.int (1 + d)]) := upd_same
    show rCatA K (.ref q1) (.ref q2) (upd H7 q2 (.tup [.int (1 + d)])) _
    generalize upd H7 q2 (.tup [.int (1 + d)]) = H8 at s78 hq2
    have hsl := sizeLine_eq
    have tk1 : ((p.map V.int).take k.toNat).length ≤ 900 := by rw [List.length_take]; omega
    have tk2 : ((p.map V.int).drop (k + 1).toNat).length ≤ 900 := by rw [List.length_drop]; omega
    refine catA_any (s78 _ _ hq17) hq2 (by rw [List.length_singleton]; omega) fun q3 H9 s89 hq3 => ?_
    refine ⟨_, rfl, _, rfl, k, 1, rfl, rfl, k + 1, rfl, ?_⟩
    unfold tNoPart
    dsimp only
    refine slA_any (s89 _ _ (s78 _ _ hpa7)) fun q4 H10 s90 hq4 => ?_
    rw [cutFrom (by omega)] at hq4
    refine catA_any (s90 _ _ hq3) hq4 (by rw [List.length_append, List.length_singleton]; omega) fun q5 H11 s01 hq5 => ?_
    have s7b : Same H7 H11 := s78.trans (s89.trans (s90.trans s01))
    refine ⟨_, rfl, (by show 1 ≤ sizeLine; decide), fun l1 nl1 => ⟨(by show 1 ≤ sizeLine; decide), fun t1 nt1 => ⟨(by show 4 ≤ sizeLine; decide), fun l2 nl2 => ?_⟩⟩⟩
    have hs11 := hs7.same s7b
    have l1st : l1 ≠ st := (hs11.new nl1).1
    have sA : Same H11 (upd H11 l1 (.lst [.bl true])) := same_upd nl1
    have hl1 : (upd H11 l1 (.lst [.bl true])) l1 = some (.lst [.bl true]) := upd_same
    generalize upd H11 l1 (.lst [.bl true]) = H12 at sA hl1 nt1 nl2 ⊢
    have sB : Same H12 (upd H12 t1 (.tup [.bl false])) := same_upd nt1
    have ht1 : (upd H12 t1 (.tup [.bl false])) t1 = some (.tup [.bl false]) := upd_same
    generalize upd H12 t1 (.tup [.bl false]) = H13 at sB ht1 nl2 ⊢
    have sC : Same H13 (upd H13 l2 (.lst [.ref q5, .ref ta, .ref l1, .ref t1])) := same_upd nl2
    have hl2 : (upd H13 l2 (.lst [.ref q5, .ref ta, .ref l1, .ref t1])) l2 = some (.lst [.ref q5, .ref ta, .ref l1, .ref t1]) := upd_same
    show rCat (.ref fo) (.ref l2) (upd H13 l2 (.lst [.ref q5, .ref ta, .ref l1, .ref t1])) _
    generalize upd H13 l2 (.lst [.ref q5, .ref ta, .ref l1, .ref t1]) = H14 at sC hl2
    have s7e : Same H7 H14 := s7b.trans (sA.trans (sB.trans sC))
    have b3e : But st H3 H14 := b37.trans (Same.but s7e)
    have hf14 := b3e _ _ hf3 ne_f
    refine ⟨fo, l2, vs, _, rfl, rfl, hf14, hl2, by rw [hlv]; show 11 + 4 ≤ sizeLine; decide, fun c nc => ?_⟩
    have sF : Same H14 (upd H14 c (.lst (vs ++ [.ref q5, .ref ta, .ref l1, .ref t1]))) := same_upd nc
    have hc : (upd H14 c (.lst (vs ++ [.ref q5, .ref ta, .ref l1, .ref t1]))) c = some (.lst (vs ++ [.ref q5, .ref ta, .ref l1, .ref t1])) := upd_same
    generalize upd H14 c (.lst (vs ++ [.ref q5, .ref ta, .ref l1, .ref t1])) = H15 at sF hc
    have b3f : But st H3 H15 := b3e.trans (Same.but sF)
    have s7f := s7e.trans sF
    have sBf : Same H12 H15 := sB.trans (sC.trans sF)
    have ncH : H c = none := (b13.trans b3e).free nc ((hs7.same s7e).new nc).1
    have dq5 : DAt (oth st) H15 (.ref q5) (.sq (pD (p.take k.toNat) ++ [.fl (.int (1 + d))] ++ pD (p.drop (k + 1).toNat))) := by
      refine ⟨q5, _, rfl, .inl ((sA.trans sBf) _ _ hq5), ?_, DAts.app (DAts.app ?_ ⟨⟨rfl, rfl⟩, trivial⟩) ?_⟩
      · cases p.take k.toNat <;> rfl
      · rw [← List.map_take]; exact pD_dats _
      · rw [← List.map_drop]; exact pD_dats _
    have dta : DAt (oth st) H15 (.ref ta) (.sq (p.map fun i => D.fl (.bl (decide (V.int i = V.int 1))))) := by
      have go : ∀ p : List Int, DAts (oth st) H15 (p.map fun i => V.bl (decide (V.int i = V.int 1))) (p.map fun i => D.fl (.bl (decide (V.int i = V.int 1)))) := fun p => by
        induction p with
        | nil => trivial
        | cons i p ih => exact ⟨⟨rfl, rfl⟩, ih⟩
      exact ⟨ta, _, rfl, .inl (s7f _ _ hta7), (by cases p <;> rfl), go p⟩
    have dl1 : DAt (oth st) H15 (.ref l1) (.sq [.fl (.bl true)]) := ⟨l1, _, rfl, .inr ⟨l1st, sBf _ _ hl1⟩, rfl, ⟨rfl, rfl⟩, trivial⟩
    have dt1 : DAt (oth st) H15 (.ref t1) (.sq [.fl (.bl false)]) := ⟨t1, _, rfl, .inl ((sC.trans sF) _ _ ht1), rfl, ⟨rfl, rfl⟩, trivial⟩
    refine kk c _ ((odd1 p ++ odd2 p) ++ [.sq (pD (p.take k.toNat) ++ [.fl (.int (1 + d))] ++ pD (p.drop (k + 1).toNat)), .sq (p.map fun i => D.fl (.bl (decide (V.int i = V.int 1)))), .sq [.fl (.bl true)], .sq [.fl (.bl false)]]) H15 ncH hc
      (DAts.app (DAts.hold (.but hs3 b3f fun a g => g) _ hvs') ⟨dq5, dta, dl1, dt1, trivial⟩) ?_ ?_ ((hs7.same s7f).mono (by omega)) (b13.trans b3f)
    · intro x hx
      have z1 : ∀ p : List Int, szs (p.map fun i => D.fl (.bl (decide (V.int i = V.int 1)))) = p.length := fun p => by
        induction p with
        | nil => rfl
        | cons i p ih => rw [List.map_cons, szs, ih, List.length_cons, sz]; omega
      have z2 := szs_pD p
      have z3 := szs_pD (p.take k.toNat)
      have z4 := szs_pD (p.drop (k + 1).toNat)
      rw [List.length_take] at z3
      rw [List.length_drop] at z4
      simp only [odd1, odd2, List.mem_append, List.mem_cons, List.mem_nil_iff, or_false] at hx
      rcases hx with (h | h) | h
      · rcases h with rfl | rfl | rfl | rfl | rfl | rfl | rfl | rfl <;> simp [sz, szs, szs_app, z2] <;> omega
      · rcases h with rfl | rfl | rfl <;> simp [sz, szs, szs_app, z2] <;> omega
      · rcases h with rfl | rfl | rfl | rfl
        · simp only [sz, szs, szs_app, z3, z4]; omega
        · rw [sz, z1]; omega
        · decide
        · decide
    · simp [odd1, odd2]
end
end K5

namespace K5
open PySem PySem.Spec PyProof.Rows L2 C8 XE XI LamX
/-! _law_refused: it calls what it got -/
abbrev sRef : Stmt := top 34
abbrev NRf : List Str := ["_law_ask", "_law_found", "e"]
theorem scRef : FnScope NRf ["_law_ask"] (fnScope sRef) := fnScope_by (by decide +kernel)
/-- what stands of an own exception class with one field, besides EC -/
structure XX (K : PySem.W.Frag) (mg : Str → Option Value) (x f : Str) (C : Addr) : Prop where
  xf : XfC K C
  no : PySem.W.findIn K (.ref C) f = some none
  ex : PySem.W.exmOne K (.ref C) (.ref C) = some true
  gl : mg x = some (.ref C)
/-- ("told", what it gives) or ("none", the place) -/
def TRef (NP : Addr) : (XK → Hp → VK → Prop) → Hp → VK → Prop := fun tl H Q =>
  ∀ (E' : XK) (Q' : VK), (∀ d v H', H' d = some (.xd [("place", v)]) → (∀ p, H' p = none → Q (.ref p) (upd H' p (.tup [.str "none", v]))) → E' (.ref NP) (some d) H') →
    (∀ v H', (∀ p, H' p = none → Q (.ref p) (upd H' p (.tup [.str "told", v]))) → Q' v H') → tl E' H Q'
theorem ref_gives {X : Cx} {q : Str} {g NP : Addr} {cdg : Value} (XN : XX X.K X.mg "NoPlace" "place" NP) : GivesTo X NRf "_law_refused" (fnScope sRef) g cdg (fnBody sRef) "_law_ask" q (TRef NP) := by
  intro f c' s H Q tl act hc h
  refine ⟨_, pss_cut (ps_try_as (X := (cxOf C8.CX0 X.prog X.w X.K X.mg X.base NRf "_law_refused" (fnScope sRef) g cdg X.A X.stack s H C8.E0).nox) (i := 2) (c := .ref NP)
      (tb := fun W D σ H => ∃ Ech : XK, (∀ cls d σ' H', Ech cls d H' → W cls d σ' H') ∧ tAsg (tTup (tCons (tC (.str "told")) (tCons (fun σZ HZ Q => σZ[0]? = some (some (.ref f)) ∧ HZ c' = some (CodeO c' q) ∧ tl Ech HZ Q) tNil))) (gName 1) D σ H)
      (ts := fun a cls d D σ H => σ.length = 3 → tAsg (tTup (tCons (tC (.str "none")) (tCons (tXf a cls d NP "place" (tVar 2)) tNil))) (gName 1) D σ H) (Wout := fun _ _ _ _ => False) rfl rfl scRef.nd rfl rfl ⟨rfl, by decide, Or.inl XN.gl⟩ LamX.takes0
      (fun W pn xe tk _ => ?_)
      (fun a oe cls d pn hz hf => ?_))
    (pss_one (ps_ret (pv 1))), ?_⟩
  · refine ⟨fun pins s' σ H' D I h' => ?_⟩
    obtain ⟨Ech, hW, h1⟩ := h'
    refine PSs.run ?_ pins s' σ H' D I h1
    exact pss_one (ps_set (i := 1) scRef.nd rfl (Or.inl rfl) (pe_tup (pa_cons pe_str (pa_cons (act W pn xe Ech _ _ tk hW) pa_nil))))
  · refine ⟨fun pins s' σ H' D I h' => ?_⟩
    refine PSs.run ?_ pins s' σ H' D I (h' I.len)
    exact pss_one (ps_set (i := 1) scRef.nd rfl (Or.inl rfl) (pe_tup (pa_cons pe_str (pa_cons (pe_xf XN.xf XN.no hz hf (pv 2)) pa_nil))))
  · refine ⟨fun σ H' => ∃ p, σ[1]? = some (some (.ref p)) ∧ Q (.ref p) H', ?_, ?_⟩
    · refine ⟨fun cls od H' => cls = .ref NP ∧ ∃ d v, od = some d ∧ H' d = some (.xd [("place", v)]) ∧ ∀ p, H' p = none → Q (.ref p) (upd H' p (.tup [.str "none", v])), ?_, ?_⟩
      · rintro cls od σ' H' ⟨rfl, d, v, rfl, hd, k⟩
        refine ⟨true, XN.ex, fun _ a ha hlen => ?_, fun z => nomatch z⟩
        rw [List.length_set] at hlen
        match σ', hlen with
        | [x0, x1, x2], _ => exact ⟨_, rfl, rfl, rfl, d, _, v, rfl, hd, rfl, (by show 2 ≤ sizeLine; decide), fun p np => ⟨p, rfl, k p np⟩⟩
      · refine ⟨rfl, hc, ?_⟩
        refine h _ _ (fun d v H' hd k => ⟨rfl, d, v, rfl, hd, k⟩) (fun v H' k => ?_)
        exact ⟨(by show 2 ≤ sizeLine; decide), fun p np => ⟨p, rfl, k p np⟩⟩
    · rintro σ H1 ⟨p, e, q⟩
      exact ⟨_, e, q⟩
section
variable {X : Cx}
theorem pe_ref {g NP c P : Addr} {fd : FuncData} {k : Nat} {params : Arguments} {body : Expr} {scope : Scope} {t : XK → TE} {p lpos pos : Pos} (DR : Def X.K X.mg "_law_refused" sRef g fd) (br : Binds X.K fd ["_law_ask"] []) (XN : XX X.K X.mg "NoPlace" "place" NP) (hg : Gl X "_law_refused")
    (TB : TabB X.base X.mg c P) (hcode : X.env.code = .ref c) (hr : Room (k + 2) X.A) (L : LamS X.env.scope scope) (hdef : defaultsOf params X.env = ([], []))
    (hbind : ∀ (q : Str) (cl : List (Str × Addr)) (pm cv ctv : Value), bindArgs (PySem.W.kla_fn "<lambda>" q params body scope cl pm cv ctv) ⟨[], []⟩ = pure [])
    (hbody : ∀ (A : Around) (outer : List Env) (s : Shared) (H : Hp) (E : XK) (f c' : Addr), Room k (A.deeper (lamEnv X scope s.heap.objs.size f c')) → PE (lamCx X A outer s H E scope f c') body (t E)) :
    PE X (.Call (.Name "_law_refused" p) [.Lambda params body scope lpos] [] pos) (tLam [(P, X.env.qual ++ "<lambda>")] (TRef NP) t) := by
  obtain ⟨oc, od, dV, kV, doc, pm, an, cdv, ct, osl, rfl, lk, hcd⟩ := DR.fn.ex
  exact pe_lamcall hg DR.mgf DR.kp lk hcd br scRef rfl (Or.inl rfl) (ref_gives XN) TB hcode List.mem_cons_self (fun q hq _ => by rw [List.mem_singleton.mp hq]) hr L hdef hbind hbody
end
end K5

namespace K5
open PySem PySem.Spec PyProof.Rows L2 C8 XE XI
/-! repr of small data -/
theorem same_t {K : PySem.W.Frag} {H H' : Hp} {a : Addr} {xs : List V} (e : Same H H') (h : SqT K H a xs) : SqT K H' a xs := by
  rcases h with h | h
  · rcases h with h | ⟨o, h⟩
    · exact Or.inl (.inl (e a _ h))
    · exact Or.inl (.inr ⟨o, e a _ h⟩)
  · exact Or.inr h
mutual
theorem Dp.same {K : PySem.W.Frag} {H H' : Hp} (s : Same H H') : ∀ (d : PyData) {v : V}, Dp K H v d → Dp K H' v d
  | .none, _, h => by cases h; exact .non
  | .bool _, _, h => by cases h; exact .bl _
  | .int _, _, h => by cases h; exact .int _
  | .str _, _, h => by cases h; exact .str _
  | .list ds, _, h => by
    cases h with
    | lst a b => exact .lst (s.seq a) (DpAll.same s ds b)
  | .tuple ds, _, h => by
    cases h with
    | tup a b => exact .tup (same_t s a) (DpAll.same s ds b)
  | .dict _, _, h => by cases h
theorem DpAll.same {K : PySem.W.Frag} {H H' : Hp} (s : Same H H') : ∀ (ds : List PyData) {vs : List V}, DpAll K H vs ds → DpAll K H' vs ds
  | [], _, h => by cases h; exact .nil
  | d :: ds, _, h => by
    cases h with
    | cons a b => exact .cons (Dp.same s d a) (DpAll.same s ds b)
end
/-- what is said of small data -/
structure Small (e : PyData) (n : Nat) : Prop where
  lay : e.canLay0 = true
  sho : e.showable = true
  lea : e.leavesShort 13 = true
  wei : e.weight + 1 ≤ 30 * n
  dep : e.depth ≤ n
structure SmallAll (es : List PyData) (n : Nat) : Prop where
  lay : PyData.canLayAll0 es = true
  sho : PyData.showableAll es = true
  lea : PyData.leavesShortAll 13 es = true
  wei : PyData.weightAll es ≤ 30 * n
  dep : PyData.depthAll es ≤ n
theorem small_int {i : Int} (h1 : -9 ≤ i) (h2 : i ≤ 9) : Small (.int i) 1 := by
  have : i = -9 ∨ i = -8 ∨ i = -7 ∨ i = -6 ∨ i = -5 ∨ i = -4 ∨ i = -3 ∨ i = -2 ∨ i = -1 ∨ i = 0 ∨ i = 1 ∨ i = 2 ∨ i = 3 ∨ i = 4 ∨ i = 5 ∨ i = 6 ∨ i = 7 ∨ i = 8 ∨ i = 9 := by omega
  rcases this with rfl | rfl | rfl | rfl | rfl | rfl | rfl | rfl | rfl | rfl | rfl | rfl | rfl | rfl | rfl | rfl | rfl | rfl | rfl <;> exact ⟨by decide +kernel, by decide +kernel, by decide +kernel, by decide +kernel, by decide +kernel⟩
theorem small_str {z : Str} (h1 : z.length ≤ 20) (h2 : PyData.strOk z = true) : Small (.str z) 1 := by
  refine ⟨h2, rfl, ?_, ?_, by simp [PyData.depth]⟩
  · show (z.cps.toList.all fun c => decide (c < 16 ^ 8)) = true
    unfold PyData.strOk at h2
    rw [← Array.all_toList] at h2
    refine List.all_eq_true.mpr fun c hc => decide_eq_true ?_
    have := of_decide_eq_true (List.all_eq_true.mp h2 c hc)
    omega
  · show z.cps.size + 1 ≤ 30
    have : z.cps.size = z.length := rfl
    omega
mutual
theorem small_of {K : PySem.W.Frag} {F : Addr → Prop} {H : Hp} : ∀ (d : D) {v : V}, okD d = true → DAt F H v d → ∃ e, (∀ H', Hold F H H' → Dp K H' v e) ∧ Small e (sz d)
  | .fl x, v, h, ⟨ev, hf⟩ => by
    subst ev
    have h : okX v = true := h
    cases v with
    | non => exact ⟨_, fun _ _ => .non, by refine ⟨rfl, rfl, rfl, by show 0 + 1 ≤ 30; decide, by simp [PyData.depth]⟩⟩
    | bl b => exact ⟨_, fun _ _ => .bl b, by refine ⟨rfl, rfl, rfl, by show 0 + 1 ≤ 30; decide, by simp [PyData.depth]⟩⟩
    | int i =>
      have h : (decide (-9 ≤ i) && decide (i ≤ 9)) = true := h
      rw [Bool.and_eq_true] at h
      exact ⟨_, fun _ _ => .int i, small_int (of_decide_eq_true h.1) (of_decide_eq_true h.2)⟩
    | str z =>
      have h : (decide (z.length ≤ 20) && PyData.strOk z) = true := h
      rw [Bool.and_eq_true] at h
      exact ⟨_, fun _ _ => .str z, small_str (of_decide_eq_true h.1) h.2⟩
    | _ => cases h
  | .emp, v, h, _ => by cases h
  | .sq xs, v, h, ⟨a, vs, e, q, o, k⟩ => by
    subst e
    obtain ⟨es, h1, S⟩ := smalls_of (K := K) xs h k
    have w : PyData.weightAll es + 1 ≤ 30 * (1 + szs xs) := by have := S.wei; omega
    have dp : (PyData.list es).depth ≤ 1 + szs xs ∧ (PyData.tuple es).depth ≤ 1 + szs xs := by
      have := S.dep
      constructor <;> (simp only [PyData.depth]; omega)
    rcases q with q | ⟨hF, q⟩
    · exact ⟨.tuple es, fun H' hh => .tup (SqT.of (hh.tup _ _ q)) (h1 H' hh), ⟨S.lay, S.sho, S.lea, w, dp.2⟩⟩
    · exact ⟨.list es, fun H' hh => .lst (SqL.of (hh.lst _ _ hF q)) (h1 H' hh), ⟨S.lay, S.sho, S.lea, w, dp.1⟩⟩
theorem smalls_of {K : PySem.W.Frag} {F : Addr → Prop} {H : Hp} : ∀ (ds : List D) {vs : List V}, okDs ds = true → DAts F H vs ds → ∃ es, (∀ H', Hold F H H' → DpAll K H' vs es) ∧ SmallAll es (szs ds)
  | [], [], _, _ => ⟨[], fun _ _ => .nil, ⟨rfl, rfl, rfl, Nat.zero_le _, by simp [PyData.depthAll]⟩⟩
  | d :: ds, v :: vs, h, ⟨k, t⟩ => by
    rw [okDs, Bool.and_eq_true] at h
    obtain ⟨e, h1, S⟩ := small_of (K := K) d h.1 k
    obtain ⟨es, h2, T⟩ := smalls_of (K := K) ds h.2 t
    refine ⟨e :: es, fun H' hh => .cons (h1 H' hh) (h2 H' hh), ⟨?_, ?_, ?_, ?_, ?_⟩⟩
    · rw [PyData.canLayAll0, S.lay, T.lay]; rfl
    · rw [PyData.showableAll, S.sho, T.sho]; rfl
    · rw [PyData.leavesShortAll, S.lea, T.lea]; rfl
    · rw [PyData.weightAll, szs]; have := S.wei; have := T.wei; omega
    · rw [PyData.depthAll, szs]; have := S.dep; have := T.dep; have := sz_pos d; omega
  | [], _ :: _, _, k => k.elim
  | _ :: _, [], _, k => k.elim
end
/-- repr(v) -/
def rRepr (K : PySem.W.Frag) : List V → Hp → VK → Prop := fun xs H Q => ∃ v, xs = [v] ∧ ((∃ e n, Dp K H v e ∧ Small e n ∧ n ≤ 400 ∧ Q (.str e.shown) H) ∨ ∃ a, v = .ref a ∧ H a = some (.dK []) ∧ Q (.str (PyData.dict []).shown) H)
theorem Small.fits {e : PyData} {n : Nat} (S : Small e n) (h : n ≤ 400) : e.shown.length ≤ sizeLine := by
  have := S.wei
  refine PyData.shown_fits (B := 13) (by decide) (by decide) S.lea ?_
  have e : (2 : Nat) ^ 20 = 1048576 := by decide
  omega
section
variable {X : Cx}
theorem call_repr (hg : X.A.guards = some []) (hu : X.A.units + 500 < cLine) : CallR X (.builtin "repr") (rRepr X.K) := by
  intro pins s σ H xs us Q I r h
  obtain ⟨v, rfl, h⟩ := h
  obtain ⟨u, rfl, ru⟩ := r.one
  rcases h with ⟨e, n, hd, S, hn, q⟩ | ⟨a, rfl, ha, q⟩
  · have hz := S.fits hn
    have hdep := S.dep
    cases hd with
    | non =>
      cases ru
      exact P.repr_of_none ⟨.str _, H, I.tok _, ⟨_, rfl⟩, q⟩
    | bl b =>
      cases ru
      exact P.repr_of_bool ⟨.str _, H, I.tok _, ⟨_, rfl⟩, q⟩
    | int i =>
      obtain ⟨t, rfl⟩ := ru
      exact P.repr_of_int (by have := S.sho; simpa [PyData.showable] using this) ⟨.str _, H, I.tok _, ⟨_, rfl⟩, q⟩
    | str z =>
      obtain ⟨t, rfl⟩ := ru
      exact P.repr_of_str ⟨.str _, H, I.tok _, ⟨_, rfl⟩, q⟩ hz
    | lst hs ha =>
      cases ru
      obtain ⟨as, hr⟩ := Dp.reads I _ _ _ (.lst hs ha) rfl
      exact repr_of_reads' hr S.sho (PyData.noDict_hsm (PyData.hasDict_of_canLay _ S.lay)) hg (by omega) (fun _ _ e => e) (fun h' u tk hk => ⟨.str _, H, I.kept hk, ⟨_, rfl⟩, q⟩) hz
    | tup hs ha =>
      cases ru
      obtain ⟨as, hr⟩ := Dp.reads I _ _ _ (.tup hs ha) rfl
      exact repr_of_reads' hr S.sho (PyData.noDict_hsm (PyData.hasDict_of_canLay _ S.lay)) hg (by omega) (fun _ _ e => e) (fun h' u tk hk => ⟨.str _, H, I.kept hk, ⟨_, rfl⟩, q⟩) hz
  · cases ru
    obtain ⟨_, hS, vs, r, o, es, ep, ho, hc, hd, _, hp, _⟩ := dk_of I.hok ha
    cases r
    have he : es.toList = [] := by
      generalize es.toList = l at hp
      cases hp
      rfl
    have hr : Reads s.heap (.ref a) (.dict []) (a :: [] ++ []) := .dict ho hc.1 hd (by rw [he]; exact .nil) (by rw [he]; exact .nil)
    refine repr_of_reads' hr rfl (fun _ hm => ?_) hg (by simp only [PyData.depth, PyData.depthKv]; omega) (fun _ _ e => e) (fun h' u tk hk => ⟨.str _, H, I.kept hk, ⟨_, rfl⟩, q⟩) (by decide +kernel)
    have : sysModules = a := by simpa using hm
    subst this
    cases hS
end
end K5

namespace K5
open PySem PySem.Spec PyProof.Rows L2 C8 XE XI LamX
/-! what the law says and what the program says, of the same data -/
mutual
theorem places_alike : ∀ (d : D) (pl : List Int), (nodesP pl d).map (fun q => q.2) = (plcs d).map (pl ++ ·)
  | .fl _, pl => by simp [nodesP, plcs]
  | .emp, pl => by simp [nodesP, plcs]
  | .sq [], pl => by simp [nodesP, plcs]
  | .sq (x :: cs), pl => by
    rw [nodesP, plcs, List.map_cons, List.map_cons, places_alikes cs pl 0, List.append_nil]
theorem places_alikes : ∀ (cs : List D) (pl : List Int) (k : Nat), (nodesPs pl k cs).map (fun q => q.2) = (plcss k cs).map (pl ++ ·)
  | [], pl, k => rfl
  | c :: cs, pl, k => by
    rw [nodesPs, plcss, List.map_append, List.map_append, places_alike c, places_alikes cs pl (k + 1), List.map_map]
    congr 1
    apply List.map_congr_left
    intro q _
    simp
end
theorem places_eq (d : D) : (nodesP [] d).map (fun q => q.2) = plcs d := by
  rw [places_alike d []]
  simp
theorem plcss_mem : ∀ {cs : List D} {k : Nat} {q : List Int}, q ∈ plcss k cs → ∃ j c q', cs[j]? = some c ∧ q = ((k + j : Nat) : Int) :: q' ∧ q' ∈ plcs c
  | [], k, q, h => by cases h
  | c :: cs, k, q, h => by
    rw [plcss] at h
    rcases List.mem_append.mp h with h | h
    · obtain ⟨q', h1, rfl⟩ := List.mem_map.mp h
      exact ⟨0, c, q', rfl, rfl, h1⟩
    · obtain ⟨j, c', q', h1, h2, h3⟩ := plcss_mem h
      exact ⟨j + 1, c', q', h1, by rw [h2, show k + 1 + j = k + (j + 1) by omega], h3⟩
theorem mem_plcss : ∀ {cs : List D} {k j : Nat} {c : D} {q : List Int}, cs[j]? = some c → q ∈ plcs c → (((k + j : Nat) : Int) :: q) ∈ plcss k cs
  | [], k, j, c, q, h, _ => by cases h
  | x :: cs, k, 0, c, q, h, hq => by
    cases h
    rw [plcss]
    exact List.mem_append_left _ (List.mem_map.mpr ⟨q, hq, rfl⟩)
  | x :: cs, k, j + 1, c, q, h, hq => by
    rw [plcss]
    have := mem_plcss (k := k + 1) (show cs[j]? = some c from h) hq
    rw [show k + 1 + j = k + (j + 1) by omega] at this
    exact List.mem_append_right _ this
theorem plcs_inN : ∀ (n : Nat) (d : D), sz d ≤ n → ∀ q ∈ plcs d, InT d q ∧ q.length < sz d
  | 0, d, h, q, hq => by have := sz_pos d; omega
  | n + 1, .fl _, h, q, hq => by rw [List.mem_singleton.mp hq]; exact ⟨trivial, Nat.one_pos⟩
  | n + 1, .emp, h, q, hq => by rw [List.mem_singleton.mp hq]; exact ⟨trivial, Nat.one_pos⟩
  | n + 1, .sq [], h, q, hq => by rw [List.mem_singleton.mp hq]; exact ⟨trivial, Nat.one_pos⟩
  | n + 1, .sq (x :: cs), h, q, hq => by
    rw [plcs] at hq
    rcases List.mem_cons.mp hq with rfl | hq
    · exact ⟨trivial, sz_pos _⟩
    · obtain ⟨j, c, q', h1, rfl, h3⟩ := plcss_mem hq
      have hs := szs_get h1
      have e : sz (.sq (x :: cs)) = 1 + (sz x + szs cs) := rfl
      have := sz_pos x
      obtain ⟨a, b⟩ := plcs_inN n c (by omega) q' h3
      refine ⟨⟨by omega, c, ?_, a⟩, by rw [List.length_cons]; omega⟩
      rw [List.getElem?_cons_succ]
      simpa using h1
theorem plcs_in {d : D} {q : List Int} (h : q ∈ plcs d) : InT d q ∧ q.length < sz d := plcs_inN _ d (Nat.le_refl _) q h
theorem pD_ints : ∀ p : List Int, intsD (pD p) = some p
  | [] => rfl
  | i :: p => by show (intsD (pD p)).map (i :: ·) = _; rw [pD_ints p]; rfl
/-- down a place -/
theorem down_at : ∀ (p : List Int) (t : D), InT t p → ∃ ds, downD t (pD p) = some ds ∧ (t :: ds).getLastD t = subD t p
  | [], t, _ => ⟨[], rfl, by cases t <;> rfl⟩
  | i :: p, .sq [], h => by obtain ⟨_, c, h, _⟩ := h; cases h
  | i :: p, .sq (x :: cs), h => by
    obtain ⟨i0, c, hc, hin⟩ := h
    rw [List.getElem?_cons_succ] at hc
    obtain ⟨ds, h1, h2⟩ := down_at p c hin
    refine ⟨c :: ds, ?_, ?_⟩
    · show (kidD (.sq (x :: cs)) (.fl (.int i))).bind _ = _
      have : kidD (.sq (x :: cs)) (.fl (.int i)) = some c := by
        show (if 0 ≤ i then cs[i.toNat]? else none) = _
        rw [if_pos i0, hc]
      rw [this]
      show (downD c (pD p)).map _ = _
      rw [h1]
      rfl
    · rw [subD, List.getD_eq_getElem?_getD, hc, Option.getD_some, ← h2]
      rfl
  | i :: p, .fl x, h => h.elim
  | i :: p, .emp, h => h.elim
theorem piece_at {t : D} {p : List Int} (h : InT t p) : pieceD t (.sq (pD p)) = some (subD t p) := by
  obtain ⟨ds, h1, h2⟩ := down_at p t h
  show (downD t (pD p)).map _ = _
  rw [h1, Option.map_some, h2]
theorem set_at : ∀ (p : List Int) (t o : D), setD t o (pD p) = putD t p o
  | [], t, o => by cases t <;> rfl
  | i :: p, .sq [], o => rfl
  | i :: p, .sq (x :: cs), o => by
    show D.sq (x :: cs.set i.toNat (setD (cs.getD i.toNat .emp) o (pD p))) = _
    rw [set_at p, putD]
  | i :: p, .fl x, o => rfl
  | i :: p, .emp, o => rfl
theorem put_at {t o : D} {p : List Int} (h : InT t p) : putP t o (.sq (pD p)) = some (putD t p o) := by
  obtain ⟨ds, h1, h2⟩ := down_at p t h
  show (downD t (pD p)).map _ = _
  rw [h1, Option.map_some, set_at]
/-- what has a way down is a place -/
theorem down_place : ∀ (ks : List D) (t : D) (ds : List D), downD t ks = some ds → ∃ p, ks = pD p ∧ p ∈ plcs t
  | [], t, ds, h => ⟨[], rfl, by cases t with | sq xs => (cases xs <;> exact List.mem_cons_self) | _ => exact List.mem_cons_self⟩
  | k :: ks, t, ds, h => by
    rw [downD] at h
    cases hk : kidD t k with
    | none => rw [hk] at h; cases h
    | some c =>
      rw [hk] at h
      cases hd : downD c ks with
      | none => rw [Option.bind_some, hd] at h; cases h
      | some l =>
        obtain ⟨p, rfl, hp⟩ := down_place ks c l hd
        cases t with
        | fl x => cases hk
        | emp => cases hk
        | sq xs =>
          cases xs with
          | nil => cases hk
          | cons x cs =>
            obtain ⟨y, rfl, y0, hc⟩ := kid_inv hk
            refine ⟨y :: p, rfl, ?_⟩
            rw [plcs]
            refine List.mem_cons_of_mem _ ?_
            have := mem_plcss (k := 0) hc hp
            rw [show ((0 + y.toNat : Nat) : Int) = y by omega] at this
            exact this
theorem isPl_yes {t d : D} (h : isPl t d = true) : ∃ p, d = .sq (pD p) ∧ p ∈ plcs t := by
  cases d with
  | sq ks =>
    rw [isPl] at h
    cases hi : intsD ks with
    | none => rw [hi] at h; cases h
    | some p =>
      rw [hi] at h
      obtain ⟨q, hq, e⟩ := List.any_eq_true.mp h
      have e := of_decide_eq_true e
      subst e
      refine ⟨q, ?_, hq⟩
      cases hall : (ks.map numB).all id with
      | true =>
        obtain ⟨p', e1, e2⟩ := intsD_all hall
        rw [hi] at e1
        cases e1
        rw [e2]
        rfl
      | false => rw [intsD_not hall] at hi; cases hi
  | _ => cases h
theorem isPl_no {t d : D} (h : isPl t d = false) : downP t d = none := by
  cases d with
  | sq ks =>
    show downD t ks = none
    cases hd : downD t ks with
    | none => rfl
    | some ds =>
      obtain ⟨p, rfl, hp⟩ := down_place ks t ds hd
      rw [isPl, pD_ints] at h
      have := List.any_eq_false.mp h p hp
      simp at this
  | _ => rfl
theorem piece_no {t d : D} (h : isPl t d = false) : pieceD t d = none := by unfold pieceD; rw [isPl_no h]; rfl
theorem put_no {t o d : D} (h : isPl t d = false) : putP t o d = none := by
  have := isPl_no h
  cases d with
  | sq ks =>
    show (downD t ks).map _ = none
    rw [show downD t ks = none from this]
    rfl
  | _ => rfl
/-! data alike -/
theorem eq_flat {H : Hp} {x : V} (h : flatV x = true) (n : Nat) : EqN H (n + 1) x x := .inl ⟨rfl, .inl h⟩
mutual
theorem eq_refl {F : Addr → Prop} {H : Hp} : ∀ (d : D) {v : V} {n : Nat}, DAt F H v d → sz d ≤ n → sz d ≤ 100000 → EqN H n v v
  | .fl x, v, n, ⟨e, hf⟩, hn, _ => by
    obtain ⟨m, rfl⟩ : ∃ m, n = m + 1 := ⟨n - 1, by rw [sz] at hn; omega⟩
    rw [e]
    exact eq_flat hf m
  | .emp, v, n, ⟨a, e, q⟩, hn, _ => by
    obtain ⟨m, rfl⟩ : ∃ m, n = m + 1 := ⟨n - 1, by rw [sz] at hn; omega⟩
    exact .inl ⟨rfl, .inr ⟨a, [], e, q, fun p hp => by cases hp⟩⟩
  | .sq xs, v, n, ⟨a, vs, e, q, o, k⟩, hn, hs => by
    have hz : sz (.sq xs) = 1 + szs xs := rfl
    obtain ⟨m, rfl⟩ : ∃ m, n = m + 1 := ⟨n - 1, by omega⟩
    have hl := k.len
    have hll := len_szs xs
    have pr := eqs_refl xs k (n := m) (by omega) (by omega)
    subst e
    rcases q with q | ⟨_, q⟩
    · exact .inr ⟨true, a, a, vs, vs, rfl, rfl, q, q, pr, by omega⟩
    · exact .inr ⟨false, a, a, vs, vs, rfl, rfl, q, q, pr, by omega⟩
theorem eqs_refl {F : Addr → Prop} {H : Hp} : ∀ (ds : List D) {vs : List V} {n : Nat}, DAts F H vs ds → szs ds ≤ n → szs ds ≤ 100000 → Paired (EqN H n) vs vs
  | [], [], n, _, _, _ => .nil
  | d :: ds, v :: vs, n, ⟨k, t⟩, hn, hs => by
    have hz : szs (d :: ds) = sz d + szs ds := rfl
    exact .cons (eq_refl d k (by omega) (by omega)) (eqs_refl ds t (by omega) (by omega))
  | [], _ :: _, _, k, _, _ => k.elim
  | _ :: _, [], _, k, _, _ => k.elim
end
mutual
theorem eq_two {H : Hp} : ∀ (d : D) {v u : V} {n : Nat}, okD d = true → DAt nol H v d → DAt nol H u d → sz d ≤ n → sz d ≤ 100000 → EqN H n v u
  | .fl x, v, u, n, _, ⟨e, hf⟩, ⟨e', _⟩, hn, _ => by
    obtain ⟨m, rfl⟩ : ∃ m, n = m + 1 := ⟨n - 1, by rw [sz] at hn; omega⟩
    rw [e, e']
    exact eq_flat hf m
  | .emp, v, u, n, h, _, _, _, _ => by cases h
  | .sq xs, v, u, n, h, ⟨a, vs, e, q, o, k⟩, ⟨b, us, e', q', o', k'⟩, hn, hs => by
    have hz : sz (.sq xs) = 1 + szs xs := rfl
    obtain ⟨m, rfl⟩ : ∃ m, n = m + 1 := ⟨n - 1, by omega⟩
    have hl := k.len
    have hll := len_szs xs
    have pr := eqs_two xs h k k' (n := m) (by omega) (by omega)
    subst e e'
    have q := q.elim id fun z => z.1.elim
    have q' := q'.elim id fun z => z.1.elim
    exact .inr ⟨true, a, b, vs, us, rfl, rfl, q, q', pr, by omega⟩
theorem eqs_two {H : Hp} : ∀ (ds : List D) {vs us : List V} {n : Nat}, okDs ds = true → DAts nol H vs ds → DAts nol H us ds → szs ds ≤ n → szs ds ≤ 100000 → Paired (EqN H n) vs us
  | [], [], [], n, _, _, _, _, _ => .nil
  | d :: ds, v :: vs, u :: us, n, h, ⟨k, t⟩, ⟨k', t'⟩, hn, hs => by
    have hz : szs (d :: ds) = sz d + szs ds := rfl
    rw [okDs, Bool.and_eq_true] at h
    exact .cons (eq_two d h.1 k k' (by omega) (by omega)) (eqs_two ds h.2 t t' (by omega) (by omega))
  | [], _ :: _, _, _, _, k, _, _, _ => k.elim
  | _ :: _, [], _, _, _, k, _, _, _ => k.elim
  | [], [], _ :: _, _, _, _, k, _, _ => k.elim
  | _ :: _, _ :: _, [], _, _, _, k, _, _ => k.elim
end
theorem paired_refl {R : V → V → Prop} : ∀ {vs : List V}, (∀ v ∈ vs, R v v) → Paired R vs vs
  | [], _ => .nil
  | v :: vs, h => .cons (h v List.mem_cons_self) (paired_refl fun u hu => h u (List.mem_cons_of_mem _ hu))
theorem eq_pls {H : Hp} {n : Nat} : ∀ {ps : List (List Int)} {ws us : List V}, Paired (PlV H) ws ps → Paired (PlV H) us ps → (∀ p ∈ ps, p.length ≤ 100000) → Paired (EqN H (n + 2)) ws us
  | [], _, _, .nil, .nil, _ => .nil
  | p :: ps, _, _, .cons ⟨a, e, q⟩ h, .cons ⟨b, e', q'⟩ h', hl => by
    subst e e'
    refine .cons (.inr ⟨true, a, b, _, _, rfl, rfl, q, q', paired_refl fun v hv => ?_, by rw [List.length_map]; exact hl p List.mem_cons_self⟩) (eq_pls h h' fun q hq => hl q (List.mem_cons_of_mem _ hq))
    obtain ⟨i, _, rfl⟩ := List.mem_map.mp hv
    exact eq_flat rfl n
/-! trees are small things -/
theorem word_x {z : Str} (h : wordS z = true) : okX (.str z) = true := by
  unfold wordS at h
  rw [Bool.and_eq_true, Bool.and_eq_true] at h
  have h1 := of_decide_eq_true h.2.1
  have h2 := List.all_eq_true.mp h.2.2
  have hl : ∀ c ∈ letters.cps.toList, c < 0x110000 := by decide +kernel
  show (decide (z.length ≤ 20) && PyData.strOk z) = true
  rw [decide_eq_true (by omega), Bool.true_and]
  unfold PyData.strOk
  rw [← Array.all_toList]
  exact List.all_eq_true.mpr fun c hc => decide_eq_true (hl c (of_decide_eq_true (h2 c hc)))
theorem ok_sh : ∀ (n : Nat) (d : D), sz d ≤ n → isSh d = true → okD d = true
  | 0, d, h, _ => by have := sz_pos d; omega
  | n + 1, d, hn, h => by
    rcases isSh_inv h with ⟨z, rfl, hw⟩ | ⟨z, cs, rfl, hw, hcs⟩
    · exact word_x hw
    · show (okX (.str z) && okDs cs) = true
      rw [word_x hw, Bool.true_and]
      refine okDs_of fun c hc => ok_sh n c ?_ (isShs_mem hcs c hc)
      obtain ⟨i, hi⟩ := List.getElem?_of_mem hc
      have := szs_get hi
      have e : sz (.sq (.fl (.str z) :: cs)) = 2 + szs cs := by rw [sz, szs, sz]; omega
      omega
theorem ok_tree {rs : List Rw} (ok : RowsOk rs) {t : D} (h : isT rs t = true) : okD t = true := ok_sh _ t (Nat.le_refl _) (isT_sh ok h)
theorem ok_put : ∀ (p : List Int) {t o : D}, okD t = true → okD o = true → okD (putD t p o) = true
  | [], t, o, _, ho => by rw [putD]; exact ho
  | i :: p, .sq [], o, ht, _ => ht
  | i :: p, .sq (x :: cs), o, ht, ho => by
    rw [putD]
    have ht : okDs (x :: cs) = true := ht
    rw [okDs, Bool.and_eq_true] at ht
    show (okD x && okDs _) = true
    rw [ht.1, Bool.true_and]
    by_cases hi : i.toNat < cs.length
    · have hm : cs.getD i.toNat .emp ∈ cs := by rw [List.getD_eq_getElem?_getD, List.getElem?_eq_getElem hi]; exact List.getElem_mem hi
      refine okDs_of fun c hc => ?_
      rcases List.mem_or_eq_of_mem_set hc with h | h
      · exact okDs_mem ht.2 h
      · rw [h]
        exact ok_put p (okDs_mem ht.2 hm) ho
    · rw [List.set_eq_of_length_le (by omega)]
      exact ht.2
  | i :: p, .fl x, o, ht, _ => ht
  | i :: p, .emp, o, ht, _ => ht
theorem Hold.trans {F : Addr → Prop} {H H' H'' : Hp} (a : Hold F H H') (b : Hold F H' H'') : Hold F H H'' := ⟨fun x vs q => b.tup x vs (a.tup x vs q), fun x q => b.dic x (a.dic x q), fun x vs f q => b.lst x vs f (a.lst x vs f q)⟩
end K5

/-! the end for a law whose own def asks more of its surroundings than room: it is called from callerA alone -/
namespace XW
open PySem PySem.Spec PySem.W PyProof.Rows L2
/-- a def called from callerA, with nothing around it -/
def Ran (P : Program) (w : World) (K : PySem.W.Frag) (mg : Str → Option Value) (base : Heap) (CX : CXT) (f : Addr) (fd : FuncData) (ps : List Str) (sp : Sp) : Prop :=
  ∀ (s : Shared) (H : Hp) (args : Args) (us : List Value) (vs : List V) (Q : VK) (E : XK), Env0 P w K mg base callerA [] s H → BindsTo s fd args (ps.zip us) → Vals vs us → sp vs H Q E → codeAny (model P w) callerA (.call (.ref f) args) (CR CX [] P w H s Q E) s
theorem ran_of {CX : CXT} {P : Program} {w : World} {K : PySem.W.Frag} {mg : Str → Option Value} {base : Heap} {k : Nat} {f : Addr} {name qual : Str} {params : Arguments} {body : List Stmt} {scope : Scope} {dV kV doc pm cdv ct oc : Value} {an od : Option Addr} {osl : Array (Option Value)} {N ps : List Str} {sp : Sp}
    (lk : K.lookup f = some ⟨oc, od, .func (PySem.W.fnOf name qual params body scope dV kV doc pm an cdv ct), osl⟩) (hcd : PySem.W.codeIn K cdv qual = true) (S : FnScope N ps scope) (len : ∀ vs H Q E, sp vs H Q E → vs.length = ps.length) (room : Room (k + 1) callerA)
    (hbody : ∀ (s : Shared) (H : Hp) (vs : List V) (Q : VK) (E : XK), Room k (callerA.deeper (envOfC qual scope s.heap.objs.size f cdv)) → (callerA.deeper (envOfC qual scope s.heap.objs.size f cdv)).guards = some [] → sp vs H Q E →
      ∃ t, PSs (cxOf CX P w K mg base N qual scope f cdv callerA [] s H E) body t ∧ t { nx := fun _ H' => Q .non H', rt := Q } (start N vs) H) :
    Ran P w K mg base CX f (PySem.W.fnOf name qual params body scope dV kV doc pm an cdv ct) ps sp := by
  intro s H args us vs Q E e0 hb r hsp
  have lim := e0.mod.nolimit.keeps fun b o e => (e0.bs b o e).1
  have KX : K.In s.heap := e0.mod.kin.keeps fun b o e => (e0.bs b o e).1
  have ksc : ∀ y ∈ ps.zip us, scope.names.lookup y.1 = some .local ∨ (scope.names.lookup y.1 = some .cell ∧ ((cellsFrom (s.heap.objs.size + 1) scope.names []).lookup y.1).isSome = true) := by
    rintro ⟨n, v⟩ hy
    exact (S.par n (List.of_mem_zip hy).1).imp id fun q => ⟨q, PySem.W.cellsFrom_some _ _ _ (.inl q)⟩
  refine codeAny_call_function room.depth (KX _ _ lk) rfl S.co S.gen rfl (PySem.W.codeRec_of KX hcd) (hb _ _ _ _ (wpAny_newFunctionEnv_cells S.kind ksc fun env he s1 x => ?_))
  subst he
  refine ⟨lim.keeps x.toInCall.keep, codeAny_func ?_⟩
  obtain ⟨t, ht, hq⟩ := hbody s H vs Q E (room.deeper _) rfl hsp
  have I : Inv (cxOf CX P w K mg base N qual scope f cdv callerA [] s H E) [] (start N vs) H s1 := inv_start S room.hd e0 (len _ _ _ _ hsp) r x
  refine wpAny_mono (ht.run [] s1 (start N vs) H _ I hq) (fun fl s' hs => ?_) fun e s' hs => hs
  cases fl with
  | ret u =>
    obtain ⟨v, σ', H', J, rv, q⟩ := hs
    exact ⟨v, H', J.os, J.bare, J.base, J.hok, rv, q⟩
  | next =>
    obtain ⟨σ', H', J, q⟩ := hs
    exact ⟨V.non, H', J.os, J.bare, J.base, J.hok, rfl, q⟩
  | brk => exact (let ⟨_, _, _, q⟩ := hs; q : False).elim
  | cont => exact (let ⟨_, _, _, q⟩ := hs; q : False).elim
theorem law_end {P : Program} {w : World} {K : PySem.W.Frag} {mg mb : Str → Option Value} {CX : CXT} {fa a : Addr} {fd : FuncData} {x : Str} {sp : Sp} {s1 : Shared} {vs : List Value} {ns : List Int} (KX : K.In s1.heap) (hns : s1.heap.Ns mainGlobals mg) (hb : s1.heap.Ns builtinsNs mb)
    (hbb : ∀ x : Str, x ≠ "__name__" → mb x = bootBuiltins x) (hlim : s1.heap.NoLimit) (hg : s1.gens = #[]) (ha : s1.heap.get? a = some { cls := .type "list", data := .seq vs.toArray }) (hi : IntsAre vs ns) (hl : ns.length ≤ sizeLine)
    (F : ∀ base : Heap, K.In base → base.Ns mainGlobals mg → Ran P w K mg base CX fa fd [x] sp) (hbind : ∀ (s : Shared) (u : Value), BindsTo s fd ⟨[u], []⟩ [(x, u)])
    (hsp : ∀ H : Hp, Only H → SqL K H a (ns.map V.int) → sp [.ref a] H (fun v _ => v = .bl true) fun _ _ _ => False) (hCX : ∀ H e s', CX [] H s1 (fun _ _ _ => False) e s' → False) :
    codeAny (model P w) callerA (.call (.ref fa) ⟨[.ref a], []⟩) (fun r s' => r = .ok (.ret (.bool true)) ∧ OldK s1.heap s'.heap ∧ s'.os = s1.os ∧ AllBare s'.gens) s1 := by
  have rv := vals_ints hi
  have lenV := hi.length
  have main : ∀ H : Hp, Only H → SqL K H a (ns.map V.int) → HOk P w H s1.heap → (∀ b, H b ≠ none → b = a) → (H a ≠ none → K.lookup a = none) →
      codeAny (model P w) callerA (.call (.ref fa) ⟨[.ref a], []⟩) (fun r s' => r = .ok (.ret (.bool true)) ∧ OldK s1.heap s'.heap ∧ s'.os = s1.os ∧ AllBare s'.gens) s1 := by
    intro H hO hS hok hA hK
    have only : ∀ {b : Addr} {u : HO}, H b = some u → b = a := fun {b u} q => hA b (by rw [q]; exact Option.some_ne_none u)
    have noA : ∀ {b : Addr} {o : Obj} {es : Array DictEntry} {ep : Nat}, s1.heap.get? b = some o → o.data = .dict es ep → H b = none := fun {b o es ep} e d => by
      cases q : H b with
      | none => rfl
      | some u =>
        obtain rfl := only q
        rw [ha] at e
        cases e
        exact absurd (show Data.seq vs.toArray _ = Data.dict es ep from d) (by intro z; cases z)
    have nsK : ∀ {b : Addr} {m : Str → Option Value}, s1.heap.Ns b m → (hidT s1.heap H).Ns b m := fun {b m} ⟨o, es, ep, e, d, r⟩ => ⟨o, es, ep, hidT_get e (noA e d), d, r⟩
    have hKb : K.In (hidT s1.heap H) := fun b o e => hidT_get (KX b o e) (by
      cases q : H b with
      | none => rfl
      | some u =>
        obtain rfl := only q
        rw [hK (by rw [q]; exact Option.some_ne_none u)] at e
        cases e)
    have hM : Mod K mg (hidT s1.heap H) := ⟨hKb, nsK hns, ⟨mb, nsK hb, hbb⟩, let ⟨mc, h1, h2⟩ := hlim; ⟨mc, nsK h1, h2⟩⟩
    have env : Env0 P w K mg (hidT s1.heap H) callerA [] s1 H := ⟨rfl, hM, fun b o e => of_hidT e, Nat.le_of_eq (hidT_size _ _), trivial, fun b hb => absurd (show b ∈ ([] : List Addr) from hb) (by simp), hok, .of_eq hg⟩
    refine codeAny_mono (F _ hKb (nsK hns) s1 H ⟨[.ref a], []⟩ [.ref a] [.ref a] _ _ env (hbind s1 (.ref a)) (.cons rfl .nil) (hsp H hO hS)) fun r s' h => ?_
    cases r with
    | error e => exact (hCX H e s' h).elim
    | ok fl =>
      cases fl with
      | next => exact h.elim
      | brk => exact h.elim
      | cont => exact h.elim
      | ret u =>
        obtain ⟨v, H', os, bare, un, hok', r', q⟩ := h
        obtain rfl : v = .bl true := q
        obtain rfl : u = Value.bool true := r'
        refine ⟨rfl, OldK.of_keep fun b o e => ?_, os, bare⟩
        rcases hO b with z | ⟨ob, xs, z⟩
        · exact un.keep b o e z (by intro z; exact absurd (show b ∈ ([] : List Addr) from z) (by simp)) (by simp)
        · obtain ⟨e1, _⟩ := hok b _ z
          obtain ⟨e2, _⟩ := hok' b _ (un.frzs b ob _ z)
          rw [e] at e1
          cases e1
          exact e2
  cases hk : K.lookup a with
  | some o =>
    have e := KX a o hk
    rw [ha] at e
    cases e
    exact main (fun _ => none) (fun _ => .inl rfl) (.inr ⟨_, vs.toArray, _, hk, rfl, rfl, rfl, by rw [List.size_toArray, lenV]; exact hl, by simpa using rv⟩) (fun b u z => nomatch (show (none : Option HO) = some u from z)) (fun b z => absurd rfl z) fun z => absurd rfl z
  | none =>
    refine main (fun b => if b = a then some (.frz { cls := .type "list", data := .seq vs.toArray } (.lst (ns.map V.int))) else none) (fun b => ?_) (.inl (.inr ⟨_, if_pos rfl⟩)) (fun b u z => ?_) (fun b z => ?_) fun _ => hk
    · by_cases hba : b = a
      · exact .inr ⟨_, _, if_pos hba⟩
      · exact .inl (if_neg hba)
    · by_cases hba : b = a
      · subst hba
        cases (if_pos rfl).symm.trans z
        exact ⟨ha, by rw [List.length_map]; exact hl, vs, _, rv, ha⟩
      · cases (if_neg hba).symm.trans z
    · by_cases hba : b = a
      · exact hba
      · exact absurd (if_neg hba) z
theorem walk_ran {l : PySem.W.OpenLaw} {n : Nat} {q : Program} {loose : List Str} {XP : (Str → Option Value) → Heap → Prop} {YP : World → Heap → Prop} {d : DefRec} {K : Params → PySem.W.Frag} {CX : World → CXT} {sp : World → Sp} {x : Str} (hn : l.most = some n) (hn2 : n ≤ sizeLine) (hdf : d.params.defaults = [])
    (hY : ∀ (w : World) (h : Heap), YP w h → (K w.params).In h)
    (F : ∀ (w : World) (mg : Str → Option Value) (fa : Addr) (h : Heap), (K w.params).In h → h.Ns mainGlobals mg → mg d.name = some (.ref fa) →
      ∃ fd : FuncData, (∀ (s : Shared) (u : Value), BindsTo s fd ⟨[u], []⟩ [(x, u)]) ∧ ∀ base : Heap, (K w.params).In base → base.Ns mainGlobals mg → Ran l.prog w (K w.params) mg base (CX w) fa fd [x] (sp w))
    (hsp : ∀ (w : World) (H : Hp) (a : Addr) (ns : List Int), ns.length ≤ n → Only H → SqL (K w.params) H a (ns.map V.int) → sp w [.ref a] H (fun v _ => v = .bl true) fun _ _ _ => False)
    (hCX : ∀ (w : World) (H : Hp) (s : Shared) (e : Value) (s' : Shared), CX w [] H s (fun _ _ _ => False) e s' → False) : PySem.W.WalkO q loose XP YP l.row.toRowW d [] (fun f vs => PySem.call f vs) := by
  refine Att.attach_call hn hdf fun w s0 s1 mg mb fa o pm cd doc a vs ns G Y ho hd hcd hmg hobj hints hlen hg => ?_
  obtain ⟨fd, hb, hF⟩ := F w mg fa _ (hY w _ Y) G.T.g hmg
  exact law_end (hY w _ Y) G.T.g G.T.b G.T.builtins G.T.nolimit hg hobj hints (Nat.le_trans hlen hn2) hF hb (fun H hO hS => hsp w H a ns hlen hO hS) fun H e s' => hCX w H s1 e s'
end XW

namespace K5
open PySem PySem.Spec PyProof.Rows L2 C8 XE XI LamX
/-! law -/
abbrev sLaw : Stmt := top 37
abbrev NL : List Str := ["_law_script", "_law_state", "_law_turn", "_law_rows_here", "_law_tree_here", "_law_other", "_law_handed", "_law_kept", "_law_again", "_law_told", "_law_place", "_law_odd_here", "_law_due"]
theorem scLaw : FnScope NL ["_law_script"] (fnScope sLaw) := fnScope_by (by decide +kernel)
structure Blt5 (mg : Str → Option Value) : Prop extends Blt4 mg where
  rep : mg "repr" = none
theorem none_passes {X : Cx} : ∀ (pins : List (Addr × Obj)) (σ : L2.St) (H : Hp) (s : Shared) (e : Value) (s' : Shared), L2.Inv X pins σ H s → L2.CX X.prog X.w X.stack H s C8.E0 e s' → X.xe e s' := passes_call LamX.takes0 fun _ _ _ _ h => h.elim
/-- the name of law's lambdas -/
def qLaw : Str := (envOfC "law" (fnScope sLaw) 0 0 .none).qual ++ "<lambda>"
/-- the state and the table of code objects -/
structure Wo (st cl pt : Addr) (B : Nat) (H : Hp) : Prop where
  hst : StAt B H st cl
  tab : Tabs [(pt, qLaw)] H
  ne : pt ≠ st
theorem Wo.but {st cl pt : Addr} {B B' : Nat} {H H' : Hp} (w : Wo st cl pt B H) (b : But st H H') (h : StAt B' H' st cl) : Wo st cl pt B' H' := by
  obtain ⟨ns, i, c, hh, n, hs, _⟩ := w.hst
  refine ⟨h, fun q hq => ?_, w.ne⟩
  rw [List.mem_singleton.mp hq]
  obtain ⟨ps, h1, h2, h3⟩ := w.tab _ List.mem_cons_self
  refine ⟨ps, b _ _ h1 w.ne, h2, fun pos cv hc => ?_⟩
  obtain ⟨c, e1, e2⟩ := h3 pos cv hc
  exact ⟨c, e1, b _ _ e2 (ne_of e2 hs (by intro z; unfold CodeO at z; cases z))⟩
theorem Wo.same {st cl pt : Addr} {B : Nat} {H H' : Hp} (w : Wo st cl pt B H) (s : Same H H') : Wo st cl pt B H' := ⟨w.hst.same s, w.tab.ext s, w.ne⟩
theorem Wo.more {st cl pt : Addr} {B B' : Nat} {H : Hp} (w : Wo st cl pt B H) (h : B ≤ B') : Wo st cl pt B' H := ⟨w.hst.mono h, w.tab, w.ne⟩
theorem stAt_ext {st cl : Addr} {B : Nat} {H H' : Hp} (h : StAt B H st cl) (e : ExtN H H') : StAt B H' st cl := by
  obtain ⟨ns, i, c, hh, n, h1, h2, r⟩ := h
  exact ⟨ns, i, c, hh, n, e _ _ h1 (fun ps z => by cases z), e _ _ h2 (fun ps z => by cases z), r⟩
theorem Wo.ext {st cl pt : Addr} {B : Nat} {H H' : Hp} (w : Wo st cl pt B H) (e : ExtN H H') (t : Tabs [(pt, qLaw)] H') : Wo st cl pt B H' := ⟨stAt_ext w.hst e, t, w.ne⟩
theorem Hold.ext {F : Addr → Prop} {H H' : Hp} (e : ExtN H H') : Hold F H H' := ⟨fun a _ q => e _ _ q (fun ps z => by cases z), fun a q => e _ _ q (fun ps z => by cases z), fun a _ _ q => e _ _ q (fun ps z => by cases z)⟩
def spLaw (K : PySem.W.Frag) (P : Addr) : Sp := fun vs H Q _ => ∃ (a : Addr) (ns : List Int), vs = [.ref a] ∧ SqL K H a (ns.map V.int) ∧ H P = some (.tbl #[]) ∧ ∀ H', Q (.bl true) H'
section
variable {P : Program} {w : World} {K : PySem.W.Frag} {mg : Str → Option Value} {base : Heap}
theorem c_law {NP f fp fl fr cc pt : Addr} {oc kV doc pm ct : Value} {od an : Option Addr} {osl : Array (Option Value)} {fdp fdl fdr : FuncData} (lk : K.lookup f = some ⟨oc, od, .func (PySem.W.fnOf "law" "law" (fnArgs sLaw) (fnBody sLaw) (fnScope sLaw) .none kV doc pm an (.ref cc) ct), osl⟩) (hcd : PySem.W.codeIn K (.ref cc) "law" = true) (TB : TabB base mg cc pt) (T : Blt5 mg)
    (cFresh : Cal P w K mg base 1 "_law_fresh" (spFresh K) []) (cTake : Cal P w K mg base 1 "_law_take" spTake []) (cRows : Cal P w K mg base 4 "_law_rows" spRows []) (cTree : Cal P w K mg base 23 "_law_tree" (spTree 20) [])
    (cSame : Cal P w K mg base 71 "_law_same" (spSameN 70) []) (cLoose : Cal P w K mg base 61 "_law_loose" (spLoose 60) []) (cLSize : Cal P w K mg base 61 "_law_size" (spLSize 60) []) (cLPl : Cal P w K mg base 61 "_law_places" (spPlaces 60) []) (cAt : Cal P w K mg base 62 "_law_at" (spAt 61) []) (cPut : Cal P w K mg base 62 "_law_put" (spPut 61) [])
    (cOdd : Cal P w K mg base 62 "_law_odd" spOdd []) (cIsP : Cal P w K mg base 62 "_law_is_place" spIsP []) (cSize : Cal P w K mg base 3 "size" spSize []) (cPlT : Cal P w K mg base 3 "places" spPlT [])
    (DP : Def K mg "piece" sPiece fp fdp) (bp : Binds K fdp ["tree", "place"] []) (FP : FnOk P w K mg base (L2.CX P w) 6 fp fdp ["tree", "place"] (spPiece NP))
    (DQ : Def K mg "placed" sPlaced fl fdl) (bq : Binds K fdl ["tree", "place", "other"] []) (FQ : FnOk P w K mg base (L2.CX P w) 6 fl fdl ["tree", "place", "other"] (spPlaced NP))
    (DR : Def K mg "_law_refused" sRef fr fdr) (br : Binds K fdr ["_law_ask"] []) (XN : XX K mg "NoPlace" "place" NP) :
    XW.Ran P w K mg base C8.CX0 f (PySem.W.fnOf "law" "law" (fnArgs sLaw) (fnBody sLaw) (fnScope sLaw) .none kV doc pm an (.ref cc) ct) ["_law_script"] (spLaw K pt) := by
  refine XW.ran_of (k := 80) lk hcd scLaw (fun vs H Q E h => ?_) ⟨rfl, by decide, by decide⟩ (fun s H vs Q E hr hg h => ?_)
  · obtain ⟨a, ns, rfl, _⟩ := h
    rfl
  · obtain ⟨a, ns, rfl, hS, hT, k⟩ := h
    have nd := scLaw.nd
    have hu : (callerA.deeper (envOfC "law" (fnScope sLaw) s.heap.objs.size f (.ref cc))).units + 500 < cLine := by have := hr.un; omega
    suffices hh : ∃ t, PSs (cxOf C8.CX0 P w K mg base NL "law" (fnScope sLaw) f (.ref cc) callerA [] s H E).nox (fnBody sLaw) t ∧ t { nx := fun _ H' => Q .non H', rt := Q } (start NL [.ref a]) H by
      obtain ⟨t, h, q⟩ := hh
      exact ⟨t, h.nox, q⟩
    refine ⟨_, pss_cons (ps_set (i := 1) nd rfl (by first | exact Or.inl rfl | exact Or.inr rfl) (pe_c cFresh hr (by decide) (by rfl) (pa_cons (pv 0) pa_nil)))
      (pss_cons (ps_for PassesOwn.never rfl (pi_range1 (by rfl) T.ran (pa_cons pe_int pa_nil)) (pg_name (i := 2) nd rfl (Or.inl rfl))
        (pss_cut (ps_set (i := 3) nd rfl (by first | exact Or.inl rfl | exact Or.inr rfl) (pe_c cRows hr (by decide) (by rfl) (pa_cons (pv 1) (pa_cons pe_int pa_nil))))
        (pss_cut (ps_asg (pe_tup (pa_cons (pe_c cTree hr (by decide) (by rfl) (pa_cons (pv 1) (pa_cons (pv 3) (pa_cons (pe_op op_add pe_int (pe_c cTake hr (by decide) (by rfl) (pa_cons (pv 1) (pa_cons pe_int pa_nil)))) pa_nil)))) (pa_cons (pe_c cTree hr (by decide) (by rfl) (pa_cons (pv 1) (pa_cons (pv 3) (pa_cons pe_int pa_nil)))) pa_nil)))
            (pg_tup rfl (pgs_cons (pg_name (i := 4) nd rfl (by first | exact Or.inl rfl | exact Or.inr rfl)) (pgs_cons (pg_name (i := 5) nd rfl (by first | exact Or.inl rfl | exact Or.inr rfl)) pgs_nil))))
        (pss_cut (ps_set (i := 6) nd rfl (by first | exact Or.inl rfl | exact Or.inr rfl) (pe_c cLoose hr (by decide) (by rfl) (pa_cons (pv 1) (pa_cons (pv 4) pa_nil))))
        (pss_cut (ps_set (i := 7) nd rfl (by first | exact Or.inl rfl | exact Or.inr rfl) (pe_callB (call_repr hg hu) (by rfl) T.rep (by decide +kernel) (pa_cons (pv 6) pa_nil)))
        (pss_cut (ps_for PassesOwn.never rfl (pi_range1 (by rfl) T.ran (pa_cons pe_int pa_nil)) (pg_name (i := 8) nd rfl (Or.inl rfl))
          (pss_cut (ps_set (i := 9) nd rfl (by first | exact Or.inl rfl | exact Or.inr rfl) (pe_c cPlT hr (by decide) (by rfl) (pa_cons (pv 6) pa_nil)))
          (pss_cut (ps_if (pt_not (pt_val (pe_c cSame hr (by decide) (by rfl) (pa_cons (pe_lst (pa_cons (pe_c cSize hr (by decide) (by rfl) (pa_cons (pv 6) pa_nil)) (pa_cons (pv 9) pa_nil))) (pa_cons (pe_lst (pa_cons (pe_c cLSize hr (by decide) (by rfl) (pa_cons (pv 4) pa_nil)) (pa_cons (pe_c cLPl hr (by decide) (by rfl) (pa_cons (pv 4) pa_nil)) pa_nil))) pa_nil))))) pss_never pss_nil)
          (pss_one (ps_expr (pe_bm PySem.F.plainAttrs_list PySem.F.slot_list_append PySem.F.type_list_append mt_append (pv 9) (pa_cons pe_str pa_nil)))))))
        (pss_cut (ps_for PassesOwn.never rfl (pi_list (pe_c cLPl hr (by decide) (by rfl) (pa_cons (pv 4) pa_nil))) (pg_name (i := 10) nd rfl (Or.inl rfl))
          (pss_cut (ps_if (pt_not (pt_val (pe_c cSame hr (by decide) (by rfl) (pa_cons (pe_call FP (hr.mono (by decide)) (by rfl) DP.mgf DP.kp bp .nil none_passes (pa_cons (pv 6) (pa_cons (pe_callTy (show CallR _ (.type "list") (rLst K) from call_list_of) (by rfl) T.list (by decide +kernel) (pa_cons (pv 10) pa_nil)) pa_nil)))
              (pa_cons (pe_c cAt hr (by decide) (by rfl) (pa_cons (pv 4) (pa_cons (pv 10) pa_nil))) pa_nil))))) pss_never pss_nil)
          (pss_one (ps_if (pt_not (pt_val (pe_c cSame hr (by decide) (by rfl) (pa_cons (pe_call FQ (hr.mono (by decide)) (by rfl) DQ.mgf DQ.kp bq .nil none_passes (pa_cons (pv 6) (pa_cons (pv 10) (pa_cons (pe_c cLoose hr (by decide) (by rfl) (pa_cons (pv 1) (pa_cons (pv 5) pa_nil))) pa_nil))))
              (pa_cons (pe_c cPut hr (by decide) (by rfl) (pa_cons (pv 4) (pa_cons (pv 10) (pa_cons (pv 5) pa_nil)))) pa_nil))))) pss_never pss_nil))))
        (pss_cut (ps_for PassesOwn.never rfl (pi_list (pe_c cOdd hr (by decide) (by rfl) (pa_cons (pv 1) (pa_cons (pv 4) pa_nil)))) (pg_name (i := 11) nd rfl (by first | exact Or.inl rfl | exact Or.inr rfl))
          (pss_cut (ps_set (i := 12) nd rfl (by first | exact Or.inl rfl | exact Or.inr rfl) (pe_tup (pa_cons pe_str (pa_cons (pv 11) pa_nil))))
          (pss_cut (ps_if (pt_val (pe_c cIsP hr (by decide) (by rfl) (pa_cons (pv 4) (pa_cons (pv 11) pa_nil))))
              (pss_one (ps_set (i := 12) nd rfl (by first | exact Or.inl rfl | exact Or.inr rfl) (pe_tup (pa_cons pe_str (pa_cons (pe_c cAt hr (by decide) (by rfl) (pa_cons (pv 4) (pa_cons (pe_callTy call_tuple_of (by rfl) T.tup (by decide +kernel) (pa_cons (pv 11) pa_nil)) pa_nil))) pa_nil))))) pss_nil)
          (pss_cut (ps_if (pt_not (pt_val (pe_c cSame hr (by decide) (by rfl) (pa_cons (pe_ref (X := (cxOf C8.CX0 P w K mg base NL "law" (fnScope sLaw) f (.ref cc) callerA [] s H E).nox) (k := 6) DR br XN (by rfl) TB rfl (hr.mono (by decide)) (show LamS (fnScope sLaw) _ from lamS_by (by decide +kernel)) rfl (fun _ _ _ _ _ => rfl)
              (t := fun E => tCall (spPiece NP) [] E (tCons (tVar 6) (tCons (tVar 11) tNil))) (fun A outer s H E f c' hr' => pe_call FP hr' (by rfl) DP.mgf DP.kp bp .nil (passes_call (takes_of rfl rfl rfl rfl) (fun _ _ _ _ h => h)) (pa_cons (pv 6) (pa_cons (pv 11) pa_nil)))) (pa_cons (pv 12) pa_nil))))) pss_never pss_nil)
          (pss_one (ps_if (pw_and (pt_cmpR op_eq (pe_ix ix_tup (pv 12) pe_int fun _ _ => rfl) pe_str (nomark _)) (pw_and1 (pt_not (pt_val (pe_c cSame hr (by decide) (by rfl) (pa_cons (pe_ref (X := (cxOf C8.CX0 P w K mg base NL "law" (fnScope sLaw) f (.ref cc) callerA [] s H E).nox) (k := 6) DR br XN (by rfl) TB rfl (hr.mono (by decide)) (show LamS (fnScope sLaw) _ from lamS_by (by decide +kernel)) rfl (fun _ _ _ _ _ => rfl)
              (t := fun E => tCall (spPlaced NP) [] E (tCons (tVar 6) (tCons (tVar 11) (tCons (tVar 5) tNil)))) (fun A outer s H E f c' hr' => pe_call FQ hr' (by rfl) DQ.mgf DQ.kp bq .nil (passes_call (takes_of rfl rfl rfl rfl) (fun _ _ _ _ h => h)) (pa_cons (pv 6) (pa_cons (pv 11) (pa_cons (pv 5) pa_nil))))) (pa_cons (pv 12) pa_nil))))))).pt pss_never pss_nil))))))
        (pss_one (ps_if (pt_cmpR op_ne (pe_callB (call_repr hg hu) (by rfl) T.rep (by decide +kernel) (pa_cons (pv 6) pa_nil)) (pv 7) (nomark _)) pss_never pss_nil))))))))))
      (pss_one (ps_ret pe_bl))), ?_⟩
    refine ⟨_, rfl, a, ns, rfl, hS, fun st cl H0 nst ncl s0 hst0 => ?_⟩
    have w0 : Wo st cl pt 0 H0 := ⟨hst0, Tabs.ext (fun q hq => by rw [List.mem_singleton.mp hq]; exact TabS.nil hT) s0, ne_of_none hT nst⟩
    refine ⟨4, rfl, by decide, by decide, for_gen (J := Itr 0 4) 4 (fun i σ H' => ∃ v2 v3 v4 v5 v6 v7 v8 v9 v10 v11 v12 : Option V, σ = [some (.ref a), some (.ref st), v2, v3, v4, v5, v6, v7, v8, v9, v10, v11, v12] ∧ Wo st cl pt (100000 * i) H') ⟨_, _, _, _, _, _, _, _, _, _, _, rfl, w0⟩
      (fun i σ H' hi _ => hi) (fun σ H' _ => Nat.le_refl _) ?_ (fun σ H' _ => k H')⟩
    rintro i σ H1 v H2 hi ⟨v2, v3, v4, v5, v6, v7, v8, v9, v10, v11, v12, rfl, wo⟩ ⟨rfl, rfl⟩
    generalize hB : 100000 * i = B at wo
    have hB1 : B ≤ 300000 := by omega
    -- rows
    refine ⟨fun σ H' => ∃ (l : Addr) (rs : List Rw), σ = [some (.ref a), some (.ref st), some (.int (0 + (i : Nat))), some (.ref l), v4, v5, v6, v7, v8, v9, v10, v11, v12] ∧ RowsAt H' l rs ∧ RowsOk rs ∧ l ≠ st ∧ Wo st cl pt (B + 50) H', ?_, ?_⟩
    · refine ⟨_, rfl, st, 4, B, cl, rfl, by decide, by decide, wo.hst, by omega, fun l rs H3 nl hR ok hs1 b1 => ⟨l, rs, rfl, hR, ok, (wo.hst.new nl).1, wo.but b1 hs1⟩⟩
    rintro σ H3 ⟨l, rs, rfl, hR, ok, lst, w3⟩
    -- the trees
    refine ⟨fun σ H' => ∃ (tv ov : V) (t o : D), σ = [some (.ref a), some (.ref st), some (.int (0 + (i : Nat))), some (.ref l), some tv, some ov, v6, v7, v8, v9, v10, v11, v12] ∧ DAt nol H' tv t ∧ isT rs t = true ∧ sz t ≤ 40 ∧ DAt nol H' ov o ∧ isT rs o = true ∧ sz o ≤ 8 ∧ Wo st cl pt (B + 150) H', ?_, ?_⟩
    · refine ⟨_, rfl, _, rfl, _, rfl, st, 20, B + 50, cl, rfl, by decide, by decide, w3.hst, by omega, fun d H4 d0 d1 hs4 b4 => ⟨1, d, rfl, rfl, ?_⟩⟩
      have hR4 := RowsAt.but w3.hst b4 hR
      refine ⟨st, l, 1 + d, rs, B + 50 + 1, cl, rfl, by omega, by omega, by omega, hR4, ok, hs4, by omega, fun tv t H5 htv htt htz hs5 b5 => ?_⟩
      have hR5 := RowsAt.but hs4 b5 hR4
      refine ⟨_, rfl, _, rfl, st, l, 4, rs, _, cl, rfl, by decide, by decide, by decide, hR5, ok, hs5, by omega, fun ov o H6 hov hot hoz hs6 b6 => ⟨(by show 2 ≤ sizeLine; decide), fun p np => ?_⟩⟩
      have sp : Same H6 (upd H6 p (.tup [tv, ov])) := same_upd np
      have w6 := (w3.but (b4.trans (b5.trans b6)) hs6).same sp
      refine ⟨p, [tv, ov], rfl, SqT.of upd_same, rfl, tv, [ov], rfl, ov, [], rfl, rfl, tv, ov, t, o, rfl, DAt.hold (.same sp) _ (DAt.hold (.but hs5 b6 fun _ g => g.elim) _ htv), htt, by omega, DAt.hold (.same sp) _ hov, hot, by omega, w6.more (by omega)⟩
    rintro σ H4 ⟨tv, ov, t, o, rfl, htv, htt, htz, hov, hot, hoz, w4⟩
    -- handed
    refine ⟨fun σ H' => ∃ (hv : V) (F : Addr → Prop), σ = [some (.ref a), some (.ref st), some (.int (0 + (i : Nat))), some (.ref l), some tv, some ov, some hv, v7, v8, v9, v10, v11, v12] ∧ DAt F H' hv t ∧ (∀ a, F a → a ≠ st) ∧ DAt nol H' tv t ∧ DAt nol H' ov o ∧ Wo st cl pt (B + 190) H', ?_, ?_⟩
    · refine ⟨_, rfl, _, rfl, st, tv, t, B + 150, cl, rfl, DAt.weak (fun _ g => g.elim) _ htv, by omega, by omega, w4.hst, by omega, fun hv H5 hhv hs5 b5 => ⟨hv, _, rfl, hhv, fun a g => (w4.hst.new g).1, DAt.hold (.but w4.hst b5 fun _ g => g.elim) _ htv, DAt.hold (.but w4.hst b5 fun _ g => g.elim) _ hov, (w4.but b5 hs5).more (by omega)⟩⟩
    rintro σ H5 ⟨hv, F, rfl, hhv, hF, htv, hov, w5⟩
    have tok := ok_tree ok htt
    have ook := ok_tree ok hot
    have tsh := isT_sh ok htt
    -- its text
    obtain ⟨e, hde, hse⟩ := small_of (K := K) t tok hhv
    refine ⟨fun σ H' => σ = [some (.ref a), some (.ref st), some (.int (0 + (i : Nat))), some (.ref l), some tv, some ov, some hv, some (.str e.shown), v8, v9, v10, v11, v12] ∧ H5 = H', ?_, ?_⟩
    · exact ⟨_, rfl, hv, rfl, .inl ⟨e, sz t, hde H5 (.same (Same.refl _)), hse, by omega, rfl, rfl⟩⟩
    rintro σ H' ⟨rfl, rfl⟩
    -- places, twice
    refine ⟨fun σ H' => ∃ v8 v9 : Option V, σ = [some (.ref a), some (.ref st), some (.int (0 + (i : Nat))), some (.ref l), some tv, some ov, some hv, some (.str e.shown), v8, v9, v10, v11, v12] ∧ Same H5 H', ?_, ?_⟩
    · refine ⟨2, rfl, by decide, by decide, for_gen (J := Itr 0 2) 2 (fun j σ H' => ∃ v8 v9 : Option V, σ = [some (.ref a), some (.ref st), some (.int (0 + (i : Nat))), some (.ref l), some tv, some ov, some hv, some (.str e.shown), v8, v9, v10, v11, v12] ∧ Same H5 H') ⟨_, _, rfl, Same.refl _⟩
        (fun j σ H' hj _ => hj) (fun σ H' _ => Nat.le_refl _) ?_ (fun σ H' h => h)⟩
      rintro j σ H6' x H6 hj ⟨v8, v9, rfl, s6⟩ ⟨rfl, rfl⟩
      refine ⟨fun σ H' => ∃ (to : Addr) (ws : List V), σ = [some (.ref a), some (.ref st), some (.int (0 + (i : Nat))), some (.ref l), some tv, some ov, some hv, some (.str e.shown), some (.int (0 + (j : Nat))), some (.ref to), v10, v11, v12] ∧ H6 to = none ∧ Same H6 H' ∧ H' to = some (.lst ws) ∧ Paired (PlV H') ws (plcs t), ?_, ?_⟩
      · refine ⟨_, rfl, hv, t, F, rfl, DAt.hold (.same s6) _ hhv, tsh, by omega, fun to ws H7 nto s7 hto hpw => ⟨to, ws, rfl, nto, s7, hto, ?_⟩⟩
        rw [places_eq] at hpw
        exact hpw
      rintro σ H7 ⟨to, ws, rfl, nto, s7, hto, hpw⟩
      have hsl := sizeLine_eq
      refine ⟨fun σ H' => σ = [some (.ref a), some (.ref st), some (.int (0 + (i : Nat))), some (.ref l), some tv, some ov, some hv, some (.str e.shown), some (.int (0 + (j : Nat))), some (.ref to), v10, v11, v12] ∧ Same H7 H', ?_, ?_⟩
      · have s57 := s6.trans s7
        refine ⟨_, rfl, hv, t, F, rfl, DAt.hold (.same s57) _ hhv, tsh, by omega, fun H8 s8 => ⟨_, rfl, (by show 2 ≤ sizeLine; decide), fun p np => ?_⟩⟩
        have s89 : Same H8 (upd H8 p (.lst [.int (nodesD t).length, .ref to])) := same_upd np
        have hp9 : (upd H8 p (.lst [.int (nodesD t).length, .ref to])) p = some (.lst [.int (nodesD t).length, .ref to]) := upd_same
        generalize upd H8 p (.lst [.int (nodesD t).length, .ref to]) = H9 at s89 hp9
        have s59 := s57.trans (s8.trans s89)
        refine ⟨_, rfl, tv, t, rs, rfl, DAt.hold (.same s59) _ htv, htt, by omega, by omega, fun H10 s10 => ⟨_, rfl, tv, t, rs, rfl, DAt.hold (.same (s59.trans s10)) _ htv, htt, by omega, by omega, fun lq us ps H11 nlq s11 hlq hpu _ _ _ eps => ?_⟩⟩
        subst eps
        refine ⟨(by show 2 ≤ sizeLine; decide), fun q nq => ?_⟩
        have s12 : Same H11 (upd H11 q (.lst [.int (nodesD t).length, .ref lq])) := same_upd nq
        have hq12 : (upd H11 q (.lst [.int (nodesD t).length, .ref lq])) q = some (.lst [.int (nodesD t).length, .ref lq]) := upd_same
        generalize upd H11 q (.lst [.int (nodesD t).length, .ref lq]) = H12 at s12 hq12
        have s9c : Same H9 H12 := s10.trans (s11.trans s12)
        have s7c : Same H7 H12 := s8.trans (s89.trans s9c)
        have pl : ∀ p ∈ plcs t, p.length ≤ 100000 := fun p hp => by have := (plcs_in hp).2; omega
        have pr := eq_pls (H := H12) (n := 66) (Paired.mono (fun _ _ h => h.same s7c) hpw) (Paired.mono (fun _ _ h => h.same s12) hpu) pl
        have lw : ws.length ≤ 100000 := by
          have h1 := Paired.length hpw
          rw [h1, ← places_eq, List.length_map, nodesP_len]
          have := nodes_sz t
          omega
        refine ⟨_, _, rfl, .inr ⟨false, p, q, _, _, rfl, rfl, s9c _ _ hp9, hq12, .cons (eq_flat rfl 68) (.cons (.inr ⟨false, to, lq, ws, us, rfl, rfl, s7c _ _ hto, s12 _ _ hlq, pr, lw⟩) .nil), (by show 2 ≤ 100000; decide)⟩, fun H13 s13 => ⟨true, rfl, ?_⟩⟩
        exact iteBf rfl ⟨rfl, s7c.trans s13⟩
      rintro σ H8 ⟨rfl, s8⟩
      have nto5 : H5 to = none := same_free s6 nto
      have hto8 := s8 _ _ hto
      refine ⟨_, rfl, .inl ⟨rfl, _, SqL.of hto8⟩, to, ws, .str "more", rfl, rfl, hto8, ?_, _, _, rfl, fun b o eb => by rw [upd_ne (ne_of_none eb nto5)]; exact s8 _ _ (s7 _ _ (s6 _ _ eb))⟩
      have h1 := Paired.length hpw
      rw [h1, ← places_eq, List.length_map, nodesP_len]
      have := nodes_sz t
      omega
    rintro σ H6 ⟨v8, v9, rfl, s6⟩
    have w6 := w5.same s6
    have hhv6 := DAt.hold (.same s6) _ hhv
    have htv6 := DAt.hold (.same s6) _ htv
    have hov6 := DAt.hold (.same s6) _ hov
    -- each piece, each putting
    refine ⟨fun σ H' => ∃ v10 : Option V, σ = [some (.ref a), some (.ref st), some (.int (0 + (i : Nat))), some (.ref l), some tv, some ov, some hv, some (.str e.shown), v8, v9, v10, v11, v12] ∧ But st H6 H' ∧ Wo st cl pt (B + 1000) H', ?_, ?_⟩
    · refine ⟨_, rfl, tv, t, rs, rfl, htv6, htt, by omega, by omega, fun lq us ps H7 nlq s7 hlq hpu _ _ _ eps => ⟨lq, rfl, ⟨_, SqL.of hlq⟩, ?_⟩⟩
      subst eps
      have w7 := w6.same s7
      have lst' : lq ≠ st := (w6.hst.new nlq).1
      have hul : us.length ≤ 60 := by
        have h1 := Paired.length hpu
        rw [h1, ← places_eq, List.length_map, nodesP_len]
        have := nodes_sz t
        omega
      obtain ⟨ns7, c1, c2, c3, c4, hst7, _⟩ := id w7.hst
      refine for_gen (J := Itl K lq) us.length (fun j σ H' => ∃ v10 : Option V, σ = [some (.ref a), some (.ref st), some (.int (0 + (i : Nat))), some (.ref l), some tv, some ov, some hv, some (.str e.shown), v8, v9, v10, v11, v12] ∧ But st H7 H' ∧ Wo st cl pt (B + 190 + 10 * j) H') ⟨_, rfl, But.refl, w7⟩
        (fun j σ H' hj ⟨_, _, b, _⟩ => ⟨us, us.getD j .non, SqL.of (b _ _ hlq lst'), getD_at hj⟩) (fun σ H' ⟨_, _, b, _⟩ => ⟨us, SqL.of (b _ _ hlq lst'), Nat.le_refl _⟩) ?_ (fun σ H' ⟨v10, e1, b, w⟩ => ⟨v10, e1, (Same.but s7).trans b, w.more (by omega)⟩)
      rintro j σ H8' x H8 hj ⟨v10, rfl, b8, w8⟩ ⟨rfl, hx⟩
      have hx := hx _ (SqL.of (b8 _ _ hlq lst'))
      obtain ⟨p, hp, pa, rfl, hpa⟩ := paired_get hpu hx
      obtain ⟨hin, hpl⟩ := plcs_in (List.mem_of_getElem? hp)
      have hpa8 := b8 _ _ hpa (ne_of hpa hst7 (by intro z; cases z))
      have b68 : But st H6 H8 := (Same.but s7).trans b8
      have hhv8 := DAt.hold (.but w6.hst b68 hF) _ hhv6
      have htv8 := DAt.hold (.but w6.hst b68 fun _ g => g.elim) _ htv6
      have hov8 := DAt.hold (.but w6.hst b68 fun _ g => g.elim) _ hov6
      have hpz : sz (.sq (pD p)) ≤ 100 := by rw [sz, szs_pD]; omega
      refine ⟨fun σ H' => σ = [some (.ref a), some (.ref st), some (.int (0 + (i : Nat))), some (.ref l), some tv, some ov, some hv, some (.str e.shown), v8, v9, some (.ref pa), v11, v12] ∧ Same H8 H', ?_, ?_⟩
      · refine ⟨_, rfl, _, rfl, pa, _, rfl, .inr (SqT.of hpa8), fun ql nql => ?_⟩
        have s9 : Same H8 (upd H8 ql (.lst (p.map V.int))) := same_upd nql
        refine ⟨hv, .ref ql, t, .sq (pD p), F, fun _ => True, rs, rfl, DAt.hold (.same s9) _ hhv8, htt, ok, by omega, ⟨ql, _, rfl, .inr ⟨trivial, upd_same⟩, hdOk_pD' p, pD_dats p⟩, by omega, fun hn => (by rw [piece_at hin] at hn; cases hn), fun t' ht' v' H10 s10 hv' => ?_⟩
        rw [piece_at hin] at ht'
        cases ht'
        have s8a := s9.trans s10
        refine ⟨_, rfl, _, rfl, tv, .ref pa, t, p, rs, rfl, ⟨pa, rfl, s8a _ _ hpa8⟩, DAt.hold (.same s8a) _ htv8, htt, hin, by omega, by omega, fun v'' t'' H11 s11 hv'' htt'' hz'' e'' => ?_⟩
        subst e''
        refine ⟨_, _, rfl, eq_two _ (ok_tree ok htt'') (DAt.hold (.same s11) _ hv') hv'' (by omega) (by omega), fun H12 s12 => ⟨true, rfl, ?_⟩⟩
        exact iteBf rfl ⟨rfl, s8a.trans (s11.trans s12)⟩
      rintro σ H9 ⟨rfl, s9⟩
      have w9 := w8.same s9
      refine ⟨_, rfl, _, rfl, _, rfl, _, rfl, st, ov, o, _, cl, rfl, DAt.weak (fun _ g => g.elim) _ (DAt.hold (.same s9) _ hov8), by omega, by omega, w9.hst, by omega, fun ov' H10 hov' hs10 b10 => ?_⟩
      have b8a : But st H8 H10 := (Same.but s9).trans b10
      obtain ⟨ns8, d1, d2, d3, d4, hst8, _⟩ := id w8.hst
      have hpa10 := b8a _ _ hpa8 (ne_of hpa8 hst8 (by intro z; cases z))
      have w10 := w9.but b10 hs10
      have dp10 : DAt nol H10 (.ref pa) (.sq (pD p)) := ⟨pa, _, rfl, .inl hpa10, hdOk_pD' p, pD_dats p⟩
      refine ⟨hv, .ref pa, ov', t, .sq (pD p), o, F, nol, _, rs, rs, rfl, DAt.hold (.but w8.hst b8a hF) _ hhv8, htt, ok, by omega, dp10, by omega, hov', hot, ok, by omega, fun hn => (by rw [put_at hin] at hn; cases hn), fun t' ht' v' H11 s11 hv' => ?_⟩
      rw [put_at hin] at ht'
      cases ht'
      refine ⟨_, rfl, _, rfl, _, rfl, nol, tv, .ref pa, ov, t, p, rs, o, rfl, ⟨pa, rfl, s11 _ _ hpa10⟩, DAt.hold (.same s11) _ (DAt.hold (.but w8.hst b8a fun _ g => g.elim) _ htv8), htt, hin, by omega, by omega, DAt.hold (.same s11) _ (DAt.hold (.but w8.hst b8a fun _ g => g.elim) _ hov8), ok, fun v'' d'' H12 s12 hv'' hz'' e'' => ?_⟩
      subst e''
      refine ⟨_, _, rfl, eq_two _ (ok_put p tok ook) (DAt.hold (.same s12) _ hv') hv'' (by omega) (by omega), fun H13 s13 => ⟨true, rfl, ?_⟩⟩
      exact iteBf rfl ⟨_, rfl, b8.trans (b8a.trans (Same.but (s11.trans (s12.trans s13)))), (w10.same (s11.trans (s12.trans s13))).more (by omega)⟩
    rintro σ H7 ⟨v10, rfl, b7, w7⟩
    have hhv7 := DAt.hold (.but w6.hst b7 hF) _ hhv6
    have htv7 := DAt.hold (.but w6.hst b7 fun _ g => g.elim) _ htv6
    have hov7 := DAt.hold (.but w6.hst b7 fun _ g => g.elim) _ hov6
    -- odd things
    refine ⟨fun σ H' => ∃ v11 v12 : Option V, σ = [some (.ref a), some (.ref st), some (.int (0 + (i : Nat))), some (.ref l), some tv, some ov, some hv, some (.str e.shown), v8, v9, v10, v11, v12] ∧ (∀ F : Addr → Prop, (∀ a, F a → a ≠ st) → Hold F H7 H') ∧ Wo st cl pt (B + 2000) H', ?_, ?_⟩
    · refine ⟨_, rfl, _, rfl, st, tv, t, rs, _, cl, rfl, htv7, htt, by omega, w7.hst, by omega, fun lo ws ds H8 nlo hlo hds hdz hdl hs8 b8 => ⟨lo, rfl, ⟨_, SqL.of hlo⟩, ?_⟩⟩
      have w8 := w7.but b8 hs8
      have h78 : ∀ F : Addr → Prop, (∀ a, F a → a ≠ st) → Hold F H7 H8 := fun F hF => .but w7.hst b8 hF
      have hwl := hds.len
      refine for_gen (J := Itl K lo) ws.length (fun j σ H' => ∃ v11 v12 : Option V, σ = [some (.ref a), some (.ref st), some (.int (0 + (i : Nat))), some (.ref l), some tv, some ov, some hv, some (.str e.shown), v8, v9, v10, v11, v12] ∧ ExtN H8 H' ∧ Wo st cl pt (B + 2000) H') ⟨_, _, rfl, ExtN.refl _, w8.more (by omega)⟩
        (fun j σ H' hj ⟨_, _, _, x, _⟩ => ⟨ws, ws.getD j .non, SqL.of (x _ _ hlo (fun ps z => by cases z)), getD_at hj⟩) (fun σ H' ⟨_, _, _, x, _⟩ => ⟨ws, SqL.of (x _ _ hlo (fun ps z => by cases z)), Nat.le_refl _⟩) ?_ (fun σ H' ⟨v11, v12, e1, x, w⟩ => ⟨v11, v12, e1, fun F hF => (h78 F hF).trans (Hold.ext x), w⟩)
      rintro j σ H9' x H9 hj ⟨v11, v12, rfl, x9, w9⟩ ⟨rfl, hx⟩
      have hx := hx _ (SqL.of (x9 _ _ hlo (fun ps z => by cases z)))
      obtain ⟨d, hd, hxd⟩ := hds.get hx
      have hdz := hdz d (List.mem_of_getElem? hd)
      have h79 : ∀ F : Addr → Prop, (∀ a, F a → a ≠ st) → Hold F H7 H9 := fun F hF => (h78 F hF).trans (Hold.ext x9)
      have hhv9 := DAt.hold (h79 F hF) _ hhv7
      have htv9 := DAt.hold (h79 nol fun _ g => g.elim) _ htv7
      have hov9 := DAt.hold (h79 nol fun _ g => g.elim) _ hov7
      have hxd9 := DAt.hold (Hold.ext x9) _ hxd
      -- what is due
      refine ⟨fun σ H' => ∃ du : Addr, σ = [some (.ref a), some (.ref st), some (.int (0 + (i : Nat))), some (.ref l), some tv, some ov, some hv, some (.str e.shown), v8, v9, v10, some x, some (.ref du)] ∧ H' du = some (.tup [.str "none", x]) ∧ Same H9 H', ?_, ?_⟩
      · exact ⟨_, rfl, (by show 2 ≤ sizeLine; decide), fun p np => ⟨p, rfl, upd_same, same_upd np⟩⟩
      rintro σ H10 ⟨du, rfl, hdu, s10⟩
      refine ⟨fun σ H' => ∃ du : Addr, σ = [some (.ref a), some (.ref st), some (.int (0 + (i : Nat))), some (.ref l), some tv, some ov, some hv, some (.str e.shown), v8, v9, v10, some x, some (.ref du)] ∧ Same H9 H' ∧
          ((isPl t d = false ∧ H' du = some (.tup [.str "none", x])) ∨ ∃ (p : List Int) (u : V), d = .sq (pD p) ∧ p ∈ plcs t ∧ H' du = some (.tup [.str "told", u]) ∧ DAt nol H' u (subD t p) ∧ isT rs (subD t p) = true ∧ sz (subD t p) ≤ 40), ?_, ?_⟩
      · refine ⟨_, rfl, _, rfl, tv, x, t, d, rs, oth st, rfl, DAt.hold (.same s10) _ htv9, htt, by omega, DAt.hold (.same s10) _ hxd9, by omega, fun H11 s11 => ⟨_, rfl, ?_⟩⟩
        have s9b := s10.trans s11
        cases hpl : isPl t d with
        | false => exact iteBf rfl ⟨du, rfl, s9b, .inl ⟨rfl, s11 _ _ hdu⟩⟩
        | true =>
          refine iteBt rfl ?_
          obtain ⟨p, rfl, hp⟩ := isPl_yes hpl
          obtain ⟨hin, hpl'⟩ := plcs_in hp
          obtain ⟨xa, xs, rfl, hq, _, hxs⟩ := DAt.hold (.same s9b) _ hxd9
          obtain rfl := dats_ints hxs
          have fin : ∀ (q : Addr) (H12 : Hp), Same H11 H12 → H12 q = some (.tup (p.map V.int)) → ∀ (Q : VK) (E : XK), (∀ u H13, Same H12 H13 → DAt nol H13 u (subD t p) → isT rs (subD t p) = true → sz (subD t p) ≤ 40 → Q u H13) → spAt 61 [tv, .ref q] H12 Q E := fun q H12 s12 hq Q E k => by
            refine ⟨tv, .ref q, t, p, rs, rfl, ⟨q, rfl, hq⟩, DAt.hold (.same (s9b.trans s12)) _ htv9, htt, hin, by omega, by omega, fun u t' H13 s13 hu ht' hz' e' => ?_⟩
            subst e'
            exact k u H13 s13 hu ht' (by omega)
          refine ⟨_, rfl, _, rfl, xa, p.map V.int, rfl, ?_⟩
          rcases hq with q | q
          · refine .inr ⟨SqT.of q, ?_⟩
            exact fin xa H11 (Same.refl _) q _ C8.E0 fun u H13 s13 hu ht' hz' => ⟨(by show 2 ≤ sizeLine; decide), fun r nr => ⟨r, rfl, s9b.trans (s13.trans (same_upd nr)), .inr ⟨p, u, rfl, hp, upd_same, DAt.hold (.same (same_upd nr)) _ hu, ht', hz'⟩⟩⟩
          · refine .inl ⟨SqL.of q.2, fun q' nq' => ?_⟩
            exact fin q' _ (same_upd nq') upd_same _ C8.E0 fun u H13 s13 hu ht' hz' => ⟨(by show 2 ≤ sizeLine; decide), fun r nr => ⟨r, rfl, s9b.trans ((same_upd nq').trans (s13.trans (same_upd nr))), .inr ⟨p, u, rfl, hp, upd_same, DAt.hold (.same (same_upd nr)) _ hu, ht', hz'⟩⟩⟩
      rintro σ H11 ⟨du, rfl, s11, due⟩
      have w11 := w9.same s11
      have hhv11 := DAt.hold (.same s11) _ hhv9
      have htv11 := DAt.hold (.same s11) _ htv9
      have hov11 := DAt.hold (.same s11) _ hov9
      have hxd11 := DAt.hold (.same s11) _ hxd9
      -- the piece there, or what it raises
      refine ⟨fun σ H' => σ = [some (.ref a), some (.ref st), some (.int (0 + (i : Nat))), some (.ref l), some tv, some ov, some hv, some (.str e.shown), v8, v9, v10, some x, some (.ref du)] ∧ ExtN H11 H' ∧ Wo st cl pt (B + 2000) H', ?_, ?_⟩
      · refine ⟨w11.tab, fun H12 x12 tb12 E' Q' hE hQ => ?_⟩
        have w12 := w11.ext x12 tb12
        have hhv12 := DAt.hold (Hold.ext x12) _ hhv11
        have hxd12 := DAt.hold (Hold.ext x12) _ hxd11
        refine ⟨_, rfl, _, rfl, hv, x, t, d, F, oth st, rs, rfl, hhv12, htt, ok, by omega, hxd12, by omega, fun hn H13 dd s13 ndd => ?_, fun t' ht' v' H13 s13 hv' => ?_⟩
        · refine hE dd x _ upd_same fun r nr => ?_
          have sX : Same H12 (upd (upd H13 dd (.xd [("place", x)])) r (.tup [.str "none", x])) := s13.trans ((same_upd ndd).trans (same_upd nr))
          have hr' : (upd (upd H13 dd (.xd [("place", x)])) r (.tup [.str "none", x])) r = some (.tup [.str "none", x]) := upd_same
          generalize upd (upd H13 dd (.xd [("place", x)])) r (.tup [.str "none", x]) = HX at sX hr'
          rcases due with ⟨hpl, hdu⟩ | ⟨p, u, rfl, hp, _⟩
          · have hduX := sX _ _ (x12 _ _ hdu (fun ps z => by cases z))
            exact ⟨_, rfl, _, _, rfl, .inr ⟨true, r, du, _, _, rfl, rfl, hr', hduX, .cons (eq_flat rfl 68) (.cons (eq_refl (n := 69) d (DAt.hold (.same sX) _ hxd12) (by omega) (by omega)) .nil), (by show 2 ≤ 100000; decide)⟩, fun H14 s14 => ⟨true, rfl, iteBf rfl ⟨rfl, x12.trans (ExtN.of (sX.trans s14)), w12.same (sX.trans s14)⟩⟩⟩
          · rw [piece_at (plcs_in hp).1] at hn
            cases hn
        · refine hQ v' H13 fun r nr => ?_
          have sX : Same H12 (upd H13 r (.tup [.str "told", v'])) := s13.trans (same_upd nr)
          have hr' : (upd H13 r (.tup [.str "told", v'])) r = some (.tup [.str "told", v']) := upd_same
          have hv'X := DAt.hold (.same (same_upd nr (o := .tup [.str "told", v']))) _ hv'
          generalize upd H13 r (.tup [.str "told", v']) = HX at sX hr' hv'X
          rcases due with ⟨hpl, hdu⟩ | ⟨p, u, rfl, hp, hdu, hu, hut, huz⟩
          · rw [piece_no hpl] at ht'
            cases ht'
          · rw [piece_at (plcs_in hp).1] at ht'
            cases ht'
            have hduX := sX _ _ (x12 _ _ hdu (fun ps z => by cases z))
            have huX := DAt.hold (.same sX) _ (DAt.hold (Hold.ext x12) _ hu)
            exact ⟨_, rfl, _, _, rfl, .inr ⟨true, r, du, _, _, rfl, rfl, hr', hduX, .cons (eq_flat rfl 68) (.cons (eq_two (n := 69) _ (ok_tree ok hut) hv'X huX (by omega) (by omega)) .nil), (by show 2 ≤ 100000; decide)⟩, fun H14 s14 => ⟨true, rfl, iteBf rfl ⟨rfl, x12.trans (ExtN.of (sX.trans s14)), w12.same (sX.trans s14)⟩⟩⟩
      rintro σ H12 ⟨rfl, x12, w12⟩
      rcases due with ⟨hpl, hdu⟩ | ⟨p, u, rfl, hp, hdu, _⟩
      · have hdu12 := x12 _ _ hdu (fun ps z => by cases z)
        refine ⟨_, rfl, du, _, 0, .str "none", rfl, rfl, SqT.of hdu12, at_of (j := 0) (by omega) rfl, rfl, _, rfl, ?_⟩
        refine iteBt (decide_eq_true rfl) ?_
        refine ⟨w12.tab, fun H13 x13 tb13 E' Q' hE hQ => ?_⟩
        have w13 := w12.ext x13 tb13
        have x1d := x12.trans x13
        have hxd13 := DAt.hold (Hold.ext x1d) _ hxd11
        refine ⟨_, rfl, _, rfl, _, rfl, hv, x, ov, t, d, o, F, oth st, nol, rs, rs, rfl, DAt.hold (Hold.ext x1d) _ hhv11, htt, ok, by omega, hxd13, by omega, DAt.hold (Hold.ext x1d) _ hov11, hot, ok, by omega, fun hn H14 dd s14 ndd => ?_, fun t' ht' => (by rw [put_no hpl] at ht'; cases ht')⟩
        refine hE dd x _ upd_same fun r nr => ?_
        have sX : Same H13 (upd (upd H14 dd (.xd [("place", x)])) r (.tup [.str "none", x])) := s14.trans ((same_upd ndd).trans (same_upd nr))
        have hr' : (upd (upd H14 dd (.xd [("place", x)])) r (.tup [.str "none", x])) r = some (.tup [.str "none", x]) := upd_same
        generalize upd (upd H14 dd (.xd [("place", x)])) r (.tup [.str "none", x]) = HX at sX hr'
        have hduX := sX _ _ (x13 _ _ hdu12 (fun ps z => by cases z))
        have x9X := x9.trans ((ExtN.of s11).trans (x1d.trans (ExtN.of sX)))
        refine ⟨_, rfl, _, _, rfl, .inr ⟨true, r, du, _, _, rfl, rfl, hr', hduX, .cons (eq_flat rfl 68) (.cons (eq_refl (n := 69) d (DAt.hold (.same sX) _ hxd13) (by omega) (by omega)) .nil), (by show 2 ≤ 100000; decide)⟩, fun H15 s15 => ⟨true, rfl, iteBf rfl ⟨_, _, rfl, x9X.trans (ExtN.of s15), w13.same (sX.trans s15)⟩⟩⟩
      · have hdu12 := x12 _ _ hdu (fun ps z => by cases z)
        refine ⟨_, rfl, du, _, 0, .str "told", rfl, rfl, SqT.of hdu12, at_of (j := 0) (by omega) rfl, rfl, _, rfl, ?_⟩
        exact iteBf (by decide) (iteBf rfl ⟨_, _, rfl, x9.trans ((ExtN.of s11).trans x12), w12⟩)
    rintro σ H8 ⟨v11, v12, rfl, h78, w8⟩
    have hold58 : Hold F H5 H8 := (Hold.same s6).trans ((Hold.but w6.hst b7 hF).trans (h78 F hF))
    refine ⟨_, rfl, hv, rfl, .inl ⟨e, sz t, hde H8 hold58, hse, by omega, ?_⟩⟩
    refine ⟨_, rfl, rfl, _, rfl, ?_⟩
    exact iteBf (by rw [decide_eq_true rfl]; rfl) ⟨_, _, _, _, _, _, _, _, _, _, _, rfl, w8.more (by omega)⟩
end
end K5

namespace K5
open PySem PySem.Spec PyProof.Rows L2 C8 XI
/-- what the text says of an __init__ whose parameters are all stored -/
structure TxtI (st : Stmt) (qual : Str) (fs : List Str) : Prop where
  par : ((fnArgs st).posonlyargs ++ (fnArgs st).args).head?.map (·.arg) = some "self"
  ssu : (fnScope st).names.lookup ("super" : Str) = some .globalImplicit
  scl : (fnScope st).names.lookup ("__class__" : Str) = some .free
  sse : (fnScope st).names.lookup ("self" : Str) = some .local
  kin : (fnScope st).kind = .function
  cel : ∀ y ∈ (fnScope st).names, y.2 ≠ .cell
  nco : (fnScope st).isCoroutine = false
  nge : (fnScope st).isGenerator = false
  fie : ∀ f ∈ fs, (fnScope st).names.lookup f = some .local ∧ (f == ("__debug__" : Str)) = false ∧ f ≠ "self"
  ndf : fs.Nodup
  len : fs.length ≤ 900
  bod : ∃ (p0 p1 p2 p3 p4 p5 : Pos) (k : Nat) (tx : Str) (b : List Stmt), fnBody st = .Expr (.Call (.Attribute (.Call (.Name "super" p0) [] [] p1) "__init__" p2) [.Constant (.str tx) k p3] [] p4) p5 :: b ∧ Stores fs b ∧
    ∀ (L fI' cda' cc' : Addr), ∃ pl, eval (.Call (.Attribute (.Call (.Name "super" p0) [] [] p1) "__init__" p2) [.Constant (.str tx) k p3] [] p4) (PySem.W.ksEnv qual (fnScope st) L fI' (.ref cda') cc') = (do
      let ov ← attributeBase (.Call (.Name "super" p0) [] [] p1) "__init__" (PySem.W.ksEnv qual (fnScope st) L fI' (.ref cda') cc') (eval (.Call (.Name "super" p0) [] [] p1) (PySem.W.ksEnv qual (fnScope st) L fI' (.ref cda') cc'))
      standAt p2.atName
      let (fx, first) ← holding [ov] (getMethod ov "__init__" pl)
      callWith p4 fx first (backTo p4 (starEach [.Constant (.str tx) k p3] (PySem.W.ksEnv qual (fnScope st) L fI' (.ref cda') cc'))) []) ∧ swapsWith (.Call (.Attribute (.Call (.Name "super" p0) [] [] p1) "__init__" p2) [.Constant (.str tx) k p3] [] p4) none p5.line (PySem.W.ksEnv qual (fnScope st) L fI' (.ref cda') cc') = pure false
  bP : ∀ (kV doc pm : Value) (an : Option Addr) (cdv ct : Value) (cc : Addr) (y : Value) (us : List Value), us.length = fs.length → bindArgs (PySem.W.ksFn "__init__" qual (fnArgs st) (fnBody st) (fnScope st) .none kV doc pm an cdv ct cc) ⟨y :: us, []⟩ = pure ((("self" : Str), y) :: fs.zip us)
  bK : ∀ (kV doc pm : Value) (an : Option Addr) (cdv ct : Value) (cc : Addr) (y : Value) (ks : List Str) (ws us : List Value), ks.length = ws.length → (ks.zip ws).Perm (fs.zip us) → us.length = fs.length → ks.length = fs.length → bindArgs (PySem.W.ksFn "__init__" qual (fnArgs st) (fnBody st) (fnScope st) .none kV doc pm an cdv ct cc) ⟨[y], ks.zip ws⟩ = pure ((("self" : Str), y) :: fs.zip us)
def inCls (i : Nat) : Stmt := (clsBody (top i)).getD 0 (.Pass ⟨0, 0, 0, 0⟩)
theorem txt_NoPlace : TxtI (inCls 2) "NoPlace.__init__" ["place"] where
  par := by decide +kernel
  ssu := by rfl
  scl := by rfl
  sse := by rfl
  kin := by rfl
  cel := by decide +kernel
  nco := by rfl
  nge := by rfl
  fie := by decide +kernel
  ndf := by decide +kernel
  len := by decide
  bod := ⟨_, _, _, _, _, _, _, _, _, by rfl, (.cons .nil), fun L fI' cda' cc' => ⟨_, by rfl, by rfl⟩⟩
  bP := fun _ _ _ _ _ _ _ y us hl => match us, hl with | [_], _ => rfl
  bK := fun _ _ _ _ _ _ _ y ks ws us h1 hp h2 h3 => match ks, ws, us, h1, h2, h3 with
    | [k], [w], [u], _, _, _ => by
      have e := List.perm_singleton.mp hp
      obtain ⟨e1, e2⟩ := Prod.mk.inj (List.cons.inj e).1
      subst e1 e2
      rfl
theorem ec_mk {prog : Program} {K : PySem.W.Frag} {mg : Str → Option Value} {h : Heap} {x qual : Str} {st : Stmt} {C fI cc cda : Addr} {fs : List Str} (T : TxtI st qual fs) (X : K.In h) (G : h.Ns mainGlobals mg)
    {nm q : Str} {N : Addr} {bs bm : List Value} {sn : List Str} {sub : List Value} {ab : Bool} {col : Option Bool} {dd : Option Addr} {k0 k1 k2 k3 k5 : Option Value} {oc kV doc pm ct cl ccl : Value} {od an cld cdd : Option Addr} {osl csl ccs : Array (Option Value)} {vs : Array Value} {file : Str} {tf : Tok}
    (aC : PySem.W.nsIn K mainGlobals x = some (some (.ref C))) (lC : K.lookup C = some (excClassObj nm q C N bs bm true sn sub ab col dd k0 k1 k2 k3 k5 "ValueError.__new__")) (ini : PySem.W.findIn K (.ref C) "__init__" = some (some (.ref fI)))
    (lI : K.lookup fI = some ⟨oc, od, .func (PySem.W.ksFn "__init__" qual (fnArgs st) (fnBody st) (fnScope st) .none kV doc pm an (.ref cda) ct cc), osl⟩) (lc : K.lookup cc = some ⟨cl, cld, .cell (some (.ref C)), csl⟩) (ld : K.lookup cda = some ⟨ccl, cdd, .fields vs, ccs⟩)
    (hbm : PySem.HandSPX.refsVE bm = true) (hv : vs[2]? = some (.str file tf)) (hfile : ((prog.main.file : Str) == file) = true) (htop : (prog.main.scope.names.lookup ("super" : Str)).isSome = false) (su : PySem.W.nsIn K mainGlobals "super" = some none)
    (cI : PySem.W.codeIn K (.ref cda) qual = true) (sa : PySem.W.findIn K (.ref C) "__setattr__" = some (some (.builtin "object.__setattr__"))) (exC : PySem.W.subIn K (.ref C) (.type "BaseException") = some true) (tyC : PySem.W.typeIn K (.ref C) = some (.type "type")) (kC : PySem.W.keepIn K (.ref C) = true)
    (hg : PySem.W.findIn K (.ref C) "__getattribute__" = some (some (.builtin "BaseException.__getattribute__"))) (hk : PySem.W.findIn K (.ref C) "__getattr__" = some none) (hd : PySem.W.hasDictIn K C = true) (ha : PySem.W.findIn K (.ref C) "__class__" = some (some (.builtin "object.__class__")))
    (hn : PySem.W.specialIn K (.builtin "object.__class__") "__get__" = some (some (.builtin "getset_descriptor.__get__"))) (ht : PySem.W.takesIn K (.builtin "object.__class__") = some true) (hm : PySem.W.mroIn K C (.type "object") = some true)
    (sup : PySem.W.ks_superIn K C C "__init__" = some (some (.builtin "ValueError.__init__"))) (ity : PySem.W.typeIn K (.ref fI) = some (.type "function")) (opa : PySem.W.nsIn K cStatics "thirdparty.any" = some none) (suB : PySem.W.subIn K (.ref C) (.type "ValueError") = some true)
    (suC : PySem.W.mroIn K C (.ref C) = some true) (nf : ∀ f ∈ fs, PySem.W.findIn K (.ref C) f = some none) : EC prog K mg x C fs where
  ini := by
    have lk : ∀ {fd : FuncData}, (∃ oc od osl, K.lookup fI = some ⟨oc, od, .func fd, osl⟩) → fd = PySem.W.ksFn "__init__" qual (fnArgs st) (fnBody st) (fnScope st) .none kV doc pm an (.ref cda) ct cc := fun {fd} ⟨oc', od', osl', e⟩ => by
      rw [lI] at e
      cases e
      rfl
    refine ⟨fI, qual, fnArgs st, fnBody st, fnScope st, ⟨⟨oc, od, .none, kV, doc, pm, an, cda, ct, osl, cc, cl, cld, csl, ccl, cdd, ccs, vs, file, tf, lI, cI, lc, ld, hv, hfile⟩, sup, ini, ity, opa, suB, suC, T.par, htop, T.ssu, T.scl, T.sse, T.kin, T.cel, T.nco, T.nge,
      fun f hf => ⟨(T.fie f hf).1, (T.fie f hf).2.1, nf f hf, (T.fie f hf).2.2⟩, T.ndf, T.bod⟩, fun s y fd hfd us hl => ?_, fun s y fd hfd ks ws us h1 h2 h3 h4 => ?_⟩
    · rw [lk hfd]
      exact .of_eq (T.bP _ _ _ _ _ _ _ y us hl)
    · rw [lk hfd]
      exact .of_eq (T.bK _ _ _ _ _ _ _ y ks ws us h1 h2 h3 h4)
  oex := ⟨⟨nm, q, N, bs, bm, sn, sub, ab, col, dd, k0, k1, k2, k3, k5, lC, hbm⟩, sa, exC, tyC, kC⟩
  gC := PySem.W.mg_of X G aC
  su := PySem.W.mg_none_of X G su
  is := ⟨hg, hk, exC, hd, ha, hn, ht, hm⟩
  fl := T.len
end K5

/-! the end of wg for a law whose own def makes lambdas: its one table of code objects -/
namespace XW
open PySem PySem.Spec PySem.W PyProof.Rows L2 LamX
theorem law_end1 {P : Program} {w : World} {K : PySem.W.Frag} {mg mb : Str → Option Value} {CX : CXT} {fa a cd tb : Addr} {fd : FuncData} {x : Str} {sp : Sp} {s1 : Shared} {vs : List Value} {ns : List Int} (KX : K.In s1.heap) (hns : s1.heap.Ns mainGlobals mg) (hb : s1.heap.Ns builtinsNs mb)
    (hbb : ∀ x : Str, x ≠ "__name__" → mb x = bootBuiltins x) (hlim : s1.heap.NoLimit) (hg : s1.gens = #[]) (hT : s1.heap.get? tb = some { cls := .none, data := .fields #[] }) (nT : K.lookup tb = none) (C : PySem.W.CodeHd s1.heap cd tb)
    (hbm : ∃ (bm : Addr) (ob : Obj), mg "__builtins__" = some (.ref bm) ∧ bm ≠ builtinsNs ∧ s1.heap.get? bm = some ob ∧ ob.cls = .type "module" ∧ ob.dict = some builtinsNs ∧ ob.data = .plain) (ha : s1.heap.get? a = some { cls := .type "list", data := .seq vs.toArray }) (hi : IntsAre vs ns) (hl : ns.length ≤ sizeLine)
    (F : ∀ base : Heap, K.In base → base.Ns mainGlobals mg → TabB base mg cd tb → Ran P w K mg base CX fa fd [x] sp) (hbind : ∀ (s : Shared) (u : Value), BindsTo s fd ⟨[u], []⟩ [(x, u)])
    (hsp : ∀ H : Hp, H tb = some (.tbl #[]) → SqL K H a (ns.map V.int) → sp [.ref a] H (fun v _ => v = .bl true) fun _ _ _ => False) (hCX : ∀ H e s', CX [] H s1 (fun _ _ _ => False) e s' → False) :
    codeAny (model P w) callerA (.call (.ref fa) ⟨[.ref a], []⟩) (fun r s' => r = .ok (.ret (.bool true)) ∧ OldK s1.heap s'.heap ∧ s'.os = s1.os ∧ AllBare s'.gens) s1 := by
  have vals := vals_ints hi
  have lenV := hi.length
  have ne : a ≠ tb := fun z => by
    have q := hT
    rw [← z, ha] at q
    have q2 : Data.seq vs.toArray _ = Data.fields #[] := congrArg Obj.data (Option.some.inj q)
    cases q2
  have main : ∀ H : Hp, H tb = some (.tbl #[]) → (∀ b, H b = none ∨ b = tb ∨ ∃ o xs, H b = some (.frz o (.lst xs))) → SqL K H a (ns.map V.int) → HOk P w H s1.heap → (∀ b, H b ≠ none → b = a ∨ b = tb) → (H a ≠ none → K.lookup a = none) →
      codeAny (model P w) callerA (.call (.ref fa) ⟨[.ref a], []⟩) (fun r s' => r = .ok (.ret (.bool true)) ∧ OldK s1.heap s'.heap ∧ s'.os = s1.os ∧ AllBare s'.gens) s1 := by
    intro H hH hO hS hok hA hK
    have here : ∀ {b : Addr} {o : Obj}, s1.heap.get? b = some o → H b = none → (hidT s1.heap H).get? b = some o := fun e n => hidT_get e n
    have off : ∀ {b : Addr} {o : Obj}, s1.heap.get? b = some o → (∀ vs n, o.data ≠ .seq vs n) → o.data ≠ .fields #[] → H b = none := fun {b o} e h1 h2 => by
      cases q : H b with
      | none => rfl
      | some u =>
        rcases hA b (by rw [q]; exact Option.some_ne_none u) with rfl | rfl
        · rw [ha] at e
          cases e
          exact absurd rfl (h1 _ _)
        · rw [hT] at e
          cases e
          exact absurd rfl h2
    have offD : ∀ {b : Addr} {o : Obj} {es : Array DictEntry} {ep : Nat}, s1.heap.get? b = some o → o.data = .dict es ep → H b = none := fun {b o es ep} e d => off e (fun vs n z => by rw [d] at z; cases z) (fun z => by rw [d] at z; cases z)
    have nsK : ∀ {b : Addr} {m : Str → Option Value}, s1.heap.Ns b m → (hidT s1.heap H).Ns b m := fun {b m} ⟨o, es, ep, e, d, r⟩ => ⟨o, es, ep, here e (offD e d), d, r⟩
    have hKb : K.In (hidT s1.heap H) := fun b o e => here (KX b o e) (by
      cases q : H b with
      | none => rfl
      | some u =>
        rcases hA b (by rw [q]; exact Option.some_ne_none u) with rfl | rfl
        · rw [hK (by rw [q]; exact Option.some_ne_none u)] at e
          cases e
        · rw [nT] at e
          cases e)
    have hM : Mod K mg (hidT s1.heap H) := ⟨hKb, nsK hns, ⟨mb, nsK hb, hbb⟩, let ⟨mc, h1, h2⟩ := hlim; ⟨mc, nsK h1, h2⟩⟩
    have TB : TabB (hidT s1.heap H) mg cd tb := by
      refine ⟨?_, ?_, fun z => ?_⟩
      · obtain ⟨o, us, file, tf, flags, tg, inF, text, tt, e1, r1, r2, r3, r4, r5, r6, r7, r8, hne⟩ := C
        exact ⟨o, us, file, tf, flags, tg, inF, text, tt, here e1 (off e1 (fun vs n z => by rw [r2] at z; cases z) (fun z => by rw [r2] at z; cases z; simp at r3)), r1, r2, r3, r4, r5, r6, r7, r8, hne⟩
      · obtain ⟨bm, ob, b1, b2, b3, b4, b5, b6⟩ := hbm
        have nG : bm ≠ mainGlobals := fun q => by
          obtain ⟨o, es, ep, e, hd, _⟩ := hns
          rw [q, e] at b3
          cases b3
          rw [hd] at b6
          cases b6
        have nP : bm ≠ tb := fun q => by
          rw [q, hT] at b3
          cases b3
          cases b6
        exact ⟨bm, ob, b1, b2, nG, nP, here b3 (off b3 (fun vs n z => by rw [b6] at z; cases z) (fun z => by rw [b6] at z; cases z)), b4, b5, b6⟩
      · obtain ⟨o, es, ep, e, hd, _⟩ := hns
        rw [z, hT] at e
        cases e
        cases hd
    have env : Env0 P w K mg (hidT s1.heap H) callerA [] s1 H := ⟨rfl, hM, fun b o e => of_hidT e, Nat.le_of_eq (hidT_size _ _), trivial, fun b hb => absurd (show b ∈ ([] : List Addr) from hb) (by simp), hok, .of_eq hg⟩
    refine codeAny_mono (F _ hKb (nsK hns) TB s1 H ⟨[.ref a], []⟩ [.ref a] [.ref a] _ _ env (hbind s1 (.ref a)) (.cons rfl .nil) (hsp H hH hS)) fun r s' h => ?_
    cases r with
    | error e => exact (hCX H e s' h).elim
    | ok fl =>
      cases fl with
      | next => exact h.elim
      | brk => exact h.elim
      | cont => exact h.elim
      | ret u =>
        obtain ⟨v, H', os, bare, un, hok', r', q⟩ := h
        obtain rfl : v = .bl true := q
        obtain rfl : u = Value.bool true := r'
        have key : ∀ b o, b ≠ tb → s1.heap.get? b = some o → s'.heap.get? b = some o := fun b o nb e => by
          rcases hO b with z | z | ⟨ob, xs, z⟩
          · exact un.keep b o e z (by intro z; exact absurd (show b ∈ ([] : List Addr) from z) (by simp)) (by simp)
          · exact absurd z nb
          · obtain ⟨e1, _⟩ := hok b _ z
            obtain ⟨e2, _⟩ := hok' b _ (un.frzs b ob _ z)
            rw [e] at e1
            cases e1
            exact e2
        have grown : ∃ more : Array Value, s'.heap.get? tb = some { cls := .none, data := .fields more } := by
          obtain ⟨more, z⟩ := un.tbls tb #[] hH
          exact ⟨_, hok' tb _ z⟩
        obtain ⟨more, hm⟩ := grown
        refine ⟨rfl, ⟨fun b o e => ?_, fun b o e => ?_⟩, os, bare⟩
        · by_cases hbt : b = tb
          · subst hbt
            rw [hT] at e
            cases e
            exact .inr (.inl ⟨(C.tab hT).isCodeTable, rfl, #[], more, rfl, by rw [Array.empty_append]; exact hm⟩)
          · exact .inl (key b o hbt e)
        · by_cases hbt : b = tb
          · subst hbt
            exact ⟨_, hm⟩
          · exact ⟨o, key b o hbt e⟩
  cases hk : K.lookup a with
  | some o =>
    have e := KX a o hk
    rw [ha] at e
    cases e
    refine main (fun b => if b = tb then some (.tbl #[]) else none) (if_pos rfl) (fun b => ?_) (.inr ⟨_, vs.toArray, _, hk, rfl, rfl, rfl, by rw [List.size_toArray, lenV]; exact hl, by simpa using vals⟩) (fun b u z => ?_) (fun b z => ?_) fun z => absurd (show (if a = tb then some (HO.tbl #[]) else none) = none from if_neg ne) z
    · by_cases hbt : b = tb
      · exact .inr (.inl hbt)
      · exact .inl (if_neg hbt)
    · by_cases hbt : b = tb
      · cases (if_pos hbt).symm.trans z
        rw [hbt]
        exact hT
      · cases (if_neg hbt).symm.trans z
    · by_cases hbt : b = tb
      · exact .inr hbt
      · exact absurd (if_neg hbt) z
  | none =>
    refine main (fun b => if b = a then some (.frz { cls := .type "list", data := .seq vs.toArray } (.lst (ns.map V.int))) else if b = tb then some (.tbl #[]) else none) ((if_neg (show ¬ tb = a from fun z => ne z.symm)).trans (if_pos rfl)) (fun b => ?_) (.inl (.inr ⟨_, if_pos rfl⟩)) (fun b u z => ?_) (fun b z => ?_) fun _ => hk
    · by_cases hba : b = a
      · exact .inr (.inr ⟨_, _, if_pos hba⟩)
      · by_cases hbt : b = tb
        · exact .inr (.inl hbt)
        · exact .inl ((if_neg hba).trans (if_neg hbt))
    · by_cases hba : b = a
      · subst hba
        cases (if_pos rfl).symm.trans z
        exact ⟨ha, by rw [List.length_map]; exact hl, vs, _, vals, ha⟩
      · have z1 := (if_neg hba).symm.trans z
        by_cases hbt : b = tb
        · cases (if_pos hbt).symm.trans z1
          rw [hbt]
          exact hT
        · cases (if_neg hbt).symm.trans z1
    · by_cases hba : b = a
      · exact .inl hba
      · by_cases hbt : b = tb
        · exact .inr hbt
        · exact absurd ((if_neg hba).trans (if_neg hbt)) z
/-- what the end must know of the law: its def, its code object and its table -/
def Knows (P : Program) (w : World) (K : PySem.W.Frag) (CX : CXT) (x : Str) (mg : Str → Option Value) (fa : Addr) (sp : Addr → Sp) : Prop :=
  ∃ (fd : FuncData) (cd tb : Addr) (o : Obj) (e : Value) (dd : Option Addr) (us : Array Value) (sl : Array (Option Value)), K.lookup fa = some o ∧ o.data = .func fd ∧ fd.code = .ref cd ∧ K.lookup cd = some ⟨e, dd, .fields us, sl⟩ ∧ us[11]? = some (.ref tb) ∧ K.lookup tb = none ∧ (∀ h : Heap, K.In h → PySem.W.CodeHd h cd tb) ∧
    (∀ (s : Shared) (u : Value), BindsTo s fd ⟨[u], []⟩ [(x, u)]) ∧ ∀ base : Heap, K.In base → base.Ns mainGlobals mg → TabB base mg cd tb → Ran P w K mg base CX fa fd [x] (sp tb)
theorem walk_ran1 {l : PySem.W.OpenLaw} {n : Nat} {q : Program} {loose : List Str} {XP : (Str → Option Value) → Heap → Prop} {YP : World → Heap → Prop} {d : DefRec} {K : Params → PySem.W.Frag} {CX : World → CXT} {sp : World → Addr → Sp} {x : Str} (hn : l.most = some n) (hn2 : n ≤ sizeLine) (hdf : d.params.defaults = [])
    (hrec : ((recsOf q).any fun e => e.name == d.name) = true) (hY : ∀ (w : World) (h : Heap), YP w h → (K w.params).In h)
    (F : ∀ (w : World) (mg : Str → Option Value) (fa : Addr) (h : Heap), (K w.params).In h → h.Ns mainGlobals mg → mg d.name = some (.ref fa) → Knows l.prog w (K w.params) (CX w) x mg fa (sp w))
    (hsp : ∀ (w : World) (H : Hp) (a tb : Addr) (ns : List Int), ns.length ≤ n → H tb = some (.tbl #[]) → SqL (K w.params) H a (ns.map V.int) → sp w tb [.ref a] H (fun v _ => v = .bl true) fun _ _ _ => False)
    (hCX : ∀ (w : World) (H : Hp) (s : Shared) (e : Value) (s' : Shared), CX w [] H s (fun _ _ _ => False) e s' → False) : PySem.W.WalkO q loose XP YP l.row.toRowW d [] (fun f vs => PySem.call f vs) := by
  refine Att.attach_call hn hdf fun w s0 s1 mg mb fa o pm cd doc a vs ns G Y ho hd hcd hmg hobj hints hlen hg => ?_
  have KX := hY w _ Y
  obtain ⟨fd, c, tb, o1, e, dd, us, sl, k1, k2, k3, k4, k5, nT, hC, hb, hF⟩ := F w mg fa _ KX G.T.g hmg
  have hT : s1.heap.get? tb = some { cls := .none, data := .fields #[] } := by
    obtain ⟨dL, hm, hn1⟩ := List.any_eq_true.mp hrec
    have hn2 : dL.name = d.name := beq_iff_eq.mp hn1
    obtain ⟨a', o', fd', c', P', h1, h2, h3, h4, h5, h6⟩ := G.T.tab dL hm
    rw [hn2, hmg] at h1
    cases h1
    have g1 := KX _ _ k1
    rw [g1] at h2
    cases h2
    rw [k2] at h3
    cases h3
    rw [k3] at h4
    cases h4
    obtain ⟨⟨oc, vc, e1, _, e3, e4⟩, hP⟩ := h6
    have g2 := KX _ _ k4
    rw [g2] at e1
    cases e1
    cases e3
    rw [k5] at e4
    cases e4
    exact hP
  exact law_end1 KX G.T.g G.T.b G.T.builtins G.T.nolimit hg hT nT (hC _ KX) G.T.bmain hobj hints (Nat.le_trans hlen hn2) hF hb (fun H hH hS => hsp w H a tb ns hlen hH hS) fun H e s' => hCX w H s1 e s'
end XW

namespace K5
open PySem PySem.Spec PyProof.Rows L2 C8 XE XI LamX
theorem two {A B : Prop} (a : A) (f : A → B) : B := f a
theorem def_mk {K : PySem.W.Frag} {mg : Str → Option Value} {h : Heap} {x : Str} {st : Stmt} {f : Addr} {oc kV doc pm cdv ct : Value} {od an : Option Addr} {osl : Array (Option Value)} (X : K.In h) (G : h.Ns mainGlobals mg)
    (a : PySem.W.nsIn K mainGlobals x = some (some (.ref f))) (l : K.lookup f = some ⟨oc, od, .func (PySem.W.fnOf x x (fnArgs st) (fnBody st) (fnScope st) .none kV doc pm an cdv ct), osl⟩)
    (c : PySem.W.codeIn K cdv x = true) (k : PySem.W.keepIn K (.ref f) = true) : Def K mg x st f (PySem.W.fnOf x x (fnArgs st) (fnBody st) (fnScope st) .none kV doc pm an cdv ct) :=
  ⟨⟨oc, od, .none, kV, doc, pm, an, cdv, ct, osl, rfl, l, c⟩, PySem.W.mg_of X G a, k⟩
theorem fun_mk {K : PySem.W.Frag} {x qual : Str} {st : Stmt} {f : Addr} {oc kV doc pm cdv ct : Value} {od an : Option Addr} {osl : Array (Option Value)}
    (l : K.lookup f = some ⟨oc, od, .func (PySem.W.fnOf x qual (fnArgs st) (fnBody st) (fnScope st) .none kV doc pm an cdv ct), osl⟩) (c : PySem.W.codeIn K cdv qual = true) : C8.Fun K x qual st f (PySem.W.fnOf x qual (fnArgs st) (fnBody st) (fnScope st) .none kV doc pm an cdv ct) :=
  ⟨oc, od, .none, kV, doc, pm, an, cdv, ct, osl, rfl, l, c⟩
theorem ns_mk {K : PySem.W.Frag} {mg : Str → Option Value} {h : Heap} {x : Str} {C : Addr} (X : K.In h) (G : h.Ns mainGlobals mg) (a : PySem.W.nsIn K mainGlobals x = some (some (.ref C))) : mg x = some (.ref C) := PySem.W.mg_of X G a
theorem cn_mk {K : PySem.W.Frag} {mg : Str → Option Value} {h : Heap} {x : Str} {u : Value} (X : K.In h) (G : h.Ns mainGlobals mg) (a : PySem.W.nsIn K mainGlobals x = some (some u)) : mg x = some u := PySem.W.mg_of X G a
theorem mk_mk {K : PySem.W.Frag} {mg : Str → Option Value} {x : Str} {C f : Addr} {h : Heap} (X : K.In h) (hC : mg x = some (.ref C)) (a : PySem.W.makesIn K C = true) (b : PySem.W.findIn K (.ref C) "__init__" = some (some (.ref f))) (c : PySem.W.isFn K (.ref f) = true) (d : PySem.W.keepIn K (.ref C) = true) : Mk K C f := ⟨a, b, c, d⟩
theorem me_mk {K : PySem.W.Frag} {mg : Str → Option Value} {x m : Str} {C f : Addr} {h : Heap} (X : K.In h) (hC : mg x = some (.ref C)) (b : PySem.W.findIn K (.ref C) m = some (some (.ref f))) (c : PySem.W.isFn K (.ref f) = true) (d : PySem.W.keepIn K (.ref f) = true) : Meth K C m f := ⟨b, c, d⟩
theorem fi_mk {K : PySem.W.Frag} {x qual : Str} {st : Stmt} {C f : Addr} {oc kV doc pm cdv ct : Value} {od an : Option Addr} {osl : Array (Option Value)} (M : Mk K C f)
    (l : K.lookup f = some ⟨oc, od, .func (PySem.W.fnOf x qual (fnArgs st) (fnBody st) (fnScope st) .none kV doc pm an cdv ct), osl⟩) (c : PySem.W.codeIn K cdv qual = true) : C8.Fun K x qual st f (PySem.W.fnOf x qual (fnArgs st) (fnBody st) (fnScope st) .none kV doc pm an cdv ct) := fun_mk l c
theorem fm_mk {K : PySem.W.Frag} {x qual : Str} {st : Stmt} {C f : Addr} {oc kV doc pm cdv ct : Value} {od an : Option Addr} {osl : Array (Option Value)} (M : Meth K C x f)
    (l : K.lookup f = some ⟨oc, od, .func (PySem.W.fnOf x qual (fnArgs st) (fnBody st) (fnScope st) .none kV doc pm an cdv ct), osl⟩) (c : PySem.W.codeIn K cdv qual = true) : C8.Fun K x qual st f (PySem.W.fnOf x qual (fnArgs st) (fnBody st) (fnScope st) .none kV doc pm an cdv ct) := fun_mk l c
theorem fact_mk {K : PySem.W.Frag} {mg : Str → Option Value} {x : Str} {C : Addr} {h : Heap} {A : Prop} (X : K.In h) (hC : mg x = some (.ref C)) (a : A) : A := a

theorem exm_own {K : PySem.W.Frag} {C : Addr} (a : PySem.W.subIn K (.ref C) (.type "BaseException") = some true) (ci : PySem.W.isClsIn K C = true) (ty : PySem.W.typeIn K (.ref C) = some (.type "type")) (su : PySem.W.subIn K (.ref C) (.ref C) = some true) : PySem.W.exmOne K (.ref C) (.ref C) = some true := by
  unfold PySem.W.exmOne
  rw [if_pos (by rw [a]; rfl)]
  show (if ((PySem.W.clsIn K C).isSome && PySem.W.typeIn K (.ref C) == some (.type "type")) = true then PySem.W.subIn K (.ref C) (.ref C) else none) = some true
  have ci : (PySem.W.clsIn K C).isSome = true := ci
  rw [if_pos (by rw [ci, ty]; rfl), su]
theorem xx_mk {P : Program} {K : PySem.W.Frag} {mg : Str → Option Value} {x f : Str} {C : Addr} {h : Heap} (X : K.In h) (E : EC P K mg x C [f]) (a : PySem.W.findIn K (.ref C) f = some none) (ci : PySem.W.isClsIn K C = true) (su : PySem.W.subIn K (.ref C) (.ref C) = some true) : XX K mg x f C := ⟨⟨E.is.1, E.is.2, E.oex.exC, E.is.4⟩, a, exm_own E.oex.exC ci E.oex.tyC su, E.gC⟩
structure Blt9 (mg : Str → Option Value) : Prop extends Blt5 mg where
  rev : mg "reversed" = none
  sum : mg "sum" = none
/-- what stands of the law itself -/
structure LawK (K : PySem.W.Frag) (mg : Str → Option Value) (f cc tb : Addr) (fd : FuncData) : Prop where
  mgf : mg "law" = some (.ref f)
  fn : ∃ (kV doc pm ct oc : Value) (an od : Option Addr) (osl : Array (Option Value)), fd = PySem.W.fnOf "law" "law" (fnArgs sLaw) (fnBody sLaw) (fnScope sLaw) .none kV doc pm an (.ref cc) ct ∧ K.lookup f = some ⟨oc, od, .func fd, osl⟩
  cod : PySem.W.codeIn K (.ref cc) "law" = true
  fld : ∃ (e : Value) (dd : Option Addr) (us : Array Value) (sl : Array (Option Value)), K.lookup cc = some ⟨e, dd, .fields us, sl⟩ ∧ us[11]? = some (.ref tb)
  non : K.lookup tb = none
  hd : PySem.W.codeHdIn K cc tb = true
theorem lawk_mk {K : PySem.W.Frag} {mg : Str → Option Value} {h : Heap} {f cc tb : Addr} {oc kV doc pm ct e : Value} {od an dd : Option Addr} {osl sl : Array (Option Value)} {us : Array Value} (X : K.In h) (G : h.Ns mainGlobals mg)
    (a : PySem.W.nsIn K mainGlobals "law" = some (some (.ref f))) (l : K.lookup f = some ⟨oc, od, .func (PySem.W.fnOf "law" "law" (fnArgs sLaw) (fnBody sLaw) (fnScope sLaw) .none kV doc pm an (.ref cc) ct), osl⟩)
    (c : PySem.W.codeIn K (.ref cc) "law" = true) (lc : K.lookup cc = some ⟨e, dd, .fields us, sl⟩) (h11 : us[11]? = some (.ref tb)) (nT : K.lookup tb = none) (hh : ∀ K' : PySem.W.Frag, K'.lookup cc = some ⟨e, dd, .fields us, sl⟩ → PySem.W.codeHdIn K' cc tb = true) :
    LawK K mg f cc tb (PySem.W.fnOf "law" "law" (fnArgs sLaw) (fnBody sLaw) (fnScope sLaw) .none kV doc pm an (.ref cc) ct) :=
  ⟨PySem.W.mg_of X G a, ⟨_, _, _, _, _, _, _, _, rfl, l⟩, c, ⟨_, _, _, _, lc, h11⟩, nT, hh K lc⟩
theorem all_ok {P : Program} {w : World} {K : PySem.W.Frag} {mg : Str → Option Value} {h : Heap} {fa NP : Addr} (X : K.In h) (G : h.Ns mainGlobals mg) (hfa : mg "law" = some (.ref fa)) (T : Blt9 mg)
    {f0 f1 f2 f3 f4 f5 f6 f7 f8 f9 f10 f11 f12 f13 f14 f15 f16 f17 f18 f19 f20 f21 f22 f23 f24 f25 f26 f27 f28 f29 fL cc tb : Addr} {d0 d1 d2 d3 d4 d5 d6 d7 d8 d9 d10 d11 d12 d13 d14 d15 d16 d17 d18 d19 d20 d21 d22 d23 d24 d25 d26 d27 d28 d29 fdL : FuncData} (EN : EC P K mg "NoPlace" NP ["place"]) (XN : XX K mg "NoPlace" "place" NP) (D0 : Def K mg "is_number" sNum f0 d0) (D1 : Def K mg "is_row" sRow f1 d1) (D2 : Def K mg "is_hole" sHole f2 d2) (D3 : Def K mg "nodes_in_order" sNodes f3 d3) (D4 : Def K mg "nodes_with_places" sNwp f4 d4) (D5 : Def K mg "filled" sFilled f5 d5) (D6 : Def K mg "as_tuples" sAsT f6 d6) (D7 : Def K mg "size" sSize f7 d7) (D8 : Def K mg "places" sPlT f8 d8) (D9 : Def K mg "nodes_down" sDown f9 d9) (D10 : Def K mg "piece" sPiece f10 d10) (D11 : Def K mg "placed" sPlaced f11 d11) (D12 : Def K mg "_law_fresh" sFresh f12 d12) (D13 : Def K mg "_law_take" sTake f13 d13) (D14 : Def K mg "_law_one" sOne f14 d14) (D15 : Def K mg "_law_mix" sMix f15 d15) (D16 : Def K mg "_law_same" sSame f16 d16) (D17 : Def K mg "_law_words" sWords f17 d17) (D18 : Def K mg "_law_rows" sRows f18 d18) (D19 : Def K mg "_law_many" sMany f19 d19) (D20 : Def K mg "_law_labels" sLabels f20 d20) (D21 : Def K mg "_law_tree" sTree f21 d21) (D22 : Def K mg "_law_size" sLSize f22 d22) (D23 : Def K mg "_law_places" sPlaces f23 d23) (D24 : Def K mg "_law_at" sAt f24 d24) (D25 : Def K mg "_law_put" sPut f25 d25) (D26 : Def K mg "_law_loose" sLoose f26 d26) (D27 : Def K mg "_law_refused" sRef f27 d27) (D28 : Def K mg "_law_odd" sOddP f28 d28) (D29 : Def K mg "_law_is_place" sIsP f29 d29)
    (DL : LawK K mg fL cc tb fdL)
    (e0 : d0.defaults = .none) (e1 : d1.defaults = .none) (e2 : d2.defaults = .none) (e3 : d3.defaults = .none) (e4 : d4.defaults = .none) (e5 : d5.defaults = .none) (e6 : d6.defaults = .none) (e7 : d7.defaults = .none) (e8 : d8.defaults = .none) (e9 : d9.defaults = .none) (e10 : d10.defaults = .none) (e11 : d11.defaults = .none) (e12 : d12.defaults = .none) (e13 : d13.defaults = .none) (e14 : d14.defaults = .none) (e15 : d15.defaults = .none) (e16 : d16.defaults = .none) (e17 : d17.defaults = .none) (e18 : d18.defaults = .none) (e19 : d19.defaults = .none) (e20 : d20.defaults = .none) (e21 : d21.defaults = .none) (e22 : d22.defaults = .none) (e23 : d23.defaults = .none) (e24 : d24.defaults = .none) (e25 : d25.defaults = .none) (e26 : d26.defaults = .none) (e27 : d27.defaults = .none) (e28 : d28.defaults = .none) (e29 : d29.defaults = .none) : XW.Knows P w K C8.CX0 "_law_script" mg fa (spLaw K) := by
  have e := hfa.symm.trans DL.mgf
  cases e
  obtain ⟨kV, doc, pm, ct, oc, an, od, osl, rfl, lk⟩ := DL.fn
  obtain ⟨e, dd, us, sl, lc, h11⟩ := DL.fld
  refine ⟨_, cc, tb, _, e, dd, us, sl, lk, rfl, rfl, lc, h11, DL.non, fun h X => PySem.W.codeHd_of_K X DL.hd, fun s v => .of_eq rfl, fun base _ _ TB => ?_⟩
  have b0 := D0.fn.binds (ps := ["thing"]) e0 fun _ _ _ _ _ _ us hl => match us, hl with | [_], _ => rfl
  have b1 := D1.fn.binds (ps := ["thing"]) e1 fun _ _ _ _ _ _ us hl => match us, hl with | [_], _ => rfl
  have b2 := D2.fn.binds (ps := ["node"]) e2 fun _ _ _ _ _ _ us hl => match us, hl with | [_], _ => rfl
  have b3 := D3.fn.binds (ps := ["shape"]) e3 fun _ _ _ _ _ _ us hl => match us, hl with | [_], _ => rfl
  have b4 := D4.fn.binds (ps := ["shape"]) e4 fun _ _ _ _ _ _ us hl => match us, hl with | [_], _ => rfl
  have b5 := D5.fn.binds (ps := ["shape", "contents"]) e5 fun _ _ _ _ _ _ us hl => match us, hl with | [_, _], _ => rfl
  have b6 := D6.fn.binds (ps := ["shape"]) e6 fun _ _ _ _ _ _ us hl => match us, hl with | [_], _ => rfl
  have b7 := D7.fn.binds (ps := ["tree"]) e7 fun _ _ _ _ _ _ us hl => match us, hl with | [_], _ => rfl
  have b8 := D8.fn.binds (ps := ["tree"]) e8 fun _ _ _ _ _ _ us hl => match us, hl with | [_], _ => rfl
  have b9 := D9.fn.binds (ps := ["tree", "place"]) e9 fun _ _ _ _ _ _ us hl => match us, hl with | [_, _], _ => rfl
  have b10 := D10.fn.binds (ps := ["tree", "place"]) e10 fun _ _ _ _ _ _ us hl => match us, hl with | [_, _], _ => rfl
  have b11 := D11.fn.binds (ps := ["tree", "place", "other"]) e11 fun _ _ _ _ _ _ us hl => match us, hl with | [_, _, _], _ => rfl
  have b12 := D12.fn.binds (ps := ["_law_script"]) e12 fun _ _ _ _ _ _ us hl => match us, hl with | [_], _ => rfl
  have b13 := D13.fn.binds (ps := ["_law_state", "_law_many_here"]) e13 fun _ _ _ _ _ _ us hl => match us, hl with | [_, _], _ => rfl
  have b14 := D14.fn.binds (ps := ["_law_state", "_law_things"]) e14 fun _ _ _ _ _ _ us hl => match us, hl with | [_, _], _ => rfl
  have b15 := D15.fn.binds (ps := ["_law_state", "_law_things"]) e15 fun _ _ _ _ _ _ us hl => match us, hl with | [_, _], _ => rfl
  have b16 := D16.fn.binds (ps := ["_law_found", "_law_due"]) e16 fun _ _ _ _ _ _ us hl => match us, hl with | [_, _], _ => rfl
  have b17 := D17.fn.binds (ps := ["_law_state", "_law_many_here"]) e17 fun _ _ _ _ _ _ us hl => match us, hl with | [_, _], _ => rfl
  have b18 := D18.fn.binds (ps := ["_law_state", "_law_most"]) e18 fun _ _ _ _ _ _ us hl => match us, hl with | [_, _], _ => rfl
  have b19 := D19.fn.binds (ps := ["_law_rows_here", "_law_label"]) e19 fun _ _ _ _ _ _ us hl => match us, hl with | [_, _], _ => rfl
  have b20 := D20.fn.binds (ps := ["_law_rows_here"]) e20 fun _ _ _ _ _ _ us hl => match us, hl with | [_], _ => rfl
  have b21 := D21.fn.binds (ps := ["_law_state", "_law_rows_here", "_law_nodes"]) e21 fun _ _ _ _ _ _ us hl => match us, hl with | [_, _, _], _ => rfl
  have b22 := D22.fn.binds (ps := ["_law_tree_here"]) e22 fun _ _ _ _ _ _ us hl => match us, hl with | [_], _ => rfl
  have b23 := D23.fn.binds (ps := ["_law_tree_here"]) e23 fun _ _ _ _ _ _ us hl => match us, hl with | [_], _ => rfl
  have b24 := D24.fn.binds (ps := ["_law_tree_here", "_law_place"]) e24 fun _ _ _ _ _ _ us hl => match us, hl with | [_, _], _ => rfl
  have b25 := D25.fn.binds (ps := ["_law_tree_here", "_law_place", "_law_other"]) e25 fun _ _ _ _ _ _ us hl => match us, hl with | [_, _, _], _ => rfl
  have b26 := D26.fn.binds (ps := ["_law_state", "_law_thing"]) e26 fun _ _ _ _ _ _ us hl => match us, hl with | [_, _], _ => rfl
  have b27 := D27.fn.binds (ps := ["_law_ask"]) e27 fun _ _ _ _ _ _ us hl => match us, hl with | [_], _ => rfl
  have b28 := D28.fn.binds (ps := ["_law_state", "_law_tree_here"]) e28 fun _ _ _ _ _ _ us hl => match us, hl with | [_, _], _ => rfl
  have b29 := D29.fn.binds (ps := ["_law_tree_here", "_law_thing"]) e29 fun _ _ _ _ _ _ us hl => match us, hl with | [_, _], _ => rfl
  have qNum := c_num (P := P) (w := w) (base := base) D0 b0 T.toBlt4
  have qRow := c_row (P := P) (w := w) (base := base) D1 b1 T.toBlt4
  have qHole := c_hole (P := P) (w := w) (base := base) D2 b2 T.toBlt4
  have qNodes := c_nodes (P := P) (w := w) (base := base) D3 b3 T.toBlt4 qHole
  have qNwp := c_nwp (P := P) (w := w) (base := base) D4 b4 T.toBlt4 T.rev qHole
  have qFilled := c_filled (P := P) (w := w) (base := base) D5 b5 T.toBlt4 qNodes qHole
  have qAsT := c_asT (P := P) (w := w) (base := base) D6 b6 T.toBlt4 qFilled
  have qSize := c_size (P := P) (w := w) (base := base) D7 b7 T.toBlt4 qNodes
  have qPlT := c_plT (P := P) (w := w) (base := base) D8 b8 T.toBlt4 qNwp
  have FD := c_down (P := P) (w := w) (base := base) D9 T.toBlt4 EN qRow qNum
  have FP := c_piece (P := P) (w := w) (base := base) D10 D9 b9 FD qAsT
  have FQ := c_placed (P := P) (w := w) (base := base) D11 T.toBlt4 T.rev D9 b9 FD qAsT
  have qFresh := c_fresh (P := P) (w := w) (base := base) D12 b12 T.toBlt
  have qTake := c_take (P := P) (w := w) (base := base) D13 b13 T.toBlt
  have qOne := c_one (P := P) (w := w) (base := base) D14 b14 T.toBlt qTake
  have qMix := c_mix (P := P) (w := w) (base := base) D15 b15 T.toBlt qTake
  have qSame := c_same (P := P) (w := w) (base := base) D16 b16 T.toBlt2 70
  have qWords := c_words (P := P) (w := w) (base := base) D17 b17 T.toBlt qMix
  have qRows := c_rows (P := P) (w := w) (base := base) D18 b18 T.toBlt4 qTake qMix qWords
  have qMany := c_many (P := P) (w := w) (base := base) D19 b19 T.toBlt4
  have qLabels := c_labels (P := P) (w := w) (base := base) D20 b20 T.toBlt4
  have qTree := c_tree (P := P) (w := w) (base := base) D21 b21 T.toBlt4 qTake qOne qLabels qMany 20
  have qLSize := c_lsize (P := P) (w := w) (base := base) D22 b22 T.toBlt4 T.sum 60
  have qLPl := c_places (P := P) (w := w) (base := base) D23 b23 T.toBlt4 60
  have qAt := c_at (P := P) (w := w) (base := base) D24 b24 T.toBlt4 61
  have qPut := c_put (P := P) (w := w) (base := base) D25 b25 T.toBlt4 61
  have qLoose := c_loose (P := P) (w := w) (base := base) D26 b26 T.toBlt4 qTake 60
  have qOdd := c_odd (P := P) (w := w) (base := base) D28 b28 T.toBlt4 qTake qOne qLPl
  have qIsP := c_isP (P := P) (w := w) (base := base) D29 b29 T.toBlt4 qLPl
  exact c_law lk DL.cod TB T.toBlt5 qFresh qTake qRows qTree qSame qLoose qLSize qLPl qAt qPut qOdd qIsP qSize qPlT D10 b10 FP D11 b11 FQ D27 b27 XN
theorem walk {l : PySem.W.OpenLaw} {q : Program} {loose : List Str} {XP : (Str → Option Value) → Heap → Prop} {YP : World → Heap → Prop} {d : DefRec} {K : Params → PySem.W.Frag} (hn : l.most = some 63) (hdf : d.params.defaults = []) (hrec : ((recsOf q).any fun e => e.name == d.name) = true)
    (hY : ∀ (w : World) (h : Heap), YP w h → (K w.params).In h)
    (F : ∀ (w : World) (mg : Str → Option Value) (fa : Addr) (h : Heap), (K w.params).In h → h.Ns mainGlobals mg → mg d.name = some (.ref fa) → XW.Knows l.prog w (K w.params) C8.CX0 "_law_script" mg fa (spLaw (K w.params))) :
    PySem.W.WalkO q loose XP YP l.row.toRowW d [] (fun f vs => PySem.call f vs) :=
  XW.walk_ran1 (n := 63) (x := "_law_script") (CX := fun _ => C8.CX0) (sp := fun w => spLaw (K w.params)) hn (by decide) hdf hrec hY F (fun _ _ a _ ns _ hT hS => ⟨a, ns, rfl, hS, hT, fun _ => rfl⟩) fun _ _ _ _ _ z => z
end K5

open PySem PySem.W PyProof.Rows
set_option maxRecDepth 100000 in
set_option maxHeartbeats 0 in
theorem PySem.Challenge.cw_secondruns_k05_places_and_pieces_holds : PySem.Challenge.rw_secondruns_k05_places_and_pieces.Holds := by
  w_on
  o_law
  k_head
  (case hw => w_witness2)
  k_fill
  refine K5.walk (l := PySem.Challenge.rw_secondruns_k05_places_and_pieces) rfl rfl ?R (fun w h Y => PySem.W.km_in_of Y) ?F
  case R => rfl
  case F =>
    intro w mg fa h KX G hmg
    refine' K5.two (K5.def_mk (x := "is_number") (st := K5.sNum) KX G ?a1 ?l1 ?c1 ?k1) (fun D0 => ?_)
    case a1 => k_is
    case l1 => k_is
    case c1 => k_is
    case k1 => k_is
    refine' K5.two (K5.def_mk (x := "is_row") (st := K5.sRow) KX G ?a2 ?l2 ?c2 ?k2) (fun D1 => ?_)
    case a2 => k_is
    case l2 => k_is
    case c2 => k_is
    case k2 => k_is
    refine' K5.two (K5.def_mk (x := "is_hole") (st := K5.sHole) KX G ?a3 ?l3 ?c3 ?k3) (fun D2 => ?_)
    case a3 => k_is
    case l3 => k_is
    case c3 => k_is
    case k3 => k_is
    refine' K5.two (K5.def_mk (x := "nodes_in_order") (st := K5.sNodes) KX G ?a4 ?l4 ?c4 ?k4) (fun D3 => ?_)
    case a4 => k_is
    case l4 => k_is
    case c4 => k_is
    case k4 => k_is
    refine' K5.two (K5.def_mk (x := "nodes_with_places") (st := K5.sNwp) KX G ?a5 ?l5 ?c5 ?k5) (fun D4 => ?_)
    case a5 => k_is
    case l5 => k_is
    case c5 => k_is
    case k5 => k_is
    refine' K5.two (K5.def_mk (x := "filled") (st := K5.sFilled) KX G ?a6 ?l6 ?c6 ?k6) (fun D5 => ?_)
    case a6 => k_is
    case l6 => k_is
    case c6 => k_is
    case k6 => k_is
    refine' K5.two (K5.def_mk (x := "as_tuples") (st := K5.sAsT) KX G ?a7 ?l7 ?c7 ?k7) (fun D6 => ?_)
    case a7 => k_is
    case l7 => k_is
    case c7 => k_is
    case k7 => k_is
    refine' K5.two (K5.def_mk (x := "size") (st := K5.sSize) KX G ?a8 ?l8 ?c8 ?k8) (fun D7 => ?_)
    case a8 => k_is
    case l8 => k_is
    case c8 => k_is
    case k8 => k_is
    refine' K5.two (K5.def_mk (x := "places") (st := K5.sPlT) KX G ?a9 ?l9 ?c9 ?k9) (fun D8 => ?_)
    case a9 => k_is
    case l9 => k_is
    case c9 => k_is
    case k9 => k_is
    refine' K5.two (K5.def_mk (x := "nodes_down") (st := K5.sDown) KX G ?a10 ?l10 ?c10 ?k10) (fun D9 => ?_)
    case a10 => k_is
    case l10 => k_is
    case c10 => k_is
    case k10 => k_is
    refine' K5.two (K5.def_mk (x := "piece") (st := K5.sPiece) KX G ?a11 ?l11 ?c11 ?k11) (fun D10 => ?_)
    case a11 => k_is
    case l11 => k_is
    case c11 => k_is
    case k11 => k_is
    refine' K5.two (K5.def_mk (x := "placed") (st := K5.sPlaced) KX G ?a12 ?l12 ?c12 ?k12) (fun D11 => ?_)
    case a12 => k_is
    case l12 => k_is
    case c12 => k_is
    case k12 => k_is
    refine' K5.two (K5.def_mk (x := "_law_fresh") (st := K5.sFresh) KX G ?a13 ?l13 ?c13 ?k13) (fun D12 => ?_)
    case a13 => k_is
    case l13 => k_is
    case c13 => k_is
    case k13 => k_is
    refine' K5.two (K5.def_mk (x := "_law_take") (st := K5.sTake) KX G ?a14 ?l14 ?c14 ?k14) (fun D13 => ?_)
    case a14 => k_is
    case l14 => k_is
    case c14 => k_is
    case k14 => k_is
    refine' K5.two (K5.def_mk (x := "_law_one") (st := K5.sOne) KX G ?a15 ?l15 ?c15 ?k15) (fun D14 => ?_)
    case a15 => k_is
    case l15 => k_is
    case c15 => k_is
    case k15 => k_is
    refine' K5.two (K5.def_mk (x := "_law_mix") (st := K5.sMix) KX G ?a16 ?l16 ?c16 ?k16) (fun D15 => ?_)
    case a16 => k_is
    case l16 => k_is
    case c16 => k_is
    case k16 => k_is
    refine' K5.two (K5.def_mk (x := "_law_same") (st := K5.sSame) KX G ?a17 ?l17 ?c17 ?k17) (fun D16 => ?_)
    case a17 => k_is
    case l17 => k_is
    case c17 => k_is
    case k17 => k_is
    refine' K5.two (K5.def_mk (x := "_law_words") (st := K5.sWords) KX G ?a18 ?l18 ?c18 ?k18) (fun D17 => ?_)
    case a18 => k_is
    case l18 => k_is
    case c18 => k_is
    case k18 => k_is
    refine' K5.two (K5.def_mk (x := "_law_rows") (st := K5.sRows) KX G ?a19 ?l19 ?c19 ?k19) (fun D18 => ?_)
    case a19 => k_is
    case l19 => k_is
    case c19 => k_is
    case k19 => k_is
    refine' K5.two (K5.def_mk (x := "_law_many") (st := K5.sMany) KX G ?a20 ?l20 ?c20 ?k20) (fun D19 => ?_)
    case a20 => k_is
    case l20 => k_is
    case c20 => k_is
    case k20 => k_is
    refine' K5.two (K5.def_mk (x := "_law_labels") (st := K5.sLabels) KX G ?a21 ?l21 ?c21 ?k21) (fun D20 => ?_)
    case a21 => k_is
    case l21 => k_is
    case c21 => k_is
    case k21 => k_is
    refine' K5.two (K5.def_mk (x := "_law_tree") (st := K5.sTree) KX G ?a22 ?l22 ?c22 ?k22) (fun D21 => ?_)
    case a22 => k_is
    case l22 => k_is
    case c22 => k_is
    case k22 => k_is
    refine' K5.two (K5.def_mk (x := "_law_size") (st := K5.sLSize) KX G ?a23 ?l23 ?c23 ?k23) (fun D22 => ?_)
    case a23 => k_is
    case l23 => k_is
    case c23 => k_is
    case k23 => k_is
    refine' K5.two (K5.def_mk (x := "_law_places") (st := K5.sPlaces) KX G ?a24 ?l24 ?c24 ?k24) (fun D23 => ?_)
    case a24 => k_is
    case l24 => k_is
    case c24 => k_is
    case k24 => k_is
    refine' K5.two (K5.def_mk (x := "_law_at") (st := K5.sAt) KX G ?a25 ?l25 ?c25 ?k25) (fun D24 => ?_)
    case a25 => k_is
    case l25 => k_is
    case c25 => k_is
    case k25 => k_is
    refine' K5.two (K5.def_mk (x := "_law_put") (st := K5.sPut) KX G ?a26 ?l26 ?c26 ?k26) (fun D25 => ?_)
    case a26 => k_is
    case l26 => k_is
    case c26 => k_is
    case k26 => k_is
    refine' K5.two (K5.def_mk (x := "_law_loose") (st := K5.sLoose) KX G ?a27 ?l27 ?c27 ?k27) (fun D26 => ?_)
    case a27 => k_is
    case l27 => k_is
    case c27 => k_is
    case k27 => k_is
    refine' K5.two (K5.def_mk (x := "_law_refused") (st := K5.sRef) KX G ?a28 ?l28 ?c28 ?k28) (fun D27 => ?_)
    case a28 => k_is
    case l28 => k_is
    case c28 => k_is
    case k28 => k_is
    refine' K5.two (K5.def_mk (x := "_law_odd") (st := K5.sOddP) KX G ?a29 ?l29 ?c29 ?k29) (fun D28 => ?_)
    case a29 => k_is
    case l29 => k_is
    case c29 => k_is
    case k29 => k_is
    refine' K5.two (K5.def_mk (x := "_law_is_place") (st := K5.sIsP) KX G ?a30 ?l30 ?c30 ?k30) (fun D29 => ?_)
    case a30 => k_is
    case l30 => k_is
    case c30 => k_is
    case k30 => k_is
    refine' K5.two (K5.lawk_mk KX G ?a ?l ?c ?lc ?h11 ?nT ?hh) (fun DL => ?_)
    case a => k_is
    case l => k_is
    case c => k_is
    case lc => k_is
    case h11 => rfl
    case nT => rfl
    case hh => (intro K' e; unfold PySem.W.codeHdIn; rw [e]; rfl)
    refine' K5.two (A := XI.EC PySem.Challenge.rw_secondruns_k05_places_and_pieces.prog _ mg "NoPlace" ?NP ["place"]) ?e32 (fun EN => ?_)
    case e32 =>
      refine' K5.ec_mk K5.txt_NoPlace KX G ?aC ?lC ?ini ?lI ?lc ?ld ?hbm ?hv ?hfile ?htop ?su ?cI ?sa ?exC ?tyC ?kC ?hg ?hk ?hd ?ha ?hn ?ht ?hm ?sup ?ity ?opa ?suB ?suC ?nf
      (case aC => k_is); (case lC => k_is); (case ini => k_is); (case lI => k_is); (case lc => k_is); (case ld => k_is); (case hbm => decide +kernel); (case hv => rfl); (case hfile => decide +kernel); (case htop => decide +kernel)
      (case su => k_is); (case cI => k_is); (case sa => k_is); (case exC => k_is); (case tyC => k_is); (case kC => k_is); (case hg => k_is); (case hk => k_is); (case hd => k_is); (case ha => k_is); (case hn => k_is); (case ht => k_is); (case hm => k_is); (case sup => ks_is); (case ity => k_is); (case opa => k_is); (case suB => k_is); (case suC => k_is)
      case nf => (intro f hf; obtain rfl := List.mem_singleton.mp hf; k_is)
    refine' K5.two (K5.xx_mk KX EN ?f33_0 ?f33_1 ?f33_2) (fun XN => ?_)
    case f33_0 => k_is
    case f33_1 => k_is
    case f33_2 => k_is
    have T : K5.Blt9 mg := { len := PySem.W.mg_none_of KX G (by k_is), abs := PySem.W.mg_none_of KX G (by k_is), int := PySem.W.mg_none_of KX G (by k_is), list := PySem.W.mg_none_of KX G (by k_is), isi := PySem.W.mg_none_of KX G (by k_is), tup := PySem.W.mg_none_of KX G (by k_is), boo := PySem.W.mg_none_of KX G (by k_is), all := PySem.W.mg_none_of KX G (by k_is), zip := PySem.W.mg_none_of KX G (by k_is), ran := PySem.W.mg_none_of KX G (by k_is), enu := PySem.W.mg_none_of KX G (by k_is), str := PySem.W.mg_none_of KX G (by k_is), dic := PySem.W.mg_none_of KX G (by k_is), rep := PySem.W.mg_none_of KX G (by k_is), rev := PySem.W.mg_none_of KX G (by k_is), sum := PySem.W.mg_none_of KX G (by k_is) }
    exact K5.all_ok KX G hmg T EN XN D0 D1 D2 D3 D4 D5 D6 D7 D8 D9 D10 D11 D12 D13 D14 D15 D16 D17 D18 D19 D20 D21 D22 D23 D24 D25 D26 D27 D28 D29 DL rfl rfl rfl rfl rfl rfl rfl rfl rfl rfl rfl rfl rfl rfl rfl rfl rfl rfl rfl rfl rfl rfl rfl rfl rfl rfl rfl rfl rfl rfl
