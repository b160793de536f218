import PyProof.Rows.All
import Wide.All
import OpenK.AllK
import Wide.FinOn
import HandS.ForMost
import HandS.Codes
import HandS.Wide
import HandS.IsInst
import HandS.ExcIs
import HandS.Zip
import HandS.Style
import HandS.DeepEq
import PyProof.NeKinds
import KE.GoesMore
import KE.GoesEnum
import HandS.FStr
import HandS.SetFor
import HandS.Star
import HandS.DictSub
import HandS.Set
import PyProof.Rows.SetFrom
import PyProof.Rows.SortStr
import HandS.More
import KE.KDictWalk
import KE.KDictDisplayH
import PyProof.WalksMore
import HandS.ExcInit
import HandS.ExcField
import KE.KExcSuper
import KE.KExcIs
import HandS.ExcOwn
import HandS.ExcCtx
import HandS.WordsExc
import HandS.DictComp
import HandS.TryOnly
import HandS.RaiseMore
import HandS.Lambda
import HandS.EndTab
import HandS.Exc
import HandS.Defaults
import PySem.Challenge.RW_secondruns_k09_rules_refused
set_option Elab.async false
set_option linter.all false
set_option maxRecDepth 100000
set_option maxHeartbeats 4000000
namespace K9
open PySem PySem.Spec PyProof.Rows L2 C8
def top (i : Nat) : Stmt := PySem.Challenge.pw_secondruns_k09_rules_refused.main.body.getD i (.Pass ⟨0, 0, 0, 0⟩)
abbrev sFresh : Stmt := top 26
abbrev sTake : Stmt := top 27
abbrev sOne : Stmt := top 28
example : (match sFresh with | .FunctionDef (name := n) .. => n | _ => "") = ("_law_fresh" : Str) := by rfl

/-- the state of the draws, at a -/
def StAt (B : Nat) (H : Hp) (a l : Addr) : Prop := ∃ (ns : List Int) (i c h n : Int), H a = some (.lst [.ref l, .int i, .int c, .int h, .int n]) ∧ H l = some (.lst (ns.map V.int)) ∧
  0 ≤ i ∧ 0 ≤ c ∧ 0 ≤ h ∧ h < 2147483647 ∧ 0 ≤ n ∧ n ≤ B ∧ ns.length ≤ 40
/-- all but what stands at a is as it was -/
def But (a : Addr) (H H' : Hp) : Prop := ∀ b o, H b = some o → b ≠ a → H' b = some o
theorem iteBt {c : Bool} {A B : Prop} (hc : c = true) (h : A) : if c = true then A else B := by rw [if_pos hc]; exact h
theorem iteBf {c : Bool} {A B : Prop} (hc : c = false) (h : B) : if c = true then A else B := by rw [if_neg (by rw [hc]; exact Bool.false_ne_true)]; exact h
def spTake : Sp := fun vs H Q _ => ∃ (a : Addr) (m : Int) (B : Nat) (l : Addr), vs = [.ref a, .int m] ∧ 0 < m ∧ m < 1073741824 ∧ StAt B H a l ∧ B < 1000000000000000 ∧
  ∀ (d : Int) (H' : Hp), 0 ≤ d → d < m → StAt (B + 1) H' a l → But a H H' → Q (.int d) H'
theorem scTake : FnScope ["_law_state", "_law_many_here", "_law_cell", "_law_digit", "_law_one_here", "_law_two"] ["_law_state", "_law_many_here"] (fnScope sTake) := fnScope_by (by decide +kernel)
section
variable {P : Program} {w : World} {K : PySem.W.Frag} {mg : Str → Option Value} {base : Heap}
structure Blt (mg : Str → Option Value) : Prop where
  len : mg "len" = none
  abs : mg "abs" = none
  int : mg "int" = none
  list : mg "list" = none
theorem c_take {f : Addr} {fd : FuncData} (F : Def K mg "_law_take" sTake f fd) (b : Binds K fd ["_law_state", "_law_many_here"] []) (T : Blt mg) : Cal P w K mg base 1 "_law_take" spTake [] := by
  refine cal0 F b .nil scTake (fun vs H Q E h => ?_) (fun cdv A outer s H vs Q E hr h => ?_)
  · obtain ⟨a, m, B, l, rfl, _⟩ := h
    rfl
  · obtain ⟨a, m, B, l, rfl, m0, m1, ⟨ns, i, c, h, n, ha, hl, i0, c0, h0, h1, n0, n1, nl⟩, hB, k⟩ := h
    have nd := scTake.nd
    refine ⟨_, pss_cons (ps_asg (pe_op op_add (pe_ix ix_list (pv 0) pe_int fun _ _ => rfl) pe_int) (pg_sub (pv 0) pe_int set_list))
      (pss_cut (ps_while PassesOwn.never
          (pw_and (pt_cmp (pc_eqI (pe_ix ix_list (pv 0) pe_int fun _ _ => rfl) pe_int))
            (pw_and1 (pt_cmp (pc_lt (pe_ix ix_list (pv 0) pe_int fun _ _ => rfl) (pe_callB call_len_seq (by rfl) T.len PySem.boot_len (pa_cons (pe_ix ix_list (pv 0) pe_int fun _ _ => rfl) pa_nil)))))).pt
          (pss_cons (ps_set (i := 2) nd rfl (Or.inl rfl) (pe_callB call_abs (by rfl) T.abs (by decide +kernel) (pa_cons (pe_ix ix_list (pe_ix ix_list (pv 0) pe_int fun _ _ => rfl) (pe_ix ix_list (pv 0) pe_int fun _ _ => rfl) fun _ _ => rfl) pa_nil)))
          (pss_cons (ps_asg (pe_op op_add (pe_ix ix_list (pv 0) pe_int fun _ _ => rfl) pe_int) (pg_sub (pv 0) pe_int set_list))
          (pss_one (ps_if (pt_cmp (pc_ge (pv 2) (pe_op op_pow pe_int pe_int)))
            (pss_one (ps_asg (pv 2) (pg_sub (pv 0) pe_int set_list)))
            (pss_one (ps_asg (pe_op op_mod (pe_callTy call_int1 (by rfl) T.int (by decide +kernel) (pa_cons (pe_op op_add (pe_op op_add (pe_op op_mul (pe_ix ix_list (pv 0) pe_int fun _ _ => rfl) pe_int) (pv 2)) pe_int) pa_nil)) pe_int) (pg_sub (pv 0) pe_int set_list))))))))
      (pss_cons (ps_if (pt_cmp (pc_gt (pe_ix ix_list (pv 0) pe_int fun _ _ => rfl) pe_int))
          (pss_cons (ps_set (i := 3) nd rfl (Or.inl rfl) (pe_op op_mod (pe_callTy call_int1 (by rfl) T.int (by decide +kernel) (pa_cons (pe_ix ix_list (pv 0) pe_int fun _ _ => rfl) pa_nil)) (pv 1)))
          (pss_cons (ps_asg (pe_op op_fdiv (pe_ix ix_list (pv 0) pe_int fun _ _ => rfl) (pv 1)) (pg_sub (pv 0) pe_int set_list))
          (pss_one (ps_ret (pv 3))))) pss_nil)
      (pss_cons (ps_set (i := 4) nd rfl (Or.inl rfl) (pe_op op_mod (pe_callTy call_int1 (by rfl) T.int (by decide +kernel) (pa_cons (pe_op op_pow (pe_op op_add (pe_op op_add (pe_ix ix_list (pv 0) pe_int fun _ _ => rfl) (pe_op op_mul pe_int (pe_ix ix_list (pv 0) pe_int fun _ _ => rfl))) pe_int) pe_int) pa_nil)) pe_int))
      (pss_cons (ps_set (i := 5) nd rfl (Or.inl rfl) (pe_op op_mod (pe_callTy call_int1 (by rfl) T.int (by decide +kernel) (pa_cons (pe_op op_pow (pe_op op_add (pv 4) (pe_op op_mul pe_int (pe_ix ix_list (pv 0) pe_int fun _ _ => rfl))) pe_int) pa_nil)) pe_int))
      (pss_one (ps_ret (pe_op op_mod (pe_callTy call_int1 (by rfl) T.int (by decide +kernel) (pa_cons (pe_op op_fdiv (pv 5) pe_int) pa_nil)) (pv 1)))))))), ?_⟩
    have gA : ∀ xs : List V, (upd H a (.lst xs)) a = some (.lst xs) := fun _ => upd_same
    have nla : l ≠ a := ne_of hl ha (by intro z; have z' := congrArg (fun o : HO => match o with | .lst xs => xs.head? | _ => none) z; cases ns <;> cases z')
    have gl : ∀ o, (upd H a o) l = some (.lst (ns.map V.int)) := fun o => by rw [upd_ne nla]; exact hl
    have fin : ∀ (d i' c' h' : Int), 0 ≤ d → d < m → 0 ≤ i' → 0 ≤ c' → 0 ≤ h' → h' < 2147483647 → Q (.int d) (upd H a (.lst [.ref l, .int i', .int c', .int h', .int (n + 1)])) := fun d i' c' h' d0 d1 e1 e2 e3 e4 =>
      k d _ d0 d1 ⟨ns, i', c', h', n + 1, upd_same, gl _, e1, e2, e3, e4, by omega, by omega, nl⟩ fun b o e hb => by rw [upd_ne hb]; exact e
    -- _law_state[4] = _law_state[4] + 1
    refine ⟨_, rfl, a, _, 4, _, rfl, rfl, SqL.of ha, rfl, n, 1, rfl, rfl, _, rfl, a, _, 4, 4, rfl, rfl, ha, rfl, ?_⟩
    show tSeq _ _ _ _ (upd H a (.lst [.ref l, .int i, .int c, .int h, .int (n + 1)]))
    have rd : ∀ {xs : List V} {σ : L2.St} {z : Int} {v : V} {Q : VK}, σ[0]? = some (some (.ref a)) → atI xs z = some v → Q v (upd H a (.lst xs)) → tOp (rIxL K) (tVar 0) (tC (.int z)) σ (upd H a (.lst xs)) Q :=
      fun h1 h2 q => ⟨_, h1, a, _, _, _, rfl, rfl, SqL.of upd_same, h2, q⟩
    have st : ∀ {xs : List V} {σ : L2.St} {z : Int} {j : Nat} {v : V} {Q : L2.St → Hp → Prop}, σ[0]? = some (some (.ref a)) → ixN xs.length z = some j → Q σ (upd H a (.lst (xs.set j v))) → gSub (tVar 0) (tC (.int z)) rSetL v σ (upd H a (.lst xs)) Q :=
      fun h1 h2 q => ⟨_, h1, a, _, _, _, rfl, rfl, upd_same, h2, by rw [upd_upd]; exact q⟩
    -- while
    refine ⟨fun σ H' => ∃ (i c h : Int) (v2 : Option V), σ = [some (.ref a), some (.int m), v2, none, none, none] ∧ H' = upd H a (.lst [.ref l, .int i, .int c, .int h, .int (n + 1)]) ∧ 0 ≤ i ∧ 0 ≤ c ∧ 0 ≤ h ∧ h < 2147483647, ?_, ?_⟩
    · refine ⟨fun μ σ H' => ∃ (i c h : Int) (v2 : Option V), μ = ns.length - i.toNat ∧ σ = [some (.ref a), some (.int m), v2, none, none, none] ∧ H' = upd H a (.lst [.ref l, .int i, .int c, .int h, .int (n + 1)]) ∧ 0 ≤ i ∧ 0 ≤ c ∧ 0 ≤ h ∧ h < 2147483647,
        ⟨_, i, c, h, none, rfl, rfl, rfl, i0, c0, h0, h1⟩, ?_⟩
      rintro μ σ H' ⟨i, c, h, v2, rfl, rfl, rfl, i0, c0, h0, h1⟩
      refine rd rfl rfl ⟨c, 0, rfl, rfl, _, rfl, ?_⟩
      refine ite2 (fun hc => ?_) (fun hc => ?_)
      · refine rd rfl rfl (rd rfl rfl ⟨l, _, rfl, .inl (SqL.of (gl _)), i, _, rfl, rfl, _, rfl, ?_⟩)
        by_cases hi : i < ns.length
        · have hlt : i.toNat < ns.length := by omega
          have hx : atI (ns.map V.int) i = some (.int ns[i.toNat]) := at_of (j := i.toNat) (by omega) (by simp [hlt])
          refine iteBt (decide_eq_true (by rw [List.length_map]; exact hi)) ?_
          refine ⟨fun σ H' => ∃ (c h : Int) (v2 : Option V), σ = [some (.ref a), some (.int m), v2, none, none, none] ∧ H' = upd H a (.lst [.ref l, .int (i + 1), .int c, .int h, .int (n + 1)]) ∧ 0 ≤ c ∧ 0 ≤ h ∧ h < 2147483647, ?_, ?_⟩
          · rintro σ' H' ⟨c, h, v2, rfl, rfl, c0, h0, h1⟩
            exact ⟨_, by omega, i + 1, c, h, v2, rfl, rfl, rfl, by omega, c0, h0, h1⟩
          -- _law_cell = abs(..)
          refine rd rfl rfl (rd rfl rfl ⟨l, _, i, _, rfl, rfl, SqL.of (gl _), hx, _, rfl, ?_⟩)
          generalize hz : (if ns[i.toNat] < 0 then -ns[i.toNat] else ns[i.toNat]) = z
          have z0 : 0 ≤ z := by rw [← hz]; split <;> omega
          -- _law_state[1] = _law_state[1] + 1
          refine rd rfl rfl ⟨i, 1, rfl, rfl, st rfl rfl ?_⟩
          -- if
          refine ⟨_, rfl, 10, 18, rfl, rfl, ⟨by decide, by decide, by decide⟩, z, _, rfl, rfl, _, rfl, ite2 (fun _ => ?_) (fun _ => ?_)⟩
          · exact ⟨_, rfl, st rfl rfl ⟨z, h, some (.int z), rfl, rfl, z0, h0, h1⟩⟩
          · refine rd rfl rfl ⟨h, 131, rfl, rfl, .inl ⟨by omega, by omega⟩, _, rfl, _, _, rfl, rfl, _, _, rfl, rfl, .inl ⟨_, rfl, _, _, rfl, rfl, (by show (0 : Int) < 2147483647; decide), st rfl rfl ⟨c, _, some (.int z), rfl, rfl, c0, Int.emod_nonneg _ (by decide), Int.emod_lt_of_pos _ (by decide)⟩⟩⟩
        · refine iteBf (decide_eq_false (by rw [List.length_map]; exact hi)) ?_
          exact ⟨i, c, h, v2, rfl, rfl, i0, c0, h0, h1⟩
      · exact iteF ⟨i, c, h, v2, rfl, rfl, i0, c0, h0, h1⟩
    · rintro σ H' ⟨i, c, h, v2, rfl, rfl, i0, c0, h0, h1⟩
      refine rd rfl rfl ⟨c, 0, rfl, rfl, _, rfl, ite2 (fun hc => ?_) (fun hc => ?_)⟩
      · have hc : 0 < c := of_decide_eq_true hc
        refine rd rfl rfl (.inl ⟨c, rfl, _, rfl, c, m, rfl, rfl, m0, ?_⟩)
        refine rd rfl rfl ⟨_, rfl, c, m, rfl, rfl, ⟨m0, m1⟩, st rfl rfl ⟨_, rfl, ?_⟩⟩
        exact fin _ _ _ _ (Int.emod_nonneg _ (by omega)) (Int.emod_lt_of_pos _ m0) i0 (Int.ediv_nonneg c0 (by omega)) h0 h1
      · refine rd rfl rfl (rd rfl rfl ⟨7919, n + 1, rfl, rfl, .inl ⟨by decide, by decide⟩, h, _, rfl, rfl, _, 5, rfl, rfl, _, 3, rfl, rfl, ⟨by decide, by decide, by omega⟩, .inl ⟨_, rfl, _, _, rfl, rfl, (by show (0 : Int) < 1000000007; decide), ?_⟩⟩)
        generalize ho : (h + 7919 * (n + 1) + 5) ^ (3 : Int).toNat % 1000000007 = o
        have o0 : 0 ≤ o := by rw [← ho]; exact Int.emod_nonneg _ (by decide)
        have o1 : o < 1000000007 := by rw [← ho]; exact Int.emod_lt_of_pos _ (by decide)
        refine ⟨.int o, (by subst ho; rfl), rd rfl rfl ⟨31, n + 1, rfl, rfl, .inl ⟨by decide, by decide⟩, o, _, rfl, rfl, _, 3, rfl, rfl, ⟨by decide, by decide, by omega⟩, .inl ⟨_, rfl, _, _, rfl, rfl, (by show (0 : Int) < 998244353; decide), ?_⟩⟩⟩
        refine ⟨_, rfl, _, 3, rfl, rfl, ⟨by decide, by decide⟩, .inl ⟨_, rfl, _, rfl, _, m, rfl, rfl, m0, ?_⟩⟩
        exact fin _ _ _ _ (Int.emod_nonneg _ (by omega)) (Int.emod_lt_of_pos _ m0) i0 c0 h0 h1
end
end K9


namespace K9
open PySem PySem.Spec PyProof.Rows L2 C8
theorem cut40 (ns : List Int) : cutV (ns.map V.int) none (some 40) = (ns.take 40).map V.int := by
  unfold cutV HT.sIx
  simp only [show ¬ ((40 : Int) < 0) by decide, if_false, List.drop_zero, Nat.sub_zero, ← List.map_take, List.length_map]
  congr 1
  by_cases h : ns.length ≤ 40
  · rw [List.take_of_length_le h, List.take_of_length_le (by omega)]
  · congr 1
    omega
def spFresh (K : PySem.W.Frag) : Sp := fun vs H Q _ => ∃ (a : Addr) (ns : List Int), vs = [.ref a] ∧ SqL K H a (ns.map V.int) ∧ ∀ (st l : Addr) (H' : Hp), H st = none → H l = none → Same H H' → StAt 0 H' st l → Q (.ref st) H'
def spOne : Sp := fun vs H Q _ => ∃ (st th : Addr) (xs : List V) (B : Nat) (l : Addr), vs = [.ref st, .ref th] ∧ (H th = some (.lst xs) ∨ H th = some (.tup xs)) ∧ th ≠ st ∧ 0 < xs.length ∧ xs.length < 1000000 ∧ StAt B H st l ∧ B < 1000000000000000 ∧
  ∀ (v : V) (H' : Hp), v ∈ xs → StAt (B + 1) H' st l → But st H H' → Q v H'
theorem scFresh : FnScope ["_law_script"] ["_law_script"] (fnScope sFresh) := fnScope_by (by decide +kernel)
theorem scOne : FnScope ["_law_state", "_law_things"] ["_law_state", "_law_things"] (fnScope sOne) := fnScope_by (by decide +kernel)
section
variable {P : Program} {w : World} {K : PySem.W.Frag} {mg : Str → Option Value} {base : Heap}
theorem c_fresh {f : Addr} {fd : FuncData} (F : Def K mg "_law_fresh" sFresh f fd) (b : Binds K fd ["_law_script"] []) (T : Blt mg) : Cal P w K mg base 1 "_law_fresh" (spFresh K) [] := by
  refine cal0 F b .nil scFresh (fun vs H Q E h => ?_) (fun cdv A outer s H vs Q E hr h => ?_)
  · obtain ⟨a, ns, rfl, _⟩ := h
    rfl
  · obtain ⟨a, ns, rfl, hS, k⟩ := h
    refine ⟨_, pss_one (ps_ret (pe_lst (pa_cons (pe_callTy call_list_of (by rfl) T.list (by decide +kernel) (pa_cons (pe_slice sl_list (pv 0) po_none (po_some pe_int)) pa_nil))
      (pa_cons pe_int (pa_cons pe_int (pa_cons pe_int (pa_cons pe_int pa_nil))))))), ?_⟩
    refine ⟨_, rfl, 40, rfl, a, _, rfl, hS, fun p np => ⟨p, _, rfl, .inl (SqL.of upd_same), fun l nl => ⟨(by show 5 ≤ sizeLine; decide), fun st nst => ?_⟩⟩⟩
    have nl' := nl
    have npl : p ≠ l := ne_of_none upd_same nl
    rw [upd_ne npl.symm] at nl
    have nst2 : st ≠ l := fun z => by rw [z, upd_same] at nst; cases nst
    rw [upd_ne nst2] at nst
    have nst3 : st ≠ p := fun z => by rw [z, upd_same] at nst; cases nst
    rw [upd_ne nst3] at nst
    refine k st l _ nst nl (fun b o e => ?_) ⟨ns.take 40, 0, 0, 0, 0, upd_same, ?_, by decide, by decide, by decide, by decide, by decide, by decide, List.length_take_le _ _⟩
    · rw [upd_ne (ne_of_none e nst), upd_ne (ne_of_none e nl), upd_ne (ne_of_none e np)]
      exact e
    · rw [upd_ne nst2.symm, upd_same, cut40]
theorem c_one {f : Addr} {fd : FuncData} (F : Def K mg "_law_one" sOne f fd) (b : Binds K fd ["_law_state", "_law_things"] []) (T : Blt mg) (C : Cal P w K mg base 1 "_law_take" spTake []) : Cal P w K mg base 2 "_law_one" spOne [] := by
  refine cal0 F b .nil scOne (fun vs H Q E h => ?_) (fun cdv A outer s H vs Q E hr h => ?_)
  · obtain ⟨st, th, xs, B, l, rfl, _⟩ := h
    rfl
  · obtain ⟨st, th, xs, B, l, rfl, hx, ne, l0, l1, hst, hB, k⟩ := h
    refine ⟨_, pss_one (ps_ret (pe_ix ix_seq (pv 1) (pe_c C hr (Nat.le_refl _) (by rfl) (pa_cons (pv 0) (pa_cons (pe_callB call_len_seq (by rfl) T.len PySem.boot_len (pa_cons (pv 1) pa_nil)) pa_nil))) fun _ _ => rfl)), ?_⟩
    have hs : SqL K H th xs ∨ SqT K H th xs := hx.elim (fun z => .inl (SqL.of z)) fun z => .inr (SqT.of z)
    refine ⟨_, rfl, _, rfl, _, rfl, th, xs, rfl, hs, st, (xs.length : Int), B, l, rfl, by omega, by omega, hst, hB, fun d H' d0 d1 hst' but => ?_⟩
    have hd : d.toNat < xs.length := by omega
    have at' : atI xs d = some xs[d.toNat] := at_of (j := d.toNat) (by omega) (by simp [hd])
    have fin := k _ H' (List.getElem_mem hd) hst' but
    rcases hx with hx | hx
    · exact .inl ⟨th, xs, d, _, rfl, rfl, SqL.of (but _ _ hx ne), at', fin⟩
    · exact .inr (.inl ⟨th, xs, d, _, rfl, rfl, SqT.of (but _ _ hx ne), at', fin⟩)
end
end K9

namespace K9
open PySem PySem.Spec PyProof.Rows L2 C8
abbrev sSame : Stmt := top 30
/-- a dict that may be told equal to itself -/
def DicOk (kvs : List (Key × V)) : Prop := ∀ p ∈ kvs, valV kvs p.1 = some p.2 ∧ flatB p.2 = true
/-- what stands for one thing: flat, or a dict -/
def Leaf (H : Hp) (x : V) : Prop := flatV x = true ∨ ∃ a kvs, x = .ref a ∧ H a = some (.dK kvs) ∧ DicOk kvs
def Thing (H : Hp) (x : V) : Prop := Leaf H x ∨ ∃ a xs, x = .ref a ∧ (H a = some (.lst xs) ∨ H a = some (.tup xs)) ∧ (∀ y ∈ xs, flatV y = true) ∧ xs.length ≤ 10
theorem Leaf.same {H H' : Hp} {x : V} (s : Same H H') (h : Leaf H x) : Leaf H' x := h.imp id fun ⟨a, kvs, e, q, d⟩ => ⟨a, kvs, e, s _ _ q, d⟩
theorem Thing.same {H H' : Hp} {x : V} (s : Same H H') (h : Thing H x) : Thing H' x := h.imp (Leaf.same s) fun ⟨a, xs, e, q, r⟩ => ⟨a, xs, e, q.imp (s _ _) (s _ _), r⟩
theorem same_upd {H : Hp} {p : Addr} {o : HO} (np : H p = none) : Same H (upd H p o) := fun b u e => by
  rw [upd_ne (ne_of_none e np)]
  exact e
theorem pe_bt {X : Cx} {x : Str} {pos : Pos} (n : String) (hm : X.mg x = none) (hg : Gl X x := by rfl) (hv : bootBuiltins x = some (.type n) := by decide +kernel) (hn : x ≠ "__name__" := by decide) (hd : (x == ("__debug__" : Str)) = false := by decide) : PE X (.Name x pos) (tC (.ty n)) :=
  pe_bltn hg hm hv rfl hn hd
def spSame0 : Sp := fun vs H Q _ => ∃ x : V, vs = [x, x] ∧ Leaf H x ∧ ∀ H', Same H H' → Q (.bl true) H'
def spSame1 : Sp := fun vs H Q _ => ∃ x : V, vs = [x, x] ∧ Thing H x ∧ ∀ H', Same H H' → Q (.bl true) H'
theorem scSame : FnScope ["_law_found", "_law_due", "_law_x", "_law_y"] ["_law_found", "_law_due"] (fnScope sSame) := fnScope_by (by decide +kernel)
structure Blt2 (mg : Str → Option Value) : Prop extends Blt mg where
  isi : mg "isinstance" = none
  tup : mg "tuple" = none
  boo : mg "bool" = none
  all : mg "all" = none
  zip : mg "zip" = none
/-- the types of leaves -/
def leafTy : List String := ["NoneType", "bool", "int", "str", "dict"]
theorem leaf_ty {K : PySem.W.Frag} {H : Hp} {x : V} (h : Leaf H x) : ∃ T ∈ leafTy, (∀ H', Same H H' → TyX K H' x (.type T)) ∧ (scal x x = true ∨ ((T == "int" || T == "bool") = false ∧ ∃ a kvs, x = .ref a ∧ H a = some (.dK kvs) ∧ DicOk kvs)) := by
  rcases h with h | ⟨a, kvs, rfl, e, dk⟩
  · cases x with
    | non => exact ⟨"NoneType", by decide, fun _ _ => .base .non, .inl rfl⟩
    | bl b => exact ⟨"bool", by decide, fun _ _ => .base (.bl b), .inl rfl⟩
    | int i => exact ⟨"int", by decide, fun _ _ => .base (.int i), .inl rfl⟩
    | str z => exact ⟨"str", by decide, fun _ _ => .base (.str z), .inl rfl⟩
    | _ => cases h
  · exact ⟨"dict", by decide, fun H' s => .base (.dK (s _ _ e)), .inr ⟨by decide, a, kvs, rfl, e, dk⟩⟩
section
variable {P : Program} {w : World} {K : PySem.W.Frag} {mg : Str → Option Value} {base : Heap}
theorem kitLT {T : String} (h : T ∈ leafTy) : PySem.W.kitAny K (.type T) [.type "list", .type "tuple"] = some false ∧ PySem.W.kitAny K (.type T) [.type "int", .type "list", .type "tuple"] = some (T == "int" || T == "bool") ∧
    PySem.W.kitOne K (.type T) (.type "int") = some (T == "int" || T == "bool") ∧ PySem.W.kitOne K (.type T) (.type "bool") = some (T == "bool") := by
  have z : ∀ T ∈ leafTy, kitB T "list" = some false ∧ kitB T "tuple" = some false ∧ kitB T "int" = some (T == "int" || T == "bool") ∧ kitB T "bool" = some (T == "bool") := by decide +kernel
  obtain ⟨h1, h2, h3, h4⟩ := z T h
  have lt : PySem.W.kitAny K (.type T) [.type "list", .type "tuple"] = some false := kitAny_cons (kit_ty h1) (fun _ => kitAny_cons (kit_ty h2) (fun _ => kitAny_nil) fun z => by cases z) fun z => by cases z
  refine ⟨lt, kitAny_cons (kit_ty h3) (fun e => ?_) (fun e => e), kit_ty h3, kit_ty h4⟩
  rw [e]
  exact lt
theorem c_same0 {f : Addr} {fd : FuncData} (F : Def K mg "_law_same" sSame f fd) (b : Binds K fd ["_law_found", "_law_due"] []) (T : Blt2 mg) : Cal P w K mg base 1 "_law_same" spSame0 [] := by
  refine cal0 F b .nil scSame (fun vs H Q E h => ?_) (fun cdv A outer s H vs Q E hr h => ?_)
  · obtain ⟨x, rfl, _⟩ := h
    rfl
  · obtain ⟨x, rfl, hx, k⟩ := h
    have hu : (A.deeper (envOfC "_law_same" (fnScope sSame) s.heap.objs.size f cdv)).units + 64 < cLine := by have := hr.un; omega
    refine ⟨_, pss_cons (ps_if (pt_val (pe_callB call_isiT (by rfl) T.isi (by decide +kernel) (pa_cons (pv 1) (pa_cons (pe_tup (pa_cons (pe_bt "list" T.list) (pa_cons (pe_bt "tuple" T.tup) pa_nil))) pa_nil)))) pss_never pss_nil)
      (pss_cons (ps_if (pt_val (pe_callB call_isi (by rfl) T.isi (by decide +kernel) (pa_cons (pv 1) (pa_cons (pe_bt "int" T.int) pa_nil))))
          (pss_one (ps_ret (pe_and (pe_callB call_isi (by rfl) T.isi (by decide +kernel) (pa_cons (pv 0) (pa_cons (pe_bt "int" T.int) pa_nil)))
            (pe_and (pe_cmpR op_eq (pe_callB call_isi (by rfl) T.isi (by decide +kernel) (pa_cons (pv 0) (pa_cons (pe_bt "bool" T.boo) pa_nil))) (pe_callB call_isi (by rfl) T.isi (by decide +kernel) (pa_cons (pv 1) (pa_cons (pe_bt "bool" T.boo) pa_nil))) (nomark _))
              (pe_one (pe_cmpR op_eq (pv 0) (pv 1) (nomark _))))))) pss_nil)
      (pss_one (ps_ret (pe_and (pe_cmpR op_isBl (pe_callB call_isiT (by rfl) T.isi (by decide +kernel) (pa_cons (pv 0) (pa_cons (pe_tup (pa_cons (pe_bt "int" T.int) (pa_cons (pe_bt "list" T.list) (pa_cons (pe_bt "tuple" T.tup) pa_nil)))) pa_nil))) pe_bl (nomark _))
        (pe_one (pe_cmpR (op_eq.or (op_eqV hu)) (pv 0) (pv 1) (nomark _))))))), ?_⟩
    obtain ⟨Ty, hT, ty, hs⟩ := leaf_ty (K := K) hx
    obtain ⟨k1, k2, k3, k4⟩ := kitLT (K := K) hT
    refine ⟨_, rfl, (by show 2 ≤ sizeLine; decide), fun p np => ⟨x, p, [.ty "list", .ty "tuple"], _, _, false, rfl, upd_same, .cons (.ty _) (.cons (.ty _) .nil), ty _ (same_upd np), k1, false, rfl, iteF ?_⟩⟩
    have s1 : Same H (upd H p (.tup [.ty "list", .ty "tuple"])) := same_upd np
    refine ⟨_, rfl, x, .ty "int", _, _, _, rfl, .ty _, ty _ s1, k3, _, rfl, ite2 (fun hi => ?_) (fun hi => ?_)⟩
    · have hsc : scal x x = true := by
        rcases hs with z | ⟨z, _⟩
        · exact z
        · rw [z] at hi
          cases hi
      refine ⟨_, rfl, x, .ty "int", _, _, _, rfl, .ty _, ty _ s1, k3, _, rfl, iteBt hi ?_⟩
      refine ⟨_, rfl, x, .ty "bool", _, _, _, rfl, .ty _, ty _ s1, k4, _, rfl, x, .ty "bool", _, _, _, rfl, .ty _, ty _ s1, k4, rfl, _, rfl, iteBt (decide_eq_true rfl) ?_⟩
      refine ⟨_, rfl, _, rfl, hsc, ?_⟩
      rw [decide_eq_true rfl]
      exact k _ s1
    · have hi : (Ty == "int" || Ty == "bool") = false := by simpa using hi
      rw [hi] at k2
      refine ⟨_, rfl, (by show 3 ≤ sizeLine; decide), fun p2 np2 => ?_⟩
      have s2 : Same H (upd (upd H p (.tup [.ty "list", .ty "tuple"])) p2 (.tup [.ty "int", .ty "list", .ty "tuple"])) := s1.trans (same_upd np2)
      refine ⟨x, p2, [.ty "int", .ty "list", .ty "tuple"], _, _, false, rfl, upd_same, .cons (.ty _) (.cons (.ty _) (.cons (.ty _) .nil)), ty _ s2, k2, false, false, rfl, rfl, _, rfl, iteBt (decide_eq_true rfl) ?_⟩
      refine ⟨_, rfl, _, rfl, ?_⟩
      rcases hs with hsc | ⟨_, a, kvs, rfl, e, dk⟩
      · refine .inl ⟨hsc, ?_⟩
        rw [decide_eq_true rfl]
        exact k _ s2
      · refine .inr ⟨1, by decide, .inr ⟨a, a, kvs, kvs, rfl, rfl, s2 _ _ e, s2 _ _ e, rfl, fun p hp => ⟨p.2, (dk p hp).1, .inl ⟨rfl, (dk p hp).2⟩⟩⟩, k _ s2⟩
end
end K9

namespace K9
open PySem PySem.Spec PyProof.Rows L2 C8
/-! rules of my own: a list beside [], a tuple beside (), xs.extend(tuple), x not in names -/
section
variable {X : Cx}
def rNeNil (K : PySem.W.Frag) : R2 := fun x y H Q => ∃ a b xs, x = .ref a ∧ y = .ref b ∧ SqL K H a xs ∧ SqL K H b [] ∧ Q (.bl (!xs.isEmpty)) H
theorem op_neNil (hu : X.A.units + 64 < cLine) : OpR X (compareOp .NotEq) (rNeNil X.K) := by
  intro pins s σ H x y v u Q I rx ry h
  obtain ⟨a, b, xs, rfl, rfl, ha, hb, q⟩ := h
  cases rx
  cases ry
  obtain ⟨us, r1, p1, _⟩ := I.list ha
  obtain ⟨ws, r2, p2, _⟩ := I.list hb
  cases r2
  have fin : ∀ b : Bool, b = !xs.isEmpty → (EP X pins σ Q) (.bool b) s := fun b e => ⟨.bl b, H, I, rfl, by rw [e]; exact q⟩
  cases r1 with
  | nil => exact SeqAt.RcNeAt.lists (e := fun _ => true) p1.isList p2.isList rfl (by omega) (fun j h1 h2 => absurd h1 (by simp)) _ _ _ _ (fin false rfl)
  | cons r t => exact SeqAt.RcNeAt.lists_lengths p1.isList p2.isList (by simp) (by omega) _ _ _ _ (fin true rfl)
def rEqNilT (K : PySem.W.Frag) : R2 := fun x y H Q => ∃ a b xs, x = .ref a ∧ y = .ref b ∧ SqT K H a xs ∧ SqT K H b [] ∧ Q (.bl xs.isEmpty) H
theorem op_eqNilT (hu : X.A.units + 64 < cLine) : OpR X (compareOp .Eq) (rEqNilT X.K) := by
  intro pins s σ H x y v u Q I rx ry h
  obtain ⟨a, b, xs, rfl, rfl, ha, hb, q⟩ := h
  cases rx
  cases ry
  obtain ⟨us, r1, p1, _⟩ := I.tuple ha
  obtain ⟨ws, r2, p2, _⟩ := I.tuple hb
  cases r2
  have fin : ∀ b : Bool, b = xs.isEmpty → (EP X pins σ Q) (.bool b) s := fun b e => ⟨.bl b, H, I, rfl, by rw [e]; exact q⟩
  refine SeqAt.RcAt.tuples (e := fun _ => true) p1 p2 (by omega) (fun j h1 h2 => absurd h2 (by simp)) _ _ _ _ (fin _ ?_)
  cases r1 with
  | nil => rfl
  | cons r t => simp
theorem extT (l : Addr) (xs : Array Value) (n : Nat) (b : Addr) (ys : Array Value) (m : Nat) (dd : Option Addr) (sl : Array (Option Value)) (h0 : ¬(!xs.isEmpty && Builtin.List.listTooLong (xs.size + ys.size)) = true) (h1 : xs.size ≤ sizeLine) (h2 : xs.size + ys.size ≤ sizeLine + 1) :
    Meets (Builtin.«list.extend» ⟨[.ref l, .ref b], []⟩) (fun _ R s =>
      s.heap.get? l = some { cls := .type "list", dict := none, data := .seq xs n, slots := #[] } ∧
        s.heap.get? b = some { cls := .type "tuple", dict := dd, data := .seq ys m, slots := sl } ∧
          R (.ok (.ret Value.none)) { s with heap := s.heap.update l (Obj.mapSeq fun x => x ++ ys), toks := s.toks }) :=
  .of_wp fun prog w A R s h => by
    obtain ⟨hp, g0, d0, t0, o0⟩ := s
    obtain ⟨kl, kb, h⟩ := h
    have z1 := AutoSeq1.sub_tuple_tuple
    have z2 := AutoSeq1.sub_list_list
    have z3 := AutoSeq1.sub_tuple_list
    have z4 := AutoSeq1.sub_list_tuple
    have z5 : (xs ++ ys).size ≤ sizeLine + 1 := by rw [Array.size_append]; exact h2
    wp_walk using (wpAny_updateSeq kl rfl (hz := h1) (_hz' := z5)), AutoSeq1.wpAny_loadPart' kl, AutoSeq1.wpAny_loadPart' kb
    exact ⟨_, rfl, h⟩
def rExtendT (K : PySem.W.Frag) : V → List V → Hp → VK → Prop := fun x vs H Q => ∃ l b xs zs, x = .ref l ∧ vs = [.ref b] ∧ H l = some (.lst xs) ∧ SqT K H b zs ∧ xs.length + zs.length ≤ sizeLine ∧ Q .non (upd H l (.lst (xs ++ zs)))
theorem mt_extendT : MtM X "list.extend" (rExtendT X.K) := by
  intro pins s σ H x vs v us Q I rx rv h
  obtain ⟨l, b, xs, zs, rfl, rfl, hH, hB, hz, q⟩ := h
  cases rx
  obtain ⟨u, rfl, ru⟩ := rv.one
  cases ru
  obtain ⟨z, its, n, r, hl, e⟩ := I.lstM hH
  obtain ⟨its2, r2, ⟨⟨cls, dd, data, sl⟩, e2, hc, m, hd⟩, _⟩ := I.tuple hB
  simp only at hc hd
  subst hc hd
  have n1 := r.length
  have n2 := r2.length
  have hsz : its.toArray.size + its2.toArray.size ≤ sizeLine := by rw [List.size_toArray, List.size_toArray]; omega
  have hlong : ¬ (!its.toArray.isEmpty && Builtin.List.listTooLong (its.toArray.size + its2.toArray.size)) = true := by
    rw [notLongL hsz, Bool.and_false]
    exact Bool.false_ne_true
  refine call_meets F.slot_list_extend ⟨_, e, rfl⟩ F.entry_list_extend (F.args_list_extend_2 _ _)
    (extT l its.toArray n b its2.toArray m dd sl hlong (by rw [List.size_toArray]; omega) (by omega)) ⟨e, e2, ?_⟩
  refine ⟨.non, _, I.lset (its' := its ++ its2) hH e (by simp) (r.append r2) ?_, rfl, q⟩
  rw [List.length_append]
  omega
/-- x is one of these texts; x flat, a list or a tuple -/
def isOf (x : V) (ls : List Str) : Bool := match x with
  | .str z => ls.any fun y => y == z
  | _ => false
def SeqOf (K : PySem.W.Frag) (H : Hp) (x : V) : Prop := ∃ a xs, x = .ref a ∧ (SqL K H a xs ∨ SqT K H a xs)
def rNotOf (K : PySem.W.Frag) : R2 := fun x y H Q => ∃ p ls, y = .ref p ∧ (SqL K H p (ls.map V.str) ∨ SqT K H p (ls.map V.str)) ∧ (flatV x = true ∨ SeqOf K H x) ∧ Q (.bl (!isOf x ls)) H
theorem isOf_flat {x : V} (h : flatV x = true) (ls : List Str) : inV x (ls.map V.str) = isOf x ls := by
  unfold inV
  rw [List.any_map]
  cases x with
  | str z =>
    show ls.any _ = ls.any _
    congr 1
  | non => exact List.any_eq_false.mpr fun y _ => by simp [eqV]
  | bl b => exact List.any_eq_false.mpr fun y _ => by simp [eqV]
  | int b => exact List.any_eq_false.mpr fun y _ => by simp [eqV]
  | _ => cases h
theorem op_notOf (hu : X.A.units + 64 < cLine) : OpR X (compareOp .NotIn) (rNotOf X.K) := by
  intro pins s σ H x y v u Q I rx ry h
  obtain ⟨p, ls, rfl, hq, hx | ⟨a, xs, rfl, hx⟩, q⟩ := h
  · refine op_notIn_seq pins s σ H x (.ref p) v u Q I rx ry ⟨p, _, rfl, hq, hx, List.all_eq_true.mpr fun y hy => ?_, ?_⟩
    · obtain ⟨z, _, rfl⟩ := List.mem_map.mp hy
      rfl
    · rw [isOf_flat hx]
      exact q
  · cases rx
    cases ry
    have he : ∀ {us : List Value}, Vals (ls.map V.str) us → ∀ w ∈ us, SeqAt.EqAt X.A.in1 s w (.ref a) false := by
      intro us r w hw
      obtain ⟨z, t, rfl⟩ : ∃ z t, w = .str z t := by
        clear hq hx q
        induction ls generalizing us with
        | nil => cases r; cases hw
        | cons z ls ih =>
          cases r with
          | cons r t =>
            rcases List.mem_cons.mp hw with rfl | hw
            · obtain ⟨t, rfl⟩ := r
              exact ⟨z, t, rfl⟩
            · exact ih t hw
      have hu' : X.A.in1.units < cLine := by show X.A.units + 1 < cLine; omega
      rcases hx with hx | hx
      · obtain ⟨_, _, pl, _⟩ := I.list hx
        exact SeqAt.EqAt.str_list z t pl.isList hu'
      · obtain ⟨_, _, pl, _⟩ := I.tuple hx
        exact SeqAt.EqAt.str_tuple z t pl hu'
    have no : ∀ us : List Value, (us.toArray.any fun _ => false) = false := fun us => by simp
    rcases hq with hq | hq
    · obtain ⟨its, r, pl, hz⟩ := I.list hq
      refine SeqAt.notIn_listAt (fun _ => false) pl.isList (fun w hw => he r w (by simpa using hw)) ⟨.bl _, H, I, rfl, ?_⟩
      rw [no]
      exact q
    · obtain ⟨its, r, pl, hz⟩ := I.tuple hq
      refine SeqAt.notIn_tupleAt (fun _ => false) pl (fun w hw => he r w (by simpa using hw)) ⟨.bl _, H, I, rfl, ?_⟩
      rw [no]
      exact q
end
end K9

namespace K9
open PySem PySem.Spec PyProof.Rows L2 C8
abbrev sMix : Stmt := top 29
abbrev sWords : Stmt := top 31
theorem StAt.mono {B B' : Nat} {H : Hp} {a l : Addr} (h : B ≤ B') (s : StAt B H a l) : StAt B' H a l := by
  obtain ⟨ns, i, c, h0, n, e1, e2, r1, r2, r3, r4, r5, r6, r7⟩ := s
  exact ⟨ns, i, c, h0, n, e1, e2, r1, r2, r3, r4, r5, by omega, r7⟩
theorem StAt.keeps {B : Nat} {H H' : Hp} {a l : Addr} (h : StAt B H a l) (s : ∀ o, H a = some o → H' a = some o) (s' : ∀ o, H l = some o → H' l = some o) : StAt B H' a l := by
  obtain ⟨ns, i, c, h0, n, e1, e2, r⟩ := h
  exact ⟨ns, i, c, h0, n, s _ e1, s' _ e2, r⟩
theorem StAt.same {B : Nat} {H H' : Hp} {a l : Addr} (s : Same H H') (h : StAt B H a l) : StAt B H' a l := h.keeps (s _) (s _)
theorem StAt.put {B : Nat} {H : Hp} {a l p : Addr} {o : HO} (h : StAt B H a l) (h1 : p ≠ a) (h2 : p ≠ l) : StAt B (upd H p o) a l := h.keeps (fun _ e => by rw [upd_ne h1.symm]; exact e) fun _ e => by rw [upd_ne h2.symm]; exact e
theorem StAt.st {B : Nat} {H : Hp} {a l : Addr} (h : StAt B H a l) : ∃ o, H a = some o := by
  obtain ⟨ns, i, c, h0, n, e1, _⟩ := h
  exact ⟨_, e1⟩
theorem StAt.cl {B : Nat} {H : Hp} {a l : Addr} (h : StAt B H a l) : ∃ o, H l = some o := by
  obtain ⟨ns, i, c, h0, n, e1, e2, _⟩ := h
  exact ⟨_, e2⟩
theorem StAt.new {B : Nat} {H : Hp} {a l p : Addr} (h : StAt B H a l) (n : H p = none) : p ≠ a ∧ p ≠ l := by
  obtain ⟨o, e1⟩ := h.st
  obtain ⟨o', e2⟩ := h.cl
  exact ⟨(ne_of_none e1 n).symm, (ne_of_none e2 n).symm⟩
theorem But.refl {a : Addr} {H : Hp} : But a H H := fun _ _ e _ => e
theorem But.trans {a : Addr} {H H' H'' : Hp} (h : But a H H') (h' : But a H' H'') : But a H H'' := fun b o e n => h' b o (h b o e n) n
theorem Same.but {a : Addr} {H H' : Hp} (h : Same H H') : But a H H' := fun b o e _ => h b o e
theorem But.upd {a p : Addr} {o : HO} {H H' : Hp} (h : But a H H') (hp : H p = none) : But a H (upd H' p o) := fun b u e n => by
  rw [upd_ne (ne_of_none e hp)]
  exact h b u e n
theorem perm_erase : ∀ {xs : List V} {k : Nat} (h : k < xs.length), (xs[k] :: xs.eraseIdx k).Perm xs
  | x :: xs, 0, _ => List.Perm.refl _
  | x :: xs, k + 1, h => (List.Perm.swap _ _ _).trans ((perm_erase (xs := xs) (k := k) (Nat.lt_of_succ_lt_succ h)).cons x)
def spMix : Sp := fun vs H Q _ => ∃ (st th : Addr) (xs : List V) (B : Nat) (cl : Addr), vs = [.ref st, .ref th] ∧ H th = some (.lst xs) ∧ xs.length ≤ 1000 ∧ StAt B H st cl ∧ B + xs.length < 1000000000000000 ∧
  ∀ (l : Addr) (ys : List V) (H' : Hp), H l = none → ys.Perm xs → H' l = some (.lst ys) → StAt (B + xs.length) H' st cl → But st H H' → Q (.ref l) H'
abbrev NMix : List Str := ["_law_state", "_law_things", "_law_left_here", "_law_found"]
theorem scMix : FnScope NMix ["_law_state", "_law_things"] (fnScope sMix) := fnScope_by (by decide +kernel)
section
variable {P : Program} {w : World} {K : PySem.W.Frag} {mg : Str → Option Value} {base : Heap}
theorem c_mix {f : Addr} {fd : FuncData} (F : Def K mg "_law_mix" sMix f fd) (b : Binds K fd ["_law_state", "_law_things"] []) (T : Blt mg) (C : Cal P w K mg base 1 "_law_take" spTake []) : Cal P w K mg base 2 "_law_mix" spMix [] := by
  refine cal0 F b .nil scMix (fun vs H Q E h => ?_) (fun cdv A outer s H vs Q E hr h => ?_)
  · obtain ⟨st, th, xs, B, cl, rfl, _⟩ := h
    rfl
  · obtain ⟨st, th, xs, B, cl, rfl, hx, l1, hst, hB, k⟩ := h
    have nd := scMix.nd
    have hu : (A.deeper (envOfC "_law_mix" (fnScope sMix) s.heap.objs.size f cdv)).units + 64 < cLine := by have := hr.un; omega
    refine ⟨_, pss_cons (ps_par (i := 2) (j := 3) rfl nd rfl rfl (by decide) rfl rfl (pa_cons (pe_callTy call_list_of (by rfl) T.list (by decide +kernel) (pa_cons (pv 1) pa_nil)) (pa_cons (pe_lst pa_nil) pa_nil)) (by rfl))
      (pss_cons (ps_while PassesOwn.never (pt_cmpR (op_neNil hu) (pv 2) (pe_lst pa_nil) (nomark _))
        (pss_one (ps_expr (pe_bm PySem.F.plainAttrs_list PySem.F.slot_list_append PySem.F.type_list_append mt_append (pv 3) (pa_cons
          (pe_bm PySem.F.plainAttrs_list PySem.F.slot_list_pop PySem.F.type_list_pop mt_popAt (pv 2) (pa_cons (pe_c C hr (Nat.le_refl _) (by rfl) (pa_cons (pv 0) (pa_cons (pe_callB call_len_seq (by rfl) T.len PySem.boot_len (pa_cons (pv 2) pa_nil)) pa_nil))) pa_nil)) pa_nil)))))
      (pss_one (ps_ret (pv 3)))), ?_⟩
    refine ⟨_, rfl, th, xs, rfl, .inl (SqL.of hx), fun L nL => ⟨(by show 0 ≤ sizeLine; decide), fun Fd nF => ⟨_, _, rfl, ?_⟩⟩⟩
    have nLF : L ≠ Fd := ne_of_none upd_same nF
    have nF : H Fd = none := by rw [upd_ne nLF.symm] at nF; exact nF
    obtain ⟨La, Lc⟩ := hst.new nL
    obtain ⟨Fa, Fc⟩ := hst.new nF
    let Iv : Nat → L2.St → Hp → Prop := fun m σ H' => ∃ xl yf : List V, xl.length = m ∧ σ = [some (.ref st), some (.ref th), some (.ref L), some (.ref Fd)] ∧ H' L = some (.lst xl) ∧ H' Fd = some (.lst yf) ∧ (xl ++ yf).Perm xs ∧ StAt (B + yf.length) H' st cl ∧ But st H H'
    refine ⟨Iv, ⟨xs.length, xs, [], rfl, rfl, by rw [upd_ne nLF, upd_same], upd_same, by simp, (hst.put La Lc).put Fa Fc, (Same.but fun b o e => ?_)⟩, ?_⟩
    · rw [upd_ne (ne_of_none e nF), upd_ne (ne_of_none e nL)]
      exact e
    rintro m σ H1 ⟨xl, yf, rfl, rfl, hL, hF, hp, hs1, hb1⟩
    have hlen := hp.length_eq
    rw [List.length_append] at hlen
    refine ⟨_, rfl, (by show 0 ≤ sizeLine; decide), fun p np => ⟨L, p, xl, rfl, rfl, SqL.of (by rw [upd_ne (ne_of_none hL np)]; exact hL), SqL.of upd_same, _, rfl, ?_⟩⟩
    have pL := ne_of_none hL np
    have pF := ne_of_none hF np
    obtain ⟨pa, pc⟩ := hs1.new np
    have hs2 : StAt (B + yf.length) (upd H1 p (.lst [])) st cl := hs1.put pa pc
    have hb2 : But st H (upd H1 p (.lst [])) := hb1.trans (Same.but fun b o e => by rw [upd_ne (ne_of_none e np)]; exact e)
    have hL2 : (upd H1 p (.lst [])) L = some (.lst xl) := by rw [upd_ne pL]; exact hL
    have hF2 : (upd H1 p (.lst [])) Fd = some (.lst yf) := by rw [upd_ne pF]; exact hF
    generalize upd H1 p (.lst []) = H2 at hs2 hb2 hL2 hF2
    cases hxl : xl with
    | nil =>
      subst hxl
      refine iteBf rfl ⟨_, rfl, ?_⟩
      exact k Fd yf H2 nF hp hF2 (hs2.mono (by simp at hlen; omega)) hb2
    | cons x0 xt =>
      rw [← hxl]
      have hpos : 0 < xl.length := by rw [hxl]; exact Nat.succ_pos _
      refine iteBt (by rw [hxl]; rfl) ?_
      refine ⟨Iv (xl.length - 1), fun σ' H' hI => ⟨_, by omega, hI⟩, ?_⟩
      refine ⟨_, rfl, .inl ⟨rfl, _, SqL.of hF2⟩, _, rfl, .inl ⟨rfl, _, SqL.of hL2⟩, _, rfl, _, rfl, L, xl, rfl, .inl (SqL.of hL2), ?_⟩
      refine ⟨st, xl.length, B + yf.length, cl, rfl, by omega, by omega, hs2, by omega, fun d H3 d0 d1 hs3 hb3 => ?_⟩
      have hL3 := hb3 _ _ hL2 La
      have hF3 := hb3 _ _ hF2 Fa
      have hd : d.toNat < xl.length := by omega
      refine ⟨L, xl, d, d.toNat, xl[d.toNat], rfl, rfl, hL3, by omega, by omega, seqIndex_of d0 d1, by simp [hd], ?_⟩
      have hF4 : (upd H3 L (.lst (xl.eraseIdx d.toNat))) Fd = some (.lst yf) := by rw [upd_ne nLF.symm]; exact hF3
      refine ⟨Fd, yf, _, rfl, rfl, hF4, by rw [sizeLine_eq]; omega, ?_⟩
      refine ⟨_, _, ?_, rfl, by rw [upd_ne nLF, upd_same], upd_same, ?_, ?_, ?_⟩
      · rw [List.length_eraseIdx, if_pos hd]
      · refine List.Perm.trans ?_ hp
        rw [← List.append_assoc]
        refine (List.perm_append_comm).trans ?_
        rw [← List.append_assoc]
        refine List.Perm.append_right _ ?_
        exact perm_erase hd
      · rw [List.length_append]
        exact ((hs3.put La Lc).put Fa Fc)
      · exact ((hb2.trans hb3).upd nL).upd nF
end
end K9

namespace K9
open PySem PySem.Spec PyProof.Rows L2 C8
abbrev sRows : Stmt := top 32
def menu : List Str := ["a", "b", "f", "g", "one", "neg", "add", "x", "y", "zz", "abcdefgh", "above", "bar", "kind"]
def spWords : Sp := fun vs H Q _ => ∃ (st : Addr) (n : Int) (B : Nat) (cl : Addr), vs = [.ref st, .int n] ∧ 0 ≤ n ∧ n ≤ 14 ∧ StAt B H st cl ∧ B + 14 < 1000000000000000 ∧
  ∀ (l : Addr) (ws : List Str) (H' : Hp), H l = none → H' l = some (.lst (ws.map V.str)) → ws.length = n.toNat → ws.Nodup → (∀ z ∈ ws, z ∈ menu) → StAt (B + 14) H' st cl → But st H H' → Q (.ref l) H'
theorem scWords : FnScope ["_law_state", "_law_many_here", "_law_some"] ["_law_state", "_law_many_here"] (fnScope sWords) := fnScope_by (by decide +kernel)
theorem cutTo {xs : List V} {n : Int} (h : 0 ≤ n) : cutV xs none (some n) = xs.take n.toNat := by
  unfold cutV HT.sIx
  dsimp only
  rw [if_neg (by omega), List.drop_zero, Nat.sub_zero]
  by_cases hl : n.toNat ≤ xs.length
  · rw [Nat.min_eq_left hl]
  · rw [Nat.min_eq_right (by omega), List.take_of_length_le (Nat.le_refl _), List.take_of_length_le (by omega)]
theorem cutFrom {xs : List V} {n : Int} (h : 0 ≤ n) : cutV xs (some n) none = xs.drop n.toNat := by
  unfold cutV HT.sIx
  dsimp only
  rw [if_neg (by omega)]
  by_cases hl : n.toNat ≤ xs.length
  · rw [Nat.min_eq_left hl, List.take_of_length_le (by rw [List.length_drop]; omega)]
  · rw [Nat.min_eq_right (by omega), List.drop_eq_nil_of_le (Nat.le_refl _), List.drop_eq_nil_of_le (by omega), List.take_nil]
theorem unmap {α : Type} {f : α → V} {g : V → α} (hg : ∀ a, g (f a) = a) {ys : List V} {xs : List α} (h : ys.Perm (xs.map f)) : ∃ zs : List α, ys = zs.map f ∧ zs.Perm xs := by
  have back : ∀ l : List α, (l.map f).map g = l := fun l => by
    rw [List.map_map]
    induction l with
    | nil => rfl
    | cons a l ih => rw [List.map_cons, ih]; exact congrArg (· :: l) (hg a)
  refine ⟨ys.map g, ?_, by have := h.map g; rw [back] at this; exact this⟩
  rw [List.map_map]
  have m : ∀ y ∈ ys, f (g y) = y := fun y hy => by
    obtain ⟨z, _, e⟩ := List.mem_map.mp (h.subset hy)
    rw [← e, hg]
  clear h
  induction ys with
  | nil => rfl
  | cons y ys ih =>
    rw [List.map_cons, ← ih fun y' hy' => m y' (List.mem_cons_of_mem _ hy')]
    exact congrArg (· :: ys) (m y List.mem_cons_self).symm
def strOf : V → Str
  | .str z => z
  | _ => ""
/-- what was not there isn't there: at an address that is free behind -/
theorem But.free {H H' : Hp} {st p : Addr} (h : But st H H') (n : H' p = none) (ne : p ≠ st) : H p = none := by
  cases e : H p with
  | none => rfl
  | some o =>
    have := h p o e ne
    rw [n] at this
    cases this
theorem same_free {H H' : Hp} {p : Addr} (h : Same H H') (n : H' p = none) : H p = none := by
  cases e : H p with
  | none => rfl
  | some o =>
    have := h p o e
    rw [n] at this
    cases this
section
variable {P : Program} {w : World} {K : PySem.W.Frag} {mg : Str → Option Value} {base : Heap}
theorem c_words {f : Addr} {fd : FuncData} (F : Def K mg "_law_words" sWords f fd) (b : Binds K fd ["_law_state", "_law_many_here"] []) (T : Blt mg) (C : Cal P w K mg base 2 "_law_mix" spMix []) : Cal P w K mg base 3 "_law_words" spWords [] := by
  refine cal0 F b .nil scWords (fun vs H Q E h => ?_) (fun cdv A outer s H vs Q E hr h => ?_)
  · obtain ⟨st, n, B, cl, rfl, _⟩ := h
    rfl
  · obtain ⟨st, n, B, cl, rfl, n0, n1, hst, hB, k⟩ := h
    have nd := scWords.nd
    refine ⟨_, pss_cons (ps_set (i := 2) nd rfl (Or.inl rfl) (pe_lst (pa_cons pe_str (pa_cons pe_str (pa_cons pe_str (pa_cons pe_str (pa_cons pe_str (pa_cons pe_str (pa_cons pe_str (pa_cons pe_str (pa_cons pe_str (pa_cons pe_str (pa_cons pe_str (pa_cons pe_str (pa_cons pe_str (pa_cons pe_str pa_nil))))))))))))))))
      (pss_one (ps_ret (pe_slice sl_list (pe_c C hr (Nat.le_refl _) (by rfl) (pa_cons (pv 0) (pa_cons (pv 2) pa_nil))) po_none (po_some (pv 1))))), ?_⟩
    refine ⟨(by show 14 ≤ sizeLine; decide), fun m nm => ?_⟩
    obtain ⟨ma, mc⟩ := hst.new nm
    refine ⟨_, rfl, _, rfl, st, m, menu.map V.str, B, cl, rfl, upd_same, by decide, hst.put ma mc, hB, fun L ys H1 nL hp hL hs hb => ?_⟩
    obtain ⟨zs, rfl, hz⟩ := unmap (g := strOf) (fun _ => rfl) hp
    refine ⟨_, rfl, n, rfl, L, _, rfl, SqL.of hL, fun p np => ?_⟩
    rw [cutTo n0, ← List.map_take]
    obtain ⟨pa, pc⟩ := hs.new np
    have npH : H p = none := same_free (same_upd nm) (hb.free np pa)
    refine k p _ _ npH upd_same ?_ ((hz.symm.nodup (by decide +kernel)).sublist (List.take_sublist _ _)) (fun z hm => hz.subset (List.mem_of_mem_take hm)) (hs.put pa pc) ?_
    · rw [List.length_take, hz.length_eq]
      show min n.toNat 14 = n.toNat
      omega
    · exact (Same.but (same_upd nm)).trans (hb.trans (Same.but (same_upd np)))
end
end K9

namespace K9
open PySem PySem.Spec PyProof.Rows L2 C8
theorem lc_gen {J : It} {g : TG} {tt : TT} {te : TE} {vs : List Nat} {σ : L2.St} {H1 : Hp} {D : Addr} {Qd : Hp → Prop} (n : Nat) (Pv : Nat → Hp → Prop) (h0 : Pv 0 (upd H1 D (.lst []))) (hgo : ∀ i H, i < n → Pv i H → J.go i H) (hst : ∀ H, Pv n H → J.stop n H)
    (hs : ∀ i H x H', i < n → Pv i H → J.yld i H x H' → g x (wipe σ vs) H' fun σ2 H2 => wipe σ2 vs = wipe σ vs ∧ tt σ2 H2 fun b H3 =>
      if b = true then te σ2 H3 fun y H4 => ∃ acc, H4 D = some (.lst acc) ∧ acc.length < sizeLine ∧ Pv (i + 1) (upd H4 D (.lst (acc ++ [y]))) else Pv (i + 1) H3) (hd : ∀ H, Pv n H → Qd H) :
    ∃ W : Nat → Nat → Hp → Prop, (∃ m, W 0 m (upd H1 D (.lst []))) ∧ ∀ i m H, W i m H →
      (J.stop i H ∧ Qd H) ∨ (J.go i H ∧ ∃ Nx : Hp → Prop, (∀ H', Nx H' → ∃ m', m' < m ∧ W (i + 1) m' H') ∧ ∀ x H', J.yld i H x H' → g x (wipe σ vs) H' fun σ2 H2 => wipe σ2 vs = wipe σ vs ∧ tt σ2 H2 fun b H3 =>
        if b = true then te σ2 H3 fun y H4 => ∃ acc, H4 D = some (.lst acc) ∧ acc.length < sizeLine ∧ Nx (upd H4 D (.lst (acc ++ [y]))) else Nx H3) := by
  refine ⟨fun i m H => m + i = n ∧ Pv i H, ⟨n, rfl, h0⟩, ?_⟩
  rintro i m H ⟨hm, p⟩
  by_cases hi : i < n
  · exact .inr ⟨hgo i H hi p, Pv (i + 1), fun H' p' => ⟨m - 1, by omega, by omega, p'⟩, fun x H' y => hs i H x H' hi p y⟩
  · obtain rfl : i = n := by omega
    exact .inl ⟨hst H p, hd H p⟩
theorem for_gen {J : It} {g : TG} {tb : TS} {D : Ends} {σ : L2.St} {H : Hp} (n : Nat) (Pv : Nat → L2.St → Hp → Prop) (h0 : Pv 0 σ H) (hgo : ∀ i σ H, i < n → Pv i σ H → J.go i H) (hst : ∀ σ H, Pv n σ H → J.stop n H)
    (hs : ∀ i σ H x H', i < n → Pv i σ H → J.yld i H x H' → g x σ H' fun σ2 H2 => tb { D with nx := Pv (i + 1), ct := Pv (i + 1), bk := D.nx } σ2 H2) (hd : ∀ σ H, Pv n σ H → D.nx σ H) :
    ∃ W : Nat → Nat → L2.St → Hp → Prop, (∃ m, W 0 m σ H) ∧ ∀ i m σ H, W i m σ H →
      (J.stop i H ∧ D.nx σ H) ∨ (J.go i H ∧ ∃ N : L2.St → Hp → Prop, (∀ σ' H', N σ' H' → ∃ m', m' < m ∧ W (i + 1) m' σ' H') ∧ ∀ x H', J.yld i H x H' → g x σ H' fun σ2 H2 => tb { D with nx := N, ct := N, bk := D.nx } σ2 H2) := by
  refine ⟨fun i m σ H => m + i = n ∧ Pv i σ H, ⟨n, rfl, h0⟩, ?_⟩
  rintro i m σ H ⟨hm, p⟩
  by_cases hi : i < n
  · exact .inr ⟨hgo i σ H hi p, Pv (i + 1), fun σ' H' p' => ⟨m - 1, by omega, by omega, p'⟩, fun x H' y => hs i σ H x H' hi p y⟩
  · obtain rfl : i = n := by omega
    exact .inl ⟨hst σ H p, hd σ H p⟩
structure Blt4 (mg : Str → Option Value) : Prop extends Blt2 mg where
  ran : mg "range" = none
  enu : mg "enumerate" = none
  str : mg "str" = none
  dic : mg "dict" = none
/-- a row of a language -/
abbrev Rw := Str × Int
def RowV (H : Hp) (v : V) (r : Rw) : Prop := ∃ t, v = .ref t ∧ H t = some (.tup [.str r.1, .int r.2])
def RowsAt (H : Hp) (l : Addr) (rs : List Rw) : Prop := ∃ vs, H l = some (.lst vs) ∧ Paired (RowV H) vs rs
structure RowsOk (rs : List Rw) : Prop where
  len : rs.length ≤ 14
  nd : (rs.map (·.1)).Nodup
  mem : ∀ r ∈ rs, r.1 ∈ menu ∧ 0 ≤ r.2 ∧ r.2 ≤ 2
  leaf : ∃ r ∈ rs, r.2 = 0
theorem RowV.but {B : Nat} {H H' : Hp} {st cl : Addr} (hs : StAt B H st cl) (hb : But st H H') {v : V} {r : Rw} (h : RowV H v r) : RowV H' v r := by
  obtain ⟨t, e, q⟩ := h
  obtain ⟨ns, i, c, h0, n, e1, _⟩ := hs
  exact ⟨t, e, hb _ _ q (ne_of q e1 (by intro z; cases z))⟩
theorem RowV.same {H H' : Hp} (s : Same H H') {v : V} {r : Rw} (h : RowV H v r) : RowV H' v r := by
  obtain ⟨t, e, q⟩ := h
  exact ⟨t, e, s _ _ q⟩
theorem RowsAt.but {B : Nat} {H H' : Hp} {st cl l : Addr} (hs : StAt B H st cl) (hb : But st H H') {rs : List Rw} (h : RowsAt H l rs) : RowsAt H' l rs := by
  obtain ⟨vs, e, p⟩ := h
  refine ⟨vs, hb _ _ e (fun z => ?_), Paired.mono (fun _ _ q => q.but hs hb) p⟩
  obtain ⟨ns, i, c, h0, n, e1, _⟩ := hs
  rw [z, e1] at e
  cases e
  cases p with
  | cons _ p =>
    cases p with
    | cons q _ =>
      obtain ⟨t, z, _⟩ := q
      cases z
theorem RowsAt.same {H H' : Hp} {l : Addr} (s : Same H H') {rs : List Rw} (h : RowsAt H l rs) : RowsAt H' l rs := by
  obtain ⟨vs, e, p⟩ := h
  exact ⟨vs, s _ _ e, Paired.mono (fun _ _ q => q.same s) p⟩
theorem paired_perm {α β : Type} {R : α → β → Prop} {ys xs : List α} (h : ys.Perm xs) : ∀ {rs : List β}, Paired R xs rs → ∃ ps : List β, ps.Perm rs ∧ Paired R ys ps := by
  induction h with
  | nil => intro rs p; exact ⟨rs, .refl _, p⟩
  | cons a _ ih =>
    intro rs p
    cases p with
    | cons q t =>
      obtain ⟨ps, e, p'⟩ := ih t
      exact ⟨_ :: ps, e.cons _, .cons q p'⟩
  | swap a b l =>
    intro rs p
    cases p with
    | cons q t =>
      cases t with
      | cons q' t =>
        exact ⟨_ :: _ :: _, .swap _ _ _, .cons q' (.cons q t)⟩
  | trans _ _ ih1 ih2 =>
    intro rs p
    obtain ⟨ps, e, p'⟩ := ih2 p
    obtain ⟨qs, e', p''⟩ := ih1 p'
    exact ⟨qs, e'.trans e, p''⟩
theorem RowsOk.perm {rs ps : List Rw} (h : RowsOk rs) (p : ps.Perm rs) : RowsOk ps where
  len := by rw [p.length_eq]; exact h.len
  nd := (p.map _).nodup_iff.mpr h.nd
  mem := fun r hr => h.mem r (p.subset hr)
  leaf := by
    obtain ⟨r, hr, e⟩ := h.leaf
    exact ⟨r, p.symm.subset hr, e⟩
def spRows : Sp := fun vs H Q _ => ∃ (st : Addr) (m : Int) (B : Nat) (cl : Addr), vs = [.ref st, .int m] ∧ 1 ≤ m ∧ m ≤ 13 ∧ StAt B H st cl ∧ B + 50 < 1000000000000000 ∧
  ∀ (l : Addr) (rs : List Rw) (H' : Hp), H l = none → RowsAt H' l rs → RowsOk rs → StAt (B + 50) H' st cl → But st H H' → Q (.ref l) H'
abbrev NRows : List Str := ["_law_state", "_law_most", "_law_words_here", "_law_found", "_law_many_here", "_law_k", "_law_word"]
theorem scRows : FnScope NRows ["_law_state", "_law_most"] (fnScope sRows) := fnScope_by (by decide +kernel)
section
variable {P : Program} {w : World} {K : PySem.W.Frag} {mg : Str → Option Value} {base : Heap}
theorem c_rows {f : Addr} {fd : FuncData} (F : Def K mg "_law_rows" sRows f fd) (b : Binds K fd ["_law_state", "_law_most"] []) (T : Blt4 mg) (C : Cal P w K mg base 1 "_law_take" spTake []) (CM : Cal P w K mg base 2 "_law_mix" spMix []) (CW : Cal P w K mg base 3 "_law_words" spWords []) : Cal P w K mg base 4 "_law_rows" spRows [] := by
  refine cal0 F b .nil scRows (fun vs H Q E h => ?_) (fun cdv A outer s H vs Q E hr h => ?_)
  · obtain ⟨st, m, B, cl, rfl, _⟩ := h
    rfl
  · obtain ⟨st, m, B, cl, rfl, m0, m1, hst, hB, k⟩ := h
    have nd := scRows.nd
    refine ⟨_, pss_cons (ps_set (i := 2) nd rfl (by first | exact Or.inl rfl | exact Or.inr rfl) (pe_c CW hr (by decide) (by rfl) (pa_cons (pv 0) (pa_cons (pe_op op_add pe_int (pe_c C hr (by decide) (by rfl) (pa_cons (pv 0) (pa_cons (pv 1) pa_nil)))) pa_nil))))
      (pss_cons (ps_set (i := 3) nd rfl (Or.inl rfl) (pe_lst (pa_cons (pe_tup (pa_cons (pe_ix ix_list (pv 2) pe_int fun _ _ => rfl) (pa_cons pe_int pa_nil))) pa_nil)))
      (pss_cut (ps_setLc (i := 4) (own := [("_law_k", 5)]) (g := gName 5) (tt := tYes) rfl nd rfl rfl (by rfl) (pi_list (pe_slice sl_list (pv 2) (po_some pe_int) po_none)) (blkOk_by (N := NRows) (sc := fnScope sRows) (by decide +kernel)) (fun _ _ _ _ _ => pg_name (i := 5) nd rfl (Or.inl rfl)) (fun _ _ _ _ _ => pts_nil)
          (fun _ _ _ _ _ => pe_c C hr (by decide) (by rfl) (pa_cons (pv 0) (pa_cons pe_int pa_nil))))
      (pss_cut (ps_for PassesOwn.never rfl (pi_enum (by rfl) T.enu (pa_cons (pe_slice sl_list (pv 2) (po_some pe_int) po_none) pa_nil)) (pg_tup rfl (pgs_cons (pg_name (i := 5) nd rfl (Or.inl rfl)) (pgs_cons (pg_name (i := 6) nd rfl (Or.inl rfl)) pgs_nil)))
          (pss_one (ps_expr (pe_bm PySem.F.plainAttrs_list PySem.F.slot_list_append PySem.F.type_list_append mt_append (pv 3) (pa_cons (pe_tup (pa_cons (pv 6) (pa_cons
            (pe_ifExp (pw_or (pt_cmp (pc_lt (pe_ix ix_list (pv 4) (pv 5) fun _ _ => rfl) pe_int)) (pw_or1 (pt_cmpR op_notIn_seq pe_int (pe_slice sl_list (pv 4) po_none (po_some (pv 5))) (by rfl)))).pt
              (pe_ix ix_list (pv 4) (pv 5) fun _ _ => rfl) pe_int) pa_nil))) pa_nil)))))
      (pss_one (ps_ret (pe_c CM hr (by decide) (by rfl) (pa_cons (pv 0) (pa_cons (pv 3) pa_nil)))))))), ?_⟩
    refine ⟨_, rfl, _, rfl, _, rfl, st, m, B, cl, rfl, by omega, by omega, hst, by omega, fun d H1 d0 d1 hs1 hb1 => ⟨1, d, rfl, rfl, st, 1 + d, B + 1, cl, rfl, by omega, by omega, hs1, by omega, fun wl ws H2 nwl hwl hwn hwd hwm hs2 hb2 => ?_⟩⟩
    obtain ⟨w0, wr, rfl⟩ : ∃ w0 wr, ws = w0 :: wr := by
      cases ws with
      | nil => simp at hwn; omega
      | cons a t => exact ⟨a, t, rfl⟩
    obtain ⟨wa, wc⟩ := hs1.new nwl
    have nwlH : H wl = none := hb1.free nwl wa
    have hwr : wr.length ≤ 13 := by rw [List.length_cons] at hwn; omega
    refine ⟨_, rfl, wl, _, 0, .str w0, rfl, rfl, SqL.of hwl, at_of (j := 0) (by omega) rfl, (by show 2 ≤ sizeLine; decide), fun t0 nt0 => ⟨(by show 1 ≤ sizeLine; decide), fun fd nfd => ?_⟩⟩
    obtain ⟨ta, tc⟩ := hs2.new nt0
    have e1 : H2 fd = none := by rw [upd_ne (ne_of_none upd_same nfd).symm] at nfd; exact nfd
    have fdt : fd ≠ t0 := (ne_of_none upd_same nfd).symm
    obtain ⟨fa, fc⟩ := hs2.new e1
    have fwl : fd ≠ wl := (ne_of_none hwl e1).symm
    have twl : t0 ≠ wl := (ne_of_none hwl nt0).symm
    have nfdH : H fd = none := hb1.free (hb2.free e1 fa) fa
    have ntH : H t0 = none := hb1.free (hb2.free nt0 ta) ta
    have hb3 : But st H (upd (upd H2 t0 (.tup [.str w0, .int 0])) fd (.lst [.ref t0])) := ((hb1.trans hb2).upd ntH).upd nfdH
    have hs3 : StAt (B + 1 + 14) (upd (upd H2 t0 (.tup [.str w0, .int 0])) fd (.lst [.ref t0])) st cl := (hs2.put ta tc).put fa fc
    have h3w : (upd (upd H2 t0 (.tup [.str w0, .int 0])) fd (.lst [.ref t0])) wl = some (.lst ((w0 :: wr).map V.str)) := by rw [upd_ne fwl.symm, upd_ne twl.symm]; exact hwl
    have h3f : (upd (upd H2 t0 (.tup [.str w0, .int 0])) fd (.lst [.ref t0])) fd = some (.lst [.ref t0]) := upd_same
    have h3t : (upd (upd H2 t0 (.tup [.str w0, .int 0])) fd (.lst [.ref t0])) t0 = some (.tup [.str w0, .int 0]) := by rw [upd_ne fdt.symm]; exact upd_same
    generalize upd (upd H2 t0 (.tup [.str w0, .int 0])) fd (.lst [.ref t0]) = H3 at hb3 hs3 h3w h3f h3t
    have drop1 : ((w0 :: wr).map V.str).drop (1 : Int).toNat = wr.map V.str := rfl
    -- the numbers
    refine ⟨fun σ H' => ∃ (ml : Addr) (ns : List Int), σ = [some (.ref st), some (.int m), some (.ref wl), some (.ref fd), some (.ref ml), none, none] ∧ H' ml = some (.lst (ns.map V.int)) ∧ ns.length = wr.length ∧ (∀ n ∈ ns, 0 ≤ n ∧ n ≤ 2) ∧
        H' wl = some (.lst ((w0 :: wr).map V.str)) ∧ H' fd = some (.lst [.ref t0]) ∧ H' t0 = some (.tup [.str w0, .int 0]) ∧ StAt (B + 30) H' st cl ∧ But st H H' ∧ H ml = none ∧ ml ≠ fd, ?_, ?_⟩
    · refine ⟨_, rfl, 1, rfl, wl, _, rfl, SqL.of h3w, fun p np => ⟨p, rfl, ⟨_, SqL.of upd_same⟩, fun D nD => ?_⟩⟩
      rw [cutFrom (by decide), drop1] at nD ⊢
      obtain ⟨pa, pc⟩ := hs3.new np
      have npH : H p = none := hb3.free np pa
      have Dp : D ≠ p := (ne_of_none upd_same nD).symm
      have nD3 : H3 D = none := by rw [upd_ne Dp] at nD; exact nD
      obtain ⟨Da, Dc⟩ := hs3.new nD3
      have nDH : H D = none := hb3.free nD3 Da
      have kp : ∀ {q : Addr} {o : HO}, H3 q = some o → (upd (upd H3 p (.lst (wr.map V.str))) D (.lst [])) q = some o := fun e => by rw [upd_ne (ne_of_none e nD3), upd_ne (ne_of_none e np)]; exact e
      refine lc_gen (J := Itl K p) wr.length (fun i H' => ∃ ns : List Int, ns.length = i ∧ (∀ n ∈ ns, 0 ≤ n ∧ n ≤ 2) ∧ H' D = some (.lst (ns.map V.int)) ∧ H' p = some (.lst (wr.map V.str)) ∧
        H' wl = some (.lst ((w0 :: wr).map V.str)) ∧ H' fd = some (.lst [.ref t0]) ∧ H' t0 = some (.tup [.str w0, .int 0]) ∧ StAt (B + 15 + i) H' st cl ∧ But st H H')
        ⟨[], rfl, (fun n hn => by cases hn), upd_same, by rw [upd_ne Dp.symm]; exact upd_same, kp h3w, kp h3f, kp h3t, (hs3.put pa pc).put Da Dc, (hb3.upd npH).upd nDH⟩
        (fun i H' hi ⟨ns, _, _, _, hp, _⟩ => ⟨_, .str (wr.getD i ""), SqL.of hp, by rw [List.getElem?_map, List.getElem?_eq_getElem hi, List.getD_eq_getElem?_getD, List.getElem?_eq_getElem hi]; rfl⟩)
        (fun H' ⟨ns, _, _, _, hp, _⟩ => ⟨_, SqL.of hp, by rw [List.length_map]; exact Nat.le_refl _⟩) (fun i H' v H'' hi ⟨ns, hn, hm, hD, hp, h4w, h4f, h4t, hs4, hb4⟩ yl => ?_) (fun H' ⟨ns, hn, hm, hD, hp, h4w, h4f, h4t, hs4, hb4⟩ => ⟨D, ns, rfl, hD, hn, hm, h4w, h4f, h4t, hs4.mono (by omega), hb4, nDH, (ne_of_none h3f nD3).symm⟩)
      obtain ⟨rfl, _⟩ := yl
      refine ⟨rfl, ?_⟩
      unfold tYes
      dsimp only
      rw [if_pos rfl]
      refine ⟨_, rfl, st, 3, B + 15 + i, cl, rfl, by decide, by decide, hs4, by omega, fun x H5 x0 x1 hs5 hb5 => ⟨_, hb5 _ _ hD Da, by rw [List.length_map, sizeLine_eq]; omega, ns ++ [x], ?_⟩⟩
      have kq : ∀ {q : Addr} {o : HO}, H'' q = some o → q ≠ st → q ≠ D → (upd H5 D (.lst (ns.map V.int ++ [V.int x]))) q = some o := fun e n1 n2 => by rw [upd_ne n2]; exact hb5 _ _ e n1
      refine ⟨by simp [hn], fun n hn' => ?_, by rw [upd_same, List.map_append]; rfl, kq hp pa Dp.symm, kq h4w wa (ne_of_none h3w nD3), kq h4f fa (ne_of_none h3f nD3), kq h4t ta (ne_of_none h3t nD3), (hs5.mono (by omega)).put Da Dc, (hb4.trans hb5).upd nDH⟩
      rcases List.mem_append.mp hn' with h | h
      · exact hm n h
      · rw [List.mem_singleton.mp h]; omega
    rintro σ' H4 ⟨ml, ns, rfl, h4m, hnl, hnm, h4w, h4f, h4t, hs4, hb4, nmlH, mlfd⟩
    have mla : ml ≠ st := by
      obtain ⟨o, e⟩ := hst.st
      exact (ne_of_none e nmlH).symm
    -- the rows
    refine ⟨fun σ H' => ∃ (v5 v6 : Option V) (vs : List V) (rs : List Rw), σ = [some (.ref st), some (.int m), some (.ref wl), some (.ref fd), some (.ref ml), v5, v6] ∧ H' fd = some (.lst vs) ∧ Paired (RowV H') vs rs ∧ rs.map (·.1) = w0 :: wr ∧ (∀ r ∈ rs, 0 ≤ r.2 ∧ r.2 ≤ 2) ∧ (w0, 0) ∈ rs ∧ StAt (B + 30) H' st cl ∧ But st H H', ?_, ?_⟩
    · refine ⟨_, rfl, 1, rfl, wl, _, rfl, SqL.of h4w, fun p np => ⟨p, _, rfl, SqL.of upd_same, ?_⟩⟩
      rw [cutFrom (by decide), drop1]
      obtain ⟨pa, pc⟩ := hs4.new np
      have npH : H p = none := hb4.free np pa
      have kp : ∀ {q : Addr} {o : HO}, H4 q = some o → (upd H4 p (.lst (wr.map V.str))) q = some o := fun e => by rw [upd_ne (ne_of_none e np)]; exact e
      refine for_gen (J := Ite K p) wr.length (fun i σ H' => ∃ (v5 v6 : Option V) (vs : List V) (rs : List Rw), σ = [some (.ref st), some (.int m), some (.ref wl), some (.ref fd), some (.ref ml), v5, v6] ∧ H' fd = some (.lst vs) ∧ Paired (RowV H') vs rs ∧ rs.map (·.1) = w0 :: wr.take i ∧ (∀ r ∈ rs, 0 ≤ r.2 ∧ r.2 ≤ 2) ∧ (w0, 0) ∈ rs ∧
          StAt (B + 30) H' st cl ∧ But st H H' ∧ H' ml = some (.lst (ns.map V.int)) ∧ H' p = some (.lst (wr.map V.str)))
        ⟨none, none, _, [(w0, 0)], rfl, kp h4f, .cons ⟨t0, rfl, kp h4t⟩ .nil, by rw [List.take_zero]; rfl, (fun r hr => by rw [List.mem_singleton.mp hr]; exact ⟨Int.le_refl _, by show (0 : Int) ≤ 2; decide⟩), List.mem_singleton.mpr rfl, hs4.put pa pc, hb4.upd npH, kp h4m, upd_same⟩
        (fun i σ H' hi ⟨_, _, _, _, _, _, _, _, _, _, _, _, _, hp⟩ => ⟨_, .str (wr.getD i ""), SqL.of hp, by rw [List.getElem?_map, List.getElem?_eq_getElem hi, List.getD_eq_getElem?_getD, List.getElem?_eq_getElem hi]; rfl⟩)
        (fun σ H' ⟨_, _, _, _, _, _, _, _, _, _, _, _, _, hp⟩ => ⟨_, SqL.of hp, by rw [List.length_map]; exact Nat.le_refl _⟩) ?_ (fun σ H' ⟨v5, v6, vs, rs, e, hf, hp, hr, hr2, hr0, hs, hb, _⟩ => ⟨v5, v6, vs, rs, e, hf, hp, by rw [hr, List.take_of_length_le (Nat.le_refl _)], hr2, hr0, hs, hb⟩)
      rintro i σ H5 v H6 hi ⟨v5, v6, vs, rs, rfl, hf, hp, hr, hr2, hr0, hs5, hb5, hm5, hp5⟩ ⟨T', x, rfl, nT, rfl, hx⟩
      have hx := hx _ (SqL.of hp5)
      rw [List.getElem?_map, List.getElem?_eq_getElem hi] at hx
      obtain rfl := Option.some.inj hx
      obtain ⟨Ta, Tc⟩ := hs5.new nT
      have nTH : H T' = none := hb5.free nT Ta
      refine ⟨T', [.int (i : Nat), .str wr[i]], rfl, SqT.of upd_same, rfl, .int (i : Nat), [.str wr[i]], rfl, .str wr[i], [], rfl, rfl, ?_⟩
      have hs6 := hs5.put (o := .tup [.int (i : Nat), .str wr[i]]) Ta Tc
      have hb6 := hb5.upd (o := .tup [.int (i : Nat), .str wr[i]]) nTH
      have hf6 : (upd H5 T' (.tup [.int (i : Nat), .str wr[i]])) fd = some (.lst vs) := by rw [upd_ne (ne_of_none hf nT)]; exact hf
      have hm6 : (upd H5 T' (.tup [.int (i : Nat), .str wr[i]])) ml = some (.lst (ns.map V.int)) := by rw [upd_ne (ne_of_none hm5 nT)]; exact hm5
      have hp6 : (upd H5 T' (.tup [.int (i : Nat), .str wr[i]])) p = some (.lst (wr.map V.str)) := by rw [upd_ne (ne_of_none hp5 nT)]; exact hp5
      have hpr : Paired (RowV (upd H5 T' (.tup [.int (i : Nat), .str wr[i]]))) vs rs := Paired.mono (fun _ _ q => q.same (same_upd nT)) hp
      generalize upd H5 T' (.tup [.int (i : Nat), .str wr[i]]) = H6 at hs6 hb6 hf6 hm6 hp6 hpr
      have hin : i < ns.length := by omega
      have hat : atI (ns.map V.int) ((i : Nat) : Int) = some (.int ns[i]) := at_of (j := i) (by omega) (by simp [hin])
      have hvl : vs.length = rs.length := Paired.length hpr
      have hrl : rs.length = i + 1 := by
        have := congrArg List.length hr
        rw [List.length_map, List.length_cons, List.length_take] at this
        omega
      -- what is appended, in any heap that holds these
      have fin : ∀ (H7 : Hp) (z : Int), Same H6 H7 → 0 ≤ z ∧ z ≤ 2 → ∀ q, H7 q = none → ∃ (l : Addr) (xs : List V) (y : V), V.ref fd = .ref l ∧ [V.ref q] = [y] ∧ (upd H7 q (.tup [.str wr[i], .int z])) l = some (.lst xs) ∧ xs.length < sizeLine ∧
          (∃ (v5 v6 : Option V) (vs : List V) (rs : List Rw), [some (V.ref st), some (.int m), some (.ref wl), some (.ref fd), some (.ref ml), some (.int (i : Nat)), some (.str wr[i])] = [some (.ref st), some (.int m), some (.ref wl), some (.ref fd), some (.ref ml), v5, v6] ∧ (upd (upd H7 q (.tup [.str wr[i], .int z])) l (.lst (xs ++ [y]))) fd = some (.lst vs) ∧ Paired (RowV (upd (upd H7 q (.tup [.str wr[i], .int z])) l (.lst (xs ++ [y])))) vs rs ∧ rs.map (·.1) = w0 :: wr.take (i + 1) ∧ (∀ r ∈ rs, 0 ≤ r.2 ∧ r.2 ≤ 2) ∧ (w0, 0) ∈ rs ∧
          StAt (B + 30) (upd (upd H7 q (.tup [.str wr[i], .int z])) l (.lst (xs ++ [y]))) st cl ∧ But st H (upd (upd H7 q (.tup [.str wr[i], .int z])) l (.lst (xs ++ [y]))) ∧ (upd (upd H7 q (.tup [.str wr[i], .int z])) l (.lst (xs ++ [y]))) ml = some (.lst (ns.map V.int)) ∧ (upd (upd H7 q (.tup [.str wr[i], .int z])) l (.lst (xs ++ [y]))) p = some (.lst (wr.map V.str))) := by
        intro H7 z s7 hz q nq
        have hf7 := s7 _ _ hf6
        have qf : q ≠ fd := (ne_of_none hf7 nq).symm
        obtain ⟨qa, qc⟩ := (hs6.same s7).new nq
        have kq : ∀ {a : Addr} {o : HO}, H6 a = some o → a ≠ fd → (upd (upd H7 q (.tup [.str wr[i], .int z])) fd (.lst (vs ++ [.ref q]))) a = some o := fun e n => by rw [upd_ne n, upd_ne (ne_of_none (s7 _ _ e) nq)]; exact s7 _ _ e
        refine ⟨fd, vs, _, rfl, rfl, by rw [upd_ne qf.symm]; exact hf7, by rw [hvl, sizeLine_eq]; omega, _, _, _, rs ++ [(wr[i], z)], rfl, upd_same, ?_, ?_, ?_, ?_, ((hs6.same s7).put qa qc).put fa fc, ((hb6.trans (Same.but s7)).upd (hb6.free (same_free s7 nq) qa)).upd nfdH, kq hm6 mlfd, kq hp6 (ne_of_none h4f np).symm⟩
        · refine Paired.snoc (Paired.mono (fun _ _ q' => ?_) hpr) ⟨q, rfl, by rw [upd_ne qf]; exact upd_same⟩
          obtain ⟨t, e, et⟩ := q'
          exact ⟨t, e, kq et (ne_of et hf6 (by intro z; cases z))⟩
        · rw [List.map_append, hr, List.take_succ_eq_append_getElem hi]
          rfl
        · intro r hr'
          rcases List.mem_append.mp hr' with h | h
          · exact hr2 r h
          · rw [List.mem_singleton.mp h]; exact hz
        · exact List.mem_append_left _ hr0
      refine ⟨_, rfl, .inl ⟨rfl, _, SqL.of hf6⟩, _, rfl, _, rfl, _, rfl, ml, _, _, _, rfl, rfl, SqL.of hm6, hat, ns[i], 2, rfl, rfl, ?_⟩
      have hz := hnm ns[i] (List.getElem_mem hin)
      have val : ∀ H7, Same H6 H7 → ∀ q, H7 q = none → True := fun _ _ _ _ => trivial
      refine ⟨_, rfl, ite2 (fun _ => ?_) (fun _ => ?_)⟩
      · refine iteBt rfl ⟨_, rfl, _, rfl, ml, _, _, _, rfl, rfl, SqL.of hm6, hat, (by show 2 ≤ sizeLine; decide), fun q nq => fin H6 _ (fun b o e => e) hz q nq⟩
      · refine ⟨_, rfl, _, rfl, _, rfl, ml, _, rfl, SqL.of hm6, fun q nq => ?_⟩
        rw [cutTo (by omega), ← List.map_take]
        refine ⟨q, _, rfl, .inl (SqL.of upd_same), rfl, List.all_eq_true.mpr fun y hy => ?_, ?_⟩
        · obtain ⟨z, _, rfl⟩ := List.mem_map.mp hy
          rfl
        have s7 : Same H6 (upd H6 q (.lst ((ns.take (((i : Nat) : Int)).toNat).map V.int))) := same_upd nq
        generalize upd H6 q (.lst ((ns.take (((i : Nat) : Int)).toNat).map V.int)) = H7 at s7
        refine ⟨_, rfl, ite2 (fun _ => ?_) (fun _ => ?_)⟩
        · exact ⟨_, rfl, _, rfl, ml, _, _, _, rfl, rfl, SqL.of (s7 _ _ hm6), hat, (by show 2 ≤ sizeLine; decide), fun q nq => fin H7 _ s7 hz q nq⟩
        · exact ⟨(by show 2 ≤ sizeLine; decide), fun q nq => fin H7 1 s7 ⟨by decide, by decide⟩ q nq⟩
    · rintro σ' H5 ⟨v5, v6, vs, rs, rfl, hf, hp, hr, hr2, hr0, hs5, hb5⟩
      have hl := congrArg List.length hr
      rw [List.length_map, List.length_cons] at hl
      have hv := Paired.length hp
      refine ⟨_, rfl, _, rfl, st, fd, vs, B + 30, cl, rfl, hf, by omega, hs5, by omega, fun l ys H6 nl hperm hl6 hs6 hb6 => ?_⟩
      obtain ⟨ps, hps, hp2⟩ := paired_perm hperm hp
      refine k l ps H6 (hb5.free nl (hs5.new nl).1) ⟨ys, hl6, Paired.mono (fun _ _ q => q.but hs5 hb6) hp2⟩ (RowsOk.perm ⟨by omega, by rw [hr]; exact hwd, fun r hr' => ⟨hwm _ (by rw [← hr]; exact List.mem_map_of_mem hr'), hr2 r hr'⟩, ⟨_, hr0, rfl⟩⟩ hps) (hs6.mono (by omega)) (hb5.trans hb6)
end
end K9

namespace K9
open PySem PySem.Spec PyProof.Rows L2 C8
abbrev sMany : Stmt := top 33
abbrev sLabels : Stmt := top 34
inductive D where
  | fl (x : V)
  | emp
  | sq (xs : List D)
mutual
def sz : D → Nat
  | .fl _ => 1
  | .emp => 1
  | .sq xs => 1 + szs xs
def szs : List D → Nat
  | [] => 0
  | x :: xs => sz x + szs xs
end
def many (rs : List Rw) (z : Str) : Option Int := ((rs ++ [(("keep" : Str), (1 : Int))]).find? fun r => r.1 == z).map (·.2)
mutual
def isT (rs : List Rw) : D → Bool
  | .sq (.fl (.str z) :: cs) => match many rs z with
    | some m => decide ((cs.length : Int) = m) && isTs rs cs
    | none => false
  | _ => false
def isTs (rs : List Rw) : List D → Bool
  | [] => true
  | x :: xs => isT rs x && isTs rs xs
end
def hdOk : List D → Bool
  | .emp :: _ => false
  | _ => true
mutual
/-- v stands for the data d; F: where its lists may stand -/
def DAt (F : Addr → Prop) (H : Hp) : V → D → Prop
  | v, .fl x => v = x ∧ flatV x = true
  | v, .emp => ∃ a, v = .ref a ∧ H a = some (.dK [])
  | v, .sq xs => ∃ a vs, v = .ref a ∧ (H a = some (.tup vs) ∨ (F a ∧ H a = some (.lst vs))) ∧ hdOk xs = true ∧ DAts F H vs xs
def DAts (F : Addr → Prop) (H : Hp) : List V → List D → Prop
  | [], [] => True
  | v :: vs, d :: ds => DAt F H v d ∧ DAts F H vs ds
  | _, _ => False
end
structure Hold (F : Addr → Prop) (H H' : Hp) : Prop where
  tup : ∀ a vs, H a = some (.tup vs) → H' a = some (.tup vs)
  dic : ∀ a, H a = some (.dK []) → H' a = some (.dK [])
  lst : ∀ a vs, F a → H a = some (.lst vs) → H' a = some (.lst vs)
mutual
theorem DAt.hold {F : Addr → Prop} {H H' : Hp} (h : Hold F H H') : ∀ (d : D) {v : V}, DAt F H v d → DAt F H' v d
  | .fl x, _, e => e
  | .emp, _, ⟨a, e, q⟩ => ⟨a, e, h.dic a q⟩
  | .sq xs, _, ⟨a, vs, e, q, o, k⟩ => ⟨a, vs, e, q.imp (h.tup a vs) fun ⟨e, q⟩ => ⟨e, h.lst a vs e q⟩, o, DAts.hold h xs k⟩
theorem DAts.hold {F : Addr → Prop} {H H' : Hp} (h : Hold F H H') : ∀ (ds : List D) {vs : List V}, DAts F H vs ds → DAts F H' vs ds
  | [], [], _ => trivial
  | d :: ds, v :: vs, ⟨k, t⟩ => ⟨DAt.hold h d k, DAts.hold h ds t⟩
  | [], _ :: _, k => k
  | _ :: _, [], k => k
end
mutual
theorem DAt.weak {F G : Addr → Prop} {H : Hp} (h : ∀ a, F a → G a) : ∀ (d : D) {v : V}, DAt F H v d → DAt G H v d
  | .fl x, _, e => e
  | .emp, _, e => e
  | .sq xs, _, ⟨a, vs, e, q, o, k⟩ => ⟨a, vs, e, q.imp id fun ⟨e, q⟩ => ⟨h _ e, q⟩, o, DAts.weak h xs k⟩
theorem DAts.weak {F G : Addr → Prop} {H : Hp} (h : ∀ a, F a → G a) : ∀ (ds : List D) {vs : List V}, DAts F H vs ds → DAts G H vs ds
  | [], [], _ => trivial
  | d :: ds, v :: vs, ⟨k, t⟩ => ⟨DAt.weak h d k, DAts.weak h ds t⟩
  | [], _ :: _, k => k
  | _ :: _, [], k => k
end
/-- tuples alone; lists too, other than this one -/
def nol : Addr → Prop := fun _ => False
def oth (st : Addr) : Addr → Prop := fun a => a ≠ st
theorem Hold.same {F : Addr → Prop} {H H' : Hp} (s : Same H H') : Hold F H H' := ⟨fun a _ => s a _, fun a => s a _, fun a _ _ => s a _⟩
theorem Hold.but {F : Addr → Prop} {B : Nat} {H H' : Hp} {st cl : Addr} (hs : StAt B H st cl) (hb : But st H H') (hF : ∀ a, F a → a ≠ st) : Hold F H H' := by
  obtain ⟨ns, i, c, h0, n, e1, _⟩ := hs
  refine ⟨fun a vs e => hb _ _ e (ne_of e e1 (by intro z; cases z)), fun a e => hb _ _ e (ne_of e e1 (by intro z; cases z)), fun a vs e q => hb _ _ q (hF a e)⟩
abbrev keepR : Rw := ("keep", 1)
def nums (rs : List Rw) : List Rw := rs ++ [keepR]
def labs (rs : List Rw) : List Str := (nums rs).map (·.1)
def kvOf (r : Rw) : Key × V := (Sum.inr r.1, V.int r.2)
theorem labs_nd {rs : List Rw} (h : RowsOk rs) : (labs rs).Nodup := by
  unfold labs nums
  rw [List.map_append]
  refine List.nodup_append.mpr ⟨h.nd, by simp, fun a ha b hb e => ?_⟩
  have hb := List.mem_singleton.mp hb
  subst e hb
  obtain ⟨r, hr, e⟩ := List.mem_map.mp ha
  have := (h.mem r hr).1
  rw [e] at this
  revert this
  decide +kernel
theorem valV_rows (z : Str) : ∀ rs : List Rw, valV (rs.map kvOf) (Sum.inr z) = (rs.find? fun r => r.1 == z).map fun r => V.int r.2
  | [] => rfl
  | r :: rs => by
    rw [List.map_cons, List.find?_cons]
    by_cases e : r.1 = z
    · rw [valV_pos (p := kvOf r) (by show Sum.inr r.1 = _; rw [e]), show (r.1 == z) = true from beq_iff_eq.mpr e]
      rfl
    · rw [valV_neg (p := kvOf r) (by show ¬ (Sum.inr r.1 = (Sum.inr z : Key)); intro h; exact e (Sum.inr.inj h)), show (r.1 == z) = false from beq_eq_false_iff_ne.mpr e]
      exact valV_rows z rs
theorem valV_nums (rs : List Rw) (z : Str) : valV ((nums rs).map kvOf) (Sum.inr z) = (many rs z).map V.int := by
  rw [valV_rows]
  unfold many nums
  rw [Option.map_map]
  rfl
theorem merge_nd : ∀ {more acc : List (Key × V)}, ((acc ++ more).map (·.1)).Nodup → mergeK acc more = acc ++ more
  | [], acc, _ => by rw [List.append_nil]; rfl
  | p :: more, acc, h => by
    have e : putK acc p.1 p.2 = acc ++ [p] := putK_new p.2 (by
      unfold valV
      rw [List.find?_eq_none.mpr fun q hq => ?_]
      · rfl
      · rw [decide_eq_true_eq]
        intro e
        rw [List.map_append, List.nodup_append] at h
        exact h.2.2 _ (List.mem_map_of_mem hq) _ (List.mem_map_of_mem List.mem_cons_self) e)
    show mergeK (putK acc p.1 p.2) more = _
    rw [e, merge_nd (by rw [List.append_assoc]; exact h), List.append_assoc]
    rfl
theorem merge_nums {rs : List Rw} (h : RowsOk rs) : mergeK [] ((nums rs).map kvOf) = (nums rs).map kvOf := by
  refine merge_nd ?_
  rw [List.nil_append, List.map_map]
  have e : (nums rs).map ((·.1) ∘ kvOf) = (labs rs).map (Sum.inr : Str → Key) := by unfold labs; rw [List.map_map]; rfl
  rw [e]
  exact List.Pairwise.map _ (fun a b h e => h (Sum.inr.inj e)) (labs_nd h)
theorem paired_get {α β : Type} {R : α → β → Prop} {xs : List α} {ys : List β} (h : Paired R xs ys) : ∀ {i : Nat} {x : α}, xs[i]? = some x → ∃ y, ys[i]? = some y ∧ R x y := by
  induction h with
  | nil => intro i x e; cases e
  | cons q p ih =>
    intro i x e
    cases i with
    | zero => cases e; exact ⟨_, rfl, q⟩
    | succ i => exact ih e
theorem getD_at {xs : List V} {i : Nat} (h : i < xs.length) : xs[i]? = some (xs.getD i .non) := by rw [List.getD_eq_getElem?_getD, List.getElem?_eq_getElem h] <;> rfl
theorem many_mem {rs : List Rw} (h : RowsOk rs) {r : Rw} (hr : r ∈ nums rs) : many rs r.1 = some r.2 := by
  have nd := labs_nd h
  unfold labs at nd
  unfold many
  show ((nums rs).find? _).map _ = _
  generalize nums rs = l at hr nd
  induction l with
  | nil => cases hr
  | cons q l ih =>
    rw [List.map_cons, List.nodup_cons] at nd
    rw [List.find?_cons]
    rcases List.mem_cons.mp hr with rfl | hr
    · rw [show (r.1 == r.1) = true from beq_self_eq_true _]
      rfl
    · rw [show (q.1 == r.1) = false from beq_eq_false_iff_ne.mpr fun e => nd.1 (by rw [e]; exact List.mem_map_of_mem hr)]
      exact ih hr nd.2
theorem many_lab {rs : List Rw} (h : RowsOk rs) {z : Str} (hz : z ∈ labs rs) : ∃ n, many rs z = some n ∧ 0 ≤ n ∧ n ≤ 2 := by
  obtain ⟨r, hr, rfl⟩ := List.mem_map.mp hz
  refine ⟨r.2, many_mem h hr, ?_⟩
  rcases List.mem_append.mp hr with h' | h'
  · exact (h.mem r h').2
  · rw [List.mem_singleton.mp h']; exact ⟨by decide, by decide⟩
theorem many_some {rs : List Rw} {z : Str} {n : Int} (e : many rs z = some n) : z ∈ labs rs := by
  unfold many at e
  cases e' : ((rs ++ [(("keep" : Str), (1 : Int))]).find? fun r => r.1 == z) with
  | none => rw [e'] at e; cases e
  | some r =>
    have := List.find?_some e'
    have hm := List.mem_of_find?_eq_some e'
    rw [← beq_iff_eq.mp this]
    exact List.mem_map_of_mem hm
def spMany : Sp := fun vs H Q _ => ∃ (l : Addr) (z : Str) (rs : List Rw) (n : Int), vs = [.ref l, .str z] ∧ RowsAt H l rs ∧ RowsOk rs ∧ many rs z = some n ∧ ∀ H', Same H H' → Q (.int n) H'
def spLabels : Sp := fun vs H Q _ => ∃ (l : Addr) (rs : List Rw), vs = [.ref l] ∧ RowsAt H l rs ∧ RowsOk rs ∧ ∀ q H', H q = none → Same H H' → H' q = some (.lst ((labs rs).map V.str)) → Q (.ref q) H'
theorem scMany : FnScope ["_law_rows_here", "_law_label"] ["_law_rows_here", "_law_label"] (fnScope sMany) := fnScope_by (by decide +kernel)
abbrev NLab : List Str := ["_law_rows_here", "_law_label", "_law_many_here"]
theorem scLabels : FnScope NLab ["_law_rows_here"] (fnScope sLabels) := fnScope_by (by decide +kernel)
section
variable {P : Program} {w : World} {K : PySem.W.Frag} {mg : Str → Option Value} {base : Heap}
theorem rows_refs {H : Hp} {vs : List V} {rs : List Rw} (h : Paired (RowV H) vs rs) : ∃ ts : List Addr, vs = ts.map V.ref ∧ Paired (fun t (kv : Key × V) => SqT K H t [kV kv.1, kv.2]) ts (rs.map kvOf) := by
  induction h with
  | nil => exact ⟨[], rfl, .nil⟩
  | cons q _ ih =>
    obtain ⟨ts, rfl, p⟩ := ih
    obtain ⟨t, rfl, e⟩ := q
    exact ⟨t :: ts, rfl, .cons (SqT.of e) p⟩
theorem c_many {f : Addr} {fd : FuncData} (F : Def K mg "_law_many" sMany f fd) (b : Binds K fd ["_law_rows_here", "_law_label"] []) (T : Blt4 mg) : Cal P w K mg base 1 "_law_many" spMany [] := by
  refine cal0 F b .nil scMany (fun vs H Q E h => ?_) (fun cdv A outer s H vs Q E hr h => ?_)
  · obtain ⟨l, z, rs, n, rfl, _⟩ := h
    rfl
  · obtain ⟨l, z, rs, n, rfl, ⟨us, hl, hp⟩, ok, hn, k⟩ := h
    have hu : (A.deeper (envOfC "_law_many" (fnScope sMany) s.heap.objs.size f cdv)).units + 1 < cLine := by have := hr.un; omega
    refine ⟨_, pss_one (ps_ret (pe_dget hu (pe_callTy (call_dictP rfl) (by rfl) T.dic (by decide +kernel) (pa_cons (pe_op op_cat (pe_callTy call_list_of (by rfl) T.list (by decide +kernel) (pa_cons (pv 0) pa_nil)) (pe_lst (pa_cons (pe_tup (pa_cons pe_str (pa_cons pe_int pa_nil))) pa_nil))) pa_nil)) (pv 1) (fun _ _ => rfl))), ?_⟩
    have hlen := Paired.length hp
    have hok := ok.len
    refine ⟨_, rfl, l, us, rfl, .inl (SqL.of hl), fun p np => ⟨(by show 2 ≤ sizeLine; decide), fun t nt => ⟨(by show 1 ≤ sizeLine; decide), fun q nq => ?_⟩⟩⟩
    have s1 : Same H (upd H p (.lst us)) := same_upd np
    have s2 : Same _ _ := s1.trans (same_upd nt (o := .tup [.str "keep", .int 1]))
    have s3 := s2.trans (same_upd nq (o := .lst [.ref t]))
    have tp : t ≠ p := (ne_of_none upd_same nt).symm
    have qt : q ≠ t := (ne_of_none upd_same nq).symm
    have qp : q ≠ p := (ne_of_none (by rw [upd_ne tp.symm]; exact upd_same) nq).symm
    have hp' : (upd (upd (upd H p (.lst us)) t (.tup [.str "keep", .int 1])) q (.lst [.ref t])) p = some (.lst us) := by rw [upd_ne qp.symm, upd_ne tp.symm]; exact upd_same
    have ht' : (upd (upd (upd H p (.lst us)) t (.tup [.str "keep", .int 1])) q (.lst [.ref t])) t = some (.tup [.str "keep", .int 1]) := by rw [upd_ne qt.symm]; exact upd_same
    refine ⟨p, q, us, [.ref t], rfl, rfl, hp', upd_same, by rw [hlen, sizeLine_eq]; simp; omega, fun c nc => ?_⟩
    generalize upd (upd (upd H p (.lst us)) t (.tup [.str "keep", .int 1])) q (.lst [.ref t]) = H1 at s3 hp' ht' nc
    have s4 := s3.trans (same_upd nc (o := .lst (us ++ [.ref t])))
    obtain ⟨ts, ets, pts⟩ := rows_refs (K := K) (H := upd H1 c (.lst (us ++ [.ref t]))) (Paired.mono (fun _ _ q => q.same s4) hp)
    refine ⟨c, ts ++ [t], (nums rs).map kvOf, rfl, SqL.of (by rw [upd_same, ets, List.map_append]; rfl), ?_, fun d nd => ?_⟩
    · unfold nums
      rw [List.map_append]
      exact Paired.snoc pts (SqT.of (by rw [upd_ne (ne_of_none ht' nc)]; exact ht'))
    · refine ⟨.str z, rfl, d, .int n, rfl, ?_, k _ (s4.trans (same_upd nd))⟩
      have g := DGet.k (k := Sum.inr z) (a := d) (H := upd (upd H1 c (.lst (us ++ [.ref t]))) d (.dK (mergeK [] ((nums rs).map kvOf)))) upd_same
      rw [merge_nums ok, valV_nums, hn] at g
      rw [merge_nums ok]
      exact g
theorem c_labels {f : Addr} {fd : FuncData} (F : Def K mg "_law_labels" sLabels f fd) (b : Binds K fd ["_law_rows_here"] []) (T : Blt4 mg) : Cal P w K mg base 1 "_law_labels" spLabels [] := by
  refine cal0 F b .nil scLabels (fun vs H Q E h => ?_) (fun cdv A outer s H vs Q E hr h => ?_)
  · obtain ⟨l, rs, rfl, _⟩ := h
    rfl
  · obtain ⟨l, rs, rfl, ⟨us, hl, hp⟩, ok, k⟩ := h
    have nd := scLabels.nd
    refine ⟨_, pss_one (ps_ret (pe_op op_cat (pe_lc (own := [("_law_label", 1), ("_law_many_here", 2)]) (g := gTup K 2 (gCons (gName 1) (gCons (gName 2) gNil))) (tt := tYes) rfl nd (pi_list (pv 0)) (blkOk_by (N := NLab) (sc := fnScope sLabels) (by decide +kernel))
        (fun _ _ _ _ _ => pg_tup rfl (pgs_cons (pg_name (i := 1) nd rfl (Or.inl rfl)) (pgs_cons (pg_name (i := 2) nd rfl (Or.inl rfl)) pgs_nil))) (fun _ _ _ _ _ => pts_nil) (fun _ _ _ _ _ => pv 1)) (pe_lst (pa_cons pe_str pa_nil)))), ?_⟩
    have hlen := Paired.length hp
    have hok := ok.len
    refine ⟨_, rfl, l, rfl, ⟨us, SqL.of hl⟩, fun D nD => ?_⟩
    refine lc_gen (J := Itl K l) rs.length (fun i H' => H' D = some (.lst ((rs.take i).map fun r => V.str r.1)) ∧ Same H H') ⟨upd_same, same_upd nD⟩ (fun i H' hi ⟨_, sm⟩ => ⟨us, us.getD i .non, SqL.of (sm _ _ hl), by rw [List.getD_eq_getElem?_getD, List.getElem?_eq_getElem (by omega)]; rfl⟩)
      (fun H' ⟨_, sm⟩ => ⟨us, SqL.of (sm _ _ hl), by omega⟩) (fun i H' v H'' hi ⟨hD, sm⟩ yl => ?_) (fun H' ⟨hD, sm⟩ => ?_)
    · obtain ⟨rfl, hx⟩ := yl
      have hx := hx _ (SqL.of (sm _ _ hl))
      obtain ⟨r, hr, t, rfl, ht⟩ := paired_get hp hx
      refine ⟨t, [.str r.1, .int r.2], rfl, SqT.of (sm _ _ ht), rfl, .str r.1, [.int r.2], rfl, .int r.2, [], rfl, rfl, rfl, ?_⟩
      unfold tYes
      dsimp only
      rw [if_pos rfl]
      refine ⟨_, rfl, _, hD, by rw [List.length_map, List.length_take, sizeLine_eq]; omega, ?_, fun b o e => by rw [upd_ne (ne_of_none e nD)]; exact sm _ _ e⟩
      obtain ⟨hlt, e⟩ := List.getElem?_eq_some_iff.mp hr
      rw [upd_same, List.take_succ_eq_append_getElem hlt, List.map_append, e]
      rfl
    · rw [List.take_of_length_le (Nat.le_refl _)] at hD
      refine ⟨(by show 1 ≤ sizeLine; decide), fun q nq => ⟨D, q, _, _, rfl, rfl, by rw [upd_ne (ne_of_none hD nq)]; exact hD, upd_same, by rw [List.length_map, sizeLine_eq]; simp; omega, fun c nc => ?_⟩⟩
      have s2 : Same H _ := sm.trans ((same_upd nq (o := .lst [.str "keep"])).trans (same_upd nc (o := .lst ((rs.map fun r => V.str r.1) ++ [.str "keep"]))))
      refine k c _ (same_free (sm.trans (same_upd nq)) nc) s2 (by rw [upd_same]; unfold labs nums; rw [List.map_append, List.map_append, List.map_map]; rfl)
end
end K9

namespace K9
open PySem PySem.Spec PyProof.Rows L2 C8
abbrev sTree : Stmt := top 35
def manyD (rs : List Rw) (z : Str) : Int := (many rs z).getD 0
theorem manyD_of {rs : List Rw} {z : Str} {n : Int} (e : many rs z = some n) : manyD rs z = n := by unfold manyD; rw [e]; rfl
def spTree (N : Nat) : Sp := fun vs H Q _ => ∃ (st l : Addr) (n : Int) (rs : List Rw) (B : Nat) (cl : Addr), vs = [.ref st, .ref l, .int n] ∧ 1 ≤ n ∧ n ≤ N ∧ n ≤ 1000 ∧ RowsAt H l rs ∧ RowsOk rs ∧ StAt B H st cl ∧ B + 3 * n.toNat < 1000000000000000 ∧
  ∀ (v : V) (t : D) (H' : Hp), DAt nol H' v t → isT rs t = true → (sz t : Int) ≤ 2 * n → StAt (B + 3 * n.toNat) H' st cl → But st H H' → Q v H'
abbrev NTree : List Str := ["_law_state", "_law_rows_here", "_law_nodes", "_law_fits", "_law_more", "_law_label", "_law_many_here", "_law_some", "_law_first"]
theorem scTree : FnScope NTree ["_law_state", "_law_rows_here", "_law_nodes"] (fnScope sTree) := fnScope_by (by decide +kernel)
theorem new_tree {F : Addr → Prop} {H : Hp} {p : Addr} {z : Str} {vs : List V} {cs : List D} (np : H p = none) (h : DAts F H vs cs) : DAt F (upd H p (.tup (.str z :: vs))) (.ref p) (.sq (.fl (.str z) :: cs)) :=
  ⟨p, _, rfl, .inl upd_same, rfl, ⟨rfl, rfl⟩, DAts.hold (.same (same_upd np)) cs h⟩
theorem isT_leaf {rs : List Rw} {z : Str} (e : many rs z = some 0) : isT rs (.sq [.fl (.str z)]) = true := by rw [isT, e]; rfl
theorem isT_one {rs : List Rw} {z : Str} {t : D} (e : many rs z = some 1) (h : isT rs t = true) : isT rs (.sq [.fl (.str z), t]) = true := by
  rw [isT, e]
  show (_ && isTs rs [t]) = true
  rw [isTs, isTs, h]
  rfl
theorem isT_two {rs : List Rw} {z : Str} {t u : D} (e : many rs z = some 2) (h : isT rs t = true) (h' : isT rs u = true) : isT rs (.sq [.fl (.str z), t, u]) = true := by
  rw [isT, e]
  show (_ && isTs rs [t, u]) = true
  rw [isTs, isTs, isTs, h, h']
  rfl
section
variable {P : Program} {w : World} {K : PySem.W.Frag} {mg : Str → Option Value} {base : Heap}
theorem tree_step {k : Nat} {N : Nat} {f : Addr} {fd : FuncData} (F : Def K mg "_law_tree" sTree f fd) (b : Binds K fd ["_law_state", "_law_rows_here", "_law_nodes"] []) (T : Blt4 mg) (hk : 2 ≤ k) (C : Cal P w K mg base 1 "_law_take" spTake []) (CO : Cal P w K mg base 2 "_law_one" spOne [])
    (CL : Cal P w K mg base 1 "_law_labels" spLabels []) (CM : Cal P w K mg base 1 "_law_many" spMany []) (CT : Cal P w K mg base k "_law_tree" (spTree N) []) : Cal P w K mg base (k + 1) "_law_tree" (spTree (N + 1)) [] := by
  refine cal0 F b .nil scTree (fun vs H Q E h => ?_) (fun cdv A outer s H vs Q E hr h => ?_)
  · obtain ⟨st, l, n, rs, B, cl, rfl, _⟩ := h
    rfl
  · obtain ⟨st, l, n, rs, B, cl, rfl, n0, n1, n9, hR, ok, hst, hB, k⟩ := h
    have nd := scTree.nd
    have hu : (A.deeper (envOfC "_law_tree" (fnScope sTree) s.heap.objs.size f cdv)).units + 64 < cLine := by have := hr.un; omega
    refine ⟨_, pss_cut (ps_setLc (i := 3) (own := [("_law_label", 5)]) (g := gName 5) rfl nd rfl rfl (by rfl) (pi_list (pe_c CL hr (by omega) (by rfl) (pa_cons (pv 1) pa_nil))) (blkOk_by (N := NTree) (sc := fnScope sTree) (by decide +kernel)) (fun _ _ _ _ _ => pg_name (i := 5) nd rfl (Or.inl rfl))
          (fun _ _ _ _ _ => pts_one (pt_cmp (pc_lt (pe_c CM hr (by omega) (by rfl) (pa_cons (pv 1) (pa_cons (pv 5) pa_nil))) (pv 2)))) (fun _ _ _ _ _ => pv 5))
      (pss_cut (ps_setLc (i := 4) (own := [("_law_label", 5)]) (g := gName 5) rfl nd rfl rfl (by rfl) (pi_list (pv 3)) (blkOk_by (N := NTree) (sc := fnScope sTree) (by decide +kernel)) (fun _ _ _ _ _ => pg_name (i := 5) nd rfl (Or.inl rfl))
          (fun _ _ _ _ _ => pts_one (pw_and (pt_cmp (pc_gt (pe_c CM hr (by omega) (by rfl) (pa_cons (pv 1) (pa_cons (pv 5) pa_nil))) pe_int)) (pw_and1 (pt_cmpR op_ne (pv 5) pe_str (nomark _)))).pt) (fun _ _ _ _ _ => pv 5))
      (pss_cut (ps_if (pw_and (pt_cmpR (op_neNil hu) (pv 4) (pe_lst pa_nil) (nomark _)) (pw_and1 (pt_cmp (pc_gt (pe_c C hr (by omega) (by rfl) (pa_cons (pv 0) (pa_cons pe_int pa_nil))) pe_int)))).pt
          (pss_one (ps_set (i := 3) nd rfl (Or.inl rfl) (pv 4))) pss_nil)
      (pss_cons (ps_set (i := 5) nd rfl (Or.inl rfl) (pe_c CO hr (by omega) (by rfl) (pa_cons (pv 0) (pa_cons (pv 3) pa_nil))))
      (pss_cons (ps_set (i := 6) nd rfl (Or.inl rfl) (pe_c CM hr (by omega) (by rfl) (pa_cons (pv 1) (pa_cons (pv 5) pa_nil))))
      (pss_cons (ps_if (pt_cmp (pc_eqI (pv 6) pe_int))
          (pss_cons (ps_set (i := 7) nd rfl (Or.inl rfl) (pe_op op_add pe_int (pe_c C hr (by omega) (by rfl) (pa_cons (pv 0) (pa_cons (pe_op op_sub (pv 2) pe_int) pa_nil)))))
          (pss_cons (ps_set (i := 8) nd rfl (Or.inl rfl) (pe_c CT hr (Nat.le_refl _) (by rfl) (pa_cons (pv 0) (pa_cons (pv 1) (pa_cons (pv 7) pa_nil)))))
          (pss_one (ps_ret (pe_tup (pa_cons (pv 5) (pa_cons (pv 8) (pa_cons (pe_c CT hr (Nat.le_refl _) (by rfl) (pa_cons (pv 0) (pa_cons (pv 1) (pa_cons (pe_op op_sub (pe_op op_sub (pv 2) pe_int) (pv 7)) pa_nil)))) pa_nil))))))))
          pss_nil)
      (pss_one (ps_ret (pe_ifExp (pt_cmp (pc_eqI (pv 6) pe_int)) (pe_tup (pa_cons (pv 5) pa_nil))
          (pe_tup (pa_cons (pv 5) (pa_cons (pe_c CT hr (Nat.le_refl _) (by rfl) (pa_cons (pv 0) (pa_cons (pv 1) (pa_cons (pe_op op_sub (pv 2) pe_int) pa_nil)))) pa_nil))))))))))), ?_⟩
    have hla : (labs rs).length ≤ 15 := by unfold labs nums; rw [List.length_map, List.length_append]; have := ok.len; simp; omega
    let pf : Str → Bool := fun z => decide (manyD rs z < n)
    -- what fits
    refine ⟨fun σ H' => ∃ ft : Addr, σ = [some (.ref st), some (.ref l), some (.int n), some (.ref ft), none, none, none, none, none] ∧ H' ft = some (.lst (((labs rs).filter pf).map V.str)) ∧ H ft = none ∧ Same H H', ?_, ?_⟩
    · refine ⟨_, rfl, l, rs, rfl, hR, ok, fun q H1 nq s1 hq => ⟨q, rfl, ⟨_, SqL.of hq⟩, fun Da nDa => ?_⟩⟩
      have nDH : H Da = none := same_free s1 nDa
      refine lc_gen (J := Itl K q) (labs rs).length (fun i H' => H' Da = some (.lst ((((labs rs).take i).filter pf).map V.str)) ∧ Same H1 H') ⟨upd_same, same_upd nDa⟩ (fun i H' hi ⟨_, sm⟩ => ⟨_, .str (labs rs)[i], SqL.of (sm _ _ hq), by rw [List.getElem?_map, List.getElem?_eq_getElem hi]; rfl⟩)
        (fun H' ⟨_, sm⟩ => ⟨_, SqL.of (sm _ _ hq), by rw [List.length_map]; exact Nat.le_refl _⟩) (fun i H' v H'' hi ⟨hD, sm⟩ yl => ?_) (fun H' ⟨hD, sm⟩ => ⟨Da, rfl, by rw [hD, List.take_of_length_le (Nat.le_refl _)], nDH, s1.trans sm⟩)
      obtain ⟨rfl, hx⟩ := yl
      have hx := hx _ (SqL.of (sm _ _ hq))
      rw [List.getElem?_map, List.getElem?_eq_getElem hi] at hx
      obtain rfl := Option.some.inj hx
      obtain ⟨m, hm, _⟩ := many_lab ok (List.getElem_mem hi)
      refine ⟨rfl, _, rfl, _, rfl, l, (labs rs)[i], rs, m, rfl, hR.same (s1.trans sm), ok, hm, fun H3 s3 => ⟨_, rfl, m, n, rfl, rfl, _, rfl, ?_⟩⟩
      have hpf : pf (labs rs)[i] = decide (m < n) := by show decide (manyD rs (labs rs)[i] < n) = _; rw [manyD_of hm]
      have tk : ((labs rs).take (i + 1)).filter pf = ((labs rs).take i).filter pf ++ (if decide (m < n) = true then [(labs rs)[i]] else []) := by
        rw [List.take_succ_eq_append_getElem hi, List.filter_append, List.filter_cons, hpf]
        rfl
      have hD3 := s3 _ _ hD
      refine ite2 (fun c => ?_) (fun c => ?_)
      · rw [if_pos c] at tk
        refine ⟨_, rfl, _, hD3, ?_, ?_, fun b o e => by rw [upd_ne (ne_of_none e nDa)]; exact s3 _ _ (sm _ _ e)⟩
        · rw [List.length_map, sizeLine_eq]
          have := List.length_filter_le pf ((labs rs).take i)
          have := List.length_take_le i (labs rs)
          omega
        · rw [upd_same, tk, List.map_append]
          rfl
      · rw [if_neg c, List.append_nil] at tk
        exact ⟨by rw [tk]; exact hD3, sm.trans s3⟩
    rintro σ' H1 ⟨ft, rfl, hf, nft, s1⟩
    have hfs : ∀ z ∈ (labs rs).filter pf, ∃ m, many rs z = some m ∧ 0 ≤ m ∧ m ≤ 2 ∧ m < n := fun z hz => by
      obtain ⟨h1, h2⟩ := List.mem_filter.mp hz
      obtain ⟨m, hm, m0, m2⟩ := many_lab ok h1
      have h2 : decide (manyD rs z < n) = true := h2
      rw [manyD_of hm] at h2
      exact ⟨m, hm, m0, m2, of_decide_eq_true h2⟩
    have hlf : ((labs rs).filter pf).length ≤ 15 := Nat.le_trans (List.length_filter_le _ _) hla
    have hne : (labs rs).filter pf ≠ [] := by
      obtain ⟨r, hr, r0⟩ := ok.leaf
      have hm := many_mem ok (r := r) (List.mem_append_left _ hr)
      have : r.1 ∈ (labs rs).filter pf := List.mem_filter.mpr ⟨List.mem_map_of_mem (List.mem_append_left _ hr), by show decide (manyD rs r.1 < n) = true; rw [manyD_of hm, r0]; exact decide_eq_true (by omega)⟩
      intro e
      rw [e] at this
      cases this
    generalize (labs rs).filter pf = fs at hf hfs hlf hne
    -- what grows
    refine ⟨fun σ H' => ∃ (mr : Addr) (ms : List Str), σ = [some (.ref st), some (.ref l), some (.int n), some (.ref ft), some (.ref mr), none, none, none, none] ∧ H' mr = some (.lst (ms.map V.str)) ∧ (∀ z ∈ ms, z ∈ fs) ∧ ms.length ≤ 15 ∧ H mr = none ∧ Same H1 H', ?_, ?_⟩
    · refine ⟨_, rfl, ft, rfl, ⟨_, SqL.of hf⟩, fun Da nDa => ?_⟩
      have nDH : H Da = none := same_free s1 nDa
      refine lc_gen (J := Itl K ft) fs.length (fun i H' => ∃ ms : List Str, H' Da = some (.lst (ms.map V.str)) ∧ (∀ z ∈ ms, z ∈ fs) ∧ ms.length ≤ i ∧ Same H1 H') ⟨[], upd_same, (fun z hz => by cases hz), Nat.le_refl _, same_upd nDa⟩ (fun i H' hi ⟨_, _, _, _, sm⟩ => ⟨_, .str fs[i], SqL.of (sm _ _ hf), by rw [List.getElem?_map, List.getElem?_eq_getElem hi]; rfl⟩)
        (fun H' ⟨_, _, _, _, sm⟩ => ⟨_, SqL.of (sm _ _ hf), by rw [List.length_map]; exact Nat.le_refl _⟩) (fun i H' v H'' hi ⟨ms, hD, hms, hml, sm⟩ yl => ?_) (fun H' ⟨ms, hD, hms, hml, sm⟩ => ⟨Da, ms, rfl, hD, hms, by omega, nDH, sm⟩)
      obtain ⟨rfl, hx⟩ := yl
      have hx := hx _ (SqL.of (sm _ _ hf))
      rw [List.getElem?_map, List.getElem?_eq_getElem hi] at hx
      obtain rfl := Option.some.inj hx
      obtain ⟨m, hm, _⟩ := hfs _ (List.getElem_mem hi)
      refine ⟨rfl, _, rfl, _, rfl, l, fs[i], rs, m, rfl, hR.same (s1.trans sm), ok, hm, fun H3 s3 => ⟨m, 0, rfl, rfl, _, rfl, ?_⟩⟩
      have hD3 := s3 _ _ hD
      have no : ∃ ms : List Str, H3 Da = some (.lst (ms.map V.str)) ∧ (∀ z ∈ ms, z ∈ fs) ∧ ms.length ≤ i + 1 ∧ Same H1 H3 := ⟨ms, hD3, hms, by omega, sm.trans s3⟩
      refine ite2 (fun _ => ?_) (fun _ => iteF no)
      refine ⟨_, rfl, rfl, _, rfl, ?_⟩
      refine ite2 (fun _ => ?_) (fun _ => no)
      refine ⟨_, rfl, _, hD3, by rw [List.length_map, sizeLine_eq]; omega, ms ++ [fs[i]], by rw [upd_same, List.map_append]; rfl, fun z hz => ?_, by simp; omega, fun b o e => by rw [upd_ne (ne_of_none e nDa)]; exact s3 _ _ (sm _ _ e)⟩
      rcases List.mem_append.mp hz with h | h
      · exact hms z h
      · rw [List.mem_singleton.mp h]; exact List.getElem_mem hi
    rintro σ' H2 ⟨mr, ms, rfl, hm, hms, hml, nmr, s2⟩
    have s12 := s1.trans s2
    have hst2 := hst.same s12
    -- which of the two
    refine ⟨fun σ H' => ∃ (g : Addr) (gs : List Str) (v4 : Option V), σ = [some (.ref st), some (.ref l), some (.int n), some (.ref g), v4, none, none, none, none] ∧ H' g = some (.lst (gs.map V.str)) ∧ gs ≠ [] ∧ gs.length ≤ 15 ∧ (∀ z ∈ gs, z ∈ fs) ∧ g ≠ st ∧ StAt (B + 1) H' st cl ∧ But st H H', ?_, ?_⟩
    · have fst : ft ≠ st := (hst.new nft).1
      have mst : mr ≠ st := (hst.new nmr).1
      refine ⟨_, rfl, (by show 0 ≤ sizeLine; decide), fun p np => ⟨mr, p, _, rfl, rfl, SqL.of (by rw [upd_ne (ne_of_none hm np)]; exact hm), SqL.of upd_same, _, rfl, ?_⟩⟩
      have s3 : Same H2 (upd H2 p (.lst [])) := same_upd np
      generalize upd H2 p (.lst []) = H3 at s3
      have stay : ∀ H4, But st H3 H4 → StAt (B + 1) H4 st cl → ∃ (g : Addr) (gs : List Str) (v4 : Option V), ([some (V.ref st), some (.ref l), some (.int n), some (.ref ft), some (.ref mr), none, none, none, none] : L2.St) = [some (.ref st), some (.ref l), some (.int n), some (.ref g), v4, none, none, none, none] ∧ H4 g = some (.lst (gs.map V.str)) ∧ gs ≠ [] ∧ gs.length ≤ 15 ∧ (∀ z ∈ gs, z ∈ fs) ∧ g ≠ st ∧ StAt (B + 1) H4 st cl ∧ But st H H4 :=
        fun H4 b4 t4 => ⟨ft, fs, _, rfl, b4 _ _ (s3 _ _ (s2 _ _ hf)) fst, hne, hlf, fun z hz => hz, fst, t4, (Same.but (s12.trans s3)).trans b4⟩
      refine ite2 (fun c => ?_) (fun _ => ?_)
      · refine ⟨_, rfl, st, 8, B, cl, rfl, by decide, by decide, hst2.same s3, by omega, fun d H4 _ _ hs4 hb4 => ⟨d, 0, rfl, rfl, _, rfl, ite2 (fun _ => ⟨_, rfl, ?_⟩) (fun _ => stay H4 hb4 hs4)⟩⟩
        refine ⟨mr, ms, _, rfl, hb4 _ _ (s3 _ _ hm) mst, ?_, hml, hms, mst, hs4, (Same.but (s12.trans s3)).trans hb4⟩
        intro e
        rw [e] at c
        cases c
      · exact iteF (stay H3 .refl ((hst2.same s3).mono (by omega)))
    rintro σ' H3 ⟨g, gs, v4, rfl, hg, gne, gl, hgs, gst, hs3, hb3⟩
    have hgl : 0 < gs.length := List.length_pos_iff.mpr gne
    refine ⟨_, rfl, _, rfl, st, g, gs.map V.str, B + 1, cl, rfl, .inl hg, gst, by rw [List.length_map]; exact hgl, by rw [List.length_map]; omega, hs3, by omega, fun v H4 hv hs4 hb4 => ?_⟩
    obtain ⟨z, hz, rfl⟩ := List.mem_map.mp hv
    obtain ⟨m, hmz, m0, m2, mn⟩ := hfs z (hgs z hz)
    have hb := hb3.trans hb4
    refine ⟨_, rfl, _, rfl, l, z, rs, m, rfl, hR.but hst hb, ok, hmz, fun H5 s5 => ?_⟩
    have hs5 := hs4.same s5
    have hb5 := hb.trans (Same.but s5)
    have hR5 := hR.but hst hb5
    refine ⟨_, rfl, m, 2, rfl, rfl, _, rfl, ite2 (fun c => ?_) (fun c => ?_)⟩
    · obtain rfl : m = 2 := of_decide_eq_true c
      refine ⟨_, rfl, _, rfl, n, 2, rfl, rfl, st, n - 2, B + 1 + 1, cl, rfl, by omega, by omega, hs5, by omega, fun d H6 d0 d1 hs6 hb6 => ⟨1, d, rfl, rfl, ?_⟩⟩
      have hb06 := hb5.trans hb6
      refine ⟨_, rfl, _, rfl, _, rfl, st, l, 1 + d, rs, B + 1 + 1 + 1, cl, rfl, by omega, by omega, by omega, hR.but hst hb06, ok, hs6, by omega, fun v1 t1 H7 k1 i1 z1 hs7 hb7 => ?_⟩
      have hb07 := hb06.trans hb7
      refine ⟨_, rfl, _, rfl, _, rfl, _, rfl, _, rfl, n, 1, rfl, rfl, _, rfl, n - 1, 1 + d, rfl, rfl, st, l, n - 1 - (1 + d), rs, _, cl, rfl, by omega, by omega, by omega, hR.but hst hb07, ok, hs7, by omega, fun v2 t2 H8 k2 i2 z2 hs8 hb8 => ⟨(by show 3 ≤ sizeLine; decide), fun p np => ?_⟩⟩
      obtain ⟨pa, pc⟩ := hs8.new np
      refine k _ _ _ (new_tree np (cs := [t1, t2]) ⟨DAt.hold (.but hs7 hb8 fun _ h => h.elim) _ k1, k2, trivial⟩) (isT_two hmz i1 i2) ?_ ((hs8.mono (by omega)).put pa pc) ((hb07.trans hb8).trans (Same.but (same_upd np)))
      show ((1 + (1 + (sz t1 + (sz t2 + 0))) : Nat) : Int) ≤ _
      omega
    · have c : m ≠ 2 := fun e => c (decide_eq_true e)
      refine ⟨_, rfl, m, 0, rfl, rfl, _, rfl, ite2 (fun c0 => ?_) (fun c0 => ?_)⟩
      · obtain rfl : m = 0 := of_decide_eq_true c0
        refine ⟨_, rfl, (by show 1 ≤ sizeLine; decide), fun p np => ?_⟩
        obtain ⟨pa, pc⟩ := hs5.new np
        refine k _ _ _ (new_tree np (cs := []) trivial) (isT_leaf hmz) ?_ ((hs5.mono (by omega)).put pa pc) (hb5.trans (Same.but (same_upd np)))
        show ((1 + (1 + 0) : Nat) : Int) ≤ _
        omega
      · have c0 : m ≠ 0 := fun e => c0 (decide_eq_true e)
        obtain rfl : m = 1 := by omega
        refine ⟨_, rfl, _, rfl, _, rfl, _, rfl, n, 1, rfl, rfl, st, l, n - 1, rs, B + 1 + 1, cl, rfl, by omega, by omega, by omega, hR5, ok, hs5, by omega, fun v1 t1 H7 k1 i1 z1 hs7 hb7 => ⟨(by show 2 ≤ sizeLine; decide), fun p np => ?_⟩⟩
        obtain ⟨pa, pc⟩ := hs7.new np
        refine k _ _ _ (new_tree np (cs := [t1]) ⟨k1, trivial⟩) (isT_one hmz i1) ?_ ((hs7.mono (by omega)).put pa pc) ((hb5.trans hb7).trans (Same.but (same_upd np)))
        show ((1 + (1 + (sz t1 + 0)) : Nat) : Int) ≤ _
        omega
theorem c_tree {f : Addr} {fd : FuncData} (F : Def K mg "_law_tree" sTree f fd) (b : Binds K fd ["_law_state", "_law_rows_here", "_law_nodes"] []) (T : Blt4 mg) (C : Cal P w K mg base 1 "_law_take" spTake []) (CO : Cal P w K mg base 2 "_law_one" spOne [])
    (CL : Cal P w K mg base 1 "_law_labels" spLabels []) (CM : Cal P w K mg base 1 "_law_many" spMany []) : ∀ N : Nat, Cal P w K mg base (3 + N) "_law_tree" (spTree N) []
  | 0 => by
    have no : ∀ {vs H Q E}, spTree 0 vs H Q E → False := fun ⟨_, _, n, _, _, _, _, h1, h2, _⟩ => by omega
    exact cal0 F b .nil scTree (fun vs H Q E h => (no h).elim) (fun cdv A outer s H vs Q E hr h => (no h).elim)
  | N + 1 => tree_step F b T (Nat.le_trans (by decide) (Nat.le_add_right 3 N)) C CO CL CM (c_tree F b T C CO CL CM N)
end
end K9

/-! for i, x in enumerate(a tuple); a walk over a list or a tuple -/
namespace XE
open PySem PySem.Spec PySem.W PyProof.Rows L2
theorem enum_new {v : Value} {o : Obj} {B0 : Heap → Prop} (B : Begins v o B0) :
    Meets (Builtin.«enumerate.__new__» ⟨[.type "enumerate", v], []⟩) (fun _ R s => B0 s.heap ∧ R (.ok (.ret (.ref (s.heap.push o).objs.size)))
      { s with heap := (s.heap.push o).push { cls := .type "enumerate", data := .fields #[.none, .bool false, .ref s.heap.objs.size, rawInt 0, .none, .none] } }) :=
  .of_wp fun prog w A R s hh => by
    obtain ⟨hp, ge, dr, tk, os⟩ := s
    obtain ⟨hb, hh⟩ := hh
    have hsb := sub_enumerate
    have go : ∀ {A' : Around} {E Q : Value → Shared → Prop}, Q (.ref hp.objs.size) ⟨hp.push o, ge, dr, tk, os⟩ → wpAny (model prog w) A' (pyIter v) Q E ⟨hp, ge, dr, tk, os⟩ := fun q => B.iter prog w _ _ ⟨hp, ge, dr, tk, os⟩ _ hb q
    wp_walk using go
    refine wpAny_stack_any fun st => wpAny_pure ?_
    split
    · rename_i cc _ _ _ _ _
      cases (cc == Value.type "enumerate") <;> (wp_walk using go; exact ⟨_, rfl, hh⟩)
    · wp_walk using go
      exact ⟨_, rfl, hh⟩
section
variable {prog : Program} {w : World} {A : Around} {E : Value → Shared → Prop} {s : Shared}
theorem enum_call {v : Value} {o : Obj} {B0 : Heap → Prop} {Q : Value → Shared → Prop} (B : Begins v o B0) (hb : B0 s.heap)
    (hq : ∀ h', IsEnum h' (s.heap.objs.size + 1) s.heap.objs.size 0 .none → h'.get? s.heap.objs.size = some o → (∀ b ob, s.heap.get? b = some ob → h'.get? b = some ob) → Q (.ref (s.heap.objs.size + 1)) { s with heap := h' }) :
    wpAny (model prog w) A (call (.type "enumerate") [v]) Q E s := by
  refine callType_new F.called_enumerate (by decide) (F.typeCall_enumerate_1 _) (F.newCall_enumerate_1 _) (fun obj => F.args_object_init_2 obj _) F.entry_enumerate_new (enum_new B) ⟨hb, ?_⟩
  have z1 : (s.heap.push o).objs.size = s.heap.objs.size + 1 := Heap.size_push ..
  show _ ∧ _
  rw [z1]
  have z2 := Heap.get?_push_size (s.heap.push o) (o := { cls := .type "enumerate", data := .fields #[.none, .bool false, .ref s.heap.objs.size, rawInt 0, .none, .none] }) rfl
  rw [z1] at z2
  exact ⟨⟨_, z2, rfl⟩, hq _ z2 (Heap.get?_push_of_some _ (Heap.get?_push_size _ B.free)) fun b ob x => Heap.get?_push_of_some _ (Heap.get?_push_of_some _ x)⟩
theorem enum_endT {e it t : Addr} {i : Nat} {c : Int} {items : Array Value} {old : Value} {Q : Option Value → Shared → Prop} (h0 : A.in1.handled = none) (k1 : IsEnum s.heap e it c old) (k2 : s.heap.IsTupleIter it t i) (pt : s.heap.IsTuple t items) (hx : items[i]? = none)
    (hq : ∀ h', Heap.ExtBut it s.heap h' → Q none { s with heap := h' }) : wpAny (model prog w) A (pyNext (.ref e)) Q E s := by
  have ty : s.TypeIs (.ref e) "enumerate" := ⟨_, k1, rfl⟩
  unfold pyNext
  refine wpAny_bind (wpAny_attempt (wpAny_callSpecial?_slot (name := Str.ofString "__next__") ty F.slot_enumerate_next (wpAny_call_entry F.slot_enumerate_next ty F.entry_enumerate_next ?_ (F.args_enumerate_next_1 _))))
  show wpAny _ _ (field (.ref e) 2 >>= _) _ _ _
  refine wpAny_bind (wpAny_field k1 rfl (x := .ref it) rfl ?_)
  refine wpAny_bind (wpAny_nextOf_tuple_end h0 k2 pt hx fun h' y he' hx' => ?_)
  obtain ⟨o, ho, hc⟩ := hx'
  exact wpAny_bind (wpAny_isInstance (T := "StopIteration") (b := true) ⟨o, ho, hc⟩ isSubtype_stop (wpAny_pure (hq _ he')))
end
/-- the tuple at a, each item in a new pair with its number -/
def IteT (K : PySem.W.Frag) (a : Addr) : It :=
  ⟨fun i H => ∃ (xs : List V) (x : V), SqT K H a xs ∧ xs[i]? = some x,
    fun i H v H' => ∃ T x, v = .ref T ∧ H T = none ∧ H' = upd H T (.tup [.int (i : Nat), x]) ∧ ∀ xs, SqT K H a xs → xs[i]? = some x,
    fun i H => ∃ xs : List V, SqT K H a xs ∧ xs.length ≤ i⟩
theorem turn_enumT {P : Program} {w : World} {K : PySem.W.Frag} {elts : List Expr} {kk : Nat} {tpos : Pos} (a e it : Addr) :
    Turn P w K (.Tuple elts kk tpos) (IteT K a) [e, it] e (fun i h => (∃ old, IsEnum h e it ((i : Nat) : Int) old) ∧ h.IsTupleIter it a i ∧ e ≠ it ∧ a ≠ it ∧ e ≠ a) where
  mem := by simp
  obj := fun i h st b hb => by
    obtain ⟨⟨old, k1⟩, ⟨o, ho, hc, hd⟩, _⟩ := st
    rcases List.mem_cons.mp hb with rfl | hb
    · exact ⟨_, k1, fun v q => nomatch q⟩
    · obtain rfl := List.mem_singleton.mp hb
      exact ⟨o, ho, fun v q => by rw [hd] at q; cases q⟩
  keep := fun i h h' st k => by
    obtain ⟨⟨old, k1⟩, k2, k3⟩ := st
    exact ⟨⟨old, k e (by simp) _ k1⟩, k2.at fun o q => k it (by simp) o q, k3⟩
  item := by
    intro X hP hw hK hc i pins s σ H E I hf st hg
    subst hP hw hK
    obtain ⟨⟨old, k1⟩, k2, k3, k4, k5⟩ := st
    obtain ⟨xs, x, hq, hx⟩ := hg
    obtain ⟨its, rv, pt, hz⟩ := I.tuple hq
    obtain ⟨u, hu, ru⟩ := rv.get hx
    have l1 : e < s.heap.objs.size := Heap.lt_size k1
    have l2 : it < s.heap.objs.size := by obtain ⟨_, q, _⟩ := k2; exact Heap.lt_size q
    have lu : i < its.toArray.size := by rw [List.size_toArray]; exact (List.getElem?_eq_some_iff.mp hu).1
    refine wpAny_pyNext_enum_itemD (Draws.tuple (A := X.A.in1) (show X.A.in1.handled = none from I.ok.hd hc) it a k4 its.toArray) k1 ⟨k2, pt⟩ lu k3 (by simp [k3, k5]) fun y h' tk hy ho st' hT hsz hk => ?_
    obtain rfl : u = y := by
      have : its.toArray[i]? = some u := by simpa using hu
      rw [this] at hy
      exact Option.some.inj hy
    refine ⟨_, rfl, wpAny_letOwnedTupleGo_enum (s := { s with heap := h', toks := tk + 1 }) ho fun h'' he' sb => ?_⟩
    have hT2 : h''.get? s.heap.objs.size = some { cls := .type "tuple", data := .seq #[.int i tk, u] } := (sb.2 _ (Nat.ne_of_gt l1)).trans hT
    have nw : ObjOk X.prog X.w (upd H s.heap.objs.size (.tup [.int (i : Nat), x])) h'' s.heap.objs.size (.tup [.int (i : Nat), x]) :=
      ⟨by show 2 ≤ sizeLine; decide, [.int i tk, u], .cons ⟨_, rfl⟩ (.cons ru .nil), ⟨_, hT2, rfl, _, rfl⟩⟩
    have I1 : Inv X pins σ (upd H s.heap.objs.size (.tup [.int (i : Nat), x])) { s with heap := h'', toks := tk + 1 } :=
      I.turnedNew (ch := [e, it]) (fun b ob hb q => (sb.2 b (fun z => hb (by simp [z]))).trans (hk b ob (fun z => hb (by simp [z])) (fun z => hb (by simp [z])) q)) hf (Nat.le_refl _) nw
    refine ⟨.ref s.heap.objs.size, _, I1, rfl, ⟨_, x, rfl, I.hok.fresh (Nat.le_refl _), rfl, fun ys hy => by rw [I.tuple_inj hy hq]; exact hx⟩, ⟨⟨u, ?_⟩, st'.1.at fun o q => (sb.2 it (Ne.symm k3)).trans q, k3, k4, k5⟩, fun b hb => ?_⟩
    · rw [show ((i + 1 : Nat) : Int) = (i : Int) + 1 by omega]
      exact he'
    · have hb' : b < s.heap.objs.size := by
        rcases List.mem_cons.mp hb with rfl | hb
        · exact l1
        · obtain rfl := List.mem_singleton.mp hb
          exact l2
      rw [upd_ne (Nat.ne_of_lt hb')]
      exact (hf b hb).1
  done := by
    intro X hP hw hK hc i pins s σ H E I hf st hg
    subst hP hw hK
    obtain ⟨⟨old, k1⟩, k2, k3, k4, k5⟩ := st
    obtain ⟨xs, hq, hx⟩ := hg
    obtain ⟨its, rv, pt, hz⟩ := I.tuple hq
    obtain ⟨f0, f1, f2, f3, f4, f5⟩ := hf it (by simp)
    have hl := rv.length
    exact enum_endT (show X.A.in1.handled = none from I.ok.hd hc) k1 k2 pt (by simp; omega) fun h' eb => ⟨rfl, I.turned (t' := s.toks) (fun b o hb q => eb b o hb q) f0 f1 f3 f4 f5⟩
  self := fun A i s Q E st h => by
    obtain ⟨⟨_, k1⟩, _⟩ := st
    exact wpAny_pyIter_enum k1 h
def iEnumT (K : PySem.W.Frag) (ta : TA) : TI := fun σ H R => ta σ H fun vs H1 => ∃ a xs, vs = [.ref a] ∧ SqT K H1 a xs ∧ R (IteT K a) H1
theorem pi_enumT {X : Cx} {e : Expr} {ta : TA} {p pos tpos : Pos} {elts : List Expr} {kk : Nat} (hg : Gl X "enumerate") (hm : X.mg "enumerate" = none) (ha : PA X [e] ta) (hs : starEach [e] X.env = [(false, eval e X.env)] := by rfl) :
    PI X (.Tuple elts kk tpos) (.Call (.Name "enumerate" p) [e] [] pos) (iEnumT X.K ta) := by
  refine ⟨fun pins s σ H R I h => ?_⟩
  refine Call_ (ld_blt I hg hm boot_enumerate (PyProof.Rows.callWith_type1 (thn (ha.run pos pins s σ H _ I h) fun us s1 ⟨vs, H1, I1, r1, q1⟩ => ?_) hs rfl))
  obtain ⟨a, xs, rfl, hq, q⟩ := q1
  cases r1 with
  | cons r rr =>
    cases rr
    cases r
    obtain ⟨its, rv, pt, hz⟩ := I1.tuple hq
    refine enum_call (begins_tuple a its.toArray) pt fun h' he hit hk => wpAny_pyIter_enum he ?_
    have I2 : Inv X pins σ H1 { s1 with heap := h' } := I1.kept (t' := s1.toks) hk
    have al : a < s1.heap.objs.size := by obtain ⟨_, q, _⟩ := pt; exact Heap.lt_size q
    refine ⟨s1.heap.objs.size + 1, [s1.heap.objs.size + 1, s1.heap.objs.size], _, _, H1, rfl, I2, turn_enumT a (s1.heap.objs.size + 1) s1.heap.objs.size, ⟨⟨.none, he⟩, ⟨_, hit, rfl, rfl⟩, Nat.succ_ne_self _, Nat.ne_of_lt al, Ne.symm (Nat.ne_of_lt (Nat.lt_succ_of_lt al))⟩, fun b hb => ?_, q⟩
    have hle : s1.heap.objs.size ≤ b := by
      rcases List.mem_cons.mp hb with rfl | hb
      · exact Nat.le_add_right _ _
      · obtain rfl := List.mem_singleton.mp hb
        exact Nat.le_refl _
    exact I1.fpOk hle (I1.hok.fresh hle)
theorem PI.or {X : Cx} {tg e : Expr} {wi wi' : TI} (h : PI X tg e wi) (h' : PI X tg e wi') : PI X tg e (fun σ H R => wi σ H R ∨ wi' σ H R) := ⟨fun pins s σ H R I q => q.elim (h.run pins s σ H R I) (h'.run pins s σ H R I)⟩
end XE

namespace K9
open PySem PySem.Spec PyProof.Rows L2 C8 XE
def InT : D → List Int → Prop
  | _, [] => True
  | .sq cs, k :: p => 0 ≤ k ∧ ∃ c, cs[k.toNat + 1]? = some c ∧ InT c p
  | _, _ :: _ => False
def PlV (H : Hp) (v : V) (p : List Int) : Prop := ∃ a, v = .ref a ∧ H a = some (.tup (p.map V.int))
theorem PlV.same {H H' : Hp} (s : Same H H') {v : V} {p : List Int} (h : PlV H v p) : PlV H' v p := by
  obtain ⟨a, e, q⟩ := h
  exact ⟨a, e, s _ _ q⟩
/-- a tree: its label, its children -/
theorem isT_inv {rs : List Rw} {t : D} (h : isT rs t = true) : ∃ z cs m, t = .sq (.fl (.str z) :: cs) ∧ many rs z = some m ∧ (cs.length : Int) = m ∧ isTs rs cs = true := by
  unfold isT at h
  split at h
  · rename_i z cs
    split at h
    · rename_i m hm
      rw [Bool.and_eq_true] at h
      exact ⟨z, cs, m, rfl, hm, of_decide_eq_true h.1, h.2⟩
    · cases h
  · cases h
theorem isTs_get {rs : List Rw} : ∀ {cs : List D}, isTs rs cs = true → ∀ {i : Nat} {c : D}, cs[i]? = some c → isT rs c = true
  | [], _, i, c, e => by cases e
  | x :: xs, h, i, c, e => by
    rw [isTs, Bool.and_eq_true] at h
    cases i with
    | zero => cases e; exact h.1
    | succ i => exact isTs_get h.2 e
theorem szs_get : ∀ {cs : List D} {i : Nat} {c : D}, cs[i]? = some c → sz c ≤ szs cs
  | [], i, c, e => by cases e
  | x :: xs, i, c, e => by
    rw [szs]
    cases i with
    | zero => cases e; omega
    | succ i => have := szs_get (cs := xs) (i := i) e; omega
theorem szs_app : ∀ (a b : List D), szs (a ++ b) = szs a + szs b
  | [], b => by rw [List.nil_append, szs, Nat.zero_add]
  | x :: a, b => by rw [List.cons_append, szs, szs, szs_app a b, Nat.add_assoc]
theorem sz_pos : ∀ d : D, 1 ≤ sz d
  | .fl _ => Nat.le_refl _
  | .emp => Nat.le_refl _
  | .sq xs => by rw [sz]; omega
theorem len_szs : ∀ cs : List D, cs.length ≤ szs cs
  | [] => Nat.le_refl _
  | x :: xs => by rw [szs, List.length_cons]; have := len_szs xs; have := sz_pos x; omega
theorem DAts.len {F : Addr → Prop} {H : Hp} : ∀ {ds : List D} {vs : List V}, DAts F H vs ds → vs.length = ds.length
  | [], [], _ => rfl
  | d :: ds, v :: vs, ⟨_, t⟩ => congrArg (· + 1) (DAts.len t)
  | [], _ :: _, k => (show False from k).elim
  | _ :: _, [], k => (show False from k).elim
theorem DAts.get {F : Addr → Prop} {H : Hp} : ∀ {ds : List D} {vs : List V}, DAts F H vs ds → ∀ {i : Nat} {v : V}, vs[i]? = some v → ∃ d, ds[i]? = some d ∧ DAt F H v d
  | [], [], _, i, v, e => by cases e
  | d :: ds, v :: vs, ⟨k, t⟩, i, v', e => by
    cases i with
    | zero => cases e; exact ⟨d, rfl, k⟩
    | succ i => exact DAts.get t e
  | [], _ :: _, k, _, _, _ => (show False from k).elim
  | _ :: _, [], k, _, _, _ => (show False from k).elim
/-- a tree's cell -/
theorem DAt.tree {rs : List Rw} {H : Hp} {v : V} {t : D} (h : DAt nol H v t) (ht : isT rs t = true) : ∃ a z cvs cs m, v = .ref a ∧ H a = some (.tup (.str z :: cvs)) ∧ t = .sq (.fl (.str z) :: cs) ∧ DAts nol H cvs cs ∧ many rs z = some m ∧ (cs.length : Int) = m ∧ isTs rs cs = true := by
  obtain ⟨z, cs, m, rfl, hm, hl, hs⟩ := isT_inv ht
  obtain ⟨a, vs, rfl, q, _, k⟩ := h
  have q : H a = some (.tup vs) := q.elim id fun e => e.1.elim
  cases vs with
  | nil => exact (show False from k).elim
  | cons v0 cvs =>
    obtain ⟨⟨e, _⟩, k⟩ := k
    subst e
    exact ⟨a, z, cvs, cs, m, rfl, q, rfl, k, hm, hl, hs⟩
theorem paired_app {α β : Type} {R : α → β → Prop} {a c : List α} {b d : List β} (h : Paired R a b) (h' : Paired R c d) : Paired R (a ++ c) (b ++ d) := by
  induction h with
  | nil => exact h'
  | cons q _ ih => exact .cons q ih
theorem not_whole {n : Nat} {i : Int} {o : Option Int} (h : 0 < i) (hn : 0 < n) : ¬ (HT.sIx n 0 (some i) = 0 ∧ HT.sIx n n o = n) := by
  intro z
  have z := z.1
  unfold HT.sIx at z
  dsimp only at z
  rw [if_neg (by omega)] at z
  omega
theorem not_whole_hi {n : Nat} {i : Int} {o : Option Int} (h : 0 ≤ i) (hn : i < n) : ¬ (HT.sIx n 0 o = 0 ∧ HT.sIx n n (some i) = n) := by
  intro z
  have z := z.2
  unfold HT.sIx at z
  dsimp only at z
  rw [if_neg (by omega)] at z
  omega
theorem DAts.app {F : Addr → Prop} {H : Hp} : ∀ {ds es : List D} {vs us : List V}, DAts F H vs ds → DAts F H us es → DAts F H (vs ++ us) (ds ++ es)
  | [], es, [], us, _, h => h
  | d :: ds, es, v :: vs, us, ⟨k, t⟩, h => ⟨k, DAts.app t h⟩
  | [], _, _ :: _, _, k, _ => (show False from k).elim
  | _ :: _, _, [], _, k, _ => (show False from k).elim
theorem DAts.take {F : Addr → Prop} {H : Hp} : ∀ {ds : List D} {vs : List V} (n : Nat), DAts F H vs ds → DAts F H (vs.take n) (ds.take n)
  | _, _, 0, _ => trivial
  | [], [], n + 1, _ => trivial
  | d :: ds, v :: vs, n + 1, ⟨k, t⟩ => ⟨k, DAts.take n t⟩
  | [], _ :: _, _ + 1, k => (show False from k).elim
  | _ :: _, [], _ + 1, k => (show False from k).elim
theorem DAts.drop {F : Addr → Prop} {H : Hp} : ∀ {ds : List D} {vs : List V} (n : Nat), DAts F H vs ds → DAts F H (vs.drop n) (ds.drop n)
  | _, _, 0, k => k
  | [], [], n + 1, _ => trivial
  | d :: ds, v :: vs, n + 1, ⟨_, t⟩ => DAts.drop n t
  | [], _ :: _, _ + 1, k => (show False from k).elim
  | _ :: _, [], _ + 1, k => (show False from k).elim
end K9

namespace K9
open PySem PySem.Spec PyProof.Rows L2 C8 XE
def isSq : D → Bool
  | .sq _ => true
  | _ => false
def isSt : D → Bool
  | .fl (.str _) => true
  | _ => false
theorem d_ty {K : PySem.W.Frag} {F : Addr → Prop} {H : Hp} {v : V} : ∀ {d : D}, DAt F H v d → ∃ T, (∀ H', Same H H' → TyX K H' v (.type T)) ∧ PySem.W.kitAny K (.type T) [.type "list", .type "tuple"] = some (isSq d) ∧ PySem.W.kitOne K (.type T) (.type "str") = some (isSt d) := by
  have z : ∀ T ∈ ["NoneType", "bool", "int", "str", "dict", "list", "tuple"], kitB T "list" = some (T == "list") ∧ kitB T "tuple" = some (T == "tuple") ∧ kitB T "str" = some (T == "str") := by decide +kernel
  have mk : ∀ (T : String) (b c : Bool), T ∈ ["NoneType", "bool", "int", "str", "dict", "list", "tuple"] → (T == "list" || T == "tuple") = b → (T == "str") = c → PySem.W.kitAny K (.type T) [.type "list", .type "tuple"] = some b ∧ PySem.W.kitOne K (.type T) (.type "str") = some c := by
    intro T b c hT e1 e2
    obtain ⟨h1, h2, h3⟩ := z T hT
    refine ⟨kitAny_cons (kit_ty h1) (fun e => ?_) (fun e => ?_), by rw [kit_ty h3, e2]⟩
    · rw [e, Bool.false_or] at e1
      exact kitAny_cons (b := (T == "tuple")) (kit_ty h2) (fun e' => by rw [← e1, e']; exact kitAny_nil) fun e' => by rw [← e1, e']
    · rw [e] at e1
      rw [← e1]; rfl
  intro d h
  cases d with
  | fl x =>
    obtain ⟨rfl, fx⟩ := h
    cases v with
    | non => exact ⟨"NoneType", fun _ _ => .base .non, mk _ _ _ (by decide) rfl rfl⟩
    | bl b => exact ⟨"bool", fun _ _ => .base (.bl b), mk _ _ _ (by decide) rfl rfl⟩
    | int i => exact ⟨"int", fun _ _ => .base (.int i), mk _ _ _ (by decide) rfl rfl⟩
    | str z => exact ⟨"str", fun _ _ => .base (.str z), mk _ _ _ (by decide) rfl rfl⟩
    | _ => cases fx
  | emp =>
    obtain ⟨a, rfl, q⟩ := h
    exact ⟨"dict", fun H' s => .base (.dK (s _ _ q)), mk _ _ _ (by decide) rfl rfl⟩
  | sq xs =>
    obtain ⟨a, vs, rfl, q, _⟩ := h
    rcases q with q | ⟨_, q⟩
    · exact ⟨"tuple", fun H' s => .base (.tup (s _ _ q)), mk _ _ _ (by decide) rfl rfl⟩
    · exact ⟨"list", fun H' s => .base (.lst (s _ _ q)), mk _ _ _ (by decide) rfl rfl⟩
theorem szs_take_succ {xs : List D} {i : Nat} (h : i < xs.length) : szs (xs.take (i + 1)) = szs (xs.take i) + sz xs[i] := by
  rw [List.take_succ_eq_append_getElem h, szs_app]
  rfl
theorem szs_take_le (xs : List D) (i : Nat) : szs (xs.take i) ≤ szs xs := by
  have : szs (xs.take i) + szs (xs.drop i) = szs xs := by rw [← szs_app, List.take_append_drop]
  omega
end K9

namespace K9
open PySem PySem.Spec PyProof.Rows L2 C8 XE
/-! _law_same of any data, the answer True -/
def sqo (t : Bool) (xs : List V) : HO := match t with
  | true => .tup xs
  | false => .lst xs
def nmo (t : Bool) : String := match t with
  | true => "tuple"
  | false => "list"
def EqN (H : Hp) : Nat → V → V → Prop
  | 0, _, _ => False
  | n + 1, x, y => (x = y ∧ Leaf H x) ∨ ∃ t a b xs ys, x = .ref a ∧ y = .ref b ∧ H a = some (sqo t xs) ∧ H b = some (sqo t ys) ∧ Paired (EqN H n) xs ys ∧ xs.length ≤ 100000
theorem EqN.same {H H' : Hp} (s : Same H H') : ∀ {n : Nat} {x y : V}, EqN H n x y → EqN H' n x y
  | 0, _, _, h => h
  | n + 1, x, y, h => h.imp (fun ⟨e, l⟩ => ⟨e, l.same s⟩) fun ⟨t, a, b, xs, ys, e1, e2, q1, q2, p, l⟩ => ⟨t, a, b, xs, ys, e1, e2, s _ _ q1, s _ _ q2, Paired.mono (fun _ _ h => EqN.same s h) p, l⟩
def spSameN (n : Nat) : Sp := fun vs H Q _ => ∃ x y : V, vs = [x, y] ∧ EqN H n x y ∧ ∀ H', Same H H' → Q (.bl true) H'
theorem sqo_seq {K : PySem.W.Frag} {H : Hp} {a : Addr} {t : Bool} {xs : List V} (h : H a = some (sqo t xs)) : SqL K H a xs ∨ SqT K H a xs := by
  cases t with
  | true => exact .inr (SqT.of h)
  | false => exact .inl (SqL.of h)
theorem sqo_ty {K : PySem.W.Frag} {H : Hp} {a : Addr} {t : Bool} {xs : List V} (h : H a = some (sqo t xs)) : TyX K H (.ref a) (.type (nmo t)) := by
  cases t with
  | true => exact .base (.tup h)
  | false => exact .base (.lst h)
theorem kit_sq {K : PySem.W.Frag} (t : Bool) : PySem.W.kitAny K (.type (nmo t)) [.type "list", .type "tuple"] = some true ∧ PySem.W.kitOne K (.type (nmo t)) (.type "list") = some (!t) ∧ PySem.W.kitOne K (.type (nmo t)) (.type "tuple") = some t := by
  have z : kitB "list" "list" = some true ∧ kitB "list" "tuple" = some false ∧ kitB "tuple" "list" = some false ∧ kitB "tuple" "tuple" = some true := by decide +kernel
  obtain ⟨z1, z2, z3, z4⟩ := z
  cases t with
  | true => exact ⟨kitAny_cons (kit_ty z3) (fun _ => kitAny_cons (kit_ty z4) (fun e => (nomatch e)) (fun _ => rfl)) (fun e => (nomatch e)), kit_ty z3, kit_ty z4⟩
  | false => exact ⟨kitAny_cons (kit_ty z1) (fun e => (nomatch e)) (fun _ => rfl), kit_ty z1, kit_ty z2⟩
abbrev NSa : List Str := ["_law_found", "_law_due", "_law_x", "_law_y"]
section
variable {P : Program} {w : World} {K : PySem.W.Frag} {mg : Str → Option Value} {base : Heap}
theorem same_step {k n : Nat} {f : Addr} {fd : FuncData} (F : Def K mg "_law_same" sSame f fd) (b : Binds K fd ["_law_found", "_law_due"] []) (T : Blt2 mg) (CS : Cal P w K mg base k "_law_same" (spSameN n) []) : Cal P w K mg base (k + 1) "_law_same" (spSameN (n + 1)) [] := by
  refine cal0 F b .nil scSame (fun vs H Q E h => ?_) (fun cdv A outer s H vs Q E hr h => ?_)
  · obtain ⟨x, y, rfl, _⟩ := h
    rfl
  · obtain ⟨x, y, rfl, hx, k⟩ := h
    have hu : (A.deeper (envOfC "_law_same" (fnScope sSame) s.heap.objs.size f cdv)).units + 64 < cLine := by have := hr.un; omega
    have nd := scSame.nd
    refine ⟨_, pss_cons (ps_if (pt_val (pe_callB call_isiT (by rfl) T.isi (by decide +kernel) (pa_cons (pv 1) (pa_cons (pe_tup (pa_cons (pe_bt "list" T.list) (pa_cons (pe_bt "tuple" T.tup) pa_nil))) pa_nil))))
        (pss_cons (ps_if (pw_or (pt_cmpR op_ne (pe_callB call_isi (by rfl) T.isi (by decide +kernel) (pa_cons (pv 0) (pa_cons (pe_bt "list" T.list) pa_nil))) (pe_callB call_isi (by rfl) T.isi (by decide +kernel) (pa_cons (pv 1) (pa_cons (pe_bt "list" T.list) pa_nil))) (nomark _))
            (pw_or1 (pt_cmpR op_ne (pe_callB call_isi (by rfl) T.isi (by decide +kernel) (pa_cons (pv 0) (pa_cons (pe_bt "tuple" T.tup) pa_nil))) (pe_callB call_isi (by rfl) T.isi (by decide +kernel) (pa_cons (pv 1) (pa_cons (pe_bt "tuple" T.tup) pa_nil))) (nomark _)))).pt pss_never pss_nil)
        (pss_one (ps_ret (pe_and (pe_cmpR op_eq (pe_callB call_len_seq (by rfl) T.len PySem.boot_len (pa_cons (pv 0) pa_nil)) (pe_callB call_len_seq (by rfl) T.len PySem.boot_len (pa_cons (pv 1) pa_nil)) (nomark _))
          (pe_one (pe_callB (cr_all rfl) (by rfl) T.all (by decide +kernel) (pa_cons (pe_lc (own := [("_law_x", 2), ("_law_y", 3)]) (g := gTup K 2 (gCons (gName 2) (gCons (gName 3) gNil))) (tt := tYes) rfl nd (RZ.pi_zipA (by rfl) T.zip (pa_cons (pv 0) (pa_cons (pv 1) pa_nil)))
            (blkOk_by (N := NSa) (sc := fnScope sSame) (by decide +kernel)) (fun _ _ _ _ _ => pg_tup rfl (pgs_cons (pg_name (i := 2) nd rfl (Or.inl rfl)) (pgs_cons (pg_name (i := 3) nd rfl (Or.inl rfl)) pgs_nil))) (fun _ _ _ _ _ => pts_nil)
            (fun _ _ _ _ _ => pe_c CS hr (Nat.le_refl _) (by rfl) (pa_cons (pv 2) (pa_cons (pv 3) pa_nil)))) pa_nil))))))) pss_nil)
      (pss_cons (ps_if (pt_val (pe_callB call_isi (by rfl) T.isi (by decide +kernel) (pa_cons (pv 1) (pa_cons (pe_bt "int" T.int) pa_nil))))
          (pss_one (ps_ret (pe_and (pe_callB call_isi (by rfl) T.isi (by decide +kernel) (pa_cons (pv 0) (pa_cons (pe_bt "int" T.int) pa_nil)))
            (pe_and (pe_cmpR op_eq (pe_callB call_isi (by rfl) T.isi (by decide +kernel) (pa_cons (pv 0) (pa_cons (pe_bt "bool" T.boo) pa_nil))) (pe_callB call_isi (by rfl) T.isi (by decide +kernel) (pa_cons (pv 1) (pa_cons (pe_bt "bool" T.boo) pa_nil))) (nomark _))
              (pe_one (pe_cmpR op_eq (pv 0) (pv 1) (nomark _))))))) pss_nil)
      (pss_one (ps_ret (pe_and (pe_cmpR op_isBl (pe_callB call_isiT (by rfl) T.isi (by decide +kernel) (pa_cons (pv 0) (pa_cons (pe_tup (pa_cons (pe_bt "int" T.int) (pa_cons (pe_bt "list" T.list) (pa_cons (pe_bt "tuple" T.tup) pa_nil)))) pa_nil))) pe_bl (nomark _))
        (pe_one (pe_cmpR (op_eq.or (op_eqV hu)) (pv 0) (pv 1) (nomark _))))))), ?_⟩
    rcases hx with ⟨rfl, hx⟩ | ⟨t, a, c, xs, ys, rfl, rfl, ha, hc, hp, hl⟩
    · obtain ⟨Ty, hT, ty, hs⟩ := leaf_ty (K := K) hx
      obtain ⟨k1, k2, k3, k4⟩ := kitLT (K := K) hT
      refine ⟨_, rfl, (by show 2 ≤ sizeLine; decide), fun p np => ⟨x, p, [.ty "list", .ty "tuple"], _, _, false, rfl, upd_same, .cons (.ty _) (.cons (.ty _) .nil), ty _ (same_upd np), k1, false, rfl, iteF ?_⟩⟩
      have s1 : Same H (upd H p (.tup [.ty "list", .ty "tuple"])) := same_upd np
      refine ⟨_, rfl, x, .ty "int", _, _, _, rfl, .ty _, ty _ s1, k3, _, rfl, ite2 (fun hi => ?_) (fun hi => ?_)⟩
      · have hsc : scal x x = true := by
          rcases hs with z | ⟨z, _⟩
          · exact z
          · rw [z] at hi
            cases hi
        refine ⟨_, rfl, x, .ty "int", _, _, _, rfl, .ty _, ty _ s1, k3, _, rfl, iteBt hi ?_⟩
        refine ⟨_, rfl, x, .ty "bool", _, _, _, rfl, .ty _, ty _ s1, k4, _, rfl, x, .ty "bool", _, _, _, rfl, .ty _, ty _ s1, k4, rfl, _, rfl, iteBt (decide_eq_true rfl) ?_⟩
        refine ⟨_, rfl, _, rfl, hsc, ?_⟩
        rw [decide_eq_true rfl]
        exact k _ s1
      · have hi : (Ty == "int" || Ty == "bool") = false := by simpa using hi
        rw [hi] at k2
        refine ⟨_, rfl, (by show 3 ≤ sizeLine; decide), fun p2 np2 => ?_⟩
        have s2 : Same H (upd (upd H p (.tup [.ty "list", .ty "tuple"])) p2 (.tup [.ty "int", .ty "list", .ty "tuple"])) := s1.trans (same_upd np2)
        refine ⟨x, p2, [.ty "int", .ty "list", .ty "tuple"], _, _, false, rfl, upd_same, .cons (.ty _) (.cons (.ty _) (.cons (.ty _) .nil)), ty _ s2, k2, false, false, rfl, rfl, _, rfl, iteBt (decide_eq_true rfl) ?_⟩
        refine ⟨_, rfl, _, rfl, ?_⟩
        rcases hs with hsc | ⟨_, a, kvs, rfl, e, dk⟩
        · refine .inl ⟨hsc, ?_⟩
          rw [decide_eq_true rfl]
          exact k _ s2
        · refine .inr ⟨1, by decide, .inr ⟨a, a, kvs, kvs, rfl, rfl, s2 _ _ e, s2 _ _ e, rfl, fun p hp => ⟨p.2, (dk p hp).1, .inl ⟨rfl, (dk p hp).2⟩⟩⟩, k _ s2⟩
    · obtain ⟨k1, k2, k3⟩ := kit_sq (K := K) t
      have hlen := Paired.length hp
      refine ⟨_, rfl, (by show 2 ≤ sizeLine; decide), fun p np => ⟨_, p, [.ty "list", .ty "tuple"], _, _, true, rfl, upd_same, .cons (.ty _) (.cons (.ty _) .nil), sqo_ty (same_upd np _ _ hc), k1, true, rfl, iteT ?_⟩⟩
      have s1 : Same H (upd H p (.tup [.ty "list", .ty "tuple"])) := same_upd np
      generalize upd H p (.tup [.ty "list", .ty "tuple"]) = H1 at s1
      have ha1 := s1 _ _ ha
      have hc1 := s1 _ _ hc
      refine ⟨_, rfl, _, .ty "list", _, _, _, rfl, .ty _, sqo_ty ha1, k2, _, rfl, _, .ty "list", _, _, _, rfl, .ty _, sqo_ty hc1, k2, rfl, _, rfl, iteBf (by rw [decide_eq_true rfl]; rfl) ?_⟩
      refine ⟨_, rfl, _, .ty "tuple", _, _, _, rfl, .ty _, sqo_ty ha1, k3, _, rfl, _, .ty "tuple", _, _, _, rfl, .ty _, sqo_ty hc1, k3, rfl, _, rfl, iteBf (by rw [decide_eq_true rfl]; rfl) ?_⟩
      refine ⟨_, rfl, a, xs, rfl, sqo_seq ha1, _, rfl, c, ys, rfl, sqo_seq hc1, rfl, _, rfl, iteBt (decide_eq_true (by rw [hlen])) ?_⟩
      -- the walk
      have walk : ∀ (J : It), (∀ i H', i < xs.length → Same H1 H' → J.go i H') → (∀ H', Same H1 H' → J.stop xs.length H') → (∀ i H' x H'', Same H1 H' → J.yld i H' x H'' → ∃ T' x' y', x = .ref T' ∧ H' T' = none ∧ H'' = upd H' T' (.tup [x', y']) ∧ xs[i]? = some x' ∧ ys[i]? = some y') → ∀ Da, H1 Da = none →
          ∃ W : Nat → Nat → Hp → Prop, (∃ m, W 0 m (upd H1 Da (.lst []))) ∧ ∀ i m H', W i m H' → (J.stop i H' ∧ (H' Da = some (.lst ((List.replicate xs.length true).map V.bl)) ∧ Same H1 H')) ∨
            (J.go i H' ∧ ∃ Nx : Hp → Prop, (∀ H'', Nx H'' → ∃ m', m' < m ∧ W (i + 1) m' H'') ∧ ∀ x H'', J.yld i H' x H'' → gTup K 2 (gCons (gName 2) (gCons (gName 3) gNil)) x (wipe (start NSa [.ref a, .ref c]) [2, 3]) H'' fun σ2 H2 => wipe σ2 [2, 3] = wipe (start NSa [.ref a, .ref c]) [2, 3] ∧ tYes σ2 H2 fun b H3 =>
              if b = true then tCall (spSameN n) [] C8.E0 (tCons (tVar 2) (tCons (tVar 3) tNil)) σ2 H3 fun y H4 => ∃ acc, H4 Da = some (.lst acc) ∧ acc.length < sizeLine ∧ Nx (upd H4 Da (.lst (acc ++ [y]))) else Nx H3) := by
        intro J jgo jst jyl Da nDa
        refine lc_gen (J := J) xs.length (fun i H' => H' Da = some (.lst ((List.replicate i true).map V.bl)) ∧ Same H1 H') ⟨upd_same, same_upd nDa⟩ (fun i H' hi ⟨_, sm⟩ => jgo i H' hi sm) (fun H' ⟨_, sm⟩ => jst H' sm) (fun i H' x H'' hi ⟨hD, sm⟩ yl => ?_) (fun H' h => h)
        obtain ⟨T', x', y', rfl, nT, rfl, hx, hy⟩ := jyl i H' x H'' sm yl
        have s3 : Same H' (upd H' T' (.tup [x', y'])) := same_upd nT
        refine ⟨T', [x', y'], rfl, SqT.of upd_same, rfl, x', [y'], rfl, y', [], rfl, rfl, ?_⟩
        generalize upd H' T' (.tup [x', y']) = H3 at s3
        refine ⟨rfl, ?_⟩
        unfold tYes
        dsimp only
        rw [if_pos rfl]
        obtain ⟨y2, hy2, he⟩ := paired_get hp hx
        rw [hy] at hy2
        obtain rfl := Option.some.inj hy2
        refine ⟨_, rfl, _, rfl, x', y', rfl, EqN.same (s1.trans (sm.trans s3)) he, fun H4 s4 => ⟨_, s4 _ _ (s3 _ _ hD), by rw [List.length_map, List.length_replicate, sizeLine_eq]; omega, ?_, fun b o q => by rw [upd_ne (ne_of_none q nDa)]; exact s4 _ _ (s3 _ _ (sm _ _ q))⟩⟩
        rw [upd_same, List.replicate_succ', List.map_append]
        rfl
      have fin : ∀ Da H', H' Da = some (.lst ((List.replicate xs.length true).map V.bl)) ∧ Same H1 H' → ∃ (a : Addr) (bs : List Bool), [V.ref Da] = [.ref a] ∧ SqL K H' a (bs.map V.bl) ∧ Q (.bl (bs.all id)) H' := fun Da H' ⟨hD, sm⟩ => by
        refine ⟨Da, _, rfl, SqL.of hD, ?_⟩
        rw [show (List.replicate xs.length true).all id = true from List.all_eq_true.mpr fun b hb => by rw [List.eq_of_mem_replicate hb]; rfl]
        exact k _ (s1.trans sm)
      have stp : ∀ {D : Addr → Hp → Prop}, True := trivial
      refine ⟨_, rfl, _, rfl, a, c, xs, ys, rfl, ?_⟩
      cases t with
      | true => 
        refine .inr ⟨SqT.of ha1, SqT.of hc1, fun Da nDa => ?_⟩
        obtain ⟨W, h0, h⟩ := walk (RZ.ItzT K a c) (fun i H' hi sm => ⟨xs, ys, xs.getD i .non, ys.getD i .non, SqT.of (sm _ _ ha1), SqT.of (sm _ _ hc1), getD_at hi, getD_at (by omega)⟩) (fun H' sm => ⟨xs, ys, SqT.of (sm _ _ ha1), SqT.of (sm _ _ hc1), .inl (Nat.le_refl _)⟩)
          (fun i H' x H'' sm yl => by obtain ⟨T', x', y', e1, e2, e3, e4, e5⟩ := yl; exact ⟨T', x', y', e1, e2, e3, e4 _ (SqT.of (sm _ _ ha1)), e5 _ (SqT.of (sm _ _ hc1))⟩) Da nDa
        exact ⟨W, h0, fun i m H' hw => (h i m H' hw).imp (fun ⟨q1, q2⟩ => ⟨q1, fin Da H' q2⟩) id⟩
      | false =>
        refine .inl ⟨SqL.of ha1, SqL.of hc1, fun Da nDa => ?_⟩
        obtain ⟨W, h0, h⟩ := walk (Itz K a c) (fun i H' hi sm => ⟨xs, ys, xs.getD i .non, ys.getD i .non, SqL.of (sm _ _ ha1), SqL.of (sm _ _ hc1), getD_at hi, getD_at (by omega)⟩) (fun H' sm => ⟨xs, ys, SqL.of (sm _ _ ha1), SqL.of (sm _ _ hc1), .inl (Nat.le_refl _)⟩)
          (fun i H' x H'' sm yl => by obtain ⟨T', x', y', e1, e2, e3, e4, e5⟩ := yl; exact ⟨T', x', y', e1, e2, e3, e4 _ (SqL.of (sm _ _ ha1)), e5 _ (SqL.of (sm _ _ hc1))⟩) Da nDa
        exact ⟨W, h0, fun i m H' hw => (h i m H' hw).imp (fun ⟨q1, q2⟩ => ⟨q1, fin Da H' q2⟩) id⟩
theorem c_same {f : Addr} {fd : FuncData} (F : Def K mg "_law_same" sSame f fd) (b : Binds K fd ["_law_found", "_law_due"] []) (T : Blt2 mg) : ∀ n : Nat, Cal P w K mg base (1 + n) "_law_same" (spSameN n) []
  | 0 => by
    have no : ∀ {vs H Q E}, spSameN 0 vs H Q E → False := fun ⟨_, _, _, h, _⟩ => h
    exact cal0 F b .nil scSame (fun vs H Q E h => (no h).elim) (fun cdv A outer s H vs Q E hr h => (no h).elim)
  | n + 1 => same_step F b T (c_same F b T n)
end
end K9

/-! e[:0:-1]: all but the first, from the back; of a list and of a tuple -/
namespace XR
open PySem PySem.Spec PySem.W PyProof.Rows L2
theorem back_range (n : Nat) : (List.range (n - 1)).map (fun k => n - 1 - k) = ((List.range (n - 1)).map (1 + ·)).reverse := by
  apply List.ext_getElem
  · simp
  · intro i h1 h2
    rw [List.getElem_map, List.getElem_reverse]
    simp at h1 ⊢
    omega
theorem fm_congr {α β : Type} {f g : α → Option β} : ∀ {l : List α}, (∀ m ∈ l, f m = g m) → l.filterMap f = l.filterMap g
  | [], _ => rfl
  | x :: l, h => by rw [List.filterMap_cons, List.filterMap_cons, h x List.mem_cons_self, fm_congr fun m hm => h m (List.mem_cons_of_mem _ hm)]
theorem back_pick {α : Type} (xs : Array α) : ((List.range (xs.size - 1)).map (fun k => xs.size - 1 - k)).filterMap (xs[·]?) = xs.toList.tail.reverse := by
  rw [back_range, List.filterMap_reverse, pick_run xs 1 (xs.size - 1), List.take_of_length_le (by simp), List.drop_one]
theorem back_bounds {n : Nat} (h : 0 < n) : sliceBounds none (some 0) (some (-1)) n = ((n : Int) - 1, 0, -1) := by
  have e : max (-1 : Int) (min 0 ((n : Int) - 1)) = 0 := by omega
  show ((n : Int) - 1, max (-1 : Int) (min (if (0 : Int) < 0 then 0 + (n : Int) else 0) ((n : Int) - 1)), (-1 : Int)) = _
  rw [if_neg (by decide), e]
theorem back_list {xs : Array Value} (h : 0 < xs.size) : slicePick xs none (some 0) (some (-1)) = xs.toList.tail.reverse.toArray := by
  have r : sliceRange ((xs.size : Int) - 1) 0 (-1) = (List.range (xs.size - 1)).map fun k => xs.size - 1 - k := by
    unfold sliceRange
    have n1 : ¬ ((-1 : Int) > 0) := by decide
    by_cases g : (xs.size : Int) - 1 > 0
    · have e : ((xs.size : Int) - 1 - 0 - -1 - 1) / (- -1) = ((xs.size - 1 : Nat) : Int) := by
        rw [show (- -1 : Int) = 1 by decide, Int.ediv_one]
        omega
      simp only [n1, if_false, g, if_true, e, Int.toNat_natCast]
      exact List.map_congr_left fun k hk => by have := List.mem_range.mp hk; omega
    · have e : xs.size - 1 = 0 := by omega
      simp only [n1, if_false, g, e]
      rfl
  unfold slicePick
  rw [back_bounds h]
  show ((sliceRange ((xs.size : Int) - 1) 0 (-1)).filterMap (xs[·]?)).toArray = _
  rw [r, back_pick]
section
variable {prog : Program} {w : World} {A : Around} {E : Value → Shared → Prop} {s : Shared}
theorem back_tuple {t sl : Addr} {xs : Array Value} {vl vu vs : Value} {Q : Value → Shared → Prop} (ht : IsTup s.heap t xs) (hs : s.heap.IsSliceOf sl vl vu vs) (pl : IsPart vl none) (pu : IsPart vu (some 0)) (ps : IsPart vs (some (-1))) (hn : 0 < xs.size) (hsz : xs.size ≤ sizeLine)
    (h : Q (.ref s.heap.objs.size) { s with heap := s.heap.push { cls := .type "tuple", data := .seq xs.toList.tail.reverse.toArray } }) : wpAny (model prog w) A (getItem (.ref t) (.ref sl)) Q E s := by
  have hz : sizeOk (.seq xs.toList.tail.reverse.toArray) := by show xs.toList.tail.reverse.toArray.size ≤ sizeLine; simp; omega
  obtain ⟨os, hos, hcs, hds⟩ := id hs
  unfold getItem
  try with_reducible refine wpAny_holding ?_
  first | refine wpAny_bind (wpAny_pure ?_) | skip
  refine wpAny_bind (wpAny_sequenceKey ht.typeIs (by decide) (wpAny_bind (wpAny_callSpecial?_slot (name := Str.ofString "__getitem__") ht.typeIs PyProof.Rows.slot_tuple_getitem (wpAny_call_entry PyProof.Rows.slot_tuple_getitem ht.typeIs entry_tuple_getitem ?_ (args_tuple_getitem _ _)))))
  show wpAny _ _ (Builtin.Tuple.tupleItemsOf (.ref t) >>= _) _ _ s
  refine wpAny_bind (tupleItemsOf_ ht (wpAny_bind (wpAny_typeOf (T := "slice") ⟨os, hos, hcs⟩ ?_)))
  rw [if_pos (by decide)]
  have app : ∀ {Q' : Int × Int × Nat → Shared → Prop} {A' : Around} {E' : Value → Shared → Prop}, Q' ((xs.size : Int) - 1, -1, xs.size - 1) s → wpAny (model prog w) A' (Builtin.Slice.sliceApplied (.ref sl) (pure (xs.size : Int))) Q' E' s := by
    intro Q' A' E' q
    unfold Builtin.Slice.sliceApplied Builtin.Slice.sliceFields
    refine wpAny_bind (wpAny_bind (wpAny_field hos hds (x := vl) rfl (wpAny_bind (wpAny_field hos hds (x := vu) rfl (wpAny_bind (wpAny_field hos hds (x := vs) rfl (wpAny_pure ?_)))))))
    refine wpAny_bind (HT.slicePart_ ps ?_)
    show wpAny _ _ (if ((-1 : Int) == 0) = true then _ else _) _ _ s
    rw [if_neg (by decide)]
    refine wpAny_bind (HT.slicePart_ pl (wpAny_bind (HT.slicePart_ pu (wpAny_bind (wpAny_pure ?_)))))
    have e1 : Builtin.Slice.sliceAdjust none (some 0) (-1) (xs.size : Int) = ((xs.size : Int) - 1, 0) := by
      have e : min (0 : Int) ((xs.size : Int) - 1) = 0 := by omega
      show ((xs.size : Int) - 1, (if (0 : Int) < 0 then max (0 + (xs.size : Int)) (-1) else min 0 ((xs.size : Int) - 1))) = _
      rw [if_neg (by decide), e]
    have e2 : Builtin.Slice.slicePlaces ((xs.size : Int) - 1) 0 (-1) = xs.size - 1 := by
      unfold Builtin.Slice.slicePlaces
      rw [if_neg (by decide)]
      by_cases g : (xs.size : Int) - 1 > 0
      · rw [if_pos g, show (- -1 : Int) = 1 by decide, Int.ediv_one]
        omega
      · rw [if_neg g]
        show (0 : Int).toNat = _
        omega
    show wpAny _ _ (match Builtin.Slice.sliceAdjust none (some 0) (-1) (xs.size : Int) with | (lo, hi) => pure (lo, (-1 : Int), Builtin.Slice.slicePlaces lo hi (-1))) _ _ s
    rw [e1]
    show wpAny _ _ (pure ((xs.size : Int) - 1, (-1 : Int), Builtin.Slice.slicePlaces ((xs.size : Int) - 1) 0 (-1))) _ _ s
    rw [e2]
    exact wpAny_pure q
  refine wpAny_bind (app ?_)
  show wpAny _ _ (if (((xs.size : Int) - 1) == 0 && (-1 : Int) == 1 && (xs.size - 1) == xs.size) = true then _ else _) _ _ s
  have hno : ¬ ((((xs.size : Int) - 1) == 0 && (-1 : Int) == 1 && (xs.size - 1) == xs.size) = true) := by
    intro q
    rw [Bool.and_eq_true, Bool.and_eq_true] at q
    exact absurd q.1.2 (by decide)
  rw [if_neg hno]
  have pk : ((List.range (xs.size - 1)).filterMap fun (m : Nat) => xs[(((xs.size : Int) - 1) + (m : Int) * (-1)).toNat]?).toArray = xs.toList.tail.reverse.toArray := by
    rw [← back_pick, List.filterMap_map]
    congr 1
    exact fm_congr fun m hm => by
      have := List.mem_range.mp hm
      have e : (((xs.size : Int) - 1) + (m : Int) * (-1)).toNat = xs.size - 1 - m := by omega
      show xs[(((xs.size : Int) - 1) + (m : Int) * (-1)).toNat]? = xs[xs.size - 1 - m]?
      rw [e]
  rw [pk]
  first
    | exact wpAny_bind (m := Builtin.Tuple.tupleExact _) (wpAny_newObj_type (wpAny_pure ⟨_, rfl, wpAny_pure h⟩) hz)
    | exact wpAny_bind (m := Builtin.Tuple.tupleExact _) (wpAny_newObj_type (wpAny_bind (wpAny_pure (wpAny_pure ⟨_, rfl, wpAny_pure h⟩))) hz)
    | exact wpAny_bind (wpAny_bind (m := Builtin.Tuple.tupleExact _) (wpAny_newObj_type (wpAny_pure (wpAny_pure ⟨_, rfl, wpAny_pure h⟩)) hz))
    | exact wpAny_bind (wpAny_bind (m := Builtin.Tuple.tupleExact _) (wpAny_newObj_type (wpAny_pure ⟨_, rfl, wpAny_pure h⟩) hz))
end
section
variable {X : Cx}
def tRev0 (K : PySem.W.Frag) (te : TE) : TE := fun σ H Q => te σ H fun x H1 => ∃ a xs, x = .ref a ∧ 0 < xs.length ∧ ((SqL K H1 a xs ∧ ∀ p, H1 p = none → Q (.ref p) (upd H1 p (.lst xs.tail.reverse))) ∨ (SqT K H1 a xs ∧ ∀ p, H1 p = none → Q (.ref p) (upd H1 p (.tup xs.tail.reverse))))
theorem vals_tail {xs : List V} {us : List Value} (h : Vals xs us) : Vals xs.tail us.tail := by
  cases h with
  | nil => exact .nil
  | cons _ t => exact t
theorem pe_rev0 {e : Expr} {te : TE} {k kz : Nat} {p0 p1 p2 p3 pos : Pos} (he : PE X e te) : PE X (.Subscript e (.Slice none (some (.Constant (.int 0) kz p0)) (some (.UnaryOp .USub (.Constant (.int 1) k p1) p2)) p3) pos) (tRev0 X.K te) := by
  refine ⟨fun pins s σ H Q I h => ?_⟩
  refine Subscript_ (thn (he.run pins s σ H _ I h) fun v s1 ⟨x, H1, I1, r1, q1⟩ => ?_)
  obtain ⟨a, xs, ex, hn, q⟩ := q1
  subst ex
  cases r1
  have hst : PO X (some (.UnaryOp .USub (.Constant (.int 1) k p1) p2)) (tPart (tUn (rU fun i => .int (-i)) (tC (.int 1)))) := po_some (pe_un un_neg pe_int)
  have hup : PO X (some (.Constant (.int 0) kz p0)) (tPart (tC (.int 0))) := po_some pe_int
  refine wpAny_Slice (thn (po_none.run pins s1 σ H1 (fun o H2 => o = none ∧ H2 = H1) I1 ⟨rfl, rfl⟩) fun vl s2 ⟨l, H2, I2, pl, el, e2⟩ => ?_)
  subst el e2
  refine thn (hup.run pins s2 σ H2 (fun o H3 => o = some 0 ∧ H3 = H2) I2 ⟨0, rfl, rfl, rfl⟩) fun vu s3 ⟨u, H3, I3, pu, eu, e3⟩ => ?_
  subst eu e3
  refine thn (hst.run pins s3 σ H3 (fun o H4 => o = some (-1) ∧ H4 = H3) I3 ⟨1, rfl, -1, rfl, rfl, rfl⟩) fun vs s4 ⟨o, H4, I4, ps, eo, e4⟩ => ?_
  subst eo e4
  have I5 : Inv X pins σ H4 { s4 with heap := s4.heap.push { cls := .type "slice", data := .fields #[vl, vu, vs] } } := I4.kept (t' := s4.toks) fun b ob q => Heap.get?_push_of_some _ q
  rcases q with ⟨hx, q⟩ | ⟨hx, q⟩
  · obtain ⟨its, r, ht, hz⟩ := I5.list hx
    have hlen := r.length
    show wpAny (model X.prog X.w) X.A (subscriptTail e (.Slice none (some (.Constant (.int 0) kz p0)) (some (.UnaryOp .USub (.Constant (.int 1) k p1) p2)) p3) (.ref a) (.ref s4.heap.objs.size)) (EP X pins σ Q) X.xe { s4 with heap := s4.heap.push { cls := .type "slice", data := .fields #[vl, vu, vs] } }
    refine tail_any (ops := [.ref a, .ref s4.heap.objs.size]) ht.isList.typeIs (PySem.slot_list_getitem.lookup) (wpAny_getItem_list_slice ht.isList (Heap.IsSliceOf.new _ vl vu vs) pl pu ps (by decide) ?_ (by rw [List.size_toArray]; omega)) (by with_unfolding_all rfl)
    rw [back_list (by rw [List.size_toArray]; omega)]
    refine ⟨.ref _, _, I5.laid (t' := s4.toks) (o := .lst xs.tail.reverse) (fun b ob q => Heap.get?_push_of_some _ q) (Nat.le_refl _) ?_, rfl, q _ (I5.hok.fresh (Nat.le_refl _))⟩
    exact ⟨by rw [List.length_reverse, List.length_tail]; omega, _, 0, (vals_tail r).reverse, Heap.get?_push_size _ rfl⟩
  · obtain ⟨its, r, ht, hz⟩ := I5.tuple hx
    have hlen := r.length
    show wpAny (model X.prog X.w) X.A (subscriptTail e (.Slice none (some (.Constant (.int 0) kz p0)) (some (.UnaryOp .USub (.Constant (.int 1) k p1) p2)) p3) (.ref a) (.ref s4.heap.objs.size)) (EP X pins σ Q) X.xe { s4 with heap := s4.heap.push { cls := .type "slice", data := .fields #[vl, vu, vs] } }
    refine tail_any (ops := [.ref a, .ref s4.heap.objs.size]) ht.typeIs (PyProof.Rows.slot_tuple_getitem.lookup) (back_tuple ht (Heap.IsSliceOf.new _ vl vu vs) pl pu ps (by rw [List.size_toArray]; omega) (by rw [List.size_toArray]; omega) ?_) (by with_unfolding_all rfl)
    refine ⟨.ref _, _, I5.laid (t' := s4.toks) (o := .tup xs.tail.reverse) (fun b ob q => Heap.get?_push_of_some _ q) (Nat.le_refl _) ?_, rfl, q _ (I5.hok.fresh (Nat.le_refl _))⟩
    exact ⟨by rw [List.length_reverse, List.length_tail]; omega, _, (vals_tail r).reverse, _, Heap.get?_push_size _ rfl, rfl, 0, rfl⟩
end
end XR

namespace K9
open PySem PySem.Spec PyProof.Rows L2 C8 XE XR
/-! is_hole, nodes_in_order -/
abbrev sHole : Stmt := top 11
abbrev sNodes : Stmt := top 12
def letters : Str := "abcdefghijklmnopqrstuvwxyz"
def wordS (z : Str) : Bool := decide (1 ≤ z.length) && (decide (z.length ≤ 8) && z.cps.toList.all fun c => decide (c ∈ letters.cps.toList))
mutual
/-- a shape: labels over shapes, holes -/
def isSh : D → Bool
  | .fl (.str z) => wordS z
  | .sq (.fl (.str z) :: cs) => wordS z && isShs cs
  | _ => false
def isShs : List D → Bool
  | [] => true
  | d :: ds => isSh d && isShs ds
end
mutual
/-- all nodes, in order -/
def nodesD : D → List D
  | .sq (x :: cs) => .sq (x :: cs) :: nodesDs cs
  | d => [d]
def nodesDs : List D → List D
  | [] => []
  | d :: ds => nodesD d ++ nodesDs ds
end
theorem isSh_inv {d : D} (h : isSh d = true) : (∃ z, d = .fl (.str z) ∧ wordS z = true) ∨ ∃ z cs, d = .sq (.fl (.str z) :: cs) ∧ wordS z = true ∧ isShs cs = true := by
  unfold isSh at h
  split at h
  · exact .inl ⟨_, rfl, h⟩
  · rw [Bool.and_eq_true] at h
    exact .inr ⟨_, _, rfl, h.1, h.2⟩
  · cases h
theorem isShs_mem : ∀ {ds : List D}, isShs ds = true → ∀ d ∈ ds, isSh d = true
  | [], _, d, h => by cases h
  | x :: ds, h, d, hd => by
    rw [isShs, Bool.and_eq_true] at h
    rcases List.mem_cons.mp hd with rfl | hd
    · exact h.1
    · exact isShs_mem h.2 d hd
theorem isShs_of : ∀ {ds : List D}, (∀ d ∈ ds, isSh d = true) → isShs ds = true
  | [], _ => rfl
  | x :: ds, h => by
    rw [isShs, h x List.mem_cons_self, isShs_of fun d hd => h d (List.mem_cons_of_mem _ hd)]
    rfl
theorem nodesDs_app : ∀ a b : List D, nodesDs (a ++ b) = nodesDs a ++ nodesDs b
  | [], b => rfl
  | x :: a, b => by rw [List.cons_append, nodesDs, nodesDs, nodesDs_app a b, List.append_assoc]
theorem nodes_pos (d : D) : 0 < (nodesD d).length := by
  cases d with
  | fl x => exact Nat.one_pos
  | emp => exact Nat.one_pos
  | sq xs =>
    cases xs with
    | nil => exact Nat.one_pos
    | cons x cs => rw [nodesD, List.length_cons]; omega
mutual
theorem nodes_sz : ∀ d : D, (nodesD d).length ≤ sz d
  | .fl _ => Nat.le_refl _
  | .emp => Nat.le_refl _
  | .sq [] => Nat.le_refl _
  | .sq (x :: cs) => by
    have := nodess_sz cs
    have := sz_pos x
    rw [nodesD, List.length_cons, sz, szs]
    omega
theorem nodess_sz : ∀ ds : List D, (nodesDs ds).length ≤ szs ds
  | [] => Nat.le_refl _
  | d :: ds => by
    have := nodes_sz d
    have := nodess_sz ds
    rw [nodesDs, List.length_append, szs]
    omega
end
theorem len_nodes : ∀ l : List D, l.length ≤ (nodesDs l).length
  | [] => Nat.le_refl _
  | c :: l => by
    have h1 := nodes_pos c
    have h2 := len_nodes l
    rw [nodesDs, List.length_append, List.length_cons]
    omega
theorem DAts.rev {F : Addr → Prop} {H : Hp} : ∀ {ds : List D} {vs : List V}, DAts F H vs ds → DAts F H vs.reverse ds.reverse
  | [], [], _ => trivial
  | d :: ds, v :: vs, ⟨k, t⟩ => by
    rw [List.reverse_cons, List.reverse_cons]
    exact DAts.app (DAts.rev t) ⟨k, trivial⟩
  | [], _ :: _, k => k.elim
  | _ :: _, [], k => k.elim
def spHole : Sp := fun vs H Q _ => ∃ (v : V) (d : D) (F : Addr → Prop), vs = [v] ∧ DAt F H v d ∧ Q (.bl (isSt d)) H
def spNodes : Sp := fun vs H Q _ => ∃ (v : V) (d : D) (F : Addr → Prop), vs = [v] ∧ DAt F H v d ∧ isSh d = true ∧ sz d ≤ 5000 ∧ ∀ p ws H', H p = none → Same H H' → H' p = some (.lst ws) → DAts F H ws (nodesD d) → Q (.ref p) H'
theorem scHole : FnScope ["node"] ["node"] (fnScope sHole) := fnScope_by (by decide +kernel)
abbrev NNo : List Str := ["shape", "found", "waiting", "node", "child"]
theorem scNodes : FnScope NNo ["shape"] (fnScope sNodes) := fnScope_by (by decide +kernel)
section
variable {P : Program} {w : World} {K : PySem.W.Frag} {mg : Str → Option Value} {base : Heap}
theorem c_hole {f : Addr} {fd : FuncData} (F : Def K mg "is_hole" sHole f fd) (b : Binds K fd ["node"] []) (T : Blt4 mg) : Cal P w K mg base 1 "is_hole" spHole [] := by
  refine cal0 F b .nil scHole (fun vs H Q E h => ?_) (fun cdv A outer s H vs Q E hr h => ?_)
  · obtain ⟨v, d, G, rfl, _⟩ := h
    rfl
  · obtain ⟨v, d, G, rfl, hv, k⟩ := h
    refine ⟨_, pss_one (ps_ret (pe_callB call_isi (by rfl) T.isi (by decide +kernel) (pa_cons (pv 0) (pa_cons (pe_bt "str" T.str) pa_nil)))), ?_⟩
    obtain ⟨Ty, ty, _, k2⟩ := d_ty (K := K) hv
    exact ⟨_, rfl, v, .ty "str", _, _, _, rfl, .ty _, ty H fun _ _ e => e, k2, k⟩
theorem c_nodes {f : Addr} {fd : FuncData} (F : Def K mg "nodes_in_order" sNodes f fd) (b : Binds K fd ["shape"] []) (T : Blt4 mg) (CH : Cal P w K mg base 1 "is_hole" spHole []) : Cal P w K mg base 2 "nodes_in_order" spNodes [] := by
  refine cal0 F b .nil scNodes (fun vs H Q E h => ?_) (fun cdv A outer s H vs Q E hr h => ?_)
  · obtain ⟨v, d, G, rfl, _⟩ := h
    rfl
  · obtain ⟨v, d, G, rfl, hv, hsh, hsz, k⟩ := h
    have nd := scNodes.nd
    refine ⟨_, pss_cons (ps_set (i := 1) nd rfl (Or.inl rfl) (pe_lst pa_nil))
      (pss_cons (ps_set (i := 2) nd rfl (Or.inl rfl) (pe_lst (pa_cons (pv 0) pa_nil)))
      (pss_cons (ps_while PassesOwn.never (pt_truth (pv 2) (by intro _; rfl))
        (pss_cons (ps_set (i := 3) nd rfl (Or.inl rfl) (pe_bm0 PySem.F.plainAttrs_list PySem.F.slot_list_pop PySem.F.type_list_pop mt_pop (pv 2)))
        (pss_cons (ps_expr (pe_bm PySem.F.plainAttrs_list PySem.F.slot_list_append PySem.F.type_list_append mt_append (pv 1) (pa_cons (pv 3) pa_nil)))
        (pss_one (ps_if (pt_not (pt_val (pe_c CH hr (by decide) (by rfl) (pa_cons (pv 3) pa_nil))))
          (pss_one (ps_for PassesOwn.never rfl (PI.or (pi_list (pe_rev0 (pv 3))) (pi_tup (pe_rev0 (pv 3)))) (pg_name (i := 4) nd rfl (Or.inl rfl))
            (pss_one (ps_expr (pe_bm PySem.F.plainAttrs_list PySem.F.slot_list_append PySem.F.type_list_append mt_append (pv 2) (pa_cons (pv 4) pa_nil))))))
          pss_nil)))))
      (pss_one (ps_ret (pv 1))))), ?_⟩
    refine ⟨(by show 0 ≤ sizeLine; decide), fun f1 nf => ⟨_, rfl, (by show 1 ≤ sizeLine; decide), fun w1 nw => ?_⟩⟩
    have fw : f1 ≠ w1 := ne_of_none upd_same nw
    have nwH : H w1 = none := by rw [upd_ne fw.symm] at nw; exact nw
    let Iv : Nat → L2.St → Hp → Prop := fun m σ H' => ∃ (v3 v4 : Option V) (wl fl : List V) (ds fs : List D), σ = [some v, some (.ref f1), some (.ref w1), v3, v4] ∧ m = (nodesDs ds.reverse).length ∧ H' f1 = some (.lst fl) ∧ H' w1 = some (.lst wl) ∧ Same H H' ∧ DAts G H fl fs ∧ DAts G H wl ds ∧ isShs ds = true ∧ fs ++ nodesDs ds.reverse = nodesD d
    refine ⟨Iv, ⟨_, none, none, [v], [], [d], [], rfl, rfl, by rw [upd_ne fw]; exact upd_same, upd_same, (same_upd nf).trans (same_upd nw), trivial, ⟨hv, trivial⟩, by rw [isShs, hsh]; rfl, by rw [List.nil_append]; show nodesD d ++ [] = _; rw [List.append_nil]⟩, ?_⟩
    rintro m σ H1 ⟨v3, v4, wl, fl, ds, fs, rfl, rfl, hf1, hw1, sm, hfs, hds, hss, heq⟩
    have hlen := hds.len
    have hfl := hfs.len
    have htot : fs.length + (nodesDs ds.reverse).length ≤ 5000 := by rw [← List.length_append, heq]; exact Nat.le_trans (nodes_sz d) hsz
    refine ⟨_, rfl, !wl.isEmpty, .inl ⟨wl, SqL.of hw1, rfl⟩, ?_⟩
    rcases List.eq_nil_or_concat ds with rfl | ⟨ds0, dl, rfl⟩
    · obtain rfl : wl = [] := List.length_eq_zero_iff.mp hlen
      refine iteBf rfl ⟨_, rfl, k f1 fl H1 nf sm hf1 ?_⟩
      have : fs = nodesD d := by rw [← heq]; show fs = fs ++ []; rw [List.append_nil]
      rw [← this]
      exact hfs
    · rw [List.concat_eq_append] at *
      rw [List.length_append] at hlen
      have hlen : wl.length = ds0.length + 1 := hlen
      obtain ⟨wl0, x, rfl⟩ : ∃ wl0 x, wl = wl0 ++ [x] := by
        rcases List.eq_nil_or_concat wl with rfl | ⟨a, x, e⟩
        · cases hlen
        · exact ⟨a, x, by rw [e, List.concat_eq_append]⟩
      have hl0 : wl0.length = ds0.length := by simpa using hlen
      have hd0 : DAts G H wl0 ds0 := by
        have := DAts.take ds0.length hds
        rw [List.take_left' hl0, List.take_left' rfl] at this
        exact this
      have hx : DAt G H x dl := by
        have := DAts.drop ds0.length hds
        rw [List.drop_left' hl0, List.drop_left' rfl] at this
        exact this.1
      have hshl := isShs_mem hss dl (List.mem_append_right _ (List.mem_singleton.mpr rfl))
      have hss0 : isShs ds0 = true := isShs_of fun q hq => isShs_mem hss q (List.mem_append_left _ hq)
      have hrev : (ds0 ++ [dl]).reverse = dl :: ds0.reverse := by rw [List.reverse_append]; rfl
      rw [hrev] at heq htot ⊢
      have hnd : nodesDs (dl :: ds0.reverse) = nodesD dl ++ nodesDs ds0.reverse := rfl
      rw [hnd] at heq htot ⊢
      rw [List.length_append] at htot
      have hnp := nodes_pos dl
      refine iteBt (by cases wl0 <;> rfl) ?_
      refine ⟨Iv ((nodesD dl ++ nodesDs ds0.reverse).length - 1), fun σ' H' hI => ⟨_, by rw [List.length_append]; omega, hI⟩, ?_⟩
      refine ⟨_, rfl, .inl ⟨rfl, _, SqL.of hw1⟩, w1, wl0 ++ [x], x, rfl, rfl, hw1, by simp, ?_⟩
      rw [List.dropLast_concat]
      have hf2 : (upd H1 w1 (.lst wl0)) f1 = some (.lst fl) := by rw [upd_ne fw]; exact hf1
      refine ⟨_, rfl, .inl ⟨rfl, _, SqL.of hf2⟩, _, rfl, f1, fl, x, rfl, rfl, hf2, by rw [hfl, sizeLine_eq]; omega, ?_⟩
      have hf3 : (upd (upd H1 w1 (.lst wl0)) f1 (.lst (fl ++ [x]))) f1 = some (.lst (fl ++ [x])) := upd_same
      have hw3 : (upd (upd H1 w1 (.lst wl0)) f1 (.lst (fl ++ [x]))) w1 = some (.lst wl0) := by rw [upd_ne fw.symm]; exact upd_same
      have s3 : Same H (upd (upd H1 w1 (.lst wl0)) f1 (.lst (fl ++ [x]))) := fun a o e => by rw [upd_ne (ne_of_none e nf), upd_ne (ne_of_none e nwH)]; exact sm _ _ e
      generalize upd (upd H1 w1 (.lst wl0)) f1 (.lst (fl ++ [x])) = H3 at hf3 hw3 s3
      refine ⟨_, rfl, x, dl, G, rfl, DAt.hold (.same s3) _ hx, isSt dl, rfl, ?_⟩
      have hfs3 : DAts G H (fl ++ [x]) (fs ++ [dl]) := DAts.app hfs ⟨hx, trivial⟩
      rcases isSh_inv hshl with ⟨z, rfl, _⟩ | ⟨z, cs, rfl, hwz, hcs⟩
      · refine iteBf rfl ?_
        exact ⟨some x, v4, wl0, fl ++ [x], ds0, fs ++ [.fl (.str z)], rfl, by simp [nodesD], hf3, hw3, s3, hfs3, hd0, hss0, by rw [← heq, List.append_assoc]; rfl⟩
      · refine iteBt rfl ?_
        obtain ⟨a, us, rfl, q, _, hus⟩ := hx
        match us, hus with
        | u :: us, ⟨hu, hus⟩ =>
          have hul := hus.len
          have heq3 : fs ++ [.sq (.fl (.str z) :: cs)] ++ nodesDs ((ds0 ++ cs.reverse).reverse) = nodesD d := by
            rw [← heq, List.reverse_append, List.reverse_reverse, nodesDs_app, List.append_assoc]
            rfl
          have hm3 : (nodesD (.sq (.fl (.str z) :: cs)) ++ nodesDs ds0.reverse).length - 1 = (nodesDs (ds0 ++ cs.reverse).reverse).length := by
            rw [List.reverse_append, List.reverse_reverse, nodesDs_app]
            show (_ :: (nodesDs cs ++ nodesDs ds0.reverse)).length - 1 = _
            rw [List.length_cons]
            omega
          have hcl := nodess_sz cs
          have hcz := len_nodes cs
          have hn1 : (nodesD (.sq (.fl (.str z) :: cs))).length = 1 + (nodesDs cs).length := by rw [nodesD, List.length_cons, Nat.add_comm]
          have hdl0 := len_nodes ds0.reverse
          rw [List.length_reverse] at hdl0
          have walk : ∀ (J : It) (H4 : Hp), Same H3 H4 → (∀ j H', j < us.reverse.length → (∀ b o, H4 b = some o → b ≠ w1 → H' b = some o) → J.go j H') → (∀ H', (∀ b o, H4 b = some o → b ≠ w1 → H' b = some o) → J.stop us.reverse.length H') → (∀ j H' x H'', (∀ b o, H4 b = some o → b ≠ w1 → H' b = some o) → J.yld j H' x H'' → H'' = H' ∧ us.reverse[j]? = some x) →
              ∃ W : Nat → Nat → L2.St → Hp → Prop, (∃ m, W 0 m [some v, some (.ref f1), some (.ref w1), some (.ref a), v4] H4) ∧ ∀ i m σ H, W i m σ H → (J.stop i H ∧ Iv ((nodesD (.sq (.fl (.str z) :: cs)) ++ nodesDs ds0.reverse).length - 1) σ H) ∨ (J.go i H ∧ ∃ N : L2.St → Hp → Prop, (∀ σ' H', N σ' H' → ∃ m', m' < m ∧ W (i + 1) m' σ' H') ∧
                ∀ x H', J.yld i H x H' → gName 4 x σ H' fun σ2 H2 => tDrop (tBM K "list" rAppend (tVar 2) (tCons (tVar 4) tNil)) { nx := N, rt := Q, bk := Iv ((nodesD (.sq (.fl (.str z) :: cs)) ++ nodesDs ds0.reverse).length - 1), ct := N } σ2 H2) := by
            intro J H4 s4 jgo jst jyl
            have hr : us.reverse.length = cs.length := by rw [List.length_reverse]; exact hul
            refine for_gen (J := J) (D := { nx := Iv ((nodesD (.sq (.fl (.str z) :: cs)) ++ nodesDs ds0.reverse).length - 1), rt := Q }) us.reverse.length (fun j σ H' => ∃ v4, σ = [some v, some (.ref f1), some (.ref w1), some (.ref a), v4] ∧ H' w1 = some (.lst (wl0 ++ us.reverse.take j)) ∧ ∀ b o, H4 b = some o → b ≠ w1 → H' b = some o)
              ⟨v4, rfl, by rw [List.take_zero, List.append_nil]; exact s4 _ _ hw3, fun b o e _ => e⟩ (fun j σ H' hj ⟨_, _, _, kp⟩ => jgo j H' hj kp) (fun σ H' ⟨_, _, _, kp⟩ => jst H' kp) ?_ ?_
            · rintro j σ H' y H'' hj ⟨v4, rfl, hw, kp⟩ yl
              obtain ⟨rfl, hy⟩ := jyl j H' y H'' kp yl
              obtain ⟨hlt, ey⟩ := List.getElem?_eq_some_iff.mp hy
              refine ⟨_, rfl, .inl ⟨rfl, _, SqL.of hw⟩, _, rfl, w1, _, y, rfl, rfl, hw, by rw [sizeLine_eq, List.length_append, List.length_take]; omega, some y, rfl, ?_, fun b o e n => by rw [upd_ne n]; exact kp b o e n⟩
              rw [upd_same, List.take_succ_eq_append_getElem hlt, ← List.append_assoc, ey]
            · rintro σ H' ⟨v4, rfl, hw, kp⟩
              rw [List.take_of_length_le (Nat.le_refl _)] at hw
              refine ⟨_, v4, _, _, ds0 ++ cs.reverse, _, rfl, hm3, kp _ _ (s4 _ _ hf3) fw, hw, fun b o e => kp b o (s4 _ _ (s3 _ _ e)) (ne_of_none e nwH), hfs3, DAts.app hd0 (DAts.rev hus), isShs_of fun q hq => ?_, heq3⟩
              rcases List.mem_append.mp hq with hq | hq
              · exact isShs_mem hss0 q hq
              · exact isShs_mem hcs q (List.mem_reverse.mp hq)
          have q3 : H3 a = some (.tup (u :: us)) ∨ H3 a = some (.lst (u :: us)) := q.imp (s3 _ _) (fun e => s3 _ _ e.2)
          rcases q3 with q3 | q3
          · refine .inr ⟨_, rfl, a, u :: us, rfl, Nat.succ_pos _, .inr ⟨SqT.of q3, fun p np => ⟨p, rfl, ⟨_, SqT.of upd_same⟩, ?_⟩⟩⟩
            have pw : p ≠ w1 := (ne_of_none hw3 np).symm
            exact walk (Itt K p) _ (same_upd np) (fun j H' hj kp => ⟨_, us.reverse.getD j .non, SqT.of (kp p _ upd_same pw), getD_at hj⟩) (fun H' kp => ⟨_, SqT.of (kp p _ upd_same pw), Nat.le_refl _⟩) (fun j H' x H'' kp yl => ⟨yl.1, yl.2 _ (SqT.of (kp p _ upd_same pw))⟩)
          · refine .inl ⟨_, rfl, a, u :: us, rfl, Nat.succ_pos _, .inl ⟨SqL.of q3, fun p np => ⟨p, rfl, ⟨_, SqL.of upd_same⟩, ?_⟩⟩⟩
            have pw : p ≠ w1 := (ne_of_none hw3 np).symm
            exact walk (Itl K p) _ (same_upd np) (fun j H' hj kp => ⟨_, us.reverse.getD j .non, SqL.of (kp p _ upd_same pw), getD_at hj⟩) (fun H' kp => ⟨_, SqL.of (kp p _ upd_same pw), Nat.le_refl _⟩) (fun j H' x H'' kp yl => ⟨yl.1, yl.2 _ (SqL.of (kp p _ upd_same pw))⟩)
        | [], hus => exact hus.elim
end
end K9

namespace K9
open PySem PySem.Spec PyProof.Rows L2 C8 XE XR SX
/-! node_text, text_of; what is built from the nodes, from the back -/
def stepG {α : Type} (leaf : Str → α) (node : Str → List α → α) (st : List α) : D → List α
  | .fl (.str z) => st ++ [leaf z]
  | .sq (.fl (.str z) :: cs) => st.take (st.length - cs.length) ++ [node z (st.drop (st.length - cs.length)).reverse]
  | _ => st
mutual
def valG {α : Type} (leaf : Str → α) (node : Str → List α → α) : D → List α
  | .fl (.str z) => [leaf z]
  | .sq (.fl (.str z) :: cs) => [node z (valGs leaf node cs)]
  | _ => []
def valGs {α : Type} (leaf : Str → α) (node : Str → List α → α) : List D → List α
  | [] => []
  | d :: ds => valG leaf node d ++ valGs leaf node ds
end
section
variable {α : Type} {leaf : Str → α} {node : Str → List α → α}
theorem valG_len : ∀ {d : D}, isSh d = true → (valG leaf node d).length = 1 := fun {d} h => by
  rcases isSh_inv h with ⟨z, rfl, _⟩ | ⟨z, cs, rfl, _, _⟩
  · simp [valG]
  · simp [valG]
theorem valGs_len : ∀ {ds : List D}, isShs ds = true → (valGs leaf node ds).length = ds.length
  | [], _ => rfl
  | d :: ds, h => by
    rw [isShs, Bool.and_eq_true] at h
    rw [valGs, List.length_append, valG_len h.1, valGs_len h.2, List.length_cons, Nat.add_comm]
mutual
theorem fold_g : ∀ (d : D) (st : List α), isSh d = true → (nodesD d).reverse.foldl (stepG leaf node) st = st ++ valG leaf node d
  | .fl x, st, h => by
    cases x with
    | str z => simp [nodesD, stepG, valG]
    | _ => cases h
  | .emp, st, h => by cases h
  | .sq [], st, h => by cases h
  | .sq (x :: cs), st, h => by
    rcases isSh_inv h with ⟨z, e, _⟩ | ⟨z, cs', e, _, hcs⟩
    · cases e
    · cases e
      rw [nodesD, List.reverse_cons, List.foldl_append, folds_g cs st hcs]
      show stepG leaf node (st ++ (valGs leaf node cs).reverse) (.sq (.fl (.str z) :: cs)) = _
      have hl : (st ++ (valGs leaf node cs).reverse).length - cs.length = st.length := by rw [List.length_append, List.length_reverse, valGs_len hcs]; omega
      unfold stepG
      dsimp only
      rw [hl, List.take_left' rfl, List.drop_left' rfl, List.reverse_reverse, valG]
theorem folds_g : ∀ (ds : List D) (st : List α), isShs ds = true → (nodesDs ds).reverse.foldl (stepG leaf node) st = st ++ (valGs leaf node ds).reverse
  | [], st, _ => by simp [nodesDs, valGs]
  | d :: ds, st, h => by
    rw [isShs, Bool.and_eq_true] at h
    have h1 := valG_len (leaf := leaf) (node := node) h.1
    rw [nodesDs, List.reverse_append, List.foldl_append, folds_g ds st h.2, fold_g d _ h.1, valGs, List.reverse_append, List.append_assoc]
    congr 2
    match valG leaf node d, h1 with
    | [a], _ => rfl
end
end
mutual
/-- behind a node stand those beneath it -/
theorem nodes_split : ∀ (d : D) {pre post : List D} {x : D} {cs : List D}, nodesD d = pre ++ .sq (x :: cs) :: post → ∃ rest, post = nodesDs cs ++ rest
  | .fl y, pre, post, x, cs, e => by
    have e : [D.fl y] = pre ++ .sq (x :: cs) :: post := by rw [← e]; simp [nodesD]
    cases pre with
    | nil => cases e
    | cons p pre => simp at e
  | .emp, pre, post, x, cs, e => by
    have e : [D.emp] = pre ++ .sq (x :: cs) :: post := by rw [← e]; simp [nodesD]
    cases pre with
    | nil => cases e
    | cons p pre => simp at e
  | .sq [], pre, post, x, cs, e => by
    have e : [D.sq []] = pre ++ .sq (x :: cs) :: post := by rw [← e]; simp [nodesD]
    cases pre with
    | nil => cases e
    | cons p pre => simp at e
  | .sq (y :: es), pre, post, x, cs, e => by
    rw [nodesD] at e
    cases pre with
    | nil =>
      injection e with e1 e2
      injection e1 with e1
      injection e1 with e1 e3
      subst e3
      exact ⟨[], by rw [List.append_nil]; exact e2.symm⟩
    | cons p pre =>
      injection e with _ e2
      exact nodess_split es e2
theorem nodess_split : ∀ (ds : List D) {pre post : List D} {x : D} {cs : List D}, nodesDs ds = pre ++ .sq (x :: cs) :: post → ∃ rest, post = nodesDs cs ++ rest
  | [], pre, post, x, cs, e => by
    have e : [] = pre ++ .sq (x :: cs) :: post := by rw [← e]; simp [nodesDs]
    cases pre <;> cases e
  | d :: ds, pre, post, x, cs, e => by
    rw [nodesDs] at e
    rcases List.append_eq_append_iff.mp e with ⟨a, e1, e2⟩ | ⟨c, e1, e2⟩
    · exact nodess_split ds e2
    · cases c with
      | nil =>
        rw [List.nil_append] at e2
        exact nodess_split ds (pre := []) e2.symm
      | cons c0 c =>
        injection e2 with e3 e4
        subst e3
        obtain ⟨rest, e5⟩ := nodes_split d e1
        exact ⟨rest ++ nodesDs ds, by rw [e4, e5]; exact List.append_assoc _ _ _⟩
end
theorem isSh_nodes : ∀ {d : D}, isSh d = true → ∀ n ∈ nodesD d, isSh n = true := by
  have go : ∀ n : Nat, (∀ d : D, sz d ≤ n → isSh d = true → ∀ m ∈ nodesD d, isSh m = true) ∧ ∀ ds : List D, szs ds ≤ n → isShs ds = true → ∀ m ∈ nodesDs ds, isSh m = true := by
    intro n
    induction n with
    | zero =>
      refine ⟨fun d h => by have := sz_pos d; omega, fun ds h _ m hm => ?_⟩
      cases ds with
      | nil => cases hm
      | cons d ds => rw [szs] at h; have := sz_pos d; omega
    | succ n ih =>
      have one : ∀ d : D, sz d ≤ n + 1 → isSh d = true → ∀ m ∈ nodesD d, isSh m = true := fun d h hs m hm => by
        rcases isSh_inv hs with ⟨z, rfl, hz⟩ | ⟨z, cs, rfl, _, hcs⟩
        · have : m = .fl (.str z) := by simpa [nodesD] using hm
          rw [this]; exact hs
        · rw [nodesD] at hm
          rcases List.mem_cons.mp hm with rfl | hm
          · exact hs
          · rw [sz, szs] at h
            have := sz_pos (.fl (.str z))
            exact ih.2 cs (by omega) hcs m hm
      refine ⟨one, fun ds => ?_⟩
      induction ds with
      | nil => intro _ _ m hm; cases hm
      | cons d ds ihd =>
        intro h hs m hm
        rw [isShs, Bool.and_eq_true] at hs
        rw [szs] at h
        rw [nodesDs] at hm
        rcases List.mem_append.mp hm with hm | hm
        · exact one d (by omega) hs.1 m hm
        · exact ihd (by omega) hs.2 m hm
  exact fun {d} h n hn => (go (sz d)).1 d (Nat.le_refl _) h n hn
/-- at each node the stack is high enough -/
theorem stack_high {α : Type} {leaf : Str → α} {node : Str → List α → α} {d : D} (h : isSh d = true) {j : Nat} {x : D} {cs : List D} (hj : (nodesD d).reverse[j]? = some (.sq (x :: cs))) : cs.length ≤ (((nodesD d).reverse.take j).foldl (stepG leaf node) []).length := by
  obtain ⟨hlt, e⟩ := List.getElem?_eq_some_iff.mp hj
  have e1 : (nodesD d).reverse = (nodesD d).reverse.take j ++ .sq (x :: cs) :: (nodesD d).reverse.drop (j + 1) := by
    rw [← e, List.getElem_cons_drop, List.take_append_drop]
  have e2 := congrArg List.reverse e1
  rw [List.reverse_reverse, List.reverse_append, List.reverse_cons, List.append_assoc] at e2
  obtain ⟨rest, e3⟩ := nodes_split d e2
  have hn := isSh_nodes h (.sq (x :: cs)) (by rw [e2]; simp)
  have hcs : isShs cs = true := by
    rcases isSh_inv hn with ⟨z, e, _⟩ | ⟨z, cs', e, _, hcs⟩
    · cases e
    · cases e; exact hcs
  have e3 : ((nodesD d).reverse.take j).reverse = nodesDs cs ++ rest := e3
  have e4 : (nodesD d).reverse.take j = rest.reverse ++ (nodesDs cs).reverse := by rw [← List.reverse_append, ← e3, List.reverse_reverse]
  rw [e4, List.foldl_append, folds_g cs _ hcs, List.length_append, List.length_reverse, valGs_len hcs]
  omega
end K9

/-! xs.count(x) of flat data: a number from 0 to len(xs) -/
namespace XR
open PySem PySem.Spec PySem.W PyProof.Rows L2
section
variable {X : Cx}
def rCntF (K : PySem.W.Frag) : V → List V → Hp → VK → Prop := fun x xs H Q => ∃ (p : Addr) (ys : List V) (y : V), x = .ref p ∧ xs = [y] ∧ SqL K H p ys ∧ flatV y = true ∧ ys.all flatV = true ∧ ∀ c : Int, 0 ≤ c → c ≤ ys.length → Q (.int c) H
theorem mt_lcountF : MtR X "list.count" (rCntF X.K) := by
  intro pins s σ H x xs v us Q I rx rxs h
  obtain ⟨a, ys, y, rfl, rfl, hs, fy, fys, q⟩ := h
  cases rx
  cases rxs with
  | cons ry rt =>
    rename_i uy ut
    cases rt
    obtain ⟨its, rv, ⟨⟨cls, dd, data, sl⟩, n, ho, hc, hdn, hd⟩, hlen⟩ := I.list hs
    simp only at hc hd
    subst hc hd
    have hvl := rv.length
    refine call_meets PySem.F.slot_list_count ⟨_, ho, rfl⟩ PySem.F.entry_list_count (PySem.F.args_list_count_2 _ _)
      (SeqAt.list_countAt a its.toArray n dd sl uy (eqU y)) ⟨ho, fun u' hu' => mem_eqAt ry fy rv fys u' (by simpa using hu'), ?_⟩
    have hle : its.toArray.toList.countP (eqU y) ≤ ys.length := by
      have := List.countP_le_length (p := eqU y) (l := its)
      simp only [List.toList_toArray] at *
      omega
    refine ⟨.int (its.toArray.toList.countP (eqU y) : Nat), H, I.tok _, ⟨s.toks, rfl⟩, q _ (Int.natCast_nonneg _) (by omega)⟩
end
end XR

namespace K9
open PySem PySem.Spec PyProof.Rows L2 C8 XE XR
/-! filled, as_tuples, size -/
abbrev sFilled : Stmt := top 13
abbrev sAsT : Stmt := top 14
mutual
theorem DAt.off {F : Addr → Prop} {H : Hp} {p : Addr} (n : H p = none) : ∀ (d : D) {v : V}, DAt F H v d → DAt (fun a => F a ∧ a ≠ p) H v d
  | .fl x, _, e => e
  | .emp, _, e => e
  | .sq xs, _, ⟨a, vs, e, q, o, k⟩ => ⟨a, vs, e, q.imp id fun ⟨f, q⟩ => ⟨⟨f, ne_of_none q n⟩, q⟩, o, DAts.off n xs k⟩
theorem DAts.off {F : Addr → Prop} {H : Hp} {p : Addr} (n : H p = none) : ∀ (ds : List D) {vs : List V}, DAts F H vs ds → DAts (fun a => F a ∧ a ≠ p) H vs ds
  | [], [], _ => trivial
  | d :: ds, v :: vs, ⟨k, t⟩ => ⟨DAt.off n d k, DAts.off n ds t⟩
  | [], _ :: _, k => k
  | _ :: _, [], k => k
end
theorem Hold.but1 {F : Addr → Prop} {H H' : Hp} {p : Addr} {xs : List V} (hp : H p = some (.lst xs)) (b : But p H H') (hF : ∀ a, F a → a ≠ p) : Hold F H H' :=
  ⟨fun a _ e => b _ _ e (ne_of e hp (by intro z; cases z)), fun a e => b _ _ e (ne_of e hp (by intro z; cases z)), fun a _ g e => b _ _ e (hF a g)⟩

def ndD (z : Str) (cs : List D) : D := .sq (.fl (.str z) :: cs)
def sub (f : Str → D) (d : D) : D := (valG f ndD d).headD .emp
theorem sub_fl (f : Str → D) (z : Str) : sub f (.fl (.str z)) = f z := by unfold sub; rw [valG]; rfl
theorem valGs_sub {f : Str → D} : ∀ {cs : List D}, isShs cs = true → valGs f ndD cs = cs.map (sub f)
  | [], _ => rfl
  | c :: cs, h => by
    rw [isShs, Bool.and_eq_true] at h
    have h1 := valG_len (leaf := f) (node := ndD) h.1
    rw [valGs, valGs_sub h.2, List.map_cons]
    unfold sub
    match valG f ndD c, h1 with
    | [t], _ => rfl
theorem sub_sq {f : Str → D} {z : Str} {cs : List D} (h : isShs cs = true) : sub f (.sq (.fl (.str z) :: cs)) = .sq (.fl (.str z) :: cs.map (sub f)) := by
  rw [← valGs_sub h]
  unfold sub
  rw [valG]
  rfl
theorem sub_idN : ∀ (n : Nat) (d : D), sz d ≤ n → isSh d = true → sub (fun z => .fl (.str z)) d = d
  | 0, d, h, _ => by have := sz_pos d; omega
  | n + 1, d, hn, h => by
    rcases isSh_inv h with ⟨z, rfl, _⟩ | ⟨z, cs, rfl, _, hcs⟩
    · exact sub_fl _ z
    · have hsc : sz (.sq (.fl (.str z) :: cs)) = 2 + szs cs := by rw [sz, szs, sz]; omega
      rw [sub_sq hcs]
      have : cs.map (sub fun z => .fl (.str z)) = cs := by
        conv => rhs; rw [← List.map_id cs]
        refine List.map_congr_left fun c hc => ?_
        obtain ⟨i, hi⟩ := List.getElem?_of_mem hc
        have := szs_get hi
        exact sub_idN n c (by omega) (isShs_mem hcs c hc)
      rw [this]
theorem step_len {α : Type} {leaf : Str → α} {node : Str → List α → α} (st : List α) (n : D) : (stepG leaf node st n).length ≤ st.length + 1 := by
  unfold stepG
  split
  · simp
  · rw [List.length_append, List.length_take, List.length_singleton]; omega
  · omega
theorem fold_len {α : Type} {leaf : Str → α} {node : Str → List α → α} : ∀ (ns : List D) (st : List α), (ns.foldl (stepG leaf node) st).length ≤ st.length + ns.length
  | [], st => Nat.le_refl _
  | n :: ns, st => by
    have h1 := fold_len (leaf := leaf) (node := node) ns (stepG leaf node st n)
    have h2 := step_len (leaf := leaf) (node := node) st n
    rw [List.foldl_cons, List.length_cons]
    omega
def spFilled : Sp := fun vs H Q _ => ∃ (v : V) (d : D) (F : Addr → Prop) (c : Addr) (kvs : List (Key × V)) (g : Str → D), vs = [v, .ref c] ∧ DAt F H v d ∧ isSh d = true ∧ sz d ≤ 5000 ∧ H c = some (.dK kvs) ∧
  (∀ z, wordS z = true → DAt nol H ((valV kvs (.inr z)).getD (.str z)) (g z)) ∧ ∀ v' H', Same H H' → DAt nol H' v' (sub g d) → Q v' H'
def spAsT : Sp := fun vs H Q _ => ∃ (v : V) (d : D) (F : Addr → Prop), vs = [v] ∧ DAt F H v d ∧ isSh d = true ∧ sz d ≤ 5000 ∧ ∀ v' H', Same H H' → DAt nol H' v' d → Q v' H'
abbrev NFi : List Str := ["shape", "contents", "made", "node", "children", "_"]
theorem scFilled : FnScope NFi ["shape", "contents"] (fnScope sFilled) := fnScope_by (by decide +kernel)
theorem scAsT : FnScope ["shape"] ["shape"] (fnScope sAsT) := fnScope_by (by decide +kernel)
section
variable {P : Program} {w : World} {K : PySem.W.Frag} {mg : Str → Option Value} {base : Heap}
theorem c_filled {f : Addr} {fd : FuncData} (F : Def K mg "filled" sFilled f fd) (b : Binds K fd ["shape", "contents"] []) (T : Blt4 mg) (CN : Cal P w K mg base 2 "nodes_in_order" spNodes []) (CH : Cal P w K mg base 1 "is_hole" spHole []) : Cal P w K mg base 3 "filled" spFilled [] := by
  refine cal0 F b .nil scFilled (fun vs H Q E h => ?_) (fun cdv A outer s H vs Q E hr h => ?_)
  · obtain ⟨v, d, G, c, kvs, g, rfl, _⟩ := h
    rfl
  · obtain ⟨v, d, G, c, kvs, g, rfl, hv, hsh, hsz, hc, hg, k⟩ := h
    have nd := scFilled.nd
    have hu1 : (A.deeper (envOfC "filled" (fnScope sFilled) s.heap.objs.size f cdv)).units + 1 < cLine := by have := hr.un; omega
    refine ⟨_, pss_cons (ps_set (i := 2) nd rfl (Or.inl rfl) (pe_lst pa_nil))
      (pss_cons (ps_for PassesOwn.never rfl (pi_list (pe_revL (pe_c CN hr (by decide) (by rfl) (pa_cons (pv 0) pa_nil)))) (pg_name (i := 3) nd rfl (Or.inl rfl))
        (pss_one (ps_if (pt_val (pe_c CH hr (by decide) (by rfl) (pa_cons (pv 3) pa_nil)))
          (pss_one (ps_expr (pe_bm PySem.F.plainAttrs_list PySem.F.slot_list_append PySem.F.type_list_append mt_append (pv 2) (pa_cons (pe_dget2 hu1 (pv 1) (pv 3) (pv 3) ⟨rfl, rfl, rfl, rfl⟩) pa_nil))))
          (pss_cons (ps_set (i := 4) nd rfl (Or.inl rfl) (pe_lst pa_nil))
          (pss_cut (ps_for PassesOwn.never rfl (PI.or (pi_list (pe_slice sl_list (pv 3) (po_some pe_int) po_none)) (pi_tup (pe_slice sl_tup (pv 3) (po_some pe_int) po_none))) (pg_name (i := 5) nd rfl (Or.inl rfl))
            (pss_one (ps_expr (pe_bm PySem.F.plainAttrs_list PySem.F.slot_list_append PySem.F.type_list_append mt_append (pv 4) (pa_cons (pe_bm0 PySem.F.plainAttrs_list PySem.F.slot_list_pop PySem.F.type_list_pop mt_pop (pv 2)) pa_nil)))))
          (pss_one (ps_expr (pe_bm PySem.F.plainAttrs_list PySem.F.slot_list_append PySem.F.type_list_append mt_append (pv 2) (pa_cons (pe_tup (pa_cons (pe_ix ix_seq (pv 3) pe_int fun _ _ => rfl) (StX.pa_star (pv 4) pa_nil))) pa_nil)))))))))
      (pss_one (ps_ret (pe_ix ix_list (pv 2) pe_int fun _ _ => rfl)))), ?_⟩
    have hsl := sizeLine_eq
    refine ⟨(by show 0 ≤ sizeLine; decide), fun m1 nm => ?_⟩
    have s0 : Same H (upd H m1 (.lst [])) := same_upd nm
    have hv0 : DAt (fun a => G a ∧ a ≠ m1) (upd H m1 (.lst [])) v d := DAt.hold (.same s0) _ (DAt.off nm _ hv)
    have hm0 : (upd H m1 (.lst [])) m1 = some (.lst []) := upd_same
    have cm : c ≠ m1 := ne_of_none hc nm
    generalize upd H m1 (.lst []) = H0 at s0 hv0 hm0
    refine ⟨_, rfl, v, d, _, rfl, hv0, hsh, hsz, fun p ws H1 np s1 hp hws => ⟨p, ws, rfl, SqL.of hp, fun q nq => ⟨q, rfl, ⟨_, SqL.of upd_same⟩, ?_⟩⟩⟩
    have s2 : Same H0 (upd H1 q (.lst ws.reverse)) := s1.trans (same_upd nq)
    have hq2 : (upd H1 q (.lst ws.reverse)) q = some (.lst ws.reverse) := upd_same
    have hm2 := s2 _ _ hm0
    have qm : q ≠ m1 := (ne_of_none (s1 _ _ hm0) nq).symm
    generalize upd H1 q (.lst ws.reverse) = H2 at s2 hq2 hm2
    have hc2 := s2 _ _ (s0 _ _ hc)
    have hws2 : DAts (fun a => G a ∧ a ≠ m1) H2 ws.reverse (nodesD d).reverse := DAts.hold (.same s2) _ (DAts.rev hws)
    have hwl := hws2.len
    have hnl : (nodesD d).reverse.length ≤ 5000 := by rw [List.length_reverse]; exact Nat.le_trans (nodes_sz d) hsz
    have hnsh : ∀ n ∈ (nodesD d).reverse, isSh n = true := fun n hn => isSh_nodes hsh n (List.mem_reverse.mp hn)
    refine for_gen (J := Itl K q) (nodesD d).reverse.length (fun j σ H' => ∃ v3 v4 v5 ls, σ = [some v, some (.ref c), some (.ref m1), v3, v4, v5] ∧ H' m1 = some (.lst ls) ∧ DAts nol H' ls (((nodesD d).reverse.take j).foldl (stepG g ndD) []) ∧ But m1 H2 H') ⟨_, _, _, [], rfl, hm2, trivial, .refl⟩
      (fun j σ H' hj ⟨_, _, _, _, _, _, _, b⟩ => ⟨_, ws.reverse.getD j .non, SqL.of (b _ _ hq2 qm), getD_at (by omega)⟩) (fun σ H' ⟨_, _, _, _, _, _, _, b⟩ => ⟨_, SqL.of (b _ _ hq2 qm), by omega⟩) ?_ ?_
    · rintro j σ H3 x H3' hj ⟨v3, v4, v5, ls, rfl, hm, hls, b⟩ ⟨rfl, hx⟩
      have hx := hx _ (SqL.of (b _ _ hq2 qm))
      obtain ⟨n, hn, hxn⟩ := hws2.get hx
      have hxn := DAt.hold (.but1 hm2 b fun a g => g.2) _ hxn
      obtain ⟨hlt, en⟩ := List.getElem?_eq_some_iff.mp hn
      have hnS := hnsh n (by rw [← en]; exact List.getElem_mem hlt)
      have hst : ((nodesD d).reverse.take (j + 1)).foldl (stepG g ndD) [] = stepG g ndD (((nodesD d).reverse.take j).foldl (stepG g ndD) []) n := by
        rw [List.take_succ_eq_append_getElem hlt, List.foldl_append, en]
        rfl
      have hfl := fold_len (leaf := g) (node := ndD) ((nodesD d).reverse.take j) []
      rw [List.length_take, List.length_nil] at hfl
      have hhigh : ∀ z cs, n = .sq (.fl (.str z) :: cs) → cs.length ≤ (((nodesD d).reverse.take j).foldl (stepG g ndD) []).length := fun z cs e => stack_high hsh (by rw [hn, e])
      rw [hst]
      generalize ((nodesD d).reverse.take j).foldl (stepG g ndD) [] = st at hls hhigh hfl
      have hll := hls.len
      have hcn := b _ _ hc2 cm
      refine ⟨_, rfl, x, n, _, rfl, hxn, isSt n, rfl, ?_⟩
      rcases isSh_inv hnS with ⟨z, rfl, hz⟩ | ⟨z, cs, rfl, hz, hcs⟩
      · obtain ⟨rfl, _⟩ := hxn
        have hgz : DAt nol H3' ((valV kvs (.inr z)).getD (.str z)) (g z) := DAt.hold (.but1 hm2 b fun _ h => h.elim) _ (DAt.hold (.same (s0.trans s2)) _ (hg z hz))
        refine iteBt rfl ⟨_, rfl, .inl ⟨rfl, _, SqL.of hm⟩, _, rfl, c, rfl, .inl ⟨kvs, .inl hcn⟩, _, rfl, _, rfl, _, DGet.k (k := .inr z) hcn, m1, ls, _, rfl, rfl, hm, by omega, _, v4, v5, _, rfl, upd_same, ?_, fun c o e n => by rw [upd_ne n]; exact b _ _ e n⟩
        have h10 : Hold nol H3' (upd H3' m1 (.lst (ls ++ [(valV kvs (.inr z)).getD (.str z)]))) := .but1 hm (fun b o e n => by rw [upd_ne n]; exact e) fun _ h => h.elim
        exact DAts.app (DAts.hold h10 _ hls) ⟨DAt.hold h10 _ hgz, trivial⟩
      · refine iteBf rfl ⟨(by show 0 ≤ sizeLine; decide), fun t1 nt => ?_⟩
        have hcl := hhigh z cs rfl
        obtain ⟨a, us, rfl, qa, _, hus⟩ := hxn
        match us, hus with
        | [], hus => exact hus.elim
        | u :: us, ⟨hu, hus⟩ =>
          obtain ⟨rfl, _⟩ := hu
          have hul := hus.len
          have tm : t1 ≠ m1 := (ne_of_none hm nt).symm
          have sA : Same H3' (upd H3' t1 (.lst [])) := same_upd nt
          have htA : (upd H3' t1 (.lst [])) t1 = some (.lst []) := upd_same
          generalize upd H3' t1 (.lst []) = H4 at sA htA
          have hm4 := sA _ _ hm
          refine ⟨fun σ H' => ∃ v5, σ = [some v, some (.ref c), some (.ref m1), some (.ref a), some (.ref t1), v5] ∧ H' m1 = some (.lst (ls.take (ls.length - cs.length))) ∧ H' t1 = some (.lst (ls.drop (ls.length - cs.length)).reverse) ∧ (∀ c o, H4 c = some o → c ≠ m1 → c ≠ t1 → H' c = some o), ?_, ?_⟩
          · have walk : ∀ (J : It) (H5 : Hp), Same H4 H5 → (∀ j H', j < us.length → (∀ c o, H5 c = some o → c ≠ m1 → c ≠ t1 → H' c = some o) → J.go j H') → (∀ H', (∀ c o, H5 c = some o → c ≠ m1 → c ≠ t1 → H' c = some o) → J.stop us.length H') → (∀ j H' x H'', (∀ c o, H5 c = some o → c ≠ m1 → c ≠ t1 → H' c = some o) → J.yld j H' x H'' → H'' = H') →
                ∃ W : Nat → Nat → L2.St → Hp → Prop, (∃ m, W 0 m [some v, some (.ref c), some (.ref m1), some (.ref a), some (.ref t1), v5] H5) ∧ ∀ i m σ H, W i m σ H → (J.stop i H ∧ ∃ v5, σ = [some v, some (.ref c), some (.ref m1), some (.ref a), some (.ref t1), v5] ∧ H m1 = some (.lst (ls.take (ls.length - cs.length))) ∧ H t1 = some (.lst (ls.drop (ls.length - cs.length)).reverse) ∧ (∀ c o, H4 c = some o → c ≠ m1 → c ≠ t1 → H c = some o)) ∨ (J.go i H ∧ ∃ N : L2.St → Hp → Prop, (∀ σ' H', N σ' H' → ∃ m', m' < m ∧ W (i + 1) m' σ' H') ∧
                  ∀ x H', J.yld i H x H' → gName 5 x σ H' fun σ2 H2 => tDrop (tBM K "list" rAppend (tVar 4) (tCons (tBM0 K "list" rPop (tVar 2)) tNil)) { nx := N, rt := Q, bk := fun σ H' => ∃ v5, σ = [some v, some (.ref c), some (.ref m1), some (.ref a), some (.ref t1), v5] ∧ H' m1 = some (.lst (ls.take (ls.length - cs.length))) ∧ H' t1 = some (.lst (ls.drop (ls.length - cs.length)).reverse) ∧ (∀ c o, H4 c = some o → c ≠ m1 → c ≠ t1 → H' c = some o), ct := N } σ2 H2) := by
              intro J H5 s5 jgo jst jyl
              refine for_gen (J := J) (D := { nx := fun σ H' => ∃ v5, σ = [some v, some (.ref c), some (.ref m1), some (.ref a), some (.ref t1), v5] ∧ H' m1 = some (.lst (ls.take (ls.length - cs.length))) ∧ H' t1 = some (.lst (ls.drop (ls.length - cs.length)).reverse) ∧ (∀ c o, H4 c = some o → c ≠ m1 → c ≠ t1 → H' c = some o), rt := Q }) us.length
                (fun i σ H' => ∃ v5, σ = [some v, some (.ref c), some (.ref m1), some (.ref a), some (.ref t1), v5] ∧ H' m1 = some (.lst (ls.take (ls.length - i))) ∧ H' t1 = some (.lst (ls.drop (ls.length - i)).reverse) ∧ (∀ c o, H5 c = some o → c ≠ m1 → c ≠ t1 → H' c = some o))
                ⟨v5, rfl, by rw [Nat.sub_zero, List.take_length]; exact s5 _ _ hm4, by rw [Nat.sub_zero, List.drop_length]; exact s5 _ _ htA, fun c o e _ _ => e⟩ (fun i σ H' hi ⟨_, _, _, _, kp⟩ => jgo i H' hi kp) (fun σ H' ⟨_, _, _, _, kp⟩ => jst H' kp) ?_ ?_
              · rintro i σ H' y H'' hi ⟨v5, rfl, h1, h2, kp⟩ yl
                obtain rfl := jyl i H' y H'' kp yl
                have hlt2 : ls.length - i - 1 < ls.length := by omega
                have e1 : ls.take (ls.length - i) = ls.take (ls.length - (i + 1)) ++ [ls[ls.length - i - 1]] := by
                  have e0 := List.take_succ_eq_append_getElem hlt2
                  rw [show ls.length - i - 1 + 1 = ls.length - i by omega] at e0
                  exact e0
                have e2 : ls.drop (ls.length - (i + 1)) = ls[ls.length - i - 1] :: ls.drop (ls.length - i) := by
                  have : ls.length - (i + 1) = ls.length - i - 1 := by omega
                  rw [this, List.drop_eq_getElem_cons hlt2]
                  congr 2
                  omega
                refine ⟨_, rfl, .inl ⟨rfl, _, SqL.of h2⟩, _, rfl, .inl ⟨rfl, _, SqL.of h1⟩, m1, _, ls[ls.length - i - 1], rfl, rfl, h1, ?_, ?_⟩
                · rw [e1, List.length_append]
                  simp
                · refine ⟨t1, _, _, rfl, rfl, by rw [upd_ne tm]; exact h2, by rw [List.length_reverse, List.length_drop]; omega, _, rfl, ?_, ?_, fun c o e n1 n2 => by rw [upd_ne n2, upd_ne n1]; exact kp c o e n1 n2⟩
                  · rw [upd_ne tm.symm, upd_same, e1]
                    congr 2
                    simp
                  · rw [upd_same, e2, List.reverse_cons]
              · rintro σ H' ⟨v5, rfl, h1, h2, kp⟩
                rw [hul] at h1 h2
                exact ⟨v5, rfl, h1, h2, fun c o e n1 n2 => kp c o (s5 _ _ e) n1 n2⟩
            have qa4 : H4 a = some (.tup (.str z :: us)) ∨ H4 a = some (.lst (.str z :: us)) := qa.imp (sA _ _) fun e => sA _ _ e.2
            rcases qa4 with qa4 | qa4
            · refine .inr ⟨_, rfl, 1, rfl, a, _, rfl, SqT.of qa4, not_whole (by decide) (by simp), fun p3 n3 => ?_⟩
              rw [cutFrom (by decide)]
              have e3 : (V.str z :: us).drop (1 : Int).toNat = us := rfl
              rw [e3]
              refine ⟨p3, rfl, ⟨_, SqT.of upd_same⟩, ?_⟩
              have pm : p3 ≠ m1 := (ne_of_none hm4 n3).symm
              have pt : p3 ≠ t1 := (ne_of_none htA n3).symm
              exact walk (Itt K p3) _ (same_upd n3) (fun j H' hj kp => ⟨_, us.getD j .non, SqT.of (kp p3 _ upd_same pm pt), getD_at hj⟩) (fun H' kp => ⟨_, SqT.of (kp p3 _ upd_same pm pt), Nat.le_refl _⟩) (fun j H' x H'' kp yl => yl.1)
            · refine .inl ⟨_, rfl, 1, rfl, a, _, rfl, SqL.of qa4, fun p3 n3 => ?_⟩
              rw [cutFrom (by decide)]
              have e3 : (V.str z :: us).drop (1 : Int).toNat = us := rfl
              rw [e3]
              refine ⟨p3, rfl, ⟨_, SqL.of upd_same⟩, ?_⟩
              have pm : p3 ≠ m1 := (ne_of_none hm4 n3).symm
              have pt : p3 ≠ t1 := (ne_of_none htA n3).symm
              exact walk (Itl K p3) _ (same_upd n3) (fun j H' hj kp => ⟨_, us.getD j .non, SqL.of (kp p3 _ upd_same pm pt), getD_at hj⟩) (fun H' kp => ⟨_, SqL.of (kp p3 _ upd_same pm pt), Nat.le_refl _⟩) (fun j H' x H'' kp yl => yl.1)
          · rintro σ H5 ⟨v5, rfl, h1, h2, kp⟩
            have am : a ≠ m1 := by
              rcases qa with qa | qa
              · exact ne_of qa hm (by intro z; cases z)
              · exact qa.1.2
            have at1 : a ≠ t1 := by
              rcases qa with qa | qa
              · exact ne_of_none qa nt
              · exact ne_of_none qa.2 nt
            have qa5 : H5 a = some (.tup (.str z :: us)) ∨ H5 a = some (.lst (.str z :: us)) := qa.imp (fun e => kp _ _ (sA _ _ e) am at1) fun e => kp _ _ (sA _ _ e.2) am at1
            have h35 : Hold nol H3' H5 := ⟨fun a vs e => kp _ _ (sA _ _ e) (ne_of e hm (by intro z; cases z)) (ne_of_none e nt), fun a e => kp _ _ (sA _ _ e) (ne_of e hm (by intro z; cases z)) (ne_of_none e nt), fun _ _ h => h.elim⟩
            have hls5 := DAts.hold h35 _ hls
            have fin : ∀ p, H5 p = none → ∃ (l : Addr) (xs : List V) (y : V), V.ref m1 = .ref l ∧ [V.ref p] = [y] ∧ (upd H5 p (.tup (.str z :: (ls.drop (ls.length - cs.length)).reverse))) l = some (.lst xs) ∧ xs.length < sizeLine ∧
                ∃ v3 v4' v5' ls', [some v, some (.ref c), some (.ref m1), some (.ref a), some (.ref t1), v5] = [some v, some (.ref c), some (.ref m1), v3, v4', v5'] ∧ (upd (upd H5 p (.tup (.str z :: (ls.drop (ls.length - cs.length)).reverse))) l (.lst (xs ++ [y]))) m1 = some (.lst ls') ∧ DAts nol (upd (upd H5 p (.tup (.str z :: (ls.drop (ls.length - cs.length)).reverse))) l (.lst (xs ++ [y]))) ls' (stepG g ndD st (.sq (.fl (.str z) :: cs))) ∧ But m1 H2 (upd (upd H5 p (.tup (.str z :: (ls.drop (ls.length - cs.length)).reverse))) l (.lst (xs ++ [y]))) := by
              intro p np
              have sp := same_upd np (o := .tup (.str z :: (ls.drop (ls.length - cs.length)).reverse))
              have hpp : (upd H5 p (.tup (.str z :: (ls.drop (ls.length - cs.length)).reverse))) p = some (.tup (.str z :: (ls.drop (ls.length - cs.length)).reverse)) := upd_same
              generalize upd H5 p (.tup (.str z :: (ls.drop (ls.length - cs.length)).reverse)) = H6 at sp hpp
              have hm6 := sp _ _ h1
              have hls6 := DAts.hold (.same sp) _ hls5
              refine ⟨m1, _, _, rfl, rfl, hm6, by rw [List.length_take]; omega, _, _, _, _, rfl, upd_same, ?_, fun c o e n1 => ?_⟩
              · have h10 : Hold nol H6 (upd H6 m1 (.lst (ls.take (ls.length - cs.length) ++ [.ref p]))) := .but1 hm6 (fun b o e n => by rw [upd_ne n]; exact e) fun _ h => h.elim
                show DAts nol _ _ (st.take (st.length - cs.length) ++ [ndD z (st.drop (st.length - cs.length)).reverse])
                rw [← hll]
                exact DAts.app (DAts.hold h10 _ (DAts.take _ hls6)) ⟨DAt.hold h10 _ ⟨p, _, rfl, .inl hpp, rfl, ⟨rfl, rfl⟩, DAts.rev (DAts.drop _ hls6)⟩, trivial⟩
              · rw [upd_ne n1]
                exact sp _ _ (kp c o (sA _ _ (b _ _ e n1)) n1 (ne_of_none (b _ _ e n1) nt))
            have len : ((ls.drop (ls.length - cs.length)).reverse).length ≤ 5000 := by rw [List.length_reverse, List.length_drop]; omega
            refine ⟨_, rfl, .inl ⟨rfl, _, SqL.of h1⟩, _, rfl, ?_⟩
            rcases qa5 with qa5 | qa5
            · exact .inr (.inl ⟨a, _, 0, _, rfl, rfl, SqT.of qa5, at_of (j := 0) (by omega) rfl, _, rfl, t1, _, rfl, .inr (SqL.of h2), by rw [List.length_cons, List.append_nil]; omega, fun p np => by rw [List.append_nil]; exact fin p np⟩)
            · exact .inl ⟨a, _, 0, _, rfl, rfl, SqL.of qa5, at_of (j := 0) (by omega) rfl, _, rfl, t1, _, rfl, .inr (SqL.of h2), by rw [List.length_cons, List.append_nil]; omega, fun p np => by rw [List.append_nil]; exact fin p np⟩
    · rintro σ H3 ⟨v3, v4, v5, ls, rfl, hm, hls, b⟩
      rw [List.take_length, fold_g d [] hsh, List.nil_append] at hls
      have h1 := valG_len (leaf := g) (node := ndD) hsh
      have sm : Same H H3 := fun c o e => b _ _ (s2 _ _ (s0 _ _ e)) (ne_of_none e nm)
      have e1 : valG g ndD d = [sub g d] := by
        unfold sub
        match valG g ndD d, h1 with
        | [t], _ => rfl
      rw [e1] at hls
      match ls, hls with
      | [x], ⟨hx, _⟩ => exact ⟨_, rfl, m1, _, 0, x, rfl, rfl, SqL.of hm, at_of (j := 0) (by omega) rfl, k x H3 sm hx⟩
theorem c_asT {f : Addr} {fd : FuncData} (F : Def K mg "as_tuples" sAsT f fd) (b : Binds K fd ["shape"] []) (T : Blt4 mg) (CF : Cal P w K mg base 3 "filled" spFilled []) : Cal P w K mg base 4 "as_tuples" spAsT [] := by
  refine cal0 F b .nil scAsT (fun vs H Q E h => ?_) (fun cdv A outer s H vs Q E hr h => ?_)
  · obtain ⟨v, d, G, rfl, _⟩ := h
    rfl
  · obtain ⟨v, d, G, rfl, hv, hsh, hsz, k⟩ := h
    refine ⟨_, pss_one (ps_ret (pe_c CF hr (by decide) (by rfl) (pa_cons (pv 0) (pa_cons pe_dnewK pa_nil)))), _, rfl, fun p np => ?_⟩
    have sp : Same H (upd H p (.dK [])) := same_upd np
    refine ⟨v, d, G, p, [], fun z => .fl (.str z), rfl, DAt.hold (.same sp) _ hv, hsh, hsz, upd_same, fun z _ => ⟨rfl, rfl⟩, fun v' H' s hd' => k v' H' (sp.trans s) (by rw [sub_idN _ d (Nat.le_refl _) hsh] at hd'; exact hd')⟩
end
end K9

namespace K9
open PySem PySem.Spec PyProof.Rows L2 C8 XE
/-! is_number, is_row, of any data -/
abbrev sRow : Stmt := top 7
def numB : D → Bool
  | .fl (.int _) => true
  | _ => false
theorem d_ty2 {K : PySem.W.Frag} {F : Addr → Prop} {H : Hp} {v : V} : ∀ {d : D}, DAt F H v d → ∃ T, (∀ H', Same H H' → TyX K H' v (.type T)) ∧ PySem.W.kitAny K (.type T) [.type "list", .type "tuple"] = some (isSq d) ∧ PySem.W.kitOne K (.type T) (.type "str") = some (isSt d) ∧
    ∃ b, PySem.W.kitOne K (.type T) (.type "int") = some (numB d || b) ∧ PySem.W.kitOne K (.type T) (.type "bool") = some b ∧ (b = true → numB d = false) := by
  have z : ∀ T ∈ ["NoneType", "bool", "int", "str", "dict", "list", "tuple"], kitB T "list" = some (T == "list") ∧ kitB T "tuple" = some (T == "tuple") ∧ kitB T "str" = some (T == "str") ∧ kitB T "int" = some (T == "int" || T == "bool") ∧ kitB T "bool" = some (T == "bool") := by decide +kernel
  have mk : ∀ (T : String) (b c n : Bool), T ∈ ["NoneType", "bool", "int", "str", "dict", "list", "tuple"] → (T == "list" || T == "tuple") = b → (T == "str") = c → (T == "int") = n → PySem.W.kitAny K (.type T) [.type "list", .type "tuple"] = some b ∧ PySem.W.kitOne K (.type T) (.type "str") = some c ∧
      ∃ b, PySem.W.kitOne K (.type T) (.type "int") = some (n || b) ∧ PySem.W.kitOne K (.type T) (.type "bool") = some b ∧ (b = true → n = false) := by
    intro T b c n hT e1 e2 e3
    obtain ⟨h1, h2, h3, h4, h5⟩ := z T hT
    refine ⟨kitAny_cons (kit_ty h1) (fun e => ?_) (fun e => ?_), by rw [kit_ty h3, e2], T == "bool", by rw [kit_ty h4, e3], kit_ty h5, fun hb => ?_⟩
    · rw [e, Bool.false_or] at e1
      exact kitAny_cons (b := (T == "tuple")) (kit_ty h2) (fun e' => by rw [← e1, e']; exact kitAny_nil) fun e' => by rw [← e1, e']
    · rw [e] at e1
      rw [← e1]; rfl
    · rw [← e3, beq_iff_eq.mp hb]
      rfl
  intro d h
  cases d with
  | fl x =>
    obtain ⟨rfl, fx⟩ := h
    cases v with
    | non => exact ⟨"NoneType", fun _ _ => .base .non, mk _ _ _ _ (by decide) rfl rfl rfl⟩
    | bl b => exact ⟨"bool", fun _ _ => .base (.bl b), mk _ _ _ _ (by decide) rfl rfl rfl⟩
    | int i => exact ⟨"int", fun _ _ => .base (.int i), mk _ _ _ _ (by decide) rfl rfl rfl⟩
    | str z => exact ⟨"str", fun _ _ => .base (.str z), mk _ _ _ _ (by decide) rfl rfl rfl⟩
    | _ => cases fx
  | emp =>
    obtain ⟨a, rfl, q⟩ := h
    exact ⟨"dict", fun H' s => .base (.dK (s _ _ q)), mk _ _ _ _ (by decide) rfl rfl rfl⟩
  | sq xs =>
    obtain ⟨a, vs, rfl, q, _⟩ := h
    rcases q with q | ⟨_, q⟩
    · exact ⟨"tuple", fun H' s => .base (.tup (s _ _ q)), mk _ _ _ _ (by decide) rfl rfl rfl⟩
    · exact ⟨"list", fun H' s => .base (.lst (s _ _ q)), mk _ _ _ _ (by decide) rfl rfl rfl⟩
def spRow : Sp := fun vs H Q _ => ∃ (v : V) (d : D) (F : Addr → Prop), vs = [v] ∧ DAt F H v d ∧ ∀ H', Same H H' → Q (.bl (isSq d)) H'
theorem scRow : FnScope ["thing"] ["thing"] (fnScope sRow) := fnScope_by (by decide +kernel)
section
variable {P : Program} {w : World} {K : PySem.W.Frag} {mg : Str → Option Value} {base : Heap}
theorem c_row {f : Addr} {fd : FuncData} (F : Def K mg "is_row" sRow f fd) (b : Binds K fd ["thing"] []) (T : Blt4 mg) : Cal P w K mg base 1 "is_row" spRow [] := by
  refine cal0 F b .nil scRow (fun vs H Q E h => ?_) (fun cdv A outer s H vs Q E hr h => ?_)
  · obtain ⟨v, d, G, rfl, _⟩ := h
    rfl
  · obtain ⟨v, d, G, rfl, hv, k⟩ := h
    refine ⟨_, pss_one (ps_ret (pe_callB call_isiT (by rfl) T.isi (by decide +kernel) (pa_cons (pv 0) (pa_cons (pe_tup (pa_cons (pe_bt "list" T.list) (pa_cons (pe_bt "tuple" T.tup) pa_nil))) pa_nil)))), ?_⟩
    obtain ⟨Ty, ty, k1, _⟩ := d_ty2 (K := K) hv
    exact ⟨_, rfl, (by show 2 ≤ sizeLine; decide), fun p np => ⟨v, p, [.ty "list", .ty "tuple"], _, _, _, rfl, upd_same, .cons (.ty _) (.cons (.ty _) .nil), ty _ (same_upd np), k1, k _ (same_upd np)⟩⟩
end
end K9

namespace K9
open PySem PySem.Spec PyProof.Rows L2 C8 XE XR SX
/-! _law_holes, _law_spots -/
abbrev sHoles : Stmt := top 36
abbrev sSpots : Stmt := top 37
mutual
/-- the holes with their places -/
def holesP : D → List (Str × List Int)
  | .fl (.str z) => [(z, [])]
  | .sq (_ :: cs) => holesPs 0 cs
  | _ => []
def holesPs : Nat → List D → List (Str × List Int)
  | _, [] => []
  | k, c :: cs => (holesP c).map (fun q => (q.1, (k : Int) :: q.2)) ++ holesPs (k + 1) cs
end
mutual
/-- the places of the labels -/
def spotsP : D → List (List Int)
  | .sq (_ :: cs) => [] :: spotsPs 0 cs
  | _ => []
def spotsPs : Nat → List D → List (List Int)
  | _, [] => []
  | k, c :: cs => (spotsP c).map (fun q => (k : Int) :: q) ++ spotsPs (k + 1) cs
end
theorem holesPs_snoc : ∀ (a : List D) (k : Nat) (c : D), holesPs k (a ++ [c]) = holesPs k a ++ (holesP c).map (fun q => (q.1, ((k + a.length : Nat) : Int) :: q.2))
  | [], k, c => by simp [holesPs]
  | x :: a, k, c => by
    rw [List.cons_append, holesPs, holesPs, holesPs_snoc a, List.append_assoc, List.length_cons, show k + 1 + a.length = k + (a.length + 1) by omega]
theorem spotsPs_snoc : ∀ (a : List D) (k : Nat) (c : D), spotsPs k (a ++ [c]) = spotsPs k a ++ (spotsP c).map (fun q => ((k + a.length : Nat) : Int) :: q)
  | [], k, c => by simp [spotsPs]
  | x :: a, k, c => by
    rw [List.cons_append, spotsPs, spotsPs, spotsPs_snoc a, List.append_assoc, List.length_cons, show k + 1 + a.length = k + (a.length + 1) by omega]
mutual
theorem holes_le : ∀ d : D, (holesP d).length ≤ sz d ∧ ∀ q ∈ holesP d, q.2.length ≤ sz d
  | .fl x => by cases x <;> simp [holesP, sz]
  | .emp => by simp [holesP]
  | .sq [] => by simp [holesP]
  | .sq (x :: cs) => by
    obtain ⟨h1, h2⟩ := holess_le cs 0
    have := sz_pos x
    rw [holesP, sz, szs]
    exact ⟨by omega, fun q hq => by have := h2 q hq; omega⟩
theorem holess_le : ∀ (cs : List D) (k : Nat), (holesPs k cs).length ≤ szs cs ∧ ∀ q ∈ holesPs k cs, q.2.length ≤ szs cs + 1
  | [], k => by simp [holesPs]
  | c :: cs, k => by
    obtain ⟨h1, h2⟩ := holes_le c
    obtain ⟨h3, h4⟩ := holess_le cs (k + 1)
    rw [holesPs, szs, List.length_append, List.length_map]
    refine ⟨by omega, fun q hq => ?_⟩
    rcases List.mem_append.mp hq with hq | hq
    · obtain ⟨p, hp, rfl⟩ := List.mem_map.mp hq
      have := h2 p hp
      rw [List.length_cons]
      omega
    · have := h4 q hq
      omega
end
mutual
theorem spots_le : ∀ d : D, (spotsP d).length ≤ sz d ∧ ∀ q ∈ spotsP d, q.length ≤ sz d
  | .fl x => by simp [spotsP]
  | .emp => by simp [spotsP]
  | .sq [] => by simp [spotsP]
  | .sq (x :: cs) => by
    obtain ⟨h1, h2⟩ := spotss_le cs 0
    have := sz_pos x
    rw [spotsP, sz, szs, List.length_cons]
    refine ⟨by omega, fun q hq => ?_⟩
    rcases List.mem_cons.mp hq with rfl | hq
    · simp
    · have := h2 q hq; omega
theorem spotss_le : ∀ (cs : List D) (k : Nat), (spotsPs k cs).length ≤ szs cs ∧ ∀ q ∈ spotsPs k cs, q.length ≤ szs cs + 1
  | [], k => by simp [spotsPs]
  | c :: cs, k => by
    obtain ⟨h1, h2⟩ := spots_le c
    obtain ⟨h3, h4⟩ := spotss_le cs (k + 1)
    rw [spotsPs, szs, List.length_append, List.length_map]
    refine ⟨by omega, fun q hq => ?_⟩
    rcases List.mem_append.mp hq with hq | hq
    · obtain ⟨p, hp, rfl⟩ := List.mem_map.mp hq
      have := h2 p hp
      rw [List.length_cons]
      omega
    · have := h4 q hq
      omega
end
/-- a hole with its place -/
def HolV (H : Hp) (v : V) (q : Str × List Int) : Prop := ∃ t p, v = .ref t ∧ H t = some (.tup [.str q.1, .ref p]) ∧ H p = some (.tup (q.2.map V.int))
theorem HolV.same {H H' : Hp} {v : V} {q : Str × List Int} (s : Same H H') (h : HolV H v q) : HolV H' v q := by
  obtain ⟨t, p, e, h1, h2⟩ := h
  exact ⟨t, p, e, s _ _ h1, s _ _ h2⟩
def spHoles (N : Nat) : Sp := fun vs H Q _ => ∃ (v : V) (d : D), vs = [v] ∧ DAt nol H v d ∧ isSh d = true ∧ sz d ≤ N ∧ sz d ≤ 5000 ∧ ∀ (l : Addr) (ws : List V) (H' : Hp), H l = none → Same H H' → H' l = some (.lst ws) → Paired (HolV H') ws (holesP d) → Q (.ref l) H'
def spSpots (N : Nat) : Sp := fun vs H Q _ => ∃ (v : V) (d : D), vs = [v] ∧ DAt nol H v d ∧ isSh d = true ∧ sz d ≤ N ∧ sz d ≤ 5000 ∧ ∀ (l : Addr) (ws : List V) (H' : Hp), H l = none → Same H H' → H' l = some (.lst ws) → Paired (PlV H') ws (spotsP d) → Q (.ref l) H'
abbrev NHo : List Str := ["_law_shape_here", "_law_found", "_law_k", "_law_child", "_law_hole", "_law_place"]
abbrev NSpo : List Str := ["_law_shape_here", "_law_found", "_law_k", "_law_child", "_law_place"]
theorem scHoles : FnScope NHo ["_law_shape_here"] (fnScope sHoles) := fnScope_by (by decide +kernel)
theorem scSpots : FnScope NSpo ["_law_shape_here"] (fnScope sSpots) := fnScope_by (by decide +kernel)
section
variable {P : Program} {w : World} {K : PySem.W.Frag} {mg : Str → Option Value} {base : Heap}
theorem holes_step {k : Nat} {N : Nat} {f : Addr} {fd : FuncData} (F : Def K mg "_law_holes" sHoles f fd) (b : Binds K fd ["_law_shape_here"] []) (T : Blt4 mg) (CP : Cal P w K mg base k "_law_holes" (spHoles N) []) : Cal P w K mg base (k + 1) "_law_holes" (spHoles (N + 1)) [] := by
  refine cal0 F b .nil scHoles (fun vs H Q E h => ?_) (fun cdv A outer s H vs Q E hr h => ?_)
  · obtain ⟨v, d, rfl, _⟩ := h
    rfl
  · obtain ⟨v, d, rfl, hv, hsh, h0, h1, kk⟩ := h
    have nd := scHoles.nd
    refine ⟨_, pss_cons (ps_if (pt_val (pe_callB call_isi (by rfl) T.isi (by decide +kernel) (pa_cons (pv 0) (pa_cons (pe_bt "str" T.str) pa_nil)))) (pss_one (ps_ret (pe_lst (pa_cons (pe_tup (pa_cons (pv 0) (pa_cons (pe_tup pa_nil) pa_nil))) pa_nil)))) pss_nil)
      (pss_cons (ps_set (i := 1) nd rfl (Or.inl rfl) (pe_lst pa_nil))
      (pss_cons (ps_for PassesOwn.never rfl (pi_enumT (by rfl) T.enu (pa_cons (pe_slice sl_tup (pv 0) (po_some pe_int) po_none) pa_nil)) (pg_tup rfl (pgs_cons (pg_name (i := 2) nd rfl (by first | exact Or.inl rfl | exact Or.inr rfl)) (pgs_cons (pg_name (i := 3) nd rfl (by first | exact Or.inl rfl | exact Or.inr rfl)) pgs_nil)))
          (pss_one (ps_expr (pe_bm PySem.F.plainAttrs_list PySem.F.slot_list_extend PySem.F.type_list_extend mt_extend (pv 1) (pa_cons
            (pe_lc (own := [("_law_hole", 4), ("_law_place", 5)]) (g := gTup K 2 (gCons (gName 4) (gCons (gName 5) gNil))) (tt := tYes) rfl nd (pi_list (pe_c CP hr (Nat.le_refl _) (by rfl) (pa_cons (pv 3) pa_nil))) (blkOk_by (N := NHo) (sc := fnScope sHoles) (by decide +kernel)) (fun _ _ _ _ _ => pg_tup rfl (pgs_cons (pg_name (i := 4) nd rfl (Or.inl rfl)) (pgs_cons (pg_name (i := 5) nd rfl (Or.inl rfl)) pgs_nil))) (fun _ _ _ _ _ => pts_nil)
              (fun _ _ _ _ _ => pe_tup (pa_cons (pv 4) (pa_cons (pe_op (show OpR _ (binaryOp .Add) (rCatT K) from op_catT) (pe_tup (pa_cons (pv 2) pa_nil)) (pv 5)) pa_nil)))) pa_nil)))))
      (pss_one (ps_ret (pv 1))))), ?_⟩
    obtain ⟨Ty, ty, _, k2⟩ := d_ty (K := K) hv
    have ty0 := ty H fun _ _ e => e
    refine ⟨_, rfl, v, .ty "str", _, _, _, rfl, .ty _, ty0, k2, _, rfl, ?_⟩
    rcases isSh_inv hsh with ⟨z, rfl, hz⟩ | ⟨z, cs, rfl, hz, hcs⟩
    · obtain ⟨rfl, _⟩ := hv
      refine iteBt rfl ⟨_, rfl, (by show 0 ≤ sizeLine; decide), fun e ne => ⟨(by show 2 ≤ sizeLine; decide), fun t nt => ⟨(by show 1 ≤ sizeLine; decide), fun l nl => ?_⟩⟩⟩
      have et : e ≠ t := ne_of_none upd_same nt
      have h2 : (upd (upd H e (.tup [])) t (.tup [.str z, .ref e])) e = some (.tup []) := by rw [upd_ne et]; exact upd_same
      have s2 : Same H (upd (upd H e (.tup [])) t (.tup [.str z, .ref e])) := (same_upd ne).trans (same_upd nt)
      refine kk l _ _ (same_free s2 nl) (s2.trans (same_upd nl)) upd_same ?_
      rw [holesP]
      exact .cons ⟨t, e, rfl, by rw [upd_ne (ne_of_none upd_same nl)]; exact upd_same, by rw [upd_ne (ne_of_none h2 nl)]; exact h2⟩ .nil
    · refine iteBf rfl ?_
      obtain ⟨a, us, rfl, qa, _, hus⟩ := hv
      have ha : H a = some (.tup us) := qa.elim id fun e => e.1.elim
      match us, hus with
      | [], hus => exact hus.elim
      | u :: cvs, ⟨⟨eu, _⟩, hus⟩ =>
        subst eu
        have hcl := hus.len
        have hsz : sz (.sq (.fl (.str z) :: cs)) = 2 + szs cs := by rw [sz, szs, sz]; omega
        rw [hsz] at h0 h1
        refine ⟨(by show 0 ≤ sizeLine; decide), fun fd nfH => ?_⟩
        have s1 : Same H (upd H fd (.lst [])) := same_upd nfH
        have hf1 : (upd H fd (.lst [])) fd = some (.lst []) := upd_same
        generalize upd H fd (.lst []) = H1 at s1 hf1
        have st : Paired (HolV H1) [] (holesPs 0 (cs.take 0)) := .nil
        refine ⟨_, rfl, 1, rfl, a, _, rfl, SqT.of (s1 _ _ ha), not_whole (by decide) (by simp), fun p np => ?_⟩
        rw [cutFrom (by decide)]
        have cut1 : (V.str z :: cvs).drop (1 : Int).toNat = cvs := rfl
        rw [cut1]
        refine ⟨p, _, rfl, SqT.of upd_same, ?_⟩
        have hfp : fd ≠ p := ne_of_none hf1 np
        refine for_gen (J := IteT K p) cvs.length (fun i σ H' => ∃ (v2 v3 : Option V) (ws : List V), σ = [some (.ref a), some (.ref fd), v2, v3, none, none] ∧ H' fd = some (.lst ws) ∧ Paired (HolV H') ws (holesPs 0 (cs.take i)) ∧ Same H H' ∧ H' p = some (.tup cvs))
          ⟨none, none, _, rfl, by rw [upd_ne hfp]; exact hf1, Paired.mono (fun _ _ h => HolV.same (same_upd np) h) st, s1.trans (same_upd np), upd_same⟩
          (fun i σ H' hi ⟨_, _, _, _, _, _, _, hp⟩ => ⟨_, _, SqT.of hp, List.getElem?_eq_getElem hi⟩) (fun σ H' ⟨_, _, _, _, _, _, _, hp⟩ => ⟨_, SqT.of hp, Nat.le_refl _⟩) ?_
          (fun σ H' ⟨v2, v3, ws, e, hf, hpw, sm, _⟩ => by
            subst e
            rw [hcl, List.take_length] at hpw
            exact ⟨_, rfl, kk fd ws H' nfH sm hf (by rw [holesP]; exact hpw)⟩)
        rintro i σ H2 v H3 hi ⟨v2, v3, ws, rfl, hf, hpw, sm, hp⟩ ⟨T', x, rfl, nT, rfl, hx⟩
        have hx := hx _ (SqT.of hp)
        obtain ⟨c, hc, hxc⟩ := hus.get hx
        obtain ⟨hci, ec⟩ := List.getElem?_eq_some_iff.mp hc
        refine ⟨T', [.int (i : Nat), x], rfl, SqT.of upd_same, rfl, .int (i : Nat), [x], rfl, x, [], rfl, rfl, ?_⟩
        have s3 : Same H2 (upd H2 T' (.tup [.int (i : Nat), x])) := same_upd nT
        generalize upd H2 T' (.tup [.int (i : Nat), x]) = H3 at s3
        have hf3 := s3 _ _ hf
        have szc := szs_get hc
        refine ⟨_, rfl, .inl ⟨rfl, _, SqL.of hf3⟩, _, rfl, x, c, rfl, DAt.hold (.same (sm.trans s3)) _ hxc, isShs_mem hcs c (List.mem_of_getElem? hc), by omega, by omega, fun l us H4 nl s4 hl4 hpu => ⟨l, rfl, ⟨_, SqL.of hl4⟩, fun Da nDa => ?_⟩⟩
        have hul := Paired.length hpu
        obtain ⟨hle, hqe⟩ := holes_le c
        have nDH : H Da = none := same_free (sm.trans (s3.trans s4)) nDa
        have hf4 := s4 _ _ hf3
        refine lc_gen (J := Itl K l) us.length (fun j H' => ∃ ys, H' Da = some (.lst ys) ∧ Paired (HolV H') ys (((holesP c).take j).map (fun q : Str × List Int => (q.1, (i : Int) :: q.2))) ∧ Same H4 H') ⟨[], upd_same, .nil, same_upd nDa⟩
          (fun j H' hj ⟨_, _, _, sm'⟩ => ⟨_, _, SqL.of (sm' _ _ hl4), List.getElem?_eq_getElem hj⟩) (fun H' ⟨_, _, _, sm'⟩ => ⟨_, SqL.of (sm' _ _ hl4), Nat.le_refl _⟩) (fun j H' v H'' hj ⟨ys, hD, hpy, sm'⟩ yl => ?_) (fun H' ⟨ys, hD, hpy, sm'⟩ => ?_)
        · obtain ⟨rfl, hy⟩ := yl
          have hy := hy _ (SqL.of (sm' _ _ hl4))
          obtain ⟨q, hq, hqv⟩ := paired_get hpu hy
          have hyl := Paired.length hpy
          obtain ⟨hqj, eq'⟩ := List.getElem?_eq_some_iff.mp hq
          rw [List.length_map, List.length_take] at hyl
          have hql := hqe q (List.mem_of_getElem? hq)
          obtain ⟨q1, q2⟩ := q
          obtain ⟨qt, qa, rfl, hqt, hqa⟩ := hqv
          refine ⟨qt, _, rfl, SqT.of (sm' _ _ hqt), rfl, .str q1, [.ref qa], rfl, .ref qa, [], rfl, rfl, rfl, ?_⟩
          unfold tYes
          dsimp only
          rw [if_pos rfl]
          have fin : ∀ (H9 : Hp) (ta : Addr), Same H'' H9 → H9 ta = some (.tup (((i : Int) :: q2).map V.int)) → ∀ tt, H9 tt = none → ∃ acc, (upd H9 tt (.tup [.str q1, .ref ta])) Da = some (.lst acc) ∧ acc.length < sizeLine ∧ ∃ ys, (upd (upd H9 tt (.tup [.str q1, .ref ta])) Da (.lst (acc ++ [.ref tt]))) Da = some (.lst ys) ∧ Paired (HolV (upd (upd H9 tt (.tup [.str q1, .ref ta])) Da (.lst (acc ++ [.ref tt])))) ys (((holesP c).take (j + 1)).map (fun q : Str × List Int => (q.1, (i : Int) :: q.2))) ∧ Same H4 (upd (upd H9 tt (.tup [.str q1, .ref ta])) Da (.lst (acc ++ [.ref tt]))) := by
            intro H9 ta s9 ht9 tt ntt
            have sA : Same H'' (upd H9 tt (.tup [.str q1, .ref ta])) := s9.trans (same_upd ntt)
            have htt : (upd H9 tt (.tup [.str q1, .ref ta])) tt = some (.tup [.str q1, .ref ta]) := upd_same
            have htA : (upd H9 tt (.tup [.str q1, .ref ta])) ta = some (.tup (((i : Int) :: q2).map V.int)) := by rw [upd_ne (ne_of_none ht9 ntt)]; exact ht9
            generalize upd H9 tt (.tup [.str q1, .ref ta]) = HA at sA htt htA
            have hDA := sA _ _ hD
            have tD : ∀ {b : Addr} {xs : List V}, HA b = some (.tup xs) → (upd HA Da (.lst (ys ++ [.ref tt]))) b = some (.tup xs) := fun e => by rw [upd_ne (ne_of e hDA (by intro z; cases z))]; exact e
            refine ⟨ys, hDA, by rw [sizeLine_eq]; omega, _, upd_same, ?_, fun b o e => by rw [upd_ne (ne_of_none e nDa)]; exact sA _ _ (sm' _ _ e)⟩
            rw [List.take_succ_eq_append_getElem hqj, List.map_append, eq']
            exact Paired.snoc (Paired.mono (fun _ _ ⟨t', p', e, h1, h2⟩ => ⟨t', p', e, tD (sA _ _ h1), tD (sA _ _ h2)⟩) hpy) ⟨tt, ta, rfl, tD htt, tD htA⟩
          refine ⟨_, rfl, _, rfl, (by show 1 ≤ sizeLine; decide), fun ta nta => ⟨_, rfl, ta, qa, _, _, rfl, rfl, SqT.of upd_same, SqT.of (by rw [upd_ne (ne_of_none (sm' _ _ hqa) nta)]; exact sm' _ _ hqa), by simp, ?_, fun e => ⟨(by show 2 ≤ sizeLine; decide), fun tt ntt => ?_⟩, fun e tb ntb => ⟨(by show 2 ≤ sizeLine; decide), fun tt ntt => ?_⟩⟩⟩
          · rw [List.length_map]
            show 1 + q2.length ≤ sizeLine
            have hql : q2.length ≤ sz c := hql
            rw [sizeLine_eq]; omega
          · refine fin _ ta (same_upd nta) ?_ tt ntt
            have : q2 = [] := List.map_eq_nil_iff.mp e
            rw [this]
            exact upd_same
          · exact fin _ tb ((same_upd nta).trans (same_upd ntb)) upd_same tt ntt
        · have hyl := Paired.length hpy
          rw [List.length_map, hul, List.take_of_length_le (Nat.le_refl _)] at hyl
          rw [hul, List.take_of_length_le (Nat.le_refl _)] at hpy
          have hwl := Paired.length hpw
          obtain ⟨hwl2, _⟩ := holess_le (cs.take i) 0
          have hst := szs_take_le cs i
          have hf5 := sm' _ _ hf4
          refine ⟨fd, Da, ws, ys, rfl, rfl, hf5, hD, by rw [sizeLine_eq]; (try simp only [List.length_cons] at hwl); omega, ?_⟩
          have tF : ∀ {b : Addr} {xs : List V}, H' b = some (.tup xs) → (upd H' fd (.lst (ws ++ ys))) b = some (.tup xs) := fun e => by rw [upd_ne (ne_of e hf5 (by intro z; cases z))]; exact e
          have s5 : Same H2 H' := s3.trans (s4.trans sm')
          refine ⟨_, _, ws ++ ys, rfl, upd_same, ?_, fun b o e => by rw [upd_ne (ne_of_none e nfH)]; exact s5 _ _ (sm _ _ e), tF (s5 _ _ hp)⟩
          have e1 : holesPs 0 (cs.take (i + 1)) = holesPs 0 (cs.take i) ++ (holesP c).map (fun q : Str × List Int => (q.1, (i : Int) :: q.2)) := by
            rw [List.take_succ_eq_append_getElem hci, holesPs_snoc, ec, List.length_take, show 0 + min i cs.length = i by omega]
          rw [e1]
          exact paired_app (Paired.mono (fun _ _ ⟨t', p', e, h1, h2⟩ => ⟨t', p', e, tF (s5 _ _ h1), tF (s5 _ _ h2)⟩) hpw) (Paired.mono (fun _ _ ⟨t', p', e, h1, h2⟩ => ⟨t', p', e, tF h1, tF h2⟩) hpy)
theorem c_holes {f : Addr} {fd : FuncData} (F : Def K mg "_law_holes" sHoles f fd) (b : Binds K fd ["_law_shape_here"] []) (T : Blt4 mg) : ∀ N : Nat, Cal P w K mg base (1 + N) "_law_holes" (spHoles N) []
  | 0 => by
    have no : ∀ {vs H Q E}, spHoles 0 vs H Q E → False := fun ⟨_, d, _, _, _, h, _⟩ => by have := sz_pos d; omega
    exact cal0 F b .nil scHoles (fun vs H Q E h => (no h).elim) (fun cdv A outer s H vs Q E hr h => (no h).elim)
  | N + 1 => holes_step F b T (c_holes F b T N)
theorem spots_step {k : Nat} {N : Nat} {f : Addr} {fd : FuncData} (F : Def K mg "_law_spots" sSpots f fd) (b : Binds K fd ["_law_shape_here"] []) (T : Blt4 mg) (CP : Cal P w K mg base k "_law_spots" (spSpots N) []) : Cal P w K mg base (k + 1) "_law_spots" (spSpots (N + 1)) [] := by
  refine cal0 F b .nil scSpots (fun vs H Q E h => ?_) (fun cdv A outer s H vs Q E hr h => ?_)
  · obtain ⟨v, d, rfl, _⟩ := h
    rfl
  · obtain ⟨v, d, rfl, hv, hsh, h0, h1, kk⟩ := h
    have nd := scSpots.nd
    refine ⟨_, pss_cons (ps_if (pt_val (pe_callB call_isi (by rfl) T.isi (by decide +kernel) (pa_cons (pv 0) (pa_cons (pe_bt "str" T.str) pa_nil)))) (pss_one (ps_ret (pe_lst pa_nil))) pss_nil)
      (pss_cons (ps_set (i := 1) nd rfl (Or.inl rfl) (pe_lst (pa_cons (pe_tup pa_nil) pa_nil)))
      (pss_cons (ps_for PassesOwn.never rfl (pi_enumT (by rfl) T.enu (pa_cons (pe_slice sl_tup (pv 0) (po_some pe_int) po_none) pa_nil)) (pg_tup rfl (pgs_cons (pg_name (i := 2) nd rfl (by first | exact Or.inl rfl | exact Or.inr rfl)) (pgs_cons (pg_name (i := 3) nd rfl (by first | exact Or.inl rfl | exact Or.inr rfl)) pgs_nil)))
          (pss_one (ps_expr (pe_bm PySem.F.plainAttrs_list PySem.F.slot_list_extend PySem.F.type_list_extend mt_extend (pv 1) (pa_cons
            (pe_lc (own := [("_law_place", 4)]) (g := gName 4) (tt := tYes) rfl nd (pi_list (pe_c CP hr (Nat.le_refl _) (by rfl) (pa_cons (pv 3) pa_nil))) (blkOk_by (N := NSpo) (sc := fnScope sSpots) (by decide +kernel)) (fun _ _ _ _ _ => pg_name (i := 4) nd rfl (Or.inl rfl)) (fun _ _ _ _ _ => pts_nil)
              (fun _ _ _ _ _ => pe_op (show OpR _ (binaryOp .Add) (rCatT K) from op_catT) (pe_tup (pa_cons (pv 2) pa_nil)) (pv 4))) pa_nil)))))
      (pss_one (ps_ret (pv 1))))), ?_⟩
    obtain ⟨Ty, ty, _, k2⟩ := d_ty (K := K) hv
    have ty0 := ty H fun _ _ e => e
    refine ⟨_, rfl, v, .ty "str", _, _, _, rfl, .ty _, ty0, k2, _, rfl, ?_⟩
    rcases isSh_inv hsh with ⟨z, rfl, hz⟩ | ⟨z, cs, rfl, hz, hcs⟩
    · obtain ⟨rfl, _⟩ := hv
      refine iteBt rfl ⟨(by show 0 ≤ sizeLine; decide), fun l nl => ?_⟩
      refine kk l _ _ nl (same_upd nl) upd_same ?_
      rw [spotsP]
      · exact .nil
      · intro _ _ e; cases e
    · refine iteBf rfl ?_
      obtain ⟨a, us, rfl, qa, _, hus⟩ := hv
      have ha : H a = some (.tup us) := qa.elim id fun e => e.1.elim
      match us, hus with
      | [], hus => exact hus.elim
      | u :: cvs, ⟨⟨eu, _⟩, hus⟩ =>
        subst eu
        have hcl := hus.len
        have hsz : sz (.sq (.fl (.str z) :: cs)) = 2 + szs cs := by rw [sz, szs, sz]; omega
        rw [hsz] at h0 h1
        refine ⟨(by show 0 ≤ sizeLine; decide), fun e0 ne0 => ⟨(by show 1 ≤ sizeLine; decide), fun fd nfd => ?_⟩⟩
        have fe : fd ≠ e0 := (ne_of_none upd_same nfd).symm
        have nfH : H fd = none := by rw [upd_ne fe] at nfd; exact nfd
        have s1 : Same H (upd (upd H e0 (.tup [])) fd (.lst [.ref e0])) := (same_upd ne0).trans (same_upd nfd)
        have hf1 : (upd (upd H e0 (.tup [])) fd (.lst [.ref e0])) fd = some (.lst [.ref e0]) := upd_same
        have he1 : (upd (upd H e0 (.tup [])) fd (.lst [.ref e0])) e0 = some (.tup []) := by rw [upd_ne fe.symm]; exact upd_same
        generalize upd (upd H e0 (.tup [])) fd (.lst [.ref e0]) = H1 at s1 hf1 he1
        have st : Paired (PlV H1) [.ref e0] ([] :: spotsPs 0 (cs.take 0)) := .cons ⟨e0, rfl, he1⟩ .nil
        refine ⟨_, rfl, 1, rfl, a, _, rfl, SqT.of (s1 _ _ ha), not_whole (by decide) (by simp), fun p np => ?_⟩
        rw [cutFrom (by decide)]
        have cut1 : (V.str z :: cvs).drop (1 : Int).toNat = cvs := rfl
        rw [cut1]
        refine ⟨p, _, rfl, SqT.of upd_same, ?_⟩
        have hfp : fd ≠ p := ne_of_none hf1 np
        refine for_gen (J := IteT K p) cvs.length (fun i σ H' => ∃ (v2 v3 : Option V) (ws : List V), σ = [some (.ref a), some (.ref fd), v2, v3, none] ∧ H' fd = some (.lst ws) ∧ Paired (PlV H') ws ([] :: spotsPs 0 (cs.take i)) ∧ Same H H' ∧ H' p = some (.tup cvs))
          ⟨none, none, _, rfl, by rw [upd_ne hfp]; exact hf1, Paired.mono (fun _ _ h => PlV.same (same_upd np) h) st, s1.trans (same_upd np), upd_same⟩
          (fun i σ H' hi ⟨_, _, _, _, _, _, _, hp⟩ => ⟨_, _, SqT.of hp, List.getElem?_eq_getElem hi⟩) (fun σ H' ⟨_, _, _, _, _, _, _, hp⟩ => ⟨_, SqT.of hp, Nat.le_refl _⟩) ?_
          (fun σ H' ⟨v2, v3, ws, e, hf, hpw, sm, _⟩ => by
            subst e
            rw [hcl, List.take_length] at hpw
            exact ⟨_, rfl, kk fd ws H' nfH sm hf (by rw [spotsP]; exact hpw)⟩)
        rintro i σ H2 v H3 hi ⟨v2, v3, ws, rfl, hf, hpw, sm, hp⟩ ⟨T', x, rfl, nT, rfl, hx⟩
        have hx := hx _ (SqT.of hp)
        obtain ⟨c, hc, hxc⟩ := hus.get hx
        obtain ⟨hci, ec⟩ := List.getElem?_eq_some_iff.mp hc
        refine ⟨T', [.int (i : Nat), x], rfl, SqT.of upd_same, rfl, .int (i : Nat), [x], rfl, x, [], rfl, rfl, ?_⟩
        have s3 : Same H2 (upd H2 T' (.tup [.int (i : Nat), x])) := same_upd nT
        generalize upd H2 T' (.tup [.int (i : Nat), x]) = H3 at s3
        have hf3 := s3 _ _ hf
        have szc := szs_get hc
        refine ⟨_, rfl, .inl ⟨rfl, _, SqL.of hf3⟩, _, rfl, x, c, rfl, DAt.hold (.same (sm.trans s3)) _ hxc, isShs_mem hcs c (List.mem_of_getElem? hc), by omega, by omega, fun l us H4 nl s4 hl4 hpu => ⟨l, rfl, ⟨_, SqL.of hl4⟩, fun Da nDa => ?_⟩⟩
        have hul := Paired.length hpu
        obtain ⟨hle, hqe⟩ := spots_le c
        have nDH : H Da = none := same_free (sm.trans (s3.trans s4)) nDa
        have hf4 := s4 _ _ hf3
        refine lc_gen (J := Itl K l) us.length (fun j H' => ∃ ys, H' Da = some (.lst ys) ∧ Paired (PlV H') ys (((spotsP c).take j).map (fun q : List Int => (i : Int) :: q)) ∧ Same H4 H') ⟨[], upd_same, .nil, same_upd nDa⟩
          (fun j H' hj ⟨_, _, _, sm'⟩ => ⟨_, _, SqL.of (sm' _ _ hl4), List.getElem?_eq_getElem hj⟩) (fun H' ⟨_, _, _, sm'⟩ => ⟨_, SqL.of (sm' _ _ hl4), Nat.le_refl _⟩) (fun j H' v H'' hj ⟨ys, hD, hpy, sm'⟩ yl => ?_) (fun H' ⟨ys, hD, hpy, sm'⟩ => ?_)
        · obtain ⟨rfl, hy⟩ := yl
          have hy := hy _ (SqL.of (sm' _ _ hl4))
          obtain ⟨q, hq, hqv⟩ := paired_get hpu hy
          have hyl := Paired.length hpy
          obtain ⟨hqj, eq'⟩ := List.getElem?_eq_some_iff.mp hq
          rw [List.length_map, List.length_take] at hyl
          have hql := hqe q (List.mem_of_getElem? hq)
          obtain ⟨qa, rfl, hqa⟩ := hqv
          have fin : ∀ (H9 : Hp) (ta : Addr), Same H'' H9 → H9 ta = some (.tup (((i : Int) :: q).map V.int)) → ∃ acc, H9 Da = some (.lst acc) ∧ acc.length < sizeLine ∧ ∃ ys, (upd H9 Da (.lst (acc ++ [.ref ta]))) Da = some (.lst ys) ∧ Paired (PlV (upd H9 Da (.lst (acc ++ [.ref ta])))) ys (((spotsP c).take (j + 1)).map (fun q : List Int => (i : Int) :: q)) ∧ Same H4 (upd H9 Da (.lst (acc ++ [.ref ta]))) := by
            intro H9 ta s9 ht9
            have hD9 := s9 _ _ hD
            have tD : ∀ {b : Addr} {xs : List V}, H9 b = some (.tup xs) → (upd H9 Da (.lst (ys ++ [.ref ta]))) b = some (.tup xs) := fun e => by rw [upd_ne (ne_of e hD9 (by intro z; cases z))]; exact e
            refine ⟨ys, hD9, by rw [sizeLine_eq]; omega, _, upd_same, ?_, fun b o e => by rw [upd_ne (ne_of_none e nDa)]; exact s9 _ _ (sm' _ _ e)⟩
            rw [List.take_succ_eq_append_getElem hqj, List.map_append, eq']
            refine Paired.snoc (Paired.mono (fun _ _ ⟨a', e, q'⟩ => ⟨a', e, tD (s9 _ _ q')⟩) hpy) ⟨ta, rfl, tD ht9⟩
          refine ⟨rfl, ?_⟩
          unfold tYes
          dsimp only
          rw [if_pos rfl]
          refine ⟨_, rfl, (by show 1 ≤ sizeLine; decide), fun ta nta => ⟨_, rfl, ta, qa, _, _, rfl, rfl, SqT.of upd_same, SqT.of (by rw [upd_ne (ne_of_none (sm' _ _ hqa) nta)]; exact sm' _ _ hqa), by simp, ?_, fun e => ?_, fun e tb ntb => ?_⟩⟩
          · rw [List.length_map]
            show 1 + q.length ≤ sizeLine
            rw [sizeLine_eq]; omega
          · refine fin _ ta (same_upd nta) ?_
            have : q = [] := List.map_eq_nil_iff.mp e
            rw [this]
            exact upd_same
          · exact fin _ tb ((same_upd nta).trans (same_upd ntb)) upd_same
        · have hyl := Paired.length hpy
          rw [List.length_map, hul, List.take_of_length_le (Nat.le_refl _)] at hyl
          rw [hul, List.take_of_length_le (Nat.le_refl _)] at hpy
          have hwl := Paired.length hpw
          obtain ⟨hwl2, _⟩ := spotss_le (cs.take i) 0
          have hst := szs_take_le cs i
          have hf5 := sm' _ _ hf4
          refine ⟨fd, Da, ws, ys, rfl, rfl, hf5, hD, by rw [sizeLine_eq]; (try simp only [List.length_cons] at hwl); omega, ?_⟩
          have tF : ∀ {b : Addr} {xs : List V}, H' b = some (.tup xs) → (upd H' fd (.lst (ws ++ ys))) b = some (.tup xs) := fun e => by rw [upd_ne (ne_of e hf5 (by intro z; cases z))]; exact e
          have s5 : Same H2 H' := s3.trans (s4.trans sm')
          refine ⟨_, _, ws ++ ys, rfl, upd_same, ?_, fun b o e => by rw [upd_ne (ne_of_none e nfH)]; exact s5 _ _ (sm _ _ e), tF (s5 _ _ hp)⟩
          have e1 : spotsPs 0 (cs.take (i + 1)) = spotsPs 0 (cs.take i) ++ (spotsP c).map (fun q : List Int => (i : Int) :: q) := by
            rw [List.take_succ_eq_append_getElem hci, spotsPs_snoc, ec, List.length_take, show 0 + min i cs.length = i by omega]
          rw [e1]
          exact paired_app (Paired.mono (fun _ _ ⟨a', e, q'⟩ => ⟨a', e, tF (s5 _ _ q')⟩) hpw) (Paired.mono (fun _ _ ⟨a', e, q'⟩ => ⟨a', e, tF q'⟩) hpy)
theorem c_spots {f : Addr} {fd : FuncData} (F : Def K mg "_law_spots" sSpots f fd) (b : Binds K fd ["_law_shape_here"] []) (T : Blt4 mg) : ∀ N : Nat, Cal P w K mg base (1 + N) "_law_spots" (spSpots N) []
  | 0 => by
    have no : ∀ {vs H Q E}, spSpots 0 vs H Q E → False := fun ⟨_, d, _, _, _, h, _⟩ => by have := sz_pos d; omega
    exact cal0 F b .nil scSpots (fun vs H Q E h => (no h).elim) (fun cdv A outer s H vs Q E hr h => (no h).elim)
  | N + 1 => spots_step F b T (c_spots F b T N)
end
end K9

namespace K9
open PySem PySem.Spec PyProof.Rows L2 C8 XE XR SX
/-! _law_shape: a drawn shape, with a list of one number that tells how many labels are left -/
abbrev sShape : Stmt := top 38
mutual
def nh : D → Nat
  | .fl (.str _) => 1
  | .sq (_ :: cs) => nhs cs
  | _ => 0
def nhs : List D → Nat
  | [] => 0
  | c :: cs => nh c + nhs cs
end
theorem nhs_app : ∀ a b : List D, nhs (a ++ b) = nhs a + nhs b
  | [], b => by rw [List.nil_append, nhs, Nat.zero_add]
  | x :: a, b => by rw [List.cons_append, nhs, nhs, nhs_app a b, Nat.add_assoc]
mutual
theorem holes_nh : ∀ d : D, (holesP d).length = nh d
  | .fl x => by cases x <;> simp [holesP, nh]
  | .emp => by simp [holesP, nh]
  | .sq [] => by simp [holesP, nh]
  | .sq (x :: cs) => by rw [holesP, nh]; exact holess_nh cs 0
theorem holess_nh : ∀ (cs : List D) (k : Nat), (holesPs k cs).length = nhs cs
  | [], k => by rw [holesPs, nhs]; rfl
  | c :: cs, k => by rw [holesPs, nhs, List.length_append, List.length_map, holes_nh c, holess_nh cs]
end
/-- what a language's rows say of a shape -/
def manyR (rs : List Rw) (z : Str) : Option Int := (rs.find? fun r => r.1 == z).map (·.2)
theorem manyR_mem {rs : List Rw} (h : RowsOk rs) {r : Rw} (hr : r ∈ rs) : manyR rs r.1 = some r.2 := by
  unfold manyR
  have nd := h.nd
  clear h
  induction rs with
  | nil => cases hr
  | cons q l ih =>
    rw [List.map_cons, List.nodup_cons] at nd
    rcases List.mem_cons.mp hr with rfl | hr
    · rw [List.find?_cons_of_pos (by simp)]
      rfl
    · have hne : q.1 ≠ r.1 := fun e => nd.1 (by rw [e]; exact List.mem_map_of_mem hr)
      rw [List.find?_cons_of_neg (by simpa using hne)]
      exact ih hr nd.2
theorem manyR_some {rs : List Rw} {z : Str} {m : Int} (h : manyR rs z = some m) : ∃ r ∈ rs, r.1 = z ∧ r.2 = m := by
  unfold manyR at h
  cases hf : rs.find? fun r => r.1 == z with
  | none => rw [hf] at h; cases h
  | some r =>
    rw [hf] at h
    cases h
    exact ⟨r, List.mem_of_find?_eq_some hf, by simpa using List.find?_some hf, rfl⟩
mutual
def isTh (rs : List Rw) : D → Bool
  | .fl (.str z) => wordS z
  | .sq (.fl (.str z) :: cs) => decide (manyR rs z = some (cs.length : Int)) && isThs rs cs
  | _ => false
def isThs (rs : List Rw) : List D → Bool
  | [] => true
  | d :: ds => isTh rs d && isThs rs ds
end
mutual
/-- a shape over the rows, keep among its labels -/
def isTk (rs : List Rw) : D → Bool
  | .fl (.str z) => wordS z
  | .sq (.fl (.str z) :: cs) => decide (many rs z = some (cs.length : Int)) && isTks rs cs
  | _ => false
def isTks (rs : List Rw) : List D → Bool
  | [] => true
  | d :: ds => isTk rs d && isTks rs ds
end
theorem manyR_many {rs : List Rw} (ok : RowsOk rs) {z : Str} {m : Int} (h : manyR rs z = some m) : many rs z = some m := by
  obtain ⟨r, hr, rfl, rfl⟩ := manyR_some h
  exact many_mem ok (List.mem_append_left _ hr)
mutual
theorem isTh_tk {rs : List Rw} (ok : RowsOk rs) : ∀ d : D, isTh rs d = true → isTk rs d = true
  | .fl x, h => by
    cases x with
    | str z => exact h
    | _ => cases h
  | .emp, h => by cases h
  | .sq [], h => by cases h
  | .sq (x :: cs), h => by
    cases x with
    | fl x =>
      cases x with
      | str z =>
        rw [isTh, Bool.and_eq_true] at h
        rw [isTk, isTh_tks ok cs h.2, decide_eq_true (manyR_many ok (of_decide_eq_true h.1))]
        rfl
      | _ => cases h
    | _ => cases h
theorem isTh_tks {rs : List Rw} (ok : RowsOk rs) : ∀ ds : List D, isThs rs ds = true → isTks rs ds = true
  | [], _ => rfl
  | d :: ds, h => by
    rw [isThs, Bool.and_eq_true] at h
    rw [isTks, isTh_tk ok d h.1, isTh_tks ok ds h.2]
    rfl
end
mutual
theorem isT_tk {rs : List Rw} : ∀ d : D, isT rs d = true → isTk rs d = true
  | .fl x, h => by
    cases x <;> cases h
  | .emp, h => by cases h
  | .sq [], h => by cases h
  | .sq (x :: cs), h => by
    cases x with
    | fl x =>
      cases x with
      | str z =>
        rw [isT] at h
        split at h
        · rename_i m e
          rw [Bool.and_eq_true] at h
          have e2 := of_decide_eq_true h.1
          rw [isTk, isTs_tks cs h.2, e, ← e2, decide_eq_true rfl]
          rfl
        · cases h
      | _ => cases h
    | _ => cases h
theorem isTs_tks {rs : List Rw} : ∀ ds : List D, isTs rs ds = true → isTks rs ds = true
  | [], _ => rfl
  | d :: ds, h => by
    rw [isTs, Bool.and_eq_true] at h
    rw [isTks, isT_tk d h.1, isTs_tks ds h.2]
    rfl
end
theorem many_keep {rs : List Rw} (ok : RowsOk rs) : many rs "keep" = some 1 := many_mem (r := keepR) ok (List.mem_append_right _ List.mem_cons_self)
theorem isTks_rep {rs : List Rw} {h0 : Str} (h : wordS h0 = true) : ∀ n : Nat, isTks rs (List.replicate n (.fl (.str h0))) = true
  | 0 => rfl
  | n + 1 => by
    rw [List.replicate_succ, isTks, isTks_rep h n, isTk, h]
    rfl
mutual
/-- the names of the holes, in order -/
def hnm : D → List Str
  | .fl (.str z) => [z]
  | .sq (_ :: cs) => hnms cs
  | _ => []
def hnms : List D → List Str
  | [] => []
  | c :: cs => hnm c ++ hnms cs
end
theorem isThs_app {rs : List Rw} : ∀ a b : List D, isThs rs (a ++ b) = (isThs rs a && isThs rs b)
  | [], b => rfl
  | x :: a, b => by rw [List.cons_append, isThs, isThs, isThs_app a b, Bool.and_assoc]
theorem hnms_app : ∀ a b : List D, hnms (a ++ b) = hnms a ++ hnms b
  | [], b => rfl
  | x :: a, b => by rw [List.cons_append, hnms, hnms, hnms_app a b, List.append_assoc]
mutual
theorem holes_hnm : ∀ d : D, (holesP d).map (fun q => q.1) = hnm d
  | .fl x => by cases x <;> simp [holesP, hnm]
  | .emp => by simp [holesP, hnm]
  | .sq [] => by simp [holesP, hnm]
  | .sq (x :: cs) => by rw [holesP, hnm]; exact holess_hnm cs 0
theorem holess_hnm : ∀ (cs : List D) (k : Nat), (holesPs k cs).map (fun q => q.1) = hnms cs
  | [], k => by rw [holesPs, hnms]; rfl
  | c :: cs, k => by rw [holesPs, hnms, List.map_append, List.map_map, ← holes_hnm c, holess_hnm cs]; rfl
end
theorem hnm_nh (d : D) : (hnm d).length = nh d := by rw [← holes_hnm, List.length_map, holes_nh]
/-- all but two is as it was -/
def But2 (a c : Addr) (H H' : Hp) : Prop := ∀ b o, H b = some o → b ≠ a → b ≠ c → H' b = some o
theorem But2.trans {a c : Addr} {H H' H'' : Hp} (h : But2 a c H H') (h' : But2 a c H' H'') : But2 a c H H'' := fun b o e n m => h' b o (h b o e n m) n m
theorem But.two {a c : Addr} {H H' : Hp} (h : But a H H') : But2 a c H H' := fun b o e n _ => h b o e n
theorem But2.same {a c : Addr} {H H' : Hp} (h : Same H H') : But2 a c H H' := fun b o e _ _ => h b o e
theorem But2.put {a c p : Addr} {o : HO} {H H' : Hp} (h : But2 a c H H') (hp : H p = none) : But2 a c H (upd H' p o) := fun b u e n m => by
  rw [upd_ne (ne_of_none e hp)]
  exact h b u e n m
theorem But2.free {H H' : Hp} {a c p : Addr} (h : But2 a c H H') (n : H' p = none) (na : p ≠ a) (nc : p ≠ c) : H p = none := by
  cases e : H p with
  | none => rfl
  | some o => rw [h p o e na nc] at n; cases n
theorem Hold.but2 {F : Addr → Prop} {B : Nat} {H H' : Hp} {st cl ll : Addr} {xs : List V} (hs : StAt B H st cl) (hl : H ll = some (.lst xs)) (hb : But2 st ll H H') (hF : ∀ a, F a → a ≠ st ∧ a ≠ ll) : Hold F H H' := by
  obtain ⟨ns, i, c, h0, n, e1, _⟩ := hs
  refine ⟨fun a vs e => hb _ _ e (ne_of e e1 (by intro z; cases z)) (ne_of e hl (by intro z; cases z)), fun a e => hb _ _ e (ne_of e e1 (by intro z; cases z)) (ne_of e hl (by intro z; cases z)), fun a vs e q => hb _ _ q (hF a e).1 (hF a e).2⟩
theorem RowsAt.but2 {B : Nat} {H H' : Hp} {st cl ll l : Addr} {n : Int} {rs : List Rw} (hs : StAt B H st cl) (hl : H ll = some (.lst [.int n])) (hb : But2 st ll H H') (hn : l ≠ ll) (h : RowsAt H l rs) : RowsAt H' l rs := by
  have h0 := h
  obtain ⟨vs, e, p⟩ := h
  obtain ⟨ns, i, c, h1, m, e1, e2, _⟩ := hs
  have lst : l ≠ st := by
    intro z
    subst z
    rw [e1] at e
    cases e
    cases p with
    | cons q t =>
      cases t with
      | cons q' t =>
        obtain ⟨_, z, _⟩ := q'
        cases z
  refine ⟨vs, hb _ _ e lst hn, Paired.mono (fun _ _ ⟨t, z, q⟩ => ⟨t, z, hb _ _ q (ne_of q e1 (by intro z; cases z)) (ne_of q hl (by intro z; cases z))⟩) p⟩
theorem menu_word : ∀ z ∈ menu, wordS z = true := by decide +kernel
theorem labs_word {rs : List Rw} (ok : RowsOk rs) {z : Str} (h : z ∈ labs rs) : wordS z = true := by
  obtain ⟨r, hr, rfl⟩ := List.mem_map.mp h
  rcases List.mem_append.mp hr with h' | h'
  · exact menu_word _ (ok.mem r h').1
  · rw [List.mem_singleton.mp h']; decide +kernel
/-- the list of what is left -/
structure LeftAt (H : Hp) (st cl l ll : Addr) (n : Nat) : Prop where
  at' : H ll = some (.lst [.int (n : Int)])
  st : ll ≠ st
  cl : ll ≠ cl
  l : ll ≠ l
theorem LeftAt.but {H H' : Hp} {st cl l ll : Addr} {n : Nat} (h : LeftAt H st cl l ll n) (b : But st H H') : LeftAt H' st cl l ll n := ⟨b _ _ h.at' h.st, h.st, h.cl, h.l⟩
theorem LeftAt.same {H H' : Hp} {st cl l ll : Addr} {n : Nat} (h : LeftAt H st cl l ll n) (b : Same H H') : LeftAt H' st cl l ll n := ⟨b _ _ h.at', h.st, h.cl, h.l⟩
theorem LeftAt.put {H : Hp} {st cl l ll p : Addr} {o : HO} {n : Nat} (h : LeftAt H st cl l ll n) (b : p ≠ ll) : LeftAt (upd H p o) st cl l ll n := ⟨by rw [upd_ne b.symm]; exact h.at', h.st, h.cl, h.l⟩
def spShape (N : Nat) : Sp := fun vs H Q _ => ∃ (st l ll hl : Addr) (rs : List Rw) (hs : List Str) (n B : Nat) (cl : Addr), vs = [.ref st, .ref l, .ref ll, .ref hl] ∧ n < N ∧ n ≤ 100 ∧ RowsAt H l rs ∧ RowsOk rs ∧ LeftAt H st cl l ll n ∧
  H hl = some (.lst (hs.map V.str)) ∧ hs ≠ [] ∧ hs.length ≤ 100 ∧ (∀ z ∈ hs, wordS z = true) ∧ StAt B H st cl ∧ B + 4 * n + 2 < 1000000000000000 ∧
  ∀ (v : V) (d : D) (n' : Nat) (H' : Hp), DAt nol H' v d → isSh d = true → (isTh rs d = true ∧ ∀ z ∈ hnm d, z ∈ hs) → n' ≤ n → sz d ≤ 3 * (n - n') + 1 → nh d ≤ (n - n') + 1 → LeftAt H' st cl l ll n' → StAt (B + (4 * (n - n') + 2)) H' st cl → But2 st ll H H' → Q v H'
abbrev NSh : List Str := ["_law_state", "_law_rows_here", "_law_left_here", "_law_holes_here", "_law_fits", "_law_label", "_law_many_here", "_law_found", "_law_k"]
theorem scShape : FnScope NSh ["_law_state", "_law_rows_here", "_law_left_here", "_law_holes_here"] (fnScope sShape) := fnScope_by (by decide +kernel)
section
variable {P : Program} {w : World} {K : PySem.W.Frag} {mg : Str → Option Value} {base : Heap}
theorem shape_step {k : Nat} {N : Nat} {f : Addr} {fd : FuncData} (F : Def K mg "_law_shape" sShape f fd) (b : Binds K fd ["_law_state", "_law_rows_here", "_law_left_here", "_law_holes_here"] []) (T : Blt4 mg) (hk : 2 ≤ k) (C : Cal P w K mg base 1 "_law_take" spTake []) (CO : Cal P w K mg base 2 "_law_one" spOne [])
    (CM : Cal P w K mg base 1 "_law_many" spMany []) (CS : Cal P w K mg base k "_law_shape" (spShape N) []) : Cal P w K mg base (k + 1) "_law_shape" (spShape (N + 1)) [] := by
  refine cal0 F b .nil scShape (fun vs H Q E h => ?_) (fun cdv A outer s H vs Q E hr h => ?_)
  · obtain ⟨st, l, ll, hl, rs, hs, n, B, cl, rfl, _⟩ := h
    rfl
  · obtain ⟨st, l, ll, hl, rs, hs, n, B, cl, rfl, n1, n9, hR, ok, hL, hhl, hne, hsl, hsw, hst, hB, kk⟩ := h
    have nd := scShape.nd
    have hu : (A.deeper (envOfC "_law_shape" (fnScope sShape) s.heap.objs.size f cdv)).units + 64 < cLine := by have := hr.un; omega
    refine ⟨_, pss_cut (ps_setLc (i := 4) (own := [("_law_label", 5), ("_law_many_here", 6)]) (g := gTup K 2 (gCons (gName 5) (gCons (gName 6) gNil))) (tt := tYes) rfl nd rfl rfl (by rfl) (pi_list (pv 1)) (blkOk_by (N := NSh) (sc := fnScope sShape) (by decide +kernel))
          (fun _ _ _ _ _ => pg_tup rfl (pgs_cons (pg_name (i := 5) nd rfl (Or.inl rfl)) (pgs_cons (pg_name (i := 6) nd rfl (Or.inl rfl)) pgs_nil))) (fun _ _ _ _ _ => pts_nil) (fun _ _ _ _ _ => pv 5))
      (pss_cons (ps_if (pw_or (pt_cmp (pc_eqI (pe_ix ix_list (pv 2) pe_int fun _ _ => rfl) pe_int)) (pw_or1 (pw_and (pt_cmpR (op_neNil hu) (pv 3) (pe_lst pa_nil) (nomark _)) (pw_and1 (pt_cmp (pc_eqI (pe_c C hr (by omega) (by rfl) (pa_cons (pv 0) (pa_cons pe_int pa_nil))) pe_int)))).pt)).pt
          (pss_one (ps_ret (pe_c CO hr (by omega) (by rfl) (pa_cons (pv 0) (pa_cons (pv 3) pa_nil))))) pss_nil)
      (pss_cons (ps_asg (pe_op op_sub (pe_ix ix_list (pv 2) pe_int fun _ _ => rfl) pe_int) (pg_sub (pv 2) pe_int set_list))
      (pss_cons (ps_set (i := 5) nd rfl (Or.inl rfl) (pe_c CO hr (by omega) (by rfl) (pa_cons (pv 0) (pa_cons (pv 4) pa_nil))))
      (pss_cons (ps_set (i := 7) nd rfl (Or.inl rfl) (pe_lst (pa_cons (pv 5) pa_nil)))
      (pss_cons (ps_for PassesOwn.never rfl (pi_range1 (by rfl) T.ran (pa_cons (pe_c CM hr (by omega) (by rfl) (pa_cons (pv 1) (pa_cons (pv 5) pa_nil))) pa_nil)) (pg_name (i := 8) nd rfl (Or.inl rfl))
          (pss_one (ps_expr (pe_bm PySem.F.plainAttrs_list PySem.F.slot_list_append PySem.F.type_list_append mt_append (pv 7) (pa_cons (pe_c CS hr (Nat.le_refl _) (by rfl) (pa_cons (pv 0) (pa_cons (pv 1) (pa_cons (pv 2) (pa_cons (pv 3) pa_nil))))) pa_nil)))))
      (pss_one (ps_ret (pe_callTy call_tuple_of (by rfl) T.tup (by decide +kernel) (pa_cons (pv 7) pa_nil))))))))), ?_⟩
    obtain ⟨us, hlv, hp⟩ := id hR
    have hlen := Paired.length hp
    have hok := ok.len
    have hll := hL.at'
    have hlst : hl ≠ st := by
      obtain ⟨ns, i, c, h1, m, e1, _⟩ := hst
      refine ne_of hhl e1 fun z => ?_
      cases hs with
      | nil => cases z
      | cons x xs => cases z
    have hlll : hl ≠ ll := by
      refine ne_of hhl hll fun z => ?_
      cases hs with
      | nil => cases z
      | cons x xs => cases z
    have hpos : 0 < hs.length := List.length_pos_iff.mpr hne
    -- the labels
    refine ⟨fun σ H' => ∃ (ft : Addr), σ = [some (.ref st), some (.ref l), some (.ref ll), some (.ref hl), some (.ref ft), none, none, none, none] ∧ H' ft = some (.lst (rs.map fun r => V.str r.1)) ∧ H ft = none ∧ Same H H', ?_, ?_⟩
    · refine ⟨_, rfl, l, rfl, ⟨us, SqL.of hlv⟩, fun D nD => ?_⟩
      refine lc_gen (J := Itl K l) rs.length (fun i H' => H' D = some (.lst ((rs.take i).map fun r => V.str r.1)) ∧ Same H H') ⟨upd_same, same_upd nD⟩ (fun i H' hi ⟨_, sm⟩ => ⟨us, us.getD i .non, SqL.of (sm _ _ hlv), by rw [List.getD_eq_getElem?_getD, List.getElem?_eq_getElem (by omega)]; rfl⟩)
        (fun H' ⟨_, sm⟩ => ⟨us, SqL.of (sm _ _ hlv), by omega⟩) (fun i H' v H'' hi ⟨hD, sm⟩ yl => ?_) (fun H' ⟨hD, sm⟩ => ⟨D, rfl, by rw [hD, List.take_of_length_le (Nat.le_refl _)], nD, sm⟩)
      obtain ⟨rfl, hx⟩ := yl
      have hx := hx _ (SqL.of (sm _ _ hlv))
      obtain ⟨r, hr, t, rfl, ht⟩ := paired_get hp hx
      refine ⟨t, [.str r.1, .int r.2], rfl, SqT.of (sm _ _ ht), rfl, .str r.1, [.int r.2], rfl, .int r.2, [], rfl, rfl, rfl, ?_⟩
      unfold tYes
      dsimp only
      rw [if_pos rfl]
      refine ⟨_, rfl, _, hD, by rw [List.length_map, List.length_take, sizeLine_eq]; omega, ?_, fun b o e => by rw [upd_ne (ne_of_none e nD)]; exact sm _ _ e⟩
      obtain ⟨hlt, e⟩ := List.getElem?_eq_some_iff.mp hr
      rw [upd_same, List.take_succ_eq_append_getElem hlt, List.map_append, e]
      rfl
    rintro σ' H1 ⟨ft, rfl, hf, nft, s1⟩
    have fst : ft ≠ st := (hst.new nft).1
    have ftl : ft ≠ ll := (ne_of_none hll nft).symm
    have finH : ∀ H2 B', B' ≤ B + 1 → But st H H2 → ∀ v H4, v ∈ hs.map V.str → StAt (B' + 1) H4 st cl → But st H2 H4 → Q v H4 := fun H2 B' hB' hb2 v H4 hv hs4 hb4 => by
      obtain ⟨z, hz, rfl⟩ := List.mem_map.mp hv
      refine kk _ (.fl (.str z)) n H4 ⟨rfl, rfl⟩ (hsw z hz) ⟨hsw z hz, fun y hy => by rw [List.mem_singleton.mp hy]; exact hz⟩ (Nat.le_refl _) ?_ ?_ (hL.but (hb2.trans hb4)) (hs4.mono (by omega)) (hb2.trans hb4).two
      · show 1 ≤ _
        omega
      · show 1 ≤ _
        omega
    refine ⟨_, rfl, ll, _, 0, _, rfl, rfl, SqL.of (s1 _ _ hll), rfl, (n : Int), 0, rfl, rfl, _, rfl, ite2 (fun c0 => ?_) (fun c0 => ?_)⟩
    · refine iteBt rfl ⟨_, rfl, _, rfl, st, hl, hs.map V.str, B, cl, rfl, .inl (s1 _ _ hhl), hlst, by rw [List.length_map]; exact hpos, by rw [List.length_map]; omega, hst.same s1, by omega, finH H1 B (by omega) (Same.but s1)⟩
    have n0 : 0 < n := by
      rcases Nat.eq_zero_or_pos n with e | e
      · exact absurd (by rw [e]; rfl) c0
      · exact e
    refine ⟨_, rfl, (by show 0 ≤ sizeLine; decide), fun p np => ⟨hl, p, _, rfl, rfl, SqL.of (by rw [upd_ne (ne_of_none (s1 _ _ hhl) np)]; exact s1 _ _ hhl), SqL.of upd_same, _, rfl, ?_⟩⟩
    have s2 : Same H (upd H1 p (.lst [])) := s1.trans (same_upd np)
    have hf2 : (upd H1 p (.lst [])) ft = some (.lst (rs.map fun r => V.str r.1)) := by rw [upd_ne (ne_of_none hf np)]; exact hf
    generalize upd H1 p (.lst []) = H2 at s2 hf2
    refine iteBt (by cases hs with | nil => exact absurd rfl hne | cons x xs => rfl) ⟨_, rfl, st, 3, B, cl, rfl, by decide, by decide, hst.same s2, by omega, fun d H3 _ _ hs3 hb3 => ⟨d, 0, rfl, rfl, _, rfl, ite2 (fun _ => ?_) (fun _ => ?_)⟩⟩
    · exact ⟨_, rfl, _, rfl, st, hl, hs.map V.str, B + 1, cl, rfl, .inl (hb3 _ _ (s2 _ _ hhl) hlst), hlst, by rw [List.length_map]; exact hpos, by rw [List.length_map]; omega, hs3, by omega, finH H3 (B + 1) (by omega) ((Same.but s2).trans hb3)⟩
    have hb03 : But st H H3 := (Same.but s2).trans hb3
    have hL3 := hL.but hb03
    have hf3 := hb3 _ _ hf2 fst
    have e4 : ((n : Int) - 1) = ((n - 1 : Nat) : Int) := by omega
    refine ⟨_, rfl, ll, _, 0, _, rfl, rfl, SqL.of hL3.at', rfl, (n : Int), 1, rfl, rfl, _, rfl, ll, _, 0, 0, rfl, rfl, hL3.at', rfl, ?_⟩
    have hL4 : LeftAt (upd H3 ll (.lst [.int ((n : Int) - 1)])) st cl l ll (n - 1) := ⟨by rw [upd_same, e4], hL.st, hL.cl, hL.l⟩
    have hs4 : StAt (B + 1) (upd H3 ll (.lst [.int ((n : Int) - 1)])) st cl := hs3.put hL.st hL.cl
    have hb4 : But2 st ll H (upd H3 ll (.lst [.int ((n : Int) - 1)])) := fun b o e n m => by rw [upd_ne m]; exact hb03 _ _ e n
    have hf4 : (upd H3 ll (.lst [.int ((n : Int) - 1)])) ft = some (.lst (rs.map fun r => V.str r.1)) := by rw [upd_ne ftl]; exact hf3
    show tSeq _ _ _ _ (upd H3 ll (.lst [.int ((n : Int) - 1)]))
    generalize upd H3 ll (.lst [.int ((n : Int) - 1)]) = H4 at hL4 hs4 hb4 hf4
    have rpos : 0 < rs.length := by
      obtain ⟨r, hr, _⟩ := ok.leaf
      exact List.length_pos_iff.mpr fun e => by rw [e] at hr; cases hr
    refine ⟨_, rfl, _, rfl, st, ft, _, B + 1, cl, rfl, .inl hf4, fst, by rw [List.length_map]; exact rpos, by rw [List.length_map]; omega, hs4, by omega, fun v H5 hv hs5 hb5 => ?_⟩
    obtain ⟨r, hr, rfl⟩ := List.mem_map.mp hv
    have hmz : many rs r.1 = some r.2 := many_mem ok (List.mem_append_left _ hr)
    obtain ⟨hrm, m0, m2⟩ := ok.mem r hr
    have hrl : r.1 ∈ labs rs := List.mem_map_of_mem (List.mem_append_left _ hr)
    have hL5 := hL4.but hb5
    have hb05 : But2 st ll H H5 := hb4.trans hb5.two
    refine ⟨_, rfl, (by show 1 ≤ sizeLine; decide), fun fd nfd => ?_⟩
    obtain ⟨fs, fc⟩ := hs5.new nfd
    have fll : fd ≠ ll := (ne_of_none hL5.at' nfd).symm
    have nfH : H fd = none := hb05.free nfd fs fll
    have hL6 := hL5.same (same_upd nfd (o := .lst [.str r.1]))
    have hs6 := hs5.same (same_upd nfd (o := .lst [.str r.1]))
    have hb06 : But2 st ll H (upd H5 fd (.lst [.str r.1])) := hb05.trans (But2.same (same_upd nfd))
    have hf6 : (upd H5 fd (.lst [.str r.1])) fd = some (.lst [.str r.1]) := upd_same
    generalize upd H5 fd (.lst [.str r.1]) = H6 at hL6 hs6 hb06 hf6
    refine ⟨_, rfl, _, rfl, l, r.1, rs, r.2, rfl, RowsAt.but2 hst hll hb06 hL.l.symm hR, ok, hmz, fun H7 s7 => ⟨r.2, rfl, by omega, by omega, ?_⟩⟩
    refine for_range (n := r.2.toNat) (fun i σ H' => ∃ (v8 : Option V) (vs : List V) (cs : List D) (n' : Nat), σ = [some (.ref st), some (.ref l), some (.ref ll), some (.ref hl), some (.ref ft), some (.str r.1), none, some (.ref fd), v8] ∧ H' fd = some (.lst (.str r.1 :: vs)) ∧ DAts nol H' vs cs ∧ (isShs cs = true ∧ isThs rs cs = true ∧ ∀ z ∈ hnms cs, z ∈ hs) ∧ cs.length = i ∧ n' + 1 ≤ n ∧ szs cs ≤ 3 * (n - 1 - n') + i ∧ nhs cs ≤ (n - 1 - n') + i ∧ LeftAt H' st cl l ll n' ∧ StAt (B + (4 * (n - 1 - n') + 2 * i + 2)) H' st cl ∧ But2 st ll H H')
      ⟨none, [], [], n - 1, rfl, s7 _ _ hf6, trivial, ⟨rfl, rfl, fun z hz => by cases hz⟩, rfl, by omega, Nat.zero_le _, Nat.zero_le _, hL6.same s7, (hs6.same s7).mono (by omega), hb06.trans (But2.same s7)⟩ ?_ ?_
    · rintro i σ H8 hi ⟨v8, vs, cs, n', rfl, hf8, hds, ⟨hss, hts, hhs⟩, hcl, hn', hsz, hnh, hL8, hs8, hb8⟩
      refine ⟨_, rfl, .inl ⟨rfl, _, SqL.of hf8⟩, _, rfl, _, rfl, _, rfl, _, rfl, st, l, ll, hl, rs, hs, n', _, cl, rfl, by omega, by omega, RowsAt.but2 hst hll hb8 hL.l.symm hR, ok, hL8, hb8 _ _ hhl hlst hlll, hne, hsl, hsw, hs8, by omega, fun v d n'' H9 hd hsh ⟨hth, hhn⟩ hle hsz' hnh' hL9 hs9 hb9 => ?_⟩
      have hf9 := hb9 _ _ hf8 fs fll
      have hl8 := hds.len
      refine ⟨fd, _, v, rfl, rfl, hf9, by rw [List.length_cons, sizeLine_eq]; omega, ?_⟩
      have h10 : Hold nol H9 (upd H9 fd (.lst (.str r.1 :: vs ++ [v]))) := ⟨fun a xs e => by rw [upd_ne (ne_of e hf9 (by intro z; cases z))]; exact e, fun a e => by rw [upd_ne (ne_of e hf9 (by intro z; cases z))]; exact e, fun _ _ h => h.elim⟩
      refine ⟨_, vs ++ [v], cs ++ [d], n'', rfl, upd_same, DAts.app (DAts.hold h10 _ (DAts.hold (Hold.but2 hs8 hL8.at' hb9 fun _ h => h.elim) _ hds)) ⟨DAt.hold h10 _ hd, trivial⟩, ⟨isShs_of fun e he => ?_, by rw [isThs_app, hts, isThs, hth, isThs]; rfl, fun z hz => by rw [hnms_app, hnms, hnms, List.append_nil] at hz; exact (List.mem_append.mp hz).elim (hhs z) (hhn z)⟩, by rw [List.length_append, hcl]; rfl, by omega, ?_, ?_, hL9.put fll, (hs9.mono (by omega)).put fs fc, (hb8.trans hb9).put nfH⟩
      · rcases List.mem_append.mp he with he | he
        · exact isShs_mem hss e he
        · rw [List.mem_singleton.mp he]; exact hsh
      · rw [szs_app, show szs [d] = sz d + 0 from rfl]; omega
      · rw [nhs_app, show nhs [d] = nh d + 0 from rfl]; omega
    · rintro σ H8 ⟨v8, vs, cs, n', rfl, hf8, hds, ⟨hss, hts, hhs⟩, hcl, hn', hsz, hnh, hL8, hs8, hb8⟩
      refine ⟨_, rfl, fd, _, rfl, .inl ⟨SqL.of hf8, fun p np => ?_⟩⟩
      obtain ⟨pa, pc⟩ := hs8.new np
      have pl : p ≠ ll := (ne_of_none hL8.at' np).symm
      refine kk _ _ n' _ (new_tree np hds) (by rw [isSh, labs_word ok hrl, hss]; rfl) ⟨by rw [isTh, manyR_mem ok hr, hts, Bool.and_true, decide_eq_true_eq]; congr 1; omega, hhs⟩ (by omega) ?_ ?_ (hL8.put pl) ((hs8.mono (by omega)).put pa pc) (hb8.put (hb8.free np pa pl))
      · show 1 + (1 + szs cs) ≤ _
        omega
      · show nhs cs ≤ _
        omega
theorem c_shape {f : Addr} {fd : FuncData} (F : Def K mg "_law_shape" sShape f fd) (b : Binds K fd ["_law_state", "_law_rows_here", "_law_left_here", "_law_holes_here"] []) (T : Blt4 mg) (C : Cal P w K mg base 1 "_law_take" spTake []) (CO : Cal P w K mg base 2 "_law_one" spOne [])
    (CM : Cal P w K mg base 1 "_law_many" spMany []) : ∀ N : Nat, Cal P w K mg base (2 + N) "_law_shape" (spShape N) []
  | 0 => by
    have no : ∀ {vs H Q E}, spShape 0 vs H Q E → False := fun ⟨_, _, _, _, _, _, n, _, _, _, h1, _⟩ => by omega
    exact cal0 F b .nil scShape (fun vs H Q E h => (no h).elim) (fun cdv A outer s H vs Q E hr h => (no h).elim)
  | N + 1 => shape_step F b T (Nat.le_add_right 2 N) C CO CM (c_shape F b T C CO CM N)
end
end K9

namespace K9
open PySem PySem.Spec PyProof.Rows L2 C8 XE XR SX
/-! _law_unlike_holes -/
abbrev sUnl : Stmt := top 39
def spUnl (N : Nat) : Sp := fun vs H Q _ => ∃ (v : V) (d : D) (wl : Addr) (ws : List Str), vs = [v, .ref wl] ∧ DAt nol H v d ∧ isSh d = true ∧ sz d ≤ N ∧ sz d ≤ 5000 ∧ H wl = some (.lst (ws.map V.str)) ∧ nh d ≤ ws.length ∧ ws.length ≤ 100 ∧ (∀ z ∈ ws, wordS z = true) ∧
  ∀ (v' : V) (d' : D) (H' : Hp), DAt nol H' v' d' → isSh d' = true → ((∀ rs, isTh rs d = true → isTh rs d' = true) ∧ hnm d' = ws.take (nh d)) → isSq d' = isSq d → sz d' = sz d → nh d' = nh d → H' wl = some (.lst ((ws.drop (nh d)).map V.str)) → But wl H H' → Q v' H'
abbrev NUn : List Str := ["_law_shape_here", "_law_words_here", "_law_child"]
theorem scUnl : FnScope NUn ["_law_shape_here", "_law_words_here"] (fnScope sUnl) := fnScope_by (by decide +kernel)
theorem nhs_take_le (cs : List D) (i : Nat) : nhs (cs.take i) ≤ nhs cs := by
  have h := nhs_app (cs.take i) (cs.drop i)
  rw [List.take_append_drop] at h
  omega
theorem nhs_take_succ {xs : List D} {i : Nat} (h : i < xs.length) : nhs (xs.take (i + 1)) = nhs (xs.take i) + nh xs[i] := by
  rw [List.take_succ_eq_append_getElem h, nhs_app]
  rfl
section
variable {P : Program} {w : World} {K : PySem.W.Frag} {mg : Str → Option Value} {base : Heap}
theorem unl_step {k N : Nat} {f : Addr} {fd : FuncData} (F : Def K mg "_law_unlike_holes" sUnl f fd) (b : Binds K fd ["_law_shape_here", "_law_words_here"] []) (T : Blt4 mg) (CU : Cal P w K mg base k "_law_unlike_holes" (spUnl N) []) : Cal P w K mg base (k + 1) "_law_unlike_holes" (spUnl (N + 1)) [] := by
  refine cal0 F b .nil scUnl (fun vs H Q E h => ?_) (fun cdv A outer s H vs Q E hr h => ?_)
  · obtain ⟨v, d, wl, ws, rfl, _⟩ := h
    rfl
  · obtain ⟨v, d, wl, ws, rfl, hv, hsh, hN, hsz, hwl, hnw, hw9, hww, kk⟩ := h
    have nd := scUnl.nd
    refine ⟨_, pss_cons (ps_if (pt_val (pe_callB call_isi (by rfl) T.isi (by decide +kernel) (pa_cons (pv 0) (pa_cons (pe_bt "str" T.str) pa_nil))))
        (pss_one (ps_ret (pe_bm PySem.F.plainAttrs_list PySem.F.slot_list_pop PySem.F.type_list_pop mt_popAt (pv 1) (pa_cons pe_int pa_nil)))) pss_nil)
      (pss_one (ps_ret (pe_op op_catT (pe_tup (pa_cons (pe_ix ix_tup (pv 0) pe_int fun _ _ => rfl) pa_nil)) (pe_callTy call_tuple_of (by rfl) T.tup (by decide +kernel) (pa_cons
        (pe_lc (own := [("_law_child", 2)]) (g := gName 2) (tt := tYes) rfl nd (pi_tup (pe_slice sl_tup (pv 0) (po_some pe_int) po_none)) (blkOk_by (N := NUn) (sc := fnScope sUnl) (by decide +kernel)) (fun _ _ _ _ _ => pg_name (i := 2) nd rfl (Or.inl rfl)) (fun _ _ _ _ _ => pts_nil)
          (fun _ _ _ _ _ => pe_c CU hr (Nat.le_refl _) (by rfl) (pa_cons (pv 2) (pa_cons (pv 1) pa_nil)))) pa_nil))))), ?_⟩
    obtain ⟨Ty, ty, _, k2⟩ := d_ty (K := K) hv
    have ty0 := ty H fun _ _ e => e
    refine ⟨_, rfl, v, .ty "str", _, _, _, rfl, .ty _, ty0, k2, _, rfl, ?_⟩
    rcases isSh_inv hsh with ⟨z, rfl, hz⟩ | ⟨z, cs, rfl, hz, hcs⟩
    · have hn1 : nh (.fl (.str z)) = 1 := rfl
      cases ws with
      | nil => rw [hn1] at hnw; exact absurd hnw (by simp)
      | cons w0 ws =>
        refine iteBt rfl ⟨_, rfl, .inl ⟨rfl, _, SqL.of hwl⟩, wl, _, 0, (0 : Int).toNat, .str w0, rfl, rfl, hwl, by decide, by decide, seqIndex_of (by decide) (by rw [List.length_map, List.length_cons]; omega), rfl, ?_⟩
        refine kk _ (.fl (.str w0)) _ ⟨rfl, rfl⟩ (hww w0 List.mem_cons_self) ⟨fun _ _ => hww w0 List.mem_cons_self, rfl⟩ rfl rfl rfl (by rw [upd_same, hn1]; rfl) fun b o e n => by rw [upd_ne n]; exact e
    · refine iteBf rfl ?_
      obtain ⟨a, us, rfl, qa, _, hus⟩ := hv
      have qa : H a = some (.tup us) := qa.elim id fun e => e.1.elim
      match us, hus with
      | [], hus => exact hus.elim
      | u :: us, ⟨⟨eu, _⟩, hus⟩ =>
        subst eu
        have hul := hus.len
        have hsc : sz (.sq (.fl (.str z) :: cs)) = 2 + szs cs := by rw [sz, szs, sz]; omega
        have hnc : nh (.sq (.fl (.str z) :: cs)) = nhs cs := by rw [nh]
        have hcl := len_szs cs
        have hsl := sizeLine_eq
        refine ⟨_, rfl, a, _, 0, _, rfl, rfl, SqT.of qa, at_of (j := 0) rfl rfl, (by show 1 ≤ sizeLine; decide), fun t nt => ?_⟩
        have st : Same H (upd H t (.tup [.str z])) := same_upd nt
        have ht : (upd H t (.tup [.str z])) t = some (.tup [.str z]) := upd_same
        generalize upd H t (.tup [.str z]) = H1 at st ht
        refine ⟨_, rfl, 1, rfl, a, _, rfl, SqT.of (st _ _ qa), not_whole (by decide) (by simp), fun p np => ?_⟩
        rw [cutFrom (by decide)]
        have e3 : (V.str z :: us).drop (1 : Int).toNat = us := rfl
        rw [e3]
        refine ⟨p, rfl, ⟨_, SqT.of upd_same⟩, fun Da nDa => ?_⟩
        have sp : Same H1 (upd H1 p (.tup us)) := same_upd np
        have hpp : (upd H1 p (.tup us)) p = some (.tup us) := upd_same
        generalize upd H1 p (.tup us) = H2 at sp hpp nDa
        have s02 := st.trans sp
        have Dwl : Da ≠ wl := (ne_of_none (s02 _ _ hwl) nDa).symm
        refine lc_gen (J := Itt K p) us.length (fun j H' => ∃ vs' cs', H' Da = some (.lst vs') ∧ DAts nol H' vs' cs' ∧ (isShs cs' = true ∧ (∀ rs, isThs rs (cs.take j) = true → isThs rs cs' = true) ∧ hnms cs' = ws.take (nhs (cs.take j))) ∧ cs'.length = j ∧ szs cs' = szs (cs.take j) ∧ nhs cs' = nhs (cs.take j) ∧ H' wl = some (.lst ((ws.drop (nhs (cs.take j))).map V.str)) ∧ But wl H2 H')
          ⟨[], [], upd_same, trivial, ⟨rfl, fun _ h => h, rfl⟩, rfl, rfl, rfl, by rw [upd_ne Dwl.symm]; exact s02 _ _ hwl, Same.but (same_upd nDa)⟩
          (fun j H' hj ⟨_, _, _, _, _, _, _, _, _, b'⟩ => ⟨_, us.getD j .non, SqT.of (b' _ _ hpp (ne_of hpp (s02 _ _ hwl) (by intro z; cases z))), getD_at hj⟩) (fun H' ⟨_, _, _, _, _, _, _, _, _, b'⟩ => ⟨_, SqT.of (b' _ _ hpp (ne_of hpp (s02 _ _ hwl) (by intro z; cases z))), Nat.le_refl _⟩) (fun j H' x H'' hj ⟨vs', cs', hD, hds, ⟨hss, hts, hhn⟩, hcl', hszs, hnhs, hw', b'⟩ yl => ?_) (fun H' ⟨vs', cs', hD, hds, ⟨hss, hts, hhn⟩, hcl', hszs, hnhs, hw', b'⟩ => ?_)
        · obtain ⟨rfl, hx⟩ := yl
          have hx := hx _ (SqT.of (b' _ _ hpp (ne_of hpp (s02 _ _ hwl) (by intro z; cases z))))
          obtain ⟨c, hc, hxc⟩ := hus.get hx
          obtain ⟨hlt, ec⟩ := List.getElem?_eq_some_iff.mp hc
          have hszc := szs_get hc
          have hnt := nhs_take_succ hlt
          rw [ec] at hnt
          have hntl := nhs_take_le cs (j + 1)
          rw [hnc] at hnw
          have hdl : (ws.drop (nhs (cs.take j))).length = ws.length - nhs (cs.take j) := List.length_drop
          refine ⟨rfl, ?_⟩
          unfold tYes
          dsimp only
          rw [if_pos rfl]
          refine ⟨_, rfl, _, rfl, x, c, wl, ws.drop (nhs (cs.take j)), rfl, DAt.hold (Hold.but1 (s02 _ _ hwl) b' fun _ h => h.elim) _ (DAt.hold (.same s02) _ hxc), isShs_mem hcs c (List.mem_of_getElem? hc), by omega, by omega, hw', by omega, by omega, fun z hz => hww z (List.mem_of_mem_drop hz), fun v' d' H3 hd' hsh' ⟨hth', hhn'⟩ _ hsz' hnh' hw3 hb3 => ?_⟩
          have hD3 := hb3 _ _ hD Dwl
          have hvl := hds.len
          have nD2 : H2 Da = none := nDa
          have h10 : Hold nol H3 (upd H3 Da (.lst (vs' ++ [v']))) := ⟨fun a xs e => by rw [upd_ne (ne_of e hD3 (by intro z; cases z))]; exact e, fun a e => by rw [upd_ne (ne_of e hD3 (by intro z; cases z))]; exact e, fun _ _ h => h.elim⟩
          refine ⟨_, hD3, by omega, vs' ++ [v'], cs' ++ [d'], upd_same, DAts.app (DAts.hold h10 _ (DAts.hold (Hold.but1 hw' hb3 fun _ h => h.elim) _ hds)) ⟨DAt.hold h10 _ hd', trivial⟩, ⟨isShs_of fun e he => ?_, fun rs h => ?_, ?_⟩, by rw [List.length_append, hcl']; rfl, ?_, ?_, ?_, fun b o e n => by rw [upd_ne (ne_of_none e nD2)]; exact hb3 _ _ (b' _ _ e n) n⟩
          · rcases List.mem_append.mp he with he | he
            · exact isShs_mem hss e he
            · rw [List.mem_singleton.mp he]; exact hsh'
          · rw [List.take_succ_eq_append_getElem hlt, isThs_app, Bool.and_eq_true, ec] at h
            rw [isThs_app, hts rs h.1, isThs, isThs, Bool.and_true, Bool.true_and]
            have h2 := h.2
            rw [isThs, isThs, Bool.and_true] at h2
            exact hth' rs h2
          · rw [hnms_app, hnms, hnms, List.append_nil, hhn, hhn', hnt, List.take_add]
          · rw [szs_app, show szs [d'] = sz d' + 0 from rfl, szs_take_succ hlt, ec]; omega
          · rw [nhs_app, show nhs [d'] = nh d' + 0 from rfl, hnt]; omega
          · rw [upd_ne Dwl.symm, hw3, List.drop_drop, hnt]
        · rw [hul, List.take_length] at hszs hnhs hw' hts hhn
          have hvl := hds.len
          have htH : H' t = some (.tup [.str z]) := b' _ _ (sp _ _ ht) (ne_of (sp _ _ ht) (s02 _ _ hwl) (by intro z; cases z))
          have hbf : But wl H H' := fun b o e n => b' _ _ (s02 _ _ e) n
          refine ⟨Da, vs', rfl, .inl ⟨SqL.of hD, fun q nq => ?_⟩⟩
          have sq : Same H' (upd H' q (.tup vs')) := same_upd nq
          have hqq : (upd H' q (.tup vs')) q = some (.tup vs') := upd_same
          generalize upd H' q (.tup vs') = H4 at sq hqq
          have ht4 := sq _ _ htH
          have hd4 := DAts.hold (.same sq) _ hds
          have hb4 : But wl H H4 := fun b o e n => sq _ _ (hbf _ _ e n)
          have s1 : isSh (.sq (.fl (.str z) :: cs')) = true := by rw [isSh, hz, hss]; rfl
          have s2 : sz (.sq (.fl (.str z) :: cs')) = sz (.sq (.fl (.str z) :: cs)) := by rw [hsc, sz, szs, sz]; omega
          have s3 : nh (.sq (.fl (.str z) :: cs')) = nh (.sq (.fl (.str z) :: cs)) := by rw [hnc, nh]; exact hnhs
          have s4 : (∀ rs, isTh rs (.sq (.fl (.str z) :: cs)) = true → isTh rs (.sq (.fl (.str z) :: cs')) = true) ∧ hnm (.sq (.fl (.str z) :: cs')) = ws.take (nh (.sq (.fl (.str z) :: cs))) := by
            refine ⟨fun rs h => ?_, by rw [hnc, hnm]; exact hhn⟩
            rw [isTh, Bool.and_eq_true] at h ⊢
            exact ⟨by rw [hcl', hul]; exact h.1, hts rs h.2⟩
          have hwe := sq _ _ hw'
          rw [← hnc] at hwe
          refine ⟨t, q, [.str z], vs', rfl, rfl, SqT.of ht4, SqT.of hqq, by simp, by rw [hvl, List.length_singleton]; omega, fun e => ?_, fun e tt ntt => ?_⟩
          · subst e
            exact kk _ (.sq (.fl (.str z) :: cs')) H4 ⟨t, _, rfl, .inl ht4, rfl, ⟨rfl, rfl⟩, hd4⟩ s1 s4 rfl s2 s3 hwe hb4
          · exact kk _ _ _ (new_tree ntt hd4) s1 s4 rfl s2 s3 (by rw [upd_ne (ne_of_none hwe ntt)]; exact hwe) fun b o e n => by
              have := hb4 _ _ e n
              rw [upd_ne (ne_of_none this ntt)]
              exact this
theorem c_unl {f : Addr} {fd : FuncData} (F : Def K mg "_law_unlike_holes" sUnl f fd) (b : Binds K fd ["_law_shape_here", "_law_words_here"] []) (T : Blt4 mg) : ∀ N : Nat, Cal P w K mg base (1 + N) "_law_unlike_holes" (spUnl N) []
  | 0 => by
    have no : ∀ {vs H Q E}, spUnl 0 vs H Q E → False := fun ⟨_, d, _, _, _, _, _, h1, _⟩ => by have := sz_pos d; omega
    exact cal0 F b .nil scUnl (fun vs H Q E h => (no h).elim) (fun cdv A outer s H vs Q E hr h => (no h).elim)
  | N + 1 => unl_step F b T (c_unl F b T N)
end
end K9

namespace K9
open PySem PySem.Spec PyProof.Rows L2 C8 XE XR SX
/-! _law_left -/
abbrev sLeft : Stmt := top 40
theorem But.two1 {st ll : Addr} {H H1 H2 : Hp} (h : But st H H1) (n : H ll = none) (h2 : But2 st ll H1 H2) : But st H H2 := fun b o e m => h2 b o (h b o e m) m (ne_of_none e n)
theorem But.on1 {st p : Addr} {H H1 H2 : Hp} (h : But st H H1) (n : H p = none) (h2 : But p H1 H2) : But st H H2 := fun b o e m => h2 b o (h b o e m) (ne_of_none e n)
theorem StAt.off {B : Nat} {H H' : Hp} {st cl p : Addr} (h : StAt B H st cl) (h1 : p ≠ st) (h2 : p ≠ cl) (b : But p H H') : StAt B H' st cl := h.keeps (fun o e => b _ _ e h1.symm) fun o e => b _ _ e h2.symm
theorem no_keep : ("keep" : Str) ∈ menu → False := by decide +kernel
def spLeft : Sp := fun vs H Q _ => ∃ (st l : Addr) (m : Int) (rs : List Rw) (B : Nat) (cl : Addr), vs = [.ref st, .ref l, .int m] ∧ 1 ≤ m ∧ m ≤ 3 ∧ RowsAt H l rs ∧ RowsOk rs ∧ StAt B H st cl ∧ B + 50 < 1000000000000000 ∧
  ∀ (v : V) (z : Str) (cs : List D) (H' : Hp), DAt nol H' v (.sq (.fl (.str z) :: cs)) → isSh (.sq (.fl (.str z) :: cs)) = true → (isTh rs (.sq (.fl (.str z) :: cs)) = true ∧ (hnms cs).Nodup ∧ ∀ z ∈ hnms cs, z ∈ menu ∨ z = "keep") → nhs cs ≤ 4 → szs cs ≤ 8 → StAt (B + 50) H' st cl → But st H H' → Q v H'
abbrev NLe : List Str := ["_law_state", "_law_rows_here", "_law_most", "_law_label", "_law_many_here", "_law_left_here", "_law_found", "_law_k", "_law_words_here"]
theorem scLeft : FnScope NLe ["_law_state", "_law_rows_here", "_law_most"] (fnScope sLeft) := fnScope_by (by decide +kernel)
section
variable {P : Program} {w : World} {K : PySem.W.Frag} {mg : Str → Option Value} {base : Heap}
theorem c_left {f : Addr} {fd : FuncData} (F : Def K mg "_law_left" sLeft f fd) (b : Binds K fd ["_law_state", "_law_rows_here", "_law_most"] []) (T : Blt4 mg) (C : Cal P w K mg base 1 "_law_take" spTake []) (CO : Cal P w K mg base 2 "_law_one" spOne [])
    (CM : Cal P w K mg base 1 "_law_many" spMany []) (CW : Cal P w K mg base 3 "_law_words" spWords []) (CS : Cal P w K mg base 7 "_law_shape" (spShape 5) []) (CU : Cal P w K mg base 13 "_law_unlike_holes" (spUnl 12) []) : Cal P w K mg base 14 "_law_left" spLeft [] := by
  refine cal0 F b .nil scLeft (fun vs H Q E h => ?_) (fun cdv A outer s H vs Q E hr h => ?_)
  · obtain ⟨st, l, m, rs, B, cl, rfl, _⟩ := h
    rfl
  · obtain ⟨st, l, m, rs, B, cl, rfl, hm1, hm3, hR, ok, hst, hB, kk⟩ := h
    have nd := scLeft.nd
    refine ⟨_, pss_cons (ps_set (i := 3) nd rfl (Or.inl rfl) (pe_c CO hr (by decide) (by rfl) (pa_cons (pv 0) (pa_cons
          (pe_lc (own := [("_law_label", 3), ("_law_many_here", 4)]) (g := gTup K 2 (gCons (gName 3) (gCons (gName 4) gNil))) (tt := tYes) rfl nd (pi_list (pv 1)) (blkOk_by (N := NLe) (sc := fnScope sLeft) (by decide +kernel))
            (fun _ _ _ _ _ => pg_tup rfl (pgs_cons (pg_name (i := 3) nd rfl (Or.inl rfl)) (pgs_cons (pg_name (i := 4) nd rfl (Or.inl rfl)) pgs_nil))) (fun _ _ _ _ _ => pts_nil) (fun _ _ _ _ _ => pv 3)) pa_nil))))
      (pss_cons (ps_set (i := 5) nd rfl (Or.inl rfl) (pe_lst (pa_cons (pe_c C hr (by decide) (by rfl) (pa_cons (pv 0) (pa_cons (pv 2) pa_nil))) pa_nil)))
      (pss_cons (ps_set (i := 6) nd rfl (Or.inl rfl) (pe_lst (pa_cons (pv 3) pa_nil)))
      (pss_cons (ps_for PassesOwn.never rfl (pi_range1 (by rfl) T.ran (pa_cons (pe_c CM hr (by decide) (by rfl) (pa_cons (pv 1) (pa_cons (pv 3) pa_nil))) pa_nil)) (pg_name (i := 7) nd rfl (Or.inl rfl))
          (pss_one (ps_expr (pe_bm PySem.F.plainAttrs_list PySem.F.slot_list_append PySem.F.type_list_append mt_append (pv 6) (pa_cons (pe_c CS hr (by decide) (by rfl) (pa_cons (pv 0) (pa_cons (pv 1) (pa_cons (pv 5) (pa_cons (pe_lst (pa_cons pe_str pa_nil)) pa_nil))))) pa_nil)))))
      (pss_cons (ps_set (i := 8) nd rfl (Or.inl rfl) (pe_c CW hr (by decide) (by rfl) (pa_cons (pv 0) (pa_cons pe_int pa_nil))))
      (pss_cut (ps_if (pt_cmp (pc_eqI (pe_c C hr (by decide) (by rfl) (pa_cons (pv 0) (pa_cons pe_int pa_nil))) pe_int)) (pss_one (ps_asg pe_str (pg_sub (pv 8) pe_int set_list))) pss_nil)
      (pss_one (ps_ret (pe_c CU hr (by decide) (by rfl) (pa_cons (pe_callTy call_tuple_of (by rfl) T.tup (by decide +kernel) (pa_cons (pv 6) pa_nil)) (pa_cons (pv 8) pa_nil)))))))))), ?_⟩
    obtain ⟨us, hlv, hp⟩ := id hR
    have hlen := Paired.length hp
    have hok := ok.len
    have rpos : 0 < rs.length := by
      obtain ⟨r, hr, _⟩ := ok.leaf
      exact List.length_pos_iff.mpr fun e => by rw [e] at hr; cases hr
    refine ⟨_, rfl, _, rfl, l, rfl, ⟨us, SqL.of hlv⟩, fun Dl nD => ?_⟩
    obtain ⟨Ds, Dc⟩ := hst.new nD
    refine lc_gen (J := Itl K l) rs.length (fun i H' => H' Dl = some (.lst ((rs.take i).map fun r => V.str r.1)) ∧ Same H H') ⟨upd_same, same_upd nD⟩ (fun i H' hi ⟨_, sm⟩ => ⟨us, us.getD i .non, SqL.of (sm _ _ hlv), by rw [List.getD_eq_getElem?_getD, List.getElem?_eq_getElem (by omega)]; rfl⟩)
      (fun H' ⟨_, sm⟩ => ⟨us, SqL.of (sm _ _ hlv), by omega⟩) (fun i H' v H'' hi ⟨hD, sm⟩ yl => ?_) (fun H1 ⟨hD, s1⟩ => ?_)
    · obtain ⟨rfl, hx⟩ := yl
      have hx := hx _ (SqL.of (sm _ _ hlv))
      obtain ⟨r, hr, t, rfl, ht⟩ := paired_get hp hx
      refine ⟨t, [.str r.1, .int r.2], rfl, SqT.of (sm _ _ ht), rfl, .str r.1, [.int r.2], rfl, .int r.2, [], rfl, rfl, rfl, ?_⟩
      unfold tYes
      dsimp only
      rw [if_pos rfl]
      refine ⟨_, rfl, _, hD, by rw [List.length_map, List.length_take, sizeLine_eq]; omega, ?_, fun b o e => by rw [upd_ne (ne_of_none e nD)]; exact sm _ _ e⟩
      obtain ⟨hlt, e⟩ := List.getElem?_eq_some_iff.mp hr
      rw [upd_same, List.take_succ_eq_append_getElem hlt, List.map_append, e]
      rfl
    rw [List.take_of_length_le (Nat.le_refl _)] at hD
    refine ⟨st, Dl, _, B, cl, rfl, .inl hD, Ds, by rw [List.length_map]; exact rpos, by rw [List.length_map]; omega, hst.same s1, by omega, fun v H2 hv hs2 hb2 => ?_⟩
    obtain ⟨r, hr, rfl⟩ := List.mem_map.mp hv
    have hmz : many rs r.1 = some r.2 := many_mem ok (List.mem_append_left _ hr)
    obtain ⟨hrm, m0, m2⟩ := ok.mem r hr
    have hrl : r.1 ∈ labs rs := List.mem_map_of_mem (List.mem_append_left _ hr)
    have hb02 : But st H H2 := (Same.but s1).trans hb2
    -- the list of what is left
    refine ⟨_, rfl, _, rfl, st, m, B + 1, cl, rfl, by omega, by omega, hs2, by omega, fun d H3 d0 d1 hs3 hb3 => ⟨(by show 1 ≤ sizeLine; decide), fun ll nll => ?_⟩⟩
    obtain ⟨ls, lc⟩ := hs3.new nll
    have hb03 := hb02.trans hb3
    have nlH : H ll = none := hb03.free nll ls
    have lll : ll ≠ l := (ne_of_none hlv nlH).symm
    have ed : d = ((d.toNat : Nat) : Int) := by omega
    have hL4 : LeftAt (upd H3 ll (.lst [.int d])) st cl l ll d.toNat := ⟨by rw [upd_same, ← ed], ls, lc, lll⟩
    have hs4 : StAt (B + 2) (upd H3 ll (.lst [.int d])) st cl := hs3.put ls lc
    have hb4 : But st H (upd H3 ll (.lst [.int d])) := hb03.upd nlH
    generalize upd H3 ll (.lst [.int d]) = H4 at hL4 hs4 hb4
    refine ⟨_, rfl, (by show 1 ≤ sizeLine; decide), fun fd nfd => ?_⟩
    obtain ⟨fs, fc⟩ := hs4.new nfd
    have fll : fd ≠ ll := (ne_of_none hL4.at' nfd).symm
    have nfH : H fd = none := hb4.free nfd fs
    have hL5 := hL4.same (same_upd nfd (o := .lst [.str r.1]))
    have hs5 := hs4.same (same_upd nfd (o := .lst [.str r.1]))
    have hb5 : But st H (upd H4 fd (.lst [.str r.1])) := hb4.upd nfH
    have hf5 : (upd H4 fd (.lst [.str r.1])) fd = some (.lst [.str r.1]) := upd_same
    generalize upd H4 fd (.lst [.str r.1]) = H5 at hL5 hs5 hb5 hf5
    refine ⟨_, rfl, _, rfl, l, r.1, rs, r.2, rfl, hR.but hst hb5, ok, hmz, fun H6 s6 => ⟨r.2, rfl, by omega, by omega, ?_⟩⟩
    refine for_range (n := r.2.toNat) (fun i σ H' => ∃ (v7 : Option V) (vs : List V) (cs : List D) (n' : Nat), σ = [some (.ref st), some (.ref l), some (.int m), some (.str r.1), none, some (.ref ll), some (.ref fd), v7, none] ∧ H' fd = some (.lst (.str r.1 :: vs)) ∧ DAts nol H' vs cs ∧ (isShs cs = true ∧ isThs rs cs = true) ∧ cs.length = i ∧ n' ≤ d.toNat ∧ szs cs ≤ 3 * (d.toNat - n') + i ∧ nhs cs ≤ (d.toNat - n') + i ∧ LeftAt H' st cl l ll n' ∧ StAt (B + 2 + (4 * (d.toNat - n') + 2 * i)) H' st cl ∧ But st H H')
      ⟨none, [], [], d.toNat, rfl, s6 _ _ hf5, trivial, ⟨rfl, rfl⟩, rfl, by omega, Nat.zero_le _, Nat.zero_le _, hL5.same s6, (hs5.same s6).mono (by omega), hb5.trans (Same.but s6)⟩ ?_ ?_
    · rintro i σ H8 hi ⟨v7, vs, cs, n', rfl, hf8, hds, ⟨hss, hts⟩, hcl, hn', hsz, hnh, hL8, hs8, hb8⟩
      refine ⟨_, rfl, .inl ⟨rfl, _, SqL.of hf8⟩, _, rfl, _, rfl, _, rfl, (by show 1 ≤ sizeLine; decide), fun hl nhl => ?_⟩
      have s9 : Same H8 (upd H8 hl (.lst [.str "x"])) := same_upd nhl
      have hh9 : (upd H8 hl (.lst [.str "x"])) hl = some (.lst [.str "x"]) := upd_same
      generalize upd H8 hl (.lst [.str "x"]) = H9 at s9 hh9
      have hb9 := hb8.trans (Same.but s9)
      have hs9 := hs8.same s9
      have hL9 := hL8.same s9
      refine ⟨st, l, ll, hl, rs, ["x"], n', _, cl, rfl, by omega, by omega, hR.but hst hb9, ok, hL9, hh9, by simp, by simp, by decide +kernel, hs9, by omega, fun v dd n'' H10 hd hsh ⟨hth, _⟩ hle hsz' hnh' hL10 hs10 hb10 => ?_⟩
      have hf10 := hb10 _ _ (s9 _ _ hf8) fs fll
      have hl8 := hds.len
      have h10 : Hold nol H10 (upd H10 fd (.lst (.str r.1 :: vs ++ [v]))) := ⟨fun a xs e => by rw [upd_ne (ne_of e hf10 (by intro z; cases z))]; exact e, fun a e => by rw [upd_ne (ne_of e hf10 (by intro z; cases z))]; exact e, fun _ _ h => h.elim⟩
      refine ⟨fd, _, v, rfl, rfl, hf10, by rw [List.length_cons, sizeLine_eq]; omega, ?_⟩
      refine ⟨_, vs ++ [v], cs ++ [dd], n'', rfl, upd_same, DAts.app (DAts.hold h10 _ (DAts.hold (Hold.but2 hs9 hL9.at' hb10 fun _ h => h.elim) _ (DAts.hold (.same s9) _ hds))) ⟨DAt.hold h10 _ hd, trivial⟩, ⟨isShs_of fun e he => ?_, by rw [isThs_app, hts, isThs, hth, isThs]; rfl⟩, by rw [List.length_append, hcl]; rfl, by omega, ?_, ?_, hL10.put fll, (hs10.mono (by omega)).put fs fc, (hb9.two1 nlH hb10).upd nfH⟩
      · rcases List.mem_append.mp he with he | he
        · exact isShs_mem hss e he
        · rw [List.mem_singleton.mp he]; exact hsh
      · rw [szs_app, show szs [dd] = sz dd + 0 from rfl]; omega
      · rw [nhs_app, show nhs [dd] = nh dd + 0 from rfl]; omega
    · rintro σ H8 ⟨v7, vs, cs, n', rfl, hf8, hds, ⟨hss, hts⟩, hcl, hn', hsz, hnh, hL8, hs8, hb8⟩
      refine ⟨_, rfl, st, 4, _, cl, rfl, by decide, by decide, hs8, by omega, fun wl ws H9 nwl hwl hwlen hwnd hwm hs9 hb9 => ?_⟩
      obtain ⟨ws', wc⟩ := hs8.new nwl
      have wfd : fd ≠ wl := ne_of_none hf8 nwl
      have nwH : H wl = none := hb8.free nwl ws'
      have hf9 := hb9 _ _ hf8 fs
      have hd9 := DAts.hold (Hold.but hs8 hb9 fun _ h => h.elim) _ hds
      have hb09 := hb8.trans hb9
      have hwm' : ∀ z ∈ ws, z ∈ menu ∨ z = "keep" := fun z hz => .inl (hwm z hz)
      match ws, hwlen, hwnd with
      | [w0, w1, w2, w3], _, hwnd =>
      refine ⟨fun σ H' => ∃ (ws' : List Str) (v7 : Option V), σ = [some (.ref st), some (.ref l), some (.int m), some (.str r.1), none, some (.ref ll), some (.ref fd), v7, some (.ref wl)] ∧ H' wl = some (.lst (ws'.map V.str)) ∧ ws'.length = 4 ∧ ((∀ z ∈ ws', z ∈ menu ∨ z = "keep") ∧ ws'.Nodup) ∧ H' fd = some (.lst (.str r.1 :: vs)) ∧ DAts nol H' vs cs ∧ StAt (B + 50) H' st cl ∧ But st H H', ?_, ?_⟩
      · refine ⟨_, rfl, st, 6, _, cl, rfl, by decide, by decide, hs9, by omega, fun d6 H10 _ _ hs10 hb10 => ⟨d6, 0, rfl, rfl, _, rfl, ite2 (fun _ => ?_) (fun _ => ?_)⟩⟩
        · have hwl10 := hb10 _ _ hwl ws'
          refine ⟨_, rfl, wl, _, 0, 0, rfl, rfl, hwl10, rfl, ["keep", w1, w2, w3], _, rfl, upd_same, rfl, ⟨fun z hz => ?_, ?_⟩, by rw [upd_ne wfd]; exact hb10 _ _ hf9 fs, ?_, (hs10.mono (by omega)).put ws' wc, (hb09.trans hb10).upd nwH⟩
          · rcases List.mem_cons.mp hz with rfl | hz
            · exact .inr rfl
            · exact hwm' z (List.mem_cons_of_mem _ hz)
          · rw [List.nodup_cons] at hwnd ⊢
            exact ⟨fun h => no_keep (hwm _ (List.mem_cons_of_mem _ h)), hwnd.2⟩
          · exact DAts.hold ⟨fun a xs e => by rw [upd_ne (ne_of e hwl10 (by intro z; cases z))]; exact e, fun a e => by rw [upd_ne (ne_of e hwl10 (by intro z; cases z))]; exact e, fun _ _ h => h.elim⟩ _ (DAts.hold (Hold.but hs9 hb10 fun _ h => h.elim) _ hd9)
        · exact ⟨[w0, w1, w2, w3], _, rfl, hb10 _ _ hwl ws', rfl, ⟨hwm', hwnd⟩, hb10 _ _ hf9 fs, DAts.hold (Hold.but hs9 hb10 fun _ h => h.elim) _ hd9, hs10.mono (by omega), hb09.trans hb10⟩
      rintro σ H10 ⟨ws, v7, rfl, hwl, hwlen, ⟨hwk, hwnd'⟩, hf, hd, hs, hb⟩
      have hww : ∀ z ∈ ws, wordS z = true := fun z hz => (hwk z hz).elim (menu_word z) fun e => by rw [e]; decide +kernel
      refine ⟨_, rfl, fd, _, rfl, .inl ⟨SqL.of hf, fun p np => ?_⟩⟩
      obtain ⟨ps, pc⟩ := hs.new np
      have sp : Same H10 (upd H10 p (.tup (.str r.1 :: vs))) := same_upd np
      have hsh : isSh (.sq (.fl (.str r.1) :: cs)) = true := by rw [isSh, labs_word ok hrl, hss]; rfl
      have hsc : sz (.sq (.fl (.str r.1) :: cs)) = 2 + szs cs := by rw [sz, szs, sz]; omega
      have hnc : nh (.sq (.fl (.str r.1) :: cs)) = nhs cs := by rw [nh]
      have hth0 : isTh rs (.sq (.fl (.str r.1) :: cs)) = true := by rw [isTh, manyR_mem ok hr, hts, Bool.and_true, decide_eq_true_eq]; congr 1; omega
      refine ⟨_, rfl, .ref p, .sq (.fl (.str r.1) :: cs), wl, ws, rfl, new_tree np hd, hsh, by omega, by omega, sp _ _ hwl, by omega, by omega, hww, fun v' d' H' hd' hsh' ⟨hth', hhn'⟩ _ hsz' hnh' _ hb' => ?_⟩
      rcases isSh_inv hsh' with ⟨z, rfl, _⟩ | ⟨z, cs', rfl, hz, hcs⟩
      · rw [hsc, sz] at hsz'
        omega
      · have hsc' : sz (.sq (.fl (.str z) :: cs')) = 2 + szs cs' := by rw [sz, szs, sz]; omega
        rw [nh, hnc] at hnh'
        rw [hnm] at hhn'
        exact kk v' z cs' H' hd' hsh' ⟨hth' rs hth0, by rw [hhn']; exact hwnd'.sublist (List.take_sublist _ _), fun y hy => hwk y (by rw [hhn'] at hy; exact List.mem_of_mem_take hy)⟩ (by omega) (by omega) ((hs.same sp).off ws' wc hb') ((hb.trans (Same.but sp)).on1 nwH hb')
end
end K9

namespace K9
open PySem PySem.Spec PyProof.Rows L2 C8 XE XR SX
/-! _law_right -/
abbrev sRight : Stmt := top 41
theorem isT_shN {rs : List Rw} (ok : RowsOk rs) : ∀ (n : Nat) (t : D), sz t ≤ n → isT rs t = true → isSh t = true
  | 0, t, h, _ => by have := sz_pos t; omega
  | n + 1, t, h, ht => by
    obtain ⟨z, cs, m, rfl, hm, _, hts⟩ := isT_inv ht
    rw [isSh, labs_word ok (many_some hm), isShs_of fun c hc => ?_]
    · rfl
    · obtain ⟨i, hi⟩ := List.getElem?_of_mem hc
      have := szs_get hi
      have e : sz (.sq (.fl (.str z) :: cs)) = 2 + szs cs := by rw [sz, szs, sz]; omega
      exact isT_shN ok n c (by omega) (isTs_get hts hi)
theorem isT_sh {rs : List Rw} (ok : RowsOk rs) {t : D} (h : isT rs t = true) : isSh t = true := isT_shN ok _ t (Nat.le_refl _) h
mutual
theorem holes_word : ∀ d : D, isSh d = true → ∀ q ∈ holesP d, wordS q.1 = true
  | .fl x, h, q, hq => by
    rcases isSh_inv h with ⟨z, e, hz⟩ | ⟨z, cs, e, _⟩
    · cases e
      rw [List.mem_singleton.mp hq]
      exact hz
    · cases e
  | .emp, h, q, hq => by cases hq
  | .sq [], h, q, hq => by cases hq
  | .sq (x :: cs), h, q, hq => by
    rcases isSh_inv h with ⟨z, e, hz⟩ | ⟨z, cs', e, _, hcs⟩
    · cases e
    · injection e with e
      injection e with e1 e2
      subst e2
      exact holess_word cs 0 hcs q hq
theorem holess_word : ∀ (cs : List D) (k : Nat), isShs cs = true → ∀ q ∈ holesPs k cs, wordS q.1 = true
  | [], k, h, q, hq => by cases hq
  | c :: cs, k, h, q, hq => by
    rw [isShs, Bool.and_eq_true] at h
    rw [holesPs] at hq
    rcases List.mem_append.mp hq with hq | hq
    · obtain ⟨p, hp, rfl⟩ := List.mem_map.mp hq
      exact holes_word c h.1 p hp
    · exact holess_word cs (k + 1) h.2 q hq
end
theorem rep_flat (n : Nat) (x : V) : (List.replicate n [x]).flatten = List.replicate n x := by
  induction n with
  | zero => rfl
  | succ n ih => rw [List.replicate_succ, List.flatten_cons, ih]; rfl
theorem dats_rep {F : Addr → Prop} {H : Hp} {h : Str} : ∀ n : Nat, DAts F H (List.replicate n (.str h)) (List.replicate n (.fl (.str h)))
  | 0 => trivial
  | n + 1 => ⟨⟨rfl, rfl⟩, dats_rep n⟩
theorem szs_rep {x : V} : ∀ n : Nat, szs (List.replicate n (.fl x)) = n
  | 0 => rfl
  | n + 1 => by rw [List.replicate_succ, szs, sz, szs_rep n]; omega
def rEqNil (K : PySem.W.Frag) : R2 := fun x y H Q => ∃ a b xs, x = .ref a ∧ y = .ref b ∧ SqL K H a xs ∧ SqL K H b [] ∧ Q (.bl xs.isEmpty) H
theorem op_eqNil (hu : X.A.units + 64 < cLine) : OpR X (compareOp .Eq) (rEqNil X.K) := by
  intro pins s σ H x y v u Q I rx ry h
  obtain ⟨a, b, xs, rfl, rfl, ha, hb, q⟩ := h
  cases rx
  cases ry
  obtain ⟨us, r1, p1, _⟩ := I.list ha
  obtain ⟨ws, r2, p2, _⟩ := I.list hb
  cases r2
  have fin : ∀ b : Bool, b = xs.isEmpty → (EP X pins σ Q) (.bool b) s := fun b e => ⟨.bl b, H, I, rfl, by rw [e]; exact q⟩
  cases r1 with
  | nil => exact SeqAt.RcAt.lists (e := fun _ => true) p1.isList p2.isList rfl (by omega) (fun j h1 h2 => absurd h1 (by simp)) _ _ _ _ (fin true rfl)
  | cons r t => exact SeqAt.RcAt.lists_lengths p1.isList p2.isList (by simp) (by omega) _ _ _ _ (fin false rfl)
theorem hnm_treeN {rs : List Rw} : ∀ (n : Nat) (t : D), sz t ≤ n → isT rs t = true → hnm t = []
  | 0, t, h, _ => by have := sz_pos t; omega
  | n + 1, t, h, ht => by
    obtain ⟨z, cs, m, rfl, _, _, hts⟩ := isT_inv ht
    rw [hnm]
    have e : sz (.sq (.fl (.str z) :: cs)) = 2 + szs cs := by rw [sz, szs, sz]; omega
    have go : ∀ l : List D, (∀ c ∈ l, hnm c = []) → hnms l = [] := fun l => by
      induction l with
      | nil => intro _; rfl
      | cons c l ih => intro hl; rw [hnms, hl c List.mem_cons_self, ih fun c hc => hl c (List.mem_cons_of_mem _ hc)]; rfl
    refine go cs fun c hc => ?_
    obtain ⟨i, hi⟩ := List.getElem?_of_mem hc
    have := szs_get hi
    exact hnm_treeN n c (by omega) (isTs_get hts hi)
theorem hnm_tree {rs : List Rw} {t : D} (h : isT rs t = true) : hnm t = [] := hnm_treeN _ t (Nat.le_refl _) h
theorem hnms_rep {h : Str} : ∀ n : Nat, ∀ z ∈ hnms (List.replicate n (.fl (.str h))), z = h
  | 0, z, hz => by cases hz
  | n + 1, z, hz => by
    rw [List.replicate_succ, hnms] at hz
    rcases List.mem_append.mp hz with hz | hz
    · exact List.mem_singleton.mp hz
    · exact hnms_rep n z hz
def spRight : Sp := fun vs H Q _ => ∃ (st l : Addr) (v : V) (d : D) (m : Int) (rs : List Rw) (B : Nat) (cl : Addr), vs = [.ref st, .ref l, v, .int m] ∧ 1 ≤ m ∧ m ≤ 4 ∧ DAt nol H v d ∧ isSh d = true ∧ sz d ≤ 12 ∧ RowsAt H l rs ∧ RowsOk rs ∧ StAt B H st cl ∧ B + 60 < 1000000000000000 ∧
  ∀ (v' : V) (d' : D) (H' : Hp), DAt nol H' v' d' → isSh d' = true → ((∀ z ∈ hnm d', z ∈ hnm d) ∧ isTk rs d' = true) → sz d' ≤ 30 → StAt (B + 60) H' st cl → But st H H' → Q v' H'
abbrev NRi : List Str := ["_law_state", "_law_rows_here", "_law_left_here", "_law_most", "_law_holes_here", "_law_hole", "_law_place", "_law_found", "_law_names"]
theorem scRight : FnScope NRi ["_law_state", "_law_rows_here", "_law_left_here", "_law_most"] (fnScope sRight) := fnScope_by (by decide +kernel)
theorem mt_lcountK {X : Cx} {K : PySem.W.Frag} (h : X.K = K) : MtR X "list.count" (rCntF K) := by subst h; exact mt_lcountF
section
variable {P : Program} {w : World} {K : PySem.W.Frag} {mg : Str → Option Value} {base : Heap}
theorem c_right {f : Addr} {fd : FuncData} (F : Def K mg "_law_right" sRight f fd) (b : Binds K fd ["_law_state", "_law_rows_here", "_law_left_here", "_law_most"] []) (T : Blt4 mg) (hany : mg "any" = none) (C : Cal P w K mg base 1 "_law_take" spTake [])
    (CT : Cal P w K mg base 7 "_law_tree" (spTree 4) []) (CS : Cal P w K mg base 7 "_law_shape" (spShape 5) []) (CH : Cal P w K mg base 31 "_law_holes" (spHoles 30) []) (CP : Cal P w K mg base 31 "_law_spots" (spSpots 30) []) : Cal P w K mg base 32 "_law_right" spRight [] := by
  refine cal0 F b .nil scRight (fun vs H Q E h => ?_) (fun cdv A outer s H vs Q E hr h => ?_)
  · obtain ⟨st, l, v, d, m, rs, B, cl, rfl, _⟩ := h
    rfl
  · obtain ⟨st, l, v, d, m, rs, B, cl, rfl, hm1, hm4, hv, hsh, hsz, hR, ok, hst, hB, kk⟩ := h
    have nd := scRight.nd
    have hu : (A.deeper (envOfC "_law_right" (fnScope sRight) s.heap.objs.size f cdv)).units + 64 < cLine := by have := hr.un; omega
    refine ⟨_, pss_cut (ps_setLc (i := 4) (own := [("_law_hole", 5), ("_law_place", 6)]) (g := gTup K 2 (gCons (gName 5) (gCons (gName 6) gNil))) (tt := tYes) rfl nd rfl rfl (by rfl) (pi_list (pe_c CH hr (by decide) (by rfl) (pa_cons (pv 2) pa_nil))) (blkOk_by (N := NRi) (sc := fnScope sRight) (by decide +kernel))
          (fun _ _ _ _ _ => pg_tup rfl (pgs_cons (pg_name (i := 5) nd rfl (Or.inl rfl)) (pgs_cons (pg_name (i := 6) nd rfl (Or.inl rfl)) pgs_nil))) (fun _ _ _ _ _ => pts_nil) (fun _ _ _ _ _ => pv 5))
      (pss_cons (ps_if (pt_cmpR (op_eqNil hu) (pv 4) (pe_lst pa_nil) (nomark _)) (pss_one (ps_ret (pe_c CT hr (by decide) (by rfl) (pa_cons (pv 0) (pa_cons (pv 1) (pa_cons (pe_op op_add pe_int (pe_c C hr (by decide) (by rfl) (pa_cons (pv 0) (pa_cons (pv 3) pa_nil)))) pa_nil)))))) pss_nil)
      (pss_cons (ps_set (i := 7) nd rfl (Or.inl rfl) (pe_c CS hr (by decide) (by rfl) (pa_cons (pv 0) (pa_cons (pv 1) (pa_cons (pe_lst (pa_cons (pe_c C hr (by decide) (by rfl) (pa_cons (pv 0) (pa_cons (pe_op op_add (pv 3) pe_int) pa_nil))) pa_nil)) (pa_cons (pv 4) pa_nil))))))
      (pss_cut (ps_set (i := 8) nd rfl (by first | exact Or.inl rfl | exact Or.inr rfl) (pe_lc (own := [("_law_hole", 5), ("_law_place", 6)]) (g := gTup K 2 (gCons (gName 5) (gCons (gName 6) gNil))) (tt := tYes) rfl nd (pi_list (pe_c CH hr (by decide) (by rfl) (pa_cons (pv 7) pa_nil))) (blkOk_by (N := NRi) (sc := fnScope sRight) (by decide +kernel))
          (fun _ _ _ _ _ => pg_tup rfl (pgs_cons (pg_name (i := 5) nd rfl (Or.inl rfl)) (pgs_cons (pg_name (i := 6) nd rfl (Or.inl rfl)) pgs_nil))) (fun _ _ _ _ _ => pts_nil) (fun _ _ _ _ _ => pv 5)))
      (pss_cut (ps_if (pt_val (pe_callB (cr_any rfl) (by rfl) hany (by decide +kernel) (pa_cons (pe_lc (own := [("_law_hole", 5)]) (g := gName 5) (tt := tYes) rfl nd (pi_list (pv 8)) (blkOk_by (N := NRi) (sc := fnScope sRight) (by decide +kernel)) (fun _ _ _ _ _ => pg_name (i := 5) nd rfl (Or.inl rfl)) (fun _ _ _ _ _ => pts_nil)
            (fun _ _ _ _ _ => pe_cmp (pc_gt (show PE _ _ (tBM K "list" (rCntF K) _ _) from pe_bm PySem.F.plainAttrs_list PySem.F.slot_list_count PySem.F.type_list_count (mt_lcountK (K := K) rfl) (pv 8) (pa_cons (pv 5) pa_nil)) pe_int))) pa_nil)))
          (pss_one (ps_set (i := 7) nd rfl (Or.inl rfl) (pe_op op_catT (pe_tup (pa_cons (pe_ix ix_tup (pv 7) pe_int fun _ _ => rfl) pa_nil)) (pe_callTy call_tuple_of (by rfl) T.tup (by decide +kernel) (pa_cons
            (pe_op op_rep (pe_lst (pa_cons (pe_ix ix_list (pv 4) pe_int fun _ _ => rfl) pa_nil)) (pe_op op_sub (pe_callB call_len_seq (by rfl) T.len PySem.boot_len (pa_cons (pv 7) pa_nil)) pe_int)) pa_nil))))) pss_nil)
      (pss_cut (ps_if (pw_and (pt_cmp (pc_eqI (pe_c C hr (by decide) (by rfl) (pa_cons (pv 0) (pa_cons pe_int pa_nil))) pe_int)) (pw_and1 (pt_cmp (pc_lt (pe_callB call_len_seq (by rfl) T.len PySem.boot_len (pa_cons (pe_c CP hr (by decide) (by rfl) (pa_cons (pv 7) pa_nil)) pa_nil)) (pv 3))))).pt
          (pss_one (ps_set (i := 7) nd rfl (Or.inl rfl) (pe_tup (pa_cons pe_str (pa_cons (pv 7) pa_nil))))) pss_nil)
      (pss_one (ps_ret (pv 7)))))))), ?_⟩
    have hsl := sizeLine_eq
    refine ⟨fun σ H' => ∃ (hl : Addr) (hs : List Str), σ = [some (.ref st), some (.ref l), some v, some (.int m), some (.ref hl), none, none, none, none] ∧ H' hl = some (.lst (hs.map V.str)) ∧ hs.length ≤ 30 ∧ ((∀ z ∈ hs, wordS z = true) ∧ hs = hnm d) ∧ H hl = none ∧ Same H H', ?_, ?_⟩
    · refine ⟨_, rfl, v, d, rfl, hv, hsh, by omega, by omega, fun lq us H1 nlq s1 hlq hpu => ⟨lq, rfl, ⟨us, SqL.of hlq⟩, fun Da nDa => ?_⟩⟩
      have hul := Paired.length hpu
      have hqw := holes_word d hsh
      have hql := (holes_le d).1
      have hqe := holes_hnm d
      generalize holesP d = qs at hpu hul hqw hql hqe
      refine lc_gen (J := Itl K lq) us.length (fun i H' => H' Da = some (.lst (((qs.take i).map fun q : Str × List Int => q.1).map V.str)) ∧ Same H1 H') ⟨upd_same, same_upd nDa⟩ (fun i H' hi ⟨_, sm⟩ => ⟨us, us.getD i .non, SqL.of (sm _ _ hlq), getD_at hi⟩) (fun H' ⟨_, sm⟩ => ⟨us, SqL.of (sm _ _ hlq), Nat.le_refl _⟩) (fun i H' x H'' hi ⟨hD, sm⟩ yl => ?_) (fun H' ⟨hD, sm⟩ => ?_)
      · obtain ⟨rfl, hx⟩ := yl
        have hx := hx _ (SqL.of (sm _ _ hlq))
        obtain ⟨q, hq, qt, qa, rfl, hqt, hqa⟩ := paired_get hpu hx
        obtain ⟨hlt, e⟩ := List.getElem?_eq_some_iff.mp hq
        refine ⟨qt, [.str q.1, .ref qa], rfl, SqT.of (sm _ _ hqt), rfl, .str q.1, [.ref qa], rfl, .ref qa, [], rfl, rfl, rfl, ?_⟩
        unfold tYes
        dsimp only
        rw [if_pos rfl]
        refine ⟨_, rfl, _, hD, by rw [List.length_map, List.length_map, List.length_take]; omega, ?_, fun b o e => by rw [upd_ne (ne_of_none e nDa)]; exact sm _ _ e⟩
        rw [upd_same, List.take_succ_eq_append_getElem hlt, List.map_append, List.map_append, e]
        rfl
      · rw [List.take_of_length_le (by omega)] at hD
        refine ⟨Da, _, rfl, hD, by rw [List.length_map]; omega, ⟨fun z hz => ?_, hqe⟩, same_free s1 nDa, s1.trans sm⟩
        obtain ⟨q, hq, rfl⟩ := List.mem_map.mp hz
        exact hqw q hq
    rintro σ' H1 ⟨hl, hs, rfl, hhl, hhn, ⟨hhw, hhe⟩, nhl, s1⟩
    have hlst : hl ≠ st := (hst.new nhl).1
    refine ⟨_, rfl, (by show 0 ≤ sizeLine; decide), fun e ne => ⟨hl, e, _, rfl, rfl, SqL.of (by rw [upd_ne (ne_of_none hhl ne)]; exact hhl), SqL.of upd_same, _, rfl, ?_⟩⟩
    have s2 : Same H (upd H1 e (.lst [])) := s1.trans (same_upd ne)
    have hhl2 : (upd H1 e (.lst [])) hl = some (.lst (hs.map V.str)) := by rw [upd_ne (ne_of_none hhl ne)]; exact hhl
    generalize upd H1 e (.lst []) = H2 at s2 hhl2
    have hs2 := hst.same s2
    have hb2 : But st H H2 := Same.but s2
    cases hs with
    | nil =>
      refine iteBt rfl ⟨_, rfl, _, rfl, _, rfl, _, rfl, st, m, B, cl, rfl, by omega, by omega, hs2, by omega, fun dd H3 d0 d1 hs3 hb3 => ⟨1, dd, rfl, rfl, st, l, 1 + dd, rs, B + 1, cl, rfl, by omega, by omega, by omega, hR.but hst (hb2.trans hb3), ok, hs3, by omega, fun v' t H4 hd hi hz hs4 hb4 => ?_⟩⟩
      exact kk v' t H4 hd (isT_sh ok hi) ⟨fun z hz => (by rw [hnm_tree hi] at hz; cases hz), isT_tk _ hi⟩ (by omega) (hs4.mono (by omega)) ((hb2.trans hb3).trans hb4)
    | cons h0 hs =>
    refine iteBf rfl ?_
    refine ⟨_, rfl, _, rfl, _, rfl, _, rfl, m, 1, rfl, rfl, st, m + 1, B, cl, rfl, by omega, by omega, hs2, by omega, fun dd H3 d0 d1 hs3 hb3 => ⟨(by show 1 ≤ sizeLine; decide), fun ll nll => ?_⟩⟩
    obtain ⟨ls, lc⟩ := hs3.new nll
    have hb03 := hb2.trans hb3
    have nlH : H ll = none := hb03.free nll ls
    obtain ⟨rv, hlv, _⟩ := id hR
    have lll : ll ≠ l := (ne_of_none hlv nlH).symm
    have ed : dd = ((dd.toNat : Nat) : Int) := by omega
    have hL4 : LeftAt (upd H3 ll (.lst [.int dd])) st cl l ll dd.toNat := ⟨by rw [upd_same, ← ed], ls, lc, lll⟩
    have hs4 : StAt (B + 1) (upd H3 ll (.lst [.int dd])) st cl := hs3.put ls lc
    have hb4 : But st H (upd H3 ll (.lst [.int dd])) := hb03.upd nlH
    have hh3 := hb3 _ _ hhl2 hlst
    have hh4 : (upd H3 ll (.lst [.int dd])) hl = some (.lst ((h0 :: hs).map V.str)) := by rw [upd_ne (ne_of_none hh3 nll)]; exact hh3
    have hlll : hl ≠ ll := ne_of_none hh3 nll
    generalize upd H3 ll (.lst [.int dd]) = H4 at hL4 hs4 hb4 hh4
    refine ⟨_, rfl, st, l, ll, hl, rs, h0 :: hs, dd.toNat, B + 1, cl, rfl, by omega, by omega, hR.but hst hb4, ok, hL4, hh4, by simp, by omega, hhw, hs4, by omega, fun v7 d7 n' H5 hd7 hsh7 ⟨hth7, hhn7⟩ hle hsz7 hnh7 hL5 hs5 hb5 => ?_⟩
    have hb05 : But st H H5 := hb4.two1 nlH hb5
    have hh5 := hb5 _ _ hh4 hlst hlll
    -- the names
    refine ⟨fun σ H' => ∃ (nl : Addr) (ns : List Str), σ = [some (.ref st), some (.ref l), some v, some (.int m), some (.ref hl), none, none, some v7, some (.ref nl)] ∧ H' nl = some (.lst (ns.map V.str)) ∧ ns.length = nh d7 ∧ Same H5 H', ?_, ?_⟩
    · refine ⟨_, rfl, v7, d7, rfl, hd7, hsh7, by omega, by omega, fun lq us H1 nlq s1 hlq hpu => ⟨lq, rfl, ⟨us, SqL.of hlq⟩, fun Da nDa => ?_⟩⟩
      have hul := Paired.length hpu
      have hqn := holes_nh d7
      have hql := (holes_le d7).1
      generalize holesP d7 = qs at hpu hul hqn hql
      refine lc_gen (J := Itl K lq) us.length (fun i H' => H' Da = some (.lst (((qs.take i).map fun q : Str × List Int => q.1).map V.str)) ∧ Same H1 H') ⟨upd_same, same_upd nDa⟩ (fun i H' hi ⟨_, sm⟩ => ⟨us, us.getD i .non, SqL.of (sm _ _ hlq), getD_at hi⟩) (fun H' ⟨_, sm⟩ => ⟨us, SqL.of (sm _ _ hlq), Nat.le_refl _⟩) (fun i H' x H'' hi ⟨hD, sm⟩ yl => ?_) (fun H' ⟨hD, sm⟩ => ?_)
      · obtain ⟨rfl, hx⟩ := yl
        have hx := hx _ (SqL.of (sm _ _ hlq))
        obtain ⟨q, hq, qt, qa, rfl, hqt, hqa⟩ := paired_get hpu hx
        obtain ⟨hlt, e⟩ := List.getElem?_eq_some_iff.mp hq
        refine ⟨qt, [.str q.1, .ref qa], rfl, SqT.of (sm _ _ hqt), rfl, .str q.1, [.ref qa], rfl, .ref qa, [], rfl, rfl, rfl, ?_⟩
        unfold tYes
        dsimp only
        rw [if_pos rfl]
        refine ⟨_, rfl, _, hD, by rw [List.length_map, List.length_map, List.length_take]; omega, ?_, fun b o e => by rw [upd_ne (ne_of_none e nDa)]; exact sm _ _ e⟩
        rw [upd_same, List.take_succ_eq_append_getElem hlt, List.map_append, List.map_append, e]
        rfl
      · rw [List.take_of_length_le (by omega)] at hD
        exact ⟨Da, _, rfl, hD, by rw [List.length_map]; exact hqn, s1.trans sm⟩
    rintro σ' H6 ⟨nl, ns, rfl, hnl, hnn, s6⟩
    have hd6 := DAt.hold (.same s6) _ hd7
    have hh6 := s6 _ _ hh5
    -- more than two of one name
    refine ⟨fun σ H' => ∃ (v8 : V) (d8 : D), σ = [some (.ref st), some (.ref l), some v, some (.int m), some (.ref hl), none, none, some v8, some (.ref nl)] ∧ DAt nol H' v8 d8 ∧ (isSh d8 = true ∧ (∀ z ∈ hnm d8, z ∈ hnm d) ∧ isTk rs d8 = true) ∧ sz d8 ≤ 13 ∧ Same H6 H', ?_, ?_⟩
    · refine ⟨_, rfl, nl, rfl, ⟨_, SqL.of hnl⟩, fun Da nDa => ?_⟩
      refine lc_gen (J := Itl K nl) ns.length (fun i H' => ∃ bs : List Bool, H' Da = some (.lst (bs.map V.bl)) ∧ bs.length = i ∧ (∀ b ∈ bs, b = true → 2 < ns.length) ∧ Same H6 H') ⟨[], upd_same, rfl, (fun _ h => by cases h), same_upd nDa⟩ (fun i H' hi ⟨_, _, _, _, sm⟩ => ⟨_, .str ns[i], SqL.of (sm _ _ hnl), by rw [List.getElem?_map, List.getElem?_eq_getElem hi]; rfl⟩) (fun H' ⟨_, _, _, _, sm⟩ => ⟨_, SqL.of (sm _ _ hnl), by rw [List.length_map]; exact Nat.le_refl _⟩) (fun i H' x H'' hi ⟨bs, hD, hbl, hbt, sm⟩ yl => ?_) (fun H' ⟨bs, hD, hbl, hbt, sm⟩ => ?_)
      · obtain ⟨rfl, hx⟩ := yl
        have hx := hx _ (SqL.of (sm _ _ hnl))
        rw [List.getElem?_map, List.getElem?_eq_getElem hi] at hx
        obtain rfl := Option.some.inj hx
        refine ⟨rfl, ?_⟩
        unfold tYes
        dsimp only
        rw [if_pos rfl]
        refine ⟨_, rfl, .inl ⟨rfl, _, SqL.of (sm _ _ hnl)⟩, _, rfl, nl, _, _, rfl, rfl, SqL.of (sm _ _ hnl), rfl, List.all_eq_true.mpr fun y hy => ?_, fun c c0 c1 => ⟨c, 2, rfl, rfl, _, hD, by rw [List.length_map]; omega, bs ++ [decide (2 < c)], by rw [upd_same, List.map_append]; rfl, by rw [List.length_append, hbl]; rfl, fun b hb e => ?_, fun b o e => by rw [upd_ne (ne_of_none e nDa)]; exact sm _ _ e⟩⟩
        · obtain ⟨z, _, rfl⟩ := List.mem_map.mp hy
          rfl
        · rcases List.mem_append.mp hb with hb | hb
          · exact hbt b hb e
          · rw [List.mem_singleton.mp hb] at e
            have := of_decide_eq_true e
            rw [List.length_map] at c1
            omega
      · refine ⟨Da, bs, rfl, SqL.of hD, _, rfl, ite2 (fun ca => ?_) (fun _ => ?_)⟩
        · obtain ⟨b, hb, eb⟩ := List.any_eq_true.mp ca
          have h2 := hbt b hb eb
          rw [hnn] at h2
          rcases isSh_inv hsh7 with ⟨z, rfl, _⟩ | ⟨z, cs, rfl, hz, hcs⟩
          · rw [nh] at h2
            omega
          · have hd' := DAt.hold (.same sm) _ hd6
            obtain ⟨a, us, rfl, qa, _, hus⟩ := hd'
            have qa : H' a = some (.tup us) := qa.elim id fun e => e.1.elim
            match us, hus with
            | [], hus => exact hus.elim
            | u :: cvs, ⟨⟨eu, _⟩, hus⟩ =>
              subst eu
              have hcl := hus.len
              have hsc : sz (.sq (.fl (.str z) :: cs)) = 2 + szs cs := by rw [sz, szs, sz]; omega
              have hls := len_szs cs
              refine ⟨_, rfl, a, _, 0, _, rfl, rfl, SqT.of qa, at_of (j := 0) rfl rfl, (by show 1 ≤ sizeLine; decide), fun t nt => ?_⟩
              have sA : Same H' (upd H' t (.tup [.str z])) := same_upd nt
              have ht : (upd H' t (.tup [.str z])) t = some (.tup [.str z]) := upd_same
              generalize upd H' t (.tup [.str z]) = HA at sA ht
              refine ⟨_, rfl, hl, _, 0, _, rfl, rfl, SqL.of (sA _ _ (sm _ _ hh6)), at_of (j := 0) rfl rfl, (by show 1 ≤ sizeLine; decide), fun r nr => ?_⟩
              have sB : Same HA (upd HA r (.lst [.str h0])) := same_upd nr
              have hr : (upd HA r (.lst [.str h0])) r = some (.lst [.str h0]) := upd_same
              generalize upd HA r (.lst [.str h0]) = HB at sB hr
              have ek : ((((V.str z :: cvs).length : Nat) : Int) - 1).toNat = cs.length := by rw [List.length_cons]; omega
              refine ⟨_, rfl, a, _, rfl, .inr (SqT.of (sB _ _ (sA _ _ qa))), ((V.str z :: cvs).length : Nat), 1, rfl, rfl, r, _, [.str h0], rfl, rfl, hr, by omega, by rw [List.length_cons]; omega, by rw [ek, List.length_singleton]; omega, fun p np => ?_⟩
              rw [ek, rep_flat]
              have sC : Same HB (upd HB p (.lst (List.replicate cs.length (.str h0)))) := same_upd np
              have hp : (upd HB p (.lst (List.replicate cs.length (.str h0)))) p = some (.lst (List.replicate cs.length (.str h0))) := upd_same
              generalize upd HB p (.lst (List.replicate cs.length (.str h0))) = HC at sC hp
              refine ⟨p, _, rfl, .inl ⟨SqL.of hp, fun q nq => ?_⟩⟩
              have sD : Same HC (upd HC q (.tup (List.replicate cs.length (.str h0)))) := same_upd nq
              have hq : (upd HC q (.tup (List.replicate cs.length (.str h0)))) q = some (.tup (List.replicate cs.length (.str h0))) := upd_same
              generalize upd HC q (.tup (List.replicate cs.length (.str h0))) = HD at sD hq
              have s9 : Same H6 HD := sm.trans (sA.trans (sB.trans (sC.trans sD)))
              refine ⟨t, q, [.str z], _, rfl, rfl, SqT.of (sD _ _ (sC _ _ (sB _ _ ht))), SqT.of hq, by simp, by rw [List.length_replicate, List.length_singleton]; omega, fun e => ?_, fun e tt ntt => ?_⟩
              · have e0 : cs.length = 0 := by have := congrArg List.length e; rw [List.length_replicate] at this; exact this
                have e1 : cs = [] := List.length_eq_zero_iff.mp e0
                rw [e1, nh, nhs] at h2
                omega
              · refine ⟨.ref tt, .sq (.fl (.str z) :: List.replicate cs.length (.fl (.str h0))), rfl, new_tree ntt (dats_rep cs.length), ⟨?_, fun y hy => ?_, ?_⟩, ?_, s9.trans (same_upd ntt)⟩
                · rw [isSh, hz, isShs_of fun c hc => ?_]
                  · rfl
                  · rw [List.eq_of_mem_replicate hc]
                    exact hhw h0 List.mem_cons_self
                · rw [hnm] at hy
                  rw [hnms_rep _ y hy, ← hhe]
                  exact List.mem_cons_self
                · have h7 := isTh_tk ok _ hth7
                  rw [isTk, Bool.and_eq_true] at h7
                  rw [isTk, isTks_rep (hhw h0 List.mem_cons_self), List.length_replicate, h7.1]
                  rfl
                · rw [sz, szs, sz, szs_rep]
                  omega
        · exact ⟨v7, d7, rfl, DAt.hold (.same sm) _ hd6, ⟨hsh7, (fun y hy => by rw [← hhe]; exact hhn7 y hy), isTh_tk ok _ hth7⟩, by omega, sm⟩
    rintro σ' H7 ⟨v8, d8, rfl, hd8, ⟨hsh8, hhn8, htk8⟩, hsz8, s7⟩
    have hb07 : But st H H7 := hb05.trans (Same.but (s6.trans s7))
    have hs7 : StAt (B + 30) H7 st cl := (hs5.same (s6.trans s7)).mono (by omega)
    -- keep
    refine ⟨fun σ H' => ∃ (v9 : V) (d9 : D), σ = [some (.ref st), some (.ref l), some v, some (.int m), some (.ref hl), none, none, some v9, some (.ref nl)] ∧ DAt nol H' v9 d9 ∧ (isSh d9 = true ∧ (∀ z ∈ hnm d9, z ∈ hnm d) ∧ isTk rs d9 = true) ∧ sz d9 ≤ 30 ∧ StAt (B + 60) H' st cl ∧ But st H H', ?_, fun σ H' ⟨v9, d9, e, h1, h2, h3, h4, h5⟩ => ?_⟩
    · refine ⟨_, rfl, st, 12, B + 30, cl, rfl, by decide, by decide, hs7, by omega, fun d2 H9 _ _ hs9 hb9 => ⟨d2, 0, rfl, rfl, _, rfl, ?_⟩⟩
      have hd9 := DAt.hold (Hold.but hs7 hb9 fun _ h => h.elim) _ hd8
      have hb09 := hb07.trans hb9
      refine ite2 (fun _ => ?_) (fun _ => iteF ⟨v8, d8, rfl, hd9, ⟨hsh8, hhn8, htk8⟩, by omega, hs9.mono (by omega), hb09⟩)
      refine ⟨_, rfl, v8, d8, rfl, hd9, hsh8, by omega, by omega, fun lq us H10 nlq s10 hlq _ => ⟨lq, us, rfl, .inl (SqL.of hlq), _, rfl, (us.length : Nat), m, rfl, rfl, _, rfl, ?_⟩⟩
      have hd10 := DAt.hold (.same s10) _ hd9
      have hb10 := hb09.trans (Same.but s10)
      refine ite2 (fun _ => ⟨_, rfl, (by show 2 ≤ sizeLine; decide), fun p np => ?_⟩) (fun _ => ⟨v8, d8, rfl, hd10, ⟨hsh8, hhn8, htk8⟩, by omega, (hs9.same s10).mono (by omega), hb10⟩)
      refine ⟨.ref p, .sq [.fl (.str "keep"), d8], rfl, new_tree np ⟨hd10, trivial⟩, ⟨?_, fun y hy => hhn8 y (by rw [hnm, hnms, hnms, List.append_nil] at hy; exact hy), (by rw [isTk, isTks, isTks, htk8, many_keep ok]; rfl)⟩, ?_, ((hs9.same s10).mono (by omega)).same (same_upd np), hb10.trans (Same.but (same_upd np))⟩
      · rw [isSh, isShs, hsh8, isShs]
        decide +kernel
      · rw [sz, szs, sz, szs, szs]
        omega
    · subst e
      exact ⟨_, rfl, kk v9 d9 H' h1 h2.1 h2.2 h3 h4 h5⟩
end
end K9

namespace K9
open PySem PySem.Spec PyProof.Rows L2 C8 XE XR SX
/-! _law_rule -/
abbrev sRule : Stmt := top 42
theorem dats_map {H H' : Hp} : ∀ {cs : List D} {us : List V}, (∀ c ∈ cs, ∀ v, DAt nol H v c → DAt nol H' v c) → DAts nol H us cs → DAts nol H' us cs
  | [], [], _, _ => trivial
  | c :: cs, u :: us, h, ⟨k, t⟩ => ⟨h c List.mem_cons_self u k, dats_map (fun c hc => h c (List.mem_cons_of_mem _ hc)) t⟩
  | [], _ :: _, _, k => k.elim
  | _ :: _, [], _, k => k.elim
theorem sh_tupsN {H H' : Hp} (h : ∀ a vs, H a = some (.tup vs) → H' a = some (.tup vs)) : ∀ (n : Nat) (d : D), sz d ≤ n → isSh d = true → ∀ v, DAt nol H v d → DAt nol H' v d
  | 0, d, hn, _, _, _ => by have := sz_pos d; omega
  | n + 1, d, hn, hs, v, hv => by
    rcases isSh_inv hs with ⟨z, rfl, _⟩ | ⟨z, cs, rfl, _, hcs⟩
    · exact hv
    · obtain ⟨a, us, rfl, qa, o, hus⟩ := hv
      match us, hus with
      | [], hus => exact hus.elim
      | u :: us, ⟨k0, hus⟩ =>
        refine ⟨a, _, rfl, .inl (h _ _ (qa.elim id fun e => e.1.elim)), o, k0, dats_map (fun c hc w hw => ?_) hus⟩
        obtain ⟨i, hi⟩ := List.getElem?_of_mem hc
        have := szs_get hi
        have e : sz (.sq (.fl (.str z) :: cs)) = 2 + szs cs := by rw [sz, szs, sz]; omega
        exact sh_tupsN h n c (by omega) (isShs_mem hcs c hc) w hw
theorem sh_tups {H H' : Hp} (h : ∀ a vs, H a = some (.tup vs) → H' a = some (.tup vs)) {d : D} (hs : isSh d = true) {v : V} (hv : DAt nol H v d) : DAt nol H' v d := sh_tupsN h _ d (Nat.le_refl _) hs v hv
/-- an entry of a dict of lists of words -/
def WE (st : Addr) (H : Hp) (kv : Key × V) (q : Str × List Str) : Prop := kv.1 = .inr q.1 ∧ ∃ l, kv.2 = .ref l ∧ l ≠ st ∧ H l = some (.lst (q.2.map V.str))
def WD (st : Addr) (H : Hp) (a : Addr) (ks : List (Str × List Str)) : Prop := ∃ kvs, H a = some (.dK kvs) ∧ Paired (WE st H) kvs ks
structure KO (rs : List Rw) (hs : List Str) (ks : List (Str × List Str)) : Prop where
  nd : (ks.map fun q => q.1).Nodup
  mem : ∀ q ∈ ks, q.1 ∈ hs ∧ q.2.length ≤ 15 ∧ ∀ z ∈ q.2, z ∈ labs rs
/-- lists stay, but the state -/
def Ls (st : Addr) (H H' : Hp) : Prop := ∀ l xs, l ≠ st → H l = some (.lst xs) → H' l = some (.lst xs)
theorem Ls.but {st : Addr} {H H' : Hp} (b : But st H H') : Ls st H H' := fun l xs n e => b _ _ e n
theorem Ls.trans {st : Addr} {H H' H'' : Hp} (a : Ls st H H') (b : Ls st H' H'') : Ls st H H'' := fun l xs n e => b l xs n (a l xs n e)
theorem Ls.dic {st a : Addr} {H : Hp} {k k' : List (Key × V)} (h : H a = some (.dK k)) : Ls st H (upd H a (.dK k')) := fun l xs _ e => by rw [upd_ne (ne_of e h (by intro z; cases z))]; exact e
theorem WE.ls {st : Addr} {H H' : Hp} (s : Ls st H H') {kv : Key × V} {q : Str × List Str} (h : WE st H kv q) : WE st H' kv q := ⟨h.1, let ⟨l, e, n, k⟩ := h.2; ⟨l, e, n, s l _ n k⟩⟩
theorem WD.ls {st : Addr} {H H' : Hp} (s : Ls st H H') (d : ∀ a k, H a = some (.dK k) → H' a = some (.dK k)) {a : Addr} {ks : List (Str × List Str)} (h : WD st H a ks) : WD st H' a ks := let ⟨kvs, e, p⟩ := h; ⟨kvs, d _ _ e, Paired.mono (fun _ _ q => q.ls s) p⟩
theorem we_none {st : Addr} {H : Hp} {z : Str} : ∀ {k : List (Key × V)} {ks : List (Str × List Str)}, Paired (WE st H) k ks → z ∉ ks.map (fun q => q.1) → valV k (.inr z) = none
  | [], _, .nil, _ => rfl
  | p :: k, q :: ks, .cons ⟨e, _⟩ t, h => by
    rw [List.map_cons, List.mem_cons] at h
    have ne : p.1 ≠ (Sum.inr z : Key) := fun e' => h (.inl (by rw [e'] at e; exact Sum.inr.inj e))
    have := we_none t fun x => h (.inr x)
    unfold valV at this ⊢
    rw [List.find?_cons_of_neg (by simpa using ne)]
    exact this
theorem KO.more {rs : List Rw} {hs hs' : List Str} {ks : List (Str × List Str)} (h : KO rs hs ks) (s : ∀ z ∈ hs, z ∈ hs') : KO rs hs' ks := ⟨h.nd, fun q hq => ⟨s _ (h.mem q hq).1, (h.mem q hq).2⟩⟩
theorem KO.snoc {rs : List Rw} {hs hs' : List Str} {ks : List (Str × List Str)} {z : Str} {ss : List Str} (h : KO rs hs ks) (s : ∀ z ∈ hs, z ∈ hs') (hz : z ∈ hs') (nz : z ∉ hs) (h1 : ss.length ≤ 15) (h2 : ∀ y ∈ ss, y ∈ labs rs) : KO rs hs' (ks ++ [(z, ss)]) := by
  refine ⟨?_, fun q hq => ?_⟩
  · rw [List.map_append, List.nodup_append]
    refine ⟨h.nd, by simp, fun a ha b hb e => ?_⟩
    obtain ⟨q, hq, rfl⟩ := List.mem_map.mp ha
    have hb : b = z := by simpa using hb
    exact nz (by rw [← hb, ← e]; exact (h.mem q hq).1)
  · rcases List.mem_append.mp hq with hq | hq
    · exact ⟨s _ (h.mem q hq).1, (h.mem q hq).2⟩
    · rw [List.mem_singleton.mp hq]
      exact ⟨hz, h1, h2⟩
def spRule : Sp := fun vs H Q _ => ∃ (st l : Addr) (m : Int) (rs : List Rw) (B : Nat) (cl : Addr), vs = [.ref st, .ref l, .int m] ∧ 1 ≤ m ∧ m ≤ 3 ∧ RowsAt H l rs ∧ RowsOk rs ∧ StAt B H st cl ∧ B + 250 < 1000000000000000 ∧
  ∀ (p kd bd : Addr) (vl vr : V) (dl dr : D) (kk bb : List (Str × List Str)) (H' : Hp), WD st H' kd kk → WD st H' bd bb → KO rs (hnm dl) kk → KO rs (hnm dl) bb → kd ≠ bd → kd ≠ st → bd ≠ st → isTh rs dl = true → ((hnm dl).Nodup ∧ ∀ z ∈ hnm dl, z ∈ menu ∨ z = "keep") → ((∀ z ∈ hnm dr, z ∈ hnm dl) ∧ isTk rs dr = true) → H' p = some (.tup [vl, vr, .ref kd, .ref bd]) → DAt nol H' vl dl → isSh dl = true → isSq dl = true → sz dl ≤ 12 → DAt nol H' vr dr → isSh dr = true → sz dr ≤ 30 → StAt (B + 250) H' st cl → But st H H' → Q (.ref p) H'
abbrev NRu : List Str := ["_law_state", "_law_rows_here", "_law_most", "_law_left_here", "_law_right_here", "_law_kinds", "_law_bars", "_law_hole", "_law_place", "_law_way", "_law_some", "_law_label"]
theorem scRule : FnScope NRu ["_law_state", "_law_rows_here", "_law_most"] (fnScope sRule) := fnScope_by (by decide +kernel)
section
variable {P : Program} {w : World} {K : PySem.W.Frag} {mg : Str → Option Value} {base : Heap}
theorem c_rule {f : Addr} {fd : FuncData} (F : Def K mg "_law_rule" sRule f fd) (b : Binds K fd ["_law_state", "_law_rows_here", "_law_most"] []) (T : Blt4 mg) (C : Cal P w K mg base 1 "_law_take" spTake [])
    (CL : Cal P w K mg base 1 "_law_labels" spLabels []) (CLe : Cal P w K mg base 14 "_law_left" spLeft []) (CR : Cal P w K mg base 32 "_law_right" spRight []) (CH : Cal P w K mg base 31 "_law_holes" (spHoles 30) []) : Cal P w K mg base 33 "_law_rule" spRule [] := by
  refine cal0 F b .nil scRule (fun vs H Q E h => ?_) (fun cdv A outer s H vs Q E hr h => ?_)
  · obtain ⟨st, l, m, rs, B, cl, rfl, _⟩ := h
    rfl
  · obtain ⟨st, l, m, rs, B, cl, rfl, hm1, hm3, hR, ok, hst, hB, kk⟩ := h
    have nd := scRule.nd
    have hu : (A.deeper (envOfC "_law_rule" (fnScope sRule) s.heap.objs.size f cdv)).units + 1 < cLine := by have := hr.un; omega
    refine ⟨_, pss_cons (ps_set (i := 3) nd rfl (Or.inl rfl) (pe_c CLe hr (by decide) (by rfl) (pa_cons (pv 0) (pa_cons (pv 1) (pa_cons (pv 2) pa_nil)))))
      (pss_cons (ps_set (i := 4) nd rfl (Or.inl rfl) (pe_c CR hr (by decide) (by rfl) (pa_cons (pv 0) (pa_cons (pv 1) (pa_cons (pv 3) (pa_cons pe_int pa_nil))))))
      (pss_cons (ps_par (i := 5) (j := 6) rfl nd rfl rfl (by decide) rfl rfl (pa_cons pe_dnewK (pa_cons pe_dnewK pa_nil)) (by rfl))
      (pss_cons (ps_for PassesOwn.never rfl (pi_list (pe_c CH hr (by decide) (by rfl) (pa_cons (pv 3) pa_nil))) (pg_tup rfl (pgs_cons (pg_name (i := 7) nd rfl (Or.inl rfl)) (pgs_cons (pg_name (i := 8) nd rfl (Or.inl rfl)) pgs_nil)))
          (pss_cons (ps_set (i := 9) nd rfl (Or.inl rfl) (pe_c C hr (by decide) (by rfl) (pa_cons (pv 0) (pa_cons pe_int pa_nil))))
          (pss_cons (ps_setLc (i := 10) (own := [("_law_label", 11)]) (g := gName 11) rfl nd rfl rfl (by rfl) (pi_list (pe_c CL hr (by decide) (by rfl) (pa_cons (pv 1) pa_nil))) (blkOk_by (N := NRu) (sc := fnScope sRule) (by decide +kernel)) (fun _ _ _ _ _ => pg_name (i := 11) nd rfl (Or.inl rfl))
            (fun _ _ _ _ _ => pts_one (pt_cmp (pc_eqI (pe_c C hr (by decide) (by rfl) (pa_cons (pv 0) (pa_cons pe_int pa_nil))) pe_int))) (fun _ _ _ _ _ => pv 11))
          (pss_cut (ps_if (pt_cmp (pc_eqI (pv 9) pe_int)) (pss_one (ps_dput hu (pv 5) (pv 7) (pv 10) rfl)) pss_nil)
          (pss_one (ps_if (pt_cmp (pc_eqI (pv 9) pe_int)) (pss_one (ps_dput hu (pv 6) (pv 7) (pv 10) rfl)) pss_nil))))))
      (pss_one (ps_ret (pe_tup (pa_cons (pv 3) (pa_cons (pv 4) (pa_cons (pv 5) (pa_cons (pv 6) pa_nil)))))))))), ?_⟩
    have hsl := sizeLine_eq
    refine ⟨_, rfl, _, rfl, _, rfl, st, l, m, rs, B, cl, rfl, hm1, hm3, hR, ok, hst, by omega, fun vl z cs H1 hdl hsh ⟨hth, hnd, hmk⟩ hnh hszs hs1 hb1 => ?_⟩
    have hsc : sz (.sq (.fl (.str z) :: cs)) = 2 + szs cs := by rw [sz, szs, sz]; omega
    have hnc : nh (.sq (.fl (.str z) :: cs)) = nhs cs := by rw [nh]
    have hsq : isSq (.sq (.fl (.str z) :: cs)) = true := rfl
    have hnd : (hnm (.sq (.fl (.str z) :: cs))).Nodup := hnd
    have hmk : ∀ y ∈ hnm (.sq (.fl (.str z) :: cs)), y ∈ menu ∨ y = "keep" := hmk
    generalize D.sq (.fl (.str z) :: cs) = dl at hdl hsh hsc hnc hsq hth hnd hmk
    refine ⟨_, rfl, _, rfl, _, rfl, st, l, vl, dl, 4, rs, B + 50, cl, rfl, by decide, by decide, hdl, hsh, by omega, hR.but hst hb1, ok, hs1, by omega, fun vr dr H2 hdr hshr hhr hszr hs2 hb2 => ?_⟩
    have hb02 := hb1.trans hb2
    have hdl2 := DAt.hold (Hold.but hs1 hb2 fun _ h => h.elim) _ hdl
    refine fun kd nkd => ?_
    obtain ⟨ks, kc⟩ := hs2.new nkd
    have nkH : H kd = none := hb02.free nkd ks
    have sa : Same H2 (upd H2 kd (.dK [])) := same_upd nkd
    have hka : (upd H2 kd (.dK [])) kd = some (.dK []) := upd_same
    generalize upd H2 kd (.dK []) = Ha at sa hka
    refine fun bd nbd => ⟨_, _, rfl, ?_⟩
    have hsa := hs2.same sa
    obtain ⟨bs, bc⟩ := hsa.new nbd
    have nbH : H bd = none := (hb02.trans (Same.but sa)).free nbd bs
    have kbd : kd ≠ bd := ne_of_none hka nbd
    have sb : Same H2 (upd Ha bd (.dK [])) := sa.trans (same_upd nbd)
    have hk3 : (upd Ha bd (.dK [])) kd = some (.dK []) := by rw [upd_ne kbd]; exact hka
    have hb3 : (upd Ha bd (.dK [])) bd = some (.dK []) := upd_same
    generalize upd Ha bd (.dK []) = H3 at sb hk3 hb3
    have hs3 := hs2.same sb
    have hb03 := hb02.trans (Same.but sb)
    have hdl3 := DAt.hold (.same sb) _ hdl2
    refine ⟨_, rfl, vl, dl, rfl, hdl3, hsh, by omega, by omega, fun lq us H4 nlq s4 hlq hpu => ⟨lq, rfl, ⟨us, SqL.of hlq⟩, ?_⟩⟩
    have hul := Paired.length hpu
    have hpul := hul
    have hqn := holes_hnm dl
    rw [holes_nh dl] at hul
    generalize holesP dl = qs at hpu hqn hpul
    rw [← hqn] at hnd
    obtain ⟨lqs, lqc⟩ := hs3.new nlq
    have lqk : lq ≠ kd := (ne_of_none hk3 nlq).symm
    have lqb : lq ≠ bd := (ne_of_none hb3 nlq).symm
    have hdl4 := DAt.hold (.same s4) _ hdl3
    have hdr4 := DAt.hold (.same s4) _ (DAt.hold (.same sb) _ hdr)
    refine for_gen (J := Itl K lq) us.length (fun i σ H' => ∃ (v7 v8 v9 v10 : Option V) (k1 k2 : List (Key × V)), σ = [some (.ref st), some (.ref l), some (.int m), some vl, some vr, some (.ref kd), some (.ref bd), v7, v8, v9, v10, none] ∧ (H' kd = some (.dK k1) ∧ ∃ ks, Paired (WE st H') k1 ks ∧ KO rs ((qs.take i).map fun q => q.1) ks) ∧ k1.length ≤ i ∧ (H' bd = some (.dK k2) ∧ ∃ ks, Paired (WE st H') k2 ks ∧ KO rs ((qs.take i).map fun q => q.1) ks) ∧ k2.length ≤ i ∧ H' lq = some (.lst us) ∧ (∀ a vs, H4 a = some (.tup vs) → H' a = some (.tup vs)) ∧ StAt (B + 110 + 20 * i) H' st cl ∧ But st H H')
      ⟨none, none, none, none, [], [], rfl, ⟨s4 _ _ hk3, [], .nil, ⟨by simp, fun q hq => by cases hq⟩⟩, Nat.le_refl _, ⟨s4 _ _ hb3, [], .nil, ⟨by simp, fun q hq => by cases hq⟩⟩, Nat.le_refl _, hlq, fun _ _ e => e, (hs3.same s4).mono (by omega), hb03.trans (Same.but s4)⟩
      (fun i σ H' hi ⟨_, _, _, _, _, _, _, _, _, _, _, h, _⟩ => ⟨us, us.getD i .non, SqL.of h, getD_at hi⟩) (fun σ H' ⟨_, _, _, _, _, _, _, _, _, _, _, h, _⟩ => ⟨us, SqL.of h, Nat.le_refl _⟩) ?_
      (fun σ H' ⟨v7, v8, v9, v10, k1, k2, e, ⟨hk, ks1, hp1, ho1⟩, _, ⟨hbk, ks2, hp2, ho2⟩, _, _, ht, hs, hb⟩ => ?_)
    · rintro i σ H7 x H7' hi ⟨v7, v8, v9, v10, k1, k2, rfl, ⟨hk7, ks1, hp1, ho1⟩, hkl, ⟨hb7, ks2, hp2, ho2⟩, hbl, hlq7, ht7, hs7, hbt7⟩ ⟨rfl, hx⟩
      have hx := hx _ (SqL.of hlq7)
      obtain ⟨q, hq, qt, qa, rfl, hqt, hqa⟩ := paired_get hpu hx
      obtain ⟨hqi, eq'⟩ := List.getElem?_eq_some_iff.mp hq
      have tsub : ∀ z ∈ (qs.take i).map (fun q => q.1), z ∈ (qs.take (i + 1)).map (fun q => q.1) := fun z hz => by
        rw [List.take_succ_eq_append_getElem hqi, List.map_append]
        exact List.mem_append_left _ hz
      have tin : q.1 ∈ (qs.take (i + 1)).map (fun q => q.1) := by
        rw [List.take_succ_eq_append_getElem hqi, List.map_append, eq']
        exact List.mem_append_right _ List.mem_cons_self
      have tno : q.1 ∉ (qs.take i).map (fun q => q.1) := fun h => by
        have e : qs.map (fun q => q.1) = (qs.take i).map (fun q => q.1) ++ (q.1 :: (qs.drop (i + 1)).map (fun q => q.1)) := by
          rw [← List.map_cons (f := fun q : Str × List Int => q.1), ← eq', ← List.drop_eq_getElem_cons hqi, ← List.map_append, List.take_append_drop]
        rw [e, List.nodup_append] at hnd
        exact hnd.2.2 _ h _ List.mem_cons_self rfl
      refine ⟨qt, [.str q.1, .ref qa], rfl, SqT.of (ht7 _ _ hqt), rfl, .str q.1, [.ref qa], rfl, .ref qa, [], rfl, rfl, ?_⟩
      refine ⟨_, rfl, st, 8, _, cl, rfl, by decide, by decide, hs7, by omega, fun d8 H9 _ _ hs9 hb9 => ?_⟩
      have hlq9 := hb9 _ _ hlq7 lqs
      have hk9 := hb9 _ _ hk7 ks
      have hbd9 := hb9 _ _ hb7 bs
      have ht9 := (Hold.but (F := nol) hs7 hb9 fun _ h => h.elim).tup
      have hbt9 := hbt7.trans hb9
      refine ⟨_, rfl, l, rs, rfl, hR.but hst hbt9, ok, fun q' H10 nq' s10 hq' => ⟨q', rfl, ⟨_, SqL.of hq'⟩, fun Da nDa => ?_⟩⟩
      have hs10 := hs9.same s10
      obtain ⟨Ds, Dc⟩ := hs10.new nDa
      have q's : q' ≠ st := (hs9.new nq').1
      have hla : (labs rs).length ≤ 15 := by unfold labs nums; rw [List.length_map, List.length_append]; have := ok.len; simp; omega
      refine lc_gen (J := Itl K q') (labs rs).length (fun j H' => ∃ ss : List Str, H' Da = some (.lst (ss.map V.str)) ∧ (ss.length ≤ j ∧ ∀ z ∈ ss, z ∈ labs rs) ∧ StAt (B + 110 + 20 * i + 1 + j) H' st cl ∧ But st H10 H') ⟨[], upd_same, ⟨Nat.le_refl _, fun z hz => by cases hz⟩, (hs10.same (same_upd nDa)).mono (by omega), Same.but (same_upd nDa)⟩
        (fun j H' hj ⟨_, _, _, _, b'⟩ => ⟨_, .str (labs rs)[j], SqL.of (b' _ _ hq' q's), by rw [List.getElem?_map, List.getElem?_eq_getElem hj]; rfl⟩) (fun H' ⟨_, _, _, _, b'⟩ => ⟨_, SqL.of (b' _ _ hq' q's), by rw [List.length_map]; exact Nat.le_refl _⟩) (fun j H' x H'' hj ⟨ss, hD, ⟨hsl', hsm⟩, hs', b'⟩ yl => ?_) (fun H' ⟨ss, hD, ⟨hsl', hsm⟩, hs', b'⟩ => ?_)
      · obtain ⟨rfl, hx⟩ := yl
        have hx := hx _ (SqL.of (b' _ _ hq' q's))
        rw [List.getElem?_map, List.getElem?_eq_getElem hj] at hx
        obtain rfl := Option.some.inj hx
        refine ⟨rfl, _, rfl, st, 2, _, cl, rfl, by decide, by decide, hs', by omega, fun d2 H12 _ _ hs12 hb12 => ⟨d2, 0, rfl, rfl, _, rfl, ?_⟩⟩
        have hD12 := hb12 _ _ hD Ds
        refine ite2 (fun _ => ?_) (fun _ => ?_)
        · exact ⟨_, rfl, _, hD12, by rw [List.length_map]; omega, ss ++ [(labs rs)[j]], by rw [upd_same, List.map_append]; rfl, ⟨by rw [List.length_append, List.length_singleton]; omega, fun z hz => (List.mem_append.mp hz).elim (hsm z) fun h => by rw [List.mem_singleton.mp h]; exact List.getElem_mem hj⟩, (hs12.put Ds Dc).mono (by omega), fun b o e n => by rw [upd_ne (ne_of_none e nDa)]; exact hb12 _ _ (b' _ _ e n) n⟩
        · exact ⟨ss, hD12, ⟨by omega, hsm⟩, hs12.mono (by omega), fun b o e n => hb12 _ _ (b' _ _ e n) n⟩
      · have b9 : But st H9 H' := (Same.but s10).trans b'
        have hk' := b9 _ _ hk9 ks
        have hbd' := b9 _ _ hbd9 bs
        have hlq' := b9 _ _ hlq9 lqs
        have ht' := (Hold.but (F := nol) hs9 b9 fun _ h => h.elim).tup
        have hbt' := hbt9.trans b9
        have hs'' : StAt (B + 110 + 20 * (i + 1)) H' st cl := hs'.mono (by omega)
        have ls7 : Ls st H7' H' := .but (hb9.trans b9)
        have hp1' := Paired.mono (fun _ _ h => WE.ls ls7 h) hp1
        have hp2' := Paired.mono (fun _ _ h => WE.ls ls7 h) hp2
        refine ⟨fun σ H2 => ∃ (k1 : List (Key × V)), σ = [some (.ref st), some (.ref l), some (.int m), some vl, some vr, some (.ref kd), some (.ref bd), some (.str q.1), some (.ref qa), some (.int d8), some (.ref Da), none] ∧ (H2 kd = some (.dK k1) ∧ ∃ ks, Paired (WE st H2) k1 ks ∧ KO rs ((qs.take (i + 1)).map fun q => q.1) ks) ∧ k1.length ≤ i + 1 ∧ (H2 bd = some (.dK k2) ∧ Paired (WE st H2) k2 ks2) ∧ (H2 lq = some (.lst us) ∧ H2 Da = some (.lst (ss.map V.str))) ∧ (∀ a vs, H4 a = some (.tup vs) → H2 a = some (.tup vs)) ∧ StAt (B + 110 + 20 * (i + 1)) H2 st cl ∧ But st H H2, ?_, ?_⟩
        · refine ⟨_, rfl, d8, 0, rfl, rfl, _, rfl, ite2 (fun _ => ?_) (fun _ => ⟨k1, rfl, ⟨hk', ks1, hp1', ho1.more tsub⟩, by omega, ⟨hbd', hp2'⟩, ⟨hlq', hD⟩, fun a vs e => ht' _ _ (ht9 _ _ (ht7 _ _ e)), hs'', hbt'⟩)⟩
          refine ⟨_, rfl, _, rfl, _, rfl, kd, _, rfl, DPut.k (k := .inr q.1) hk' (by omega), putK k1 (.inr q.1) (.ref Da), rfl, ⟨upd_same, ks1 ++ [(q.1, ss)], ?_, ho1.snoc tsub tin tno (by omega) hsm⟩, ?_, ⟨by rw [upd_ne kbd.symm]; exact hbd', Paired.mono (fun _ _ h => WE.ls (.dic hk') h) hp2'⟩, ⟨by rw [upd_ne lqk]; exact hlq', by rw [upd_ne (ne_of hD hk' (by intro z; cases z))]; exact hD⟩, fun a vs e => ?_, hs''.put ks kc, hbt'.upd nkH⟩
          · rw [putK_new _ (we_none hp1 fun h => tno (by obtain ⟨x, hx, e⟩ := List.mem_map.mp h; rw [← e]; exact (ho1.mem x hx).1))]
            exact Paired.snoc (Paired.mono (fun _ _ h => WE.ls (.dic hk') h) hp1') ⟨rfl, Da, rfl, Ds, by rw [upd_ne (ne_of hD hk' (by intro z; cases z))]; exact hD⟩
          · have := DSub.putK_len k1 (.inr q.1) (.ref Da)
            omega
          · have e' := ht' _ _ (ht9 _ _ (ht7 _ _ e))
            rw [upd_ne (ne_of e' hk' (by intro z; cases z))]
            exact e'
        rintro σ H2 ⟨k1', rfl, ⟨hk2, ks1', hp1'', ho1'⟩, hk2l, ⟨hb2', hp2''⟩, ⟨hlq2, hD2⟩, ht2, hs2', hbt2⟩
        refine ⟨_, rfl, d8, 1, rfl, rfl, _, rfl, ite2 (fun _ => ?_) (fun _ => ⟨_, _, _, _, k1', k2, rfl, ⟨hk2, ks1', hp1'', ho1'⟩, hk2l, ⟨hb2', ks2, hp2'', ho2.more tsub⟩, by omega, hlq2, ht2, hs2', hbt2⟩)⟩
        refine ⟨_, rfl, _, rfl, _, rfl, bd, _, rfl, DPut.k (k := .inr q.1) hb2' (by omega), _, _, _, _, k1', putK k2 (.inr q.1) (.ref Da), rfl, ⟨by rw [upd_ne kbd]; exact hk2, ks1', Paired.mono (fun _ _ h => WE.ls (.dic hb2') h) hp1'', ho1'⟩, hk2l, ⟨upd_same, ks2 ++ [(q.1, ss)], ?_, ho2.snoc tsub tin tno (by omega) hsm⟩, ?_, by rw [upd_ne lqb]; exact hlq2, fun a vs e => ?_, hs2'.put bs bc, hbt2.upd nbH⟩
        · rw [putK_new _ (we_none hp2 fun h => tno (by obtain ⟨x, hx, e⟩ := List.mem_map.mp h; rw [← e]; exact (ho2.mem x hx).1))]
          exact Paired.snoc (Paired.mono (fun _ _ h => WE.ls (.dic hb2') h) hp2'') ⟨rfl, Da, rfl, Ds, by rw [upd_ne (ne_of hD2 hb2' (by intro z; cases z))]; exact hD2⟩
        · have := DSub.putK_len k2 (.inr q.1) (.ref Da)
          omega
        · have e' := ht2 _ _ e
          rw [upd_ne (ne_of e' hb2' (by intro z; cases z))]
          exact e'
    · subst e
      refine ⟨_, rfl, _, rfl, _, rfl, _, rfl, (by show 4 ≤ sizeLine; decide), fun p np => ?_⟩
      have sp := same_upd np (o := .tup [vl, vr, .ref kd, .ref bd])
      have hall : (qs.take us.length).map (fun q => q.1) = hnm dl := by rw [hpul, List.take_length]; exact hqn
      rw [hall] at ho1 ho2
      rw [hqn] at hnd
      exact kk p kd bd vl vr dl dr ks1 ks2 _ ⟨k1, sp _ _ hk, Paired.mono (fun _ _ h => WE.ls (.but (Same.but sp)) h) hp1⟩ ⟨k2, sp _ _ hbk, Paired.mono (fun _ _ h => WE.ls (.but (Same.but sp)) h) hp2⟩ ho1 ho2 kbd ks bs hth ⟨hnd, hmk⟩ hhr upd_same (DAt.hold (.same sp) _ (sh_tups ht hsh hdl4)) hsh hsq (by omega) (DAt.hold (.same sp) _ (sh_tups ht hshr hdr4)) hshr hszr ((hs.same sp).mono (by omega)) (hb.trans (Same.but sp))
end
end K9

namespace K9
open PySem PySem.Spec PyProof.Rows L2 C8 XE XR
/-! is_word, is_word_list, is_shape, of any data -/
abbrev sWord : Stmt := top 8
abbrev sWL : Stmt := top 9
abbrev sIsSh : Stmt := top 17
structure Gs (mg : Str → Option Value) : Prop where
  let_ : ∃ u, mg "LETTERS" = some u ∧ RelV (.str letters) u
  lon : ∃ u, mg "LONGEST_WORD" = some u ∧ RelV (.int 8) u
  kee : ∃ u, mg "KEEP" = some u ∧ RelV (.str "keep") u
def wordB : D → Bool
  | .fl (.str z) => wordS z
  | _ => false
def spWord : Sp := fun vs H Q _ => ∃ (v : V) (d : D) (F : Addr → Prop), vs = [v] ∧ DAt F H v d ∧ (∀ z, d = .fl (.str z) → z.length ≤ 1000) ∧ ∀ H', Same H H' → Q (.bl (wordB d)) H'
theorem scWord : FnScope ["thing", "letter"] ["thing"] (fnScope sWord) := fnScope_by (by decide +kernel)
theorem isSt_inv {d : D} (h : isSt d = true) : ∃ z, d = .fl (.str z) := by
  cases d with
  | fl x => cases x with
    | str z => exact ⟨z, rfl⟩
    | _ => cases h
  | _ => cases h
theorem wordB_no {d : D} (h : isSt d = false) : wordB d = false := by
  cases d with
  | fl x => cases x with
    | str z => cases h
    | _ => rfl
  | _ => rfl
theorem DAts.snoc_inv {F : Addr → Prop} {H : Hp} : ∀ {xs : List V} {y : V} {ds : List D}, DAts F H (xs ++ [y]) ds → ∃ es e, ds = es ++ [e] ∧ DAts F H xs es ∧ DAt F H y e
  | [], y, [], k => (show False from k).elim
  | [], y, [d], ⟨k, _⟩ => ⟨[], d, rfl, trivial, k⟩
  | [], y, d :: d' :: ds, ⟨_, k⟩ => (show False from k).elim
  | x :: xs, y, [], k => (show False from k).elim
  | x :: xs, y, d :: ds, ⟨k, t⟩ => by
    obtain ⟨es, e, rfl, h1, h2⟩ := DAts.snoc_inv (xs := xs) (y := y) (ds := ds) t
    exact ⟨d :: es, e, rfl, ⟨k, h1⟩, h2⟩
abbrev NWL : List Str := ["thing", "word"]
theorem scWL : FnScope NWL ["thing"] (fnScope sWL) := fnScope_by (by decide +kernel)
abbrev NIs : List Str := ["thing", "waiting", "node"]
theorem scIsSh : FnScope NIs ["thing"] (fnScope sIsSh) := fnScope_by (by decide +kernel)
def wlB : D → Bool
  | .sq xs => xs.all wordB
  | _ => false
mutual
/-- texts are short in it -/
def shortD : D → Bool
  | .fl (.str z) => decide (z.length ≤ 1000)
  | .sq xs => shortDs xs
  | _ => true
def shortDs : List D → Bool
  | [] => true
  | x :: xs => shortD x && shortDs xs
end
theorem short_app : ∀ a b : List D, shortDs (a ++ b) = (shortDs a && shortDs b)
  | [], b => rfl
  | x :: a, b => by rw [List.cons_append, shortDs, shortDs, short_app a b, Bool.and_assoc]
theorem short_mem : ∀ {ds : List D}, shortDs ds = true → ∀ d ∈ ds, shortD d = true
  | x :: ds, h, d, hd => by
    rw [shortDs, Bool.and_eq_true] at h
    rcases List.mem_cons.mp hd with rfl | hd
    · exact h.1
    · exact short_mem h.2 d hd
  | [], _, d, hd => by cases hd
theorem short_str {d : D} (h : shortD d = true) : ∀ z, d = .fl (.str z) → z.length ≤ 1000 := fun z e => by
  subst e
  exact of_decide_eq_true h
mutual
theorem sh_short : ∀ d : D, isSh d = true → shortD d = true
  | .fl x, h => by
    cases x with
    | str z =>
      have h : wordS z = true := h
      unfold wordS at h
      rw [Bool.and_eq_true, Bool.and_eq_true] at h
      have := of_decide_eq_true h.2.1
      exact decide_eq_true (by omega)
    | _ => rfl
  | .emp, h => rfl
  | .sq [], h => rfl
  | .sq (x :: cs), h => by
    rcases isSh_inv h with ⟨z, e, _⟩ | ⟨z, cs', e, hz, hcs⟩
    · cases e
    · injection e with e
      injection e with e1 e2
      subst e1 e2
      show (shortD (.fl (.str z)) && shortDs cs) = true
      have hz : wordS z = true := hz
      unfold wordS at hz
      rw [Bool.and_eq_true, Bool.and_eq_true] at hz
      have := of_decide_eq_true hz.2.1
      rw [sh_shorts cs hcs, Bool.and_true]
      exact decide_eq_true (by omega)
theorem sh_shorts : ∀ ds : List D, isShs ds = true → shortDs ds = true
  | [], _ => rfl
  | d :: ds, h => by
    rw [isShs, Bool.and_eq_true] at h
    rw [shortDs, sh_short d h.1, sh_shorts ds h.2]
    rfl
end
theorem isShs_app : ∀ a b : List D, isShs (a ++ b) = (isShs a && isShs b)
  | [], b => rfl
  | x :: a, b => by rw [List.cons_append, isShs, isShs, isShs_app a b, Bool.and_assoc]
theorem isSh_sq (x : D) (cs : List D) : isSh (.sq (x :: cs)) = (wordB x && isShs cs) := by
  cases x with
  | fl v => cases v <;> rfl
  | _ => rfl
def spWL : Sp := fun vs H Q _ => ∃ (v : V) (d : D) (F : Addr → Prop), vs = [v] ∧ DAt F H v d ∧ shortD d = true ∧ sz d ≤ 100000 ∧ ∀ H', Same H H' → Q (.bl (wlB d)) H'
def spIsSh : Sp := fun vs H Q _ => ∃ (v : V) (d : D) (F : Addr → Prop), vs = [v] ∧ DAt F H v d ∧ shortD d = true ∧ sz d ≤ 5000 ∧ ∀ H', Same H H' → Q (.bl (isSh d)) H'
theorem lt_walk {K : PySem.W.Frag} {i : Nat} {σ : L2.St} {H : Hp} {R : It → Hp → Prop} {a : Addr} {vs : List V} (hi : σ[i]? = some (some (.ref a))) (q : H a = some (.tup vs) ∨ H a = some (.lst vs))
    (h : ∀ J : It, (∀ j H', j < vs.length → H' a = H a → J.go j H') → (∀ H', H' a = H a → J.stop vs.length H') → (∀ j H' x H'', H' a = H a → J.yld j H' x H'' → H'' = H' ∧ vs[j]? = some x) → R J H) : iList K (tVar i) σ H R ∨ iTup K (tVar i) σ H R := by
  rcases q with q | q
  · exact .inr ⟨_, hi, a, rfl, ⟨vs, SqT.of q⟩, h _ (fun j H' hj e => ⟨vs, vs.getD j .non, SqT.of (by rw [e]; exact q), getD_at hj⟩) (fun H' e => ⟨vs, SqT.of (by rw [e]; exact q), Nat.le_refl _⟩) (fun j H' x H'' e y => ⟨y.1, y.2 _ (SqT.of (by rw [e]; exact q))⟩)⟩
  · exact .inl ⟨_, hi, a, rfl, ⟨vs, SqL.of q⟩, h _ (fun j H' hj e => ⟨vs, vs.getD j .non, SqL.of (by rw [e]; exact q), getD_at hj⟩) (fun H' e => ⟨vs, SqL.of (by rw [e]; exact q), Nat.le_refl _⟩) (fun j H' x H'' e y => ⟨y.1, y.2 _ (SqL.of (by rw [e]; exact q))⟩)⟩
section
variable {P : Program} {w : World} {K : PySem.W.Frag} {mg : Str → Option Value} {base : Heap}
theorem c_word {f : Addr} {fd : FuncData} (F : Def K mg "is_word" sWord f fd) (b : Binds K fd ["thing"] []) (T : Blt4 mg) (G : Gs mg) : Cal P w K mg base 1 "is_word" spWord [] := by
  refine cal0 F b .nil scWord (fun vs H Q E h => ?_) (fun cdv A outer s H vs Q E hr h => ?_)
  · obtain ⟨v, d, G, rfl, _⟩ := h
    rfl
  · obtain ⟨v, d, GF, rfl, hv, hz, k⟩ := h
    have nd := scWord.nd
    refine ⟨_, pss_cons (ps_if (pw_or (pt_not (pt_val (pe_callB call_isi (by rfl) T.isi (by decide +kernel) (pa_cons (pv 0) (pa_cons (pe_bt "str" T.str) pa_nil)))))
          (pw_or (pt_cmp (pc_lt (pe_callB call_len_str (by rfl) T.len PySem.boot_len (pa_cons (pv 0) pa_nil)) pe_int))
          (pw_or1 (pt_cmp (pc_gt (pe_callB call_len_str (by rfl) T.len PySem.boot_len (pa_cons (pv 0) pa_nil)) (pe_gc (by rfl) G.lon)))))).pt (pss_one (ps_ret pe_bl)) pss_nil)
      (pss_one (ps_ret (pe_callB (cr_all rfl) (by rfl) T.all (by decide +kernel) (pa_cons (pe_lc (own := [("letter", 1)]) (g := gName 1) (tt := tYes) rfl nd (pi_str (pv 0)) (blkOk_by (N := ["thing", "letter"]) (sc := fnScope sWord) (by decide +kernel))
          (fun _ _ _ _ _ => pg_name (i := 1) nd rfl (Or.inl rfl)) (fun _ _ _ _ _ => pts_nil) (fun _ _ _ _ _ => pe_cmpR op_in_sign (pv 1) (pe_gc (by rfl) G.let_) (by rfl))) pa_nil)))), ?_⟩
    obtain ⟨Ty, ty, _, k1, _⟩ := d_ty2 (K := K) hv
    have ty0 := ty H fun _ _ e => e
    have s0 : Same H H := fun _ _ e => e
    refine ⟨_, rfl, v, .ty "str", _, _, _, rfl, .ty _, ty0, k1, _, rfl, ?_⟩
    cases hs : isSt d with
    | false =>
      rw [wordB_no hs] at k
      exact iteBt rfl (iteBt rfl (k H s0))
    | true =>
      obtain ⟨z, rfl⟩ := isSt_inv hs
      obtain ⟨rfl, _⟩ := hv
      have hz := hz z rfl
      have hls : z.length ≤ sizeLine := by rw [sizeLine_eq]; omega
      have wz : wordB (.fl (.str z)) = wordS z := rfl
      rw [wz] at k
      refine iteBf rfl ⟨_, rfl, z, rfl, hls, z.length, 1, rfl, rfl, _, rfl, ?_⟩
      by_cases l1 : (z.length : Int) < 1
      · have : wordS z = false := by unfold wordS; rw [decide_eq_false (by omega), Bool.false_and]
        rw [this] at k
        exact iteBt (decide_eq_true l1) (iteBt rfl (k H s0))
      refine iteBf (decide_eq_false l1) ⟨_, rfl, z, rfl, hls, z.length, 8, rfl, rfl, _, rfl, ?_⟩
      by_cases l8 : (8 : Int) < z.length
      · have : wordS z = false := by unfold wordS; rw [decide_eq_false (p := z.length ≤ 8) (by omega), Bool.false_and, Bool.and_false]
        rw [this] at k
        exact iteBt (decide_eq_true l8) (k H s0)
      refine iteBf (decide_eq_false l8) ⟨_, rfl, z, rfl, fun Da nDa => ?_⟩
      have hw : wordS z = z.cps.toList.all fun c => decide (c ∈ letters.cps.toList) := by unfold wordS; rw [decide_eq_true (p := 1 ≤ z.length) (by omega), decide_eq_true (p := z.length ≤ 8) (by omega), Bool.true_and, Bool.true_and]
      have hlz : z.cps.size = z.length := rfl
      refine lc_gen (J := Its z) z.cps.size (fun i H' => H' Da = some (.lst (((z.cps.toList.take i).map fun c => decide (c ∈ letters.cps.toList)).map V.bl)) ∧ Same H H') ⟨upd_same, same_upd nDa⟩ (fun i H' hi _ => hi) (fun H' _ => Nat.le_refl _) (fun i H' x H'' hi ⟨hD, sm⟩ yl => ?_) (fun H' ⟨hD, sm⟩ => ?_)
      · obtain ⟨rfl, c, hcc, rfl⟩ := yl
        refine ⟨rfl, ?_⟩
        unfold tYes
        dsimp only
        rw [if_pos rfl]
        have hlt : i < z.cps.toList.length := by rw [Array.length_toList]; exact hi
        have hce : z.cps.toList[i] = c := by
          have : z.cps.toList[i]? = some c := by rw [Array.getElem?_toList]; exact hcc
          exact (List.getElem?_eq_some_iff.mp this).2
        refine ⟨_, rfl, c, letters, rfl, rfl, _, hD, by rw [List.length_map, List.length_map, List.length_take, sizeLine_eq]; omega, ?_, fun b o e => by rw [upd_ne (ne_of_none e nDa)]; exact sm _ _ e⟩
        rw [upd_same, List.take_succ_eq_append_getElem hlt, hce, List.map_append, List.map_append]
        rfl
      · rw [List.take_of_length_le (by rw [Array.length_toList]; exact Nat.le_refl _)] at hD
        refine ⟨Da, _, rfl, SqL.of hD, ?_⟩
        rw [List.all_map]
        rw [hw] at k
        exact k _ sm
theorem c_wl {f : Addr} {fd : FuncData} (F : Def K mg "is_word_list" sWL f fd) (b : Binds K fd ["thing"] []) (T : Blt4 mg) (CR : Cal P w K mg base 1 "is_row" spRow []) (CW : Cal P w K mg base 1 "is_word" spWord []) : Cal P w K mg base 2 "is_word_list" spWL [] := by
  refine cal0 F b .nil scWL (fun vs H Q E h => ?_) (fun cdv A outer s H vs Q E hr h => ?_)
  · obtain ⟨v, d, G, rfl, _⟩ := h
    rfl
  · obtain ⟨v, d, G, rfl, hv, hs, hz, k⟩ := h
    have nd := scWL.nd
    refine ⟨_, pss_one (ps_ret (pe_and (pe_c CR hr (by decide) (by rfl) (pa_cons (pv 0) pa_nil)) (pe_one (pe_callB (cr_all rfl) (by rfl) T.all (by decide +kernel) (pa_cons (pe_lc (own := [("word", 1)]) (g := gName 1) (tt := tYes) rfl nd (PI.or (pi_list (pv 0)) (pi_tup (pv 0))) (blkOk_by (N := NWL) (sc := fnScope sWL) (by decide +kernel))
        (fun _ _ _ _ _ => pg_name (i := 1) nd rfl (Or.inl rfl)) (fun _ _ _ _ _ => pts_nil) (fun _ _ _ _ _ => pe_c CW hr (by decide) (by rfl) (pa_cons (pv 1) pa_nil))) pa_nil))))), ?_⟩
    refine ⟨_, rfl, v, d, G, rfl, hv, fun H1 s1 => ⟨_, rfl, ?_⟩⟩
    cases d with
    | fl x => exact iteBf rfl (k H1 s1)
    | emp => exact iteBf rfl (k H1 s1)
    | sq xs =>
      refine iteBt rfl ?_
      obtain ⟨a, us, rfl, q, _, hus⟩ := hv
      have hul := hus.len
      have hxz : xs.length ≤ 100000 := by
        have := len_szs xs
        rw [sz] at hz
        omega
      have hq1 : H1 a = some (.tup us) ∨ H1 a = some (.lst us) := q.imp (s1 _ _) fun e => s1 _ _ e.2
      have eqa : ∀ {H' : Hp}, Same H1 H' → H' a = H1 a := fun sm => by rcases hq1 with e | e <;> rw [e] <;> exact sm _ _ e
      have hsl := sizeLine_eq
      refine lt_walk (a := a) (vs := us) rfl hq1 fun J jgo jst jyl => fun Da nDa => ?_
      refine lc_gen (J := J) us.length (fun j H' => H' Da = some (.lst (((xs.take j).map wordB).map V.bl)) ∧ Same H1 H') ⟨upd_same, same_upd nDa⟩ (fun j H' hj ⟨_, sm⟩ => jgo j H' hj (eqa sm)) (fun H' ⟨_, sm⟩ => jst H' (eqa sm)) (fun j H' x H'' hj ⟨hD, sm⟩ yl => ?_) (fun H' ⟨hD, sm⟩ => ?_)
      · obtain ⟨rfl, hx⟩ := jyl j H' x H'' (eqa sm) yl
        obtain ⟨c, hc, hxc⟩ := hus.get hx
        obtain ⟨hlt, ec⟩ := List.getElem?_eq_some_iff.mp hc
        refine ⟨rfl, ?_⟩
        unfold tYes
        dsimp only
        rw [if_pos rfl]
        refine ⟨_, rfl, x, c, G, rfl, DAt.hold (.same (s1.trans sm)) _ hxc, short_str (short_mem hs c (List.mem_of_getElem? hc)), fun H3 s3 => ⟨_, s3 _ _ hD, by rw [List.length_map, List.length_map, List.length_take]; omega, ?_, fun b o e => by rw [upd_ne (ne_of_none e nDa)]; exact s3 _ _ (sm _ _ e)⟩⟩
        rw [upd_same, List.take_succ_eq_append_getElem hlt, ec, List.map_append, List.map_append]
        rfl
      · rw [hul, List.take_length] at hD
        refine ⟨Da, _, rfl, SqL.of hD, ?_⟩
        have := k H' (s1.trans sm)
        have e : (xs.map wordB).all id = wlB (.sq xs) := by rw [wlB, List.all_map]; rfl
        rw [e]
        exact this
theorem c_isSh {f : Addr} {fd : FuncData} (F : Def K mg "is_shape" sIsSh f fd) (b : Binds K fd ["thing"] []) (T : Blt4 mg) (CR : Cal P w K mg base 1 "is_row" spRow []) (CW : Cal P w K mg base 1 "is_word" spWord []) : Cal P w K mg base 2 "is_shape" spIsSh [] := by
  refine cal0 F b .nil scIsSh (fun vs H Q E h => ?_) (fun cdv A outer s H vs Q E hr h => ?_)
  · obtain ⟨v, d, G, rfl, _⟩ := h
    rfl
  · obtain ⟨v, d, G, rfl, hv, hsd, hz, k⟩ := h
    have nd := scIsSh.nd
    refine ⟨_, pss_cons (ps_set (i := 1) nd rfl (Or.inl rfl) (pe_lst (pa_cons (pv 0) pa_nil)))
      (pss_cons (ps_while PassesOwn.never (pt_truth (pv 1) (by intro _; rfl))
        (pss_cons (ps_set (i := 2) nd rfl (Or.inl rfl) (pe_bm0 PySem.F.plainAttrs_list PySem.F.slot_list_pop PySem.F.type_list_pop mt_pop (pv 1)))
        (pss_cut (ps_if (pw_and (pt_val (pe_c CR hr (by decide) (by rfl) (pa_cons (pv 2) pa_nil))) (pw_and1 (pt_cmp (pc_gt (pe_callB call_len_seq (by rfl) T.len PySem.boot_len (pa_cons (pv 2) pa_nil)) pe_int)))).pt
            (pss_cons (ps_expr (pe_bm PySem.F.plainAttrs_list PySem.F.slot_list_extend PySem.F.type_list_extend (MtR.or mt_extend mt_extendT) (pv 1) (pa_cons (pe_slice (SlR.or sl_list sl_tup) (pv 2) (po_some pe_int) po_none) pa_nil)))
            (pss_one (ps_set (i := 2) nd rfl (Or.inl rfl) (pe_ix ix_seq (pv 2) pe_int fun _ _ => rfl)))) pss_nil)
        (pss_one (ps_if (pt_not (pt_val (pe_c CW hr (by decide) (by rfl) (pa_cons (pv 2) pa_nil)))) (pss_one (ps_ret pe_bl)) pss_nil)))))
      (pss_one (ps_ret pe_bl))), ?_⟩
    refine ⟨_, rfl, (by show 1 ≤ sizeLine; decide), fun W nW => ?_⟩
    have s1 : Same H (upd H W (.lst [v])) := same_upd nW
    let Iv : Nat → L2.St → Hp → Prop := fun m σ H' => ∃ (xs : List V) (ds : List D) (v3 : Option V), szs ds = m ∧ σ = [some v, some (.ref W), v3] ∧ H' W = some (.lst xs) ∧ DAts G H xs ds ∧ Same H H' ∧ isSh d = isShs ds ∧ shortDs ds = true ∧ m ≤ 5000
    refine ⟨Iv, ⟨sz d, [v], [d], none, rfl, rfl, upd_same, ⟨hv, trivial⟩, s1, by rw [isShs, isShs, Bool.and_true], by rw [shortDs, shortDs, Bool.and_true]; exact hsd, hz⟩, ?_⟩
    rintro m σ H1 ⟨xs, ds, v3, rfl, rfl, hW, hxs, sm, hT, hS, hm⟩
    have hlen := hxs.len
    have hll := len_szs ds
    refine ⟨_, rfl, !xs.isEmpty, .inl ⟨xs, SqL.of hW, rfl⟩, ?_⟩
    cases hxe : xs.isEmpty with
    | true =>
      have e : xs = [] := List.isEmpty_iff.mp hxe
      subst e
      have : ds = [] := List.length_eq_zero_iff.mp hlen.symm
      subst this
      refine iteBf rfl ?_
      have kk := k H1 sm
      rw [hT, isShs] at kk
      exact kk
    | false =>
      refine iteBt rfl ?_
      have hne : xs ≠ [] := fun e => by rw [e] at hxe; cases hxe
      obtain ⟨ys, y, rfl⟩ : ∃ ys y, xs = ys ++ [y] := ⟨xs.dropLast, xs.getLast hne, (List.dropLast_concat_getLast hne).symm⟩
      obtain ⟨es, e, rfl, hys, hy⟩ := DAts.snoc_inv hxs
      have hsz : szs (es ++ [e]) = szs es + sz e := by rw [szs_app]; rfl
      rw [hsz] at hm hll
      rw [short_app, Bool.and_eq_true, shortDs, shortDs, Bool.and_true] at hS
      have hyl := hys.len
      have hes := len_szs es
      have hsl := sizeLine_eq
      refine ⟨fun σ' H' => ∃ m' < szs (es ++ [e]), Iv m' σ' H', fun σ' H' ⟨m', hl, hi⟩ => ⟨m', hl, hi⟩, ?_⟩
      refine ⟨_, rfl, .inl ⟨rfl, _, SqL.of hW⟩, W, _, y, rfl, rfl, hW, by simp, ?_⟩
      rw [List.dropLast_concat]
      have hW2 : (upd H1 W (.lst ys)) W = some (.lst ys) := upd_same
      have sm2 : Same H (upd H1 W (.lst ys)) := fun b o q => by rw [upd_ne (ne_of_none q nW)]; exact sm _ _ q
      generalize upd H1 W (.lst ys) = H2 at hW2 sm2 ⊢
      -- the node's head, its children put behind
      refine ⟨fun σ' H' => ∃ (u : V) (hd : D) (cs : List D) (zs : List V), σ' = [some v, some (.ref W), some u] ∧ DAt G H u hd ∧ shortD hd = true ∧ isSh e = (wordB hd && isShs cs) ∧ szs cs < sz e ∧ shortDs cs = true ∧ H' W = some (.lst zs) ∧ DAts G H zs (es ++ cs) ∧ Same H H', ?_, ?_⟩
      · refine ⟨_, rfl, y, e, G, rfl, DAt.hold (.same sm2) _ hy, fun H3 s3 => ⟨_, rfl, ?_⟩⟩
        have s03 := sm2.trans s3
        have hW3 := s3 _ _ hW2
        have alone : wordB e = isSh e → ∃ (u : V) (hd : D) (cs : List D) (zs : List V), [some v, some (.ref W), some y] = [some v, some (.ref W), some u] ∧ DAt G H u hd ∧ shortD hd = true ∧ isSh e = (wordB hd && isShs cs) ∧ szs cs < sz e ∧ shortDs cs = true ∧ H3 W = some (.lst zs) ∧ DAts G H zs (es ++ cs) ∧ Same H H3 := fun he =>
          ⟨y, e, [], ys, rfl, hy, hS.2, by rw [isShs, Bool.and_true, he], by have := sz_pos e; rw [szs]; omega, rfl, hW3, by rw [List.append_nil]; exact hys, s03⟩
        cases e with
        | fl x => exact iteBf rfl (iteBf rfl (alone (by cases x <;> rfl)))
        | emp => exact iteBf rfl (iteBf rfl (alone rfl))
        | sq xs =>
          refine iteBt rfl ?_
          have hy0 := hy
          obtain ⟨a, vs, rfl, q, _, hvs⟩ := hy
          have hvl := hvs.len
          have q3 : H3 a = some (.tup vs) ∨ H3 a = some (.lst vs) := q.imp (s03 _ _) fun e => s03 _ _ e.2
          refine ⟨_, rfl, a, vs, rfl, q3.elim (fun e => .inr (SqT.of e)) (fun e => .inl (SqL.of e)), (vs.length : Nat), 0, rfl, rfl, _, rfl, ?_⟩
          match xs, vs, hvs with
          | [], [], _ => exact iteBf (by decide) (alone rfl)
          | [], _ :: _, h => exact h.elim
          | _ :: _, [], h => exact h.elim
          | x :: cs, v0 :: cvs, ⟨h0, hcs⟩ =>
            refine iteBt (decide_eq_true (by rw [List.length_cons]; omega)) ?_
            have hcl := hcs.len
            have hez : sz (.sq (x :: cs)) = 1 + (sz x + szs cs) := rfl
            have hcz := len_szs cs
            have hxz := sz_pos x
            have hSe : shortD x = true ∧ shortDs cs = true := by
              have h2 := hS.2
              have h2 : (shortD x && shortDs cs) = true := h2
              rw [Bool.and_eq_true] at h2
              exact h2
            have cut1 : (v0 :: cvs).drop (1 : Int).toNat = cvs := rfl
            have fin : ∀ (H4 : Hp), Same H3 H4 → ∃ (u : V) (hd : D) (cs' : List D) (zs : List V), [some v, some (.ref W), some v0] = [some v, some (.ref W), some u] ∧ DAt G H u hd ∧ shortD hd = true ∧ isSh (.sq (x :: cs)) = (wordB hd && isShs cs') ∧ szs cs' < sz (.sq (x :: cs)) ∧ shortDs cs' = true ∧ (upd H4 W (.lst (ys ++ cvs))) W = some (.lst zs) ∧ DAts G H zs (es ++ cs') ∧ Same H (upd H4 W (.lst (ys ++ cvs))) := fun H4 s4 =>
              ⟨v0, x, cs, ys ++ cvs, rfl, h0, hSe.1, isSh_sq x cs, by omega, hSe.2, upd_same, DAts.app hys hcs, fun b o q => by rw [upd_ne (ne_of_none q nW)]; exact s4 _ _ (s03 _ _ q)⟩
            refine ⟨_, rfl, .inl ⟨rfl, _, SqL.of hW3⟩, _, rfl, 1, rfl, ?_⟩
            rcases q3 with q | q
            · refine .inr ⟨a, _, rfl, SqT.of q, not_whole (by decide) (by simp), fun r nr => .inr ?_⟩
              rw [cutFrom (by decide), cut1]
              have hA := fin _ (same_upd nr (o := .tup cvs))
              have qa : (upd (upd H3 r (.tup cvs)) W (.lst (ys ++ cvs))) a = some (.tup (v0 :: cvs)) := by
                rw [upd_ne (ne_of q hW3 (by intro z; cases z)), upd_ne (ne_of_none q nr)]
                exact q
              refine ⟨W, r, ys, cvs, rfl, rfl, by rw [upd_ne (ne_of_none hW3 nr)]; exact hW3, SqT.of upd_same, by omega, ?_⟩
              exact ⟨_, rfl, .inr (.inl ⟨a, _, 0, v0, rfl, rfl, SqT.of qa, at_of (j := 0) (by omega) rfl, hA⟩)⟩
            · refine .inl ⟨a, _, rfl, SqL.of q, fun r nr => .inl ?_⟩
              rw [cutFrom (by decide), cut1]
              have hA := fin _ (same_upd nr (o := .lst cvs))
              have aW : a ≠ W := fun z => by subst z; rename_i q0 _; rcases q0 with h | ⟨_, h⟩ <;> rw [nW] at h <;> cases h
              have qa : (upd (upd H3 r (.lst cvs)) W (.lst (ys ++ cvs))) a = some (.lst (v0 :: cvs)) := by
                rw [upd_ne aW, upd_ne (ne_of_none q nr)]
                exact q
              refine ⟨W, r, ys, cvs, rfl, rfl, by rw [upd_ne (ne_of_none hW3 nr)]; exact hW3, upd_same, by omega, ?_⟩
              exact ⟨_, rfl, .inl ⟨a, _, 0, v0, rfl, rfl, SqL.of qa, at_of (j := 0) (by omega) rfl, hA⟩⟩
      rintro σ H3 ⟨u, hd, cs, zs, rfl, hu, hds, hee, hcs, hcS, hW3, hzs, s3⟩
      refine ⟨_, rfl, u, hd, G, rfl, DAt.hold (.same s3) _ hu, short_str hds, fun H4 s4 => ⟨_, rfl, ?_⟩⟩
      cases hw : wordB hd with
      | false =>
        refine iteBt rfl ?_
        have kk := k H4 (s3.trans s4)
        rw [hT, isShs_app, isShs, hee, hw, Bool.false_and, Bool.false_and, Bool.and_false] at kk
        exact kk
      | true =>
        refine iteBf rfl ⟨szs (es ++ cs), by rw [hsz, szs_app]; omega, zs, es ++ cs, _, rfl, rfl, s4 _ _ hW3, hzs, s3.trans s4, ?_, ?_, by rw [szs_app]; omega⟩
        · rw [hT, isShs_app, isShs_app, isShs, isShs, hee, hw, Bool.true_and, Bool.and_true]
        · rw [short_app, hS.1, hcS]
          rfl
end
end K9

/-! sets of texts: made of a list, their number, sorted -/
namespace TX
open PySem PySem.Spec PyProof.Rows L2
abbrev kS (P : Program) (w : World) : PySem.KeyKind P w Str := PySem.strKind P w
/-- an entry that is a text, under its own hash -/
def TxE (w : World) (c : Int × Value) : Prop := ∃ z tz, c.2 = Value.str z tz ∧ c.1 = hashStr w z
def txt (c : Int × Value) : Str := strOf c.2
/-- a set of texts at p: M its members, m how many; it can be walked -/
def SetT (w : World) (h : Heap) (p : Addr) (M : Str → Bool) (m : Nat) : Prop := ∃ ob cs ep tb, h.get? p = some ob ∧ ob.ExactSet ∧ ob.data = .set cs ep tb ∧ (∀ c ∈ cs.toList, TxE w c) ∧ (cs.toList.map txt).Nodup ∧
  (∀ z, M z = true ↔ z ∈ cs.toList.map txt) ∧ cs.size < scanBound ∧ tb.fits cs.size = true ∧ cs.size = m ∧ Ris tb.place.toList ∧ (w.params.followText "set-order" = true ∨ tb.led = true)
section
variable {P : Program} {w : World} {h h' : Heap} {p : Addr} {M : Str → Bool} {m : Nat}
theorem SetT.at (R : SetT w h p M m) (k : ∀ o, h.get? p = some o → h'.get? p = some o) : SetT w h' p M m := let ⟨ob, cs, ep, tb, e, rest⟩ := R; ⟨ob, cs, ep, tb, k ob e, rest⟩
theorem txE_elems {l : List (Int × Value)} (g : ∀ c ∈ l, TxE w c) : ElemsOf (kS P w) l := fun c hc => by
  obtain ⟨z, tz, e1, e2⟩ := g c hc
  exact ⟨⟨z, by rw [e1]; exact strKind_is P w z tz, e2⟩, by rw [e1] <;> rfl⟩
theorem txE_is {c : Int × Value} (g : TxE w c) (z : Str) : (kS P w).is z c.2 = true ↔ txt c = z := by
  obtain ⟨y, tz, e1, _⟩ := g
  unfold txt
  rw [e1, (kS P w).is_eq_decide (strKind_is P w y tz) z, decide_eq_true_eq]
  exact ⟨fun e => e.symm, fun e => e.symm⟩
theorem txE_mem {l : List (Int × Value)} (g : ∀ c ∈ l, TxE w c) (z : Str) : z ∈ l.map txt ↔ ∃ c ∈ l, (kS P w).is z c.2 = true :=
  List.mem_map.trans ⟨fun ⟨c, hc, q⟩ => ⟨c, hc, (txE_is (g c hc) z).2 q⟩, fun ⟨c, hc, q⟩ => ⟨c, hc, (txE_is (g c hc) z).1 q⟩⟩
end
section
variable {P : Program} {w : World} {A : Around} {E : Value → Shared → Prop} {s : Shared} {p : Addr} {M : Str → Bool} {m : Nat}
/-- what follows once the new entry is laid: it is kept, the table perhaps laid anew -/
theorem putT_tail {g : Bool → Sem Unit} (hg : ∀ (b : Bool) (s1 : Shared) (R : Unit → Shared → Prop), R () s1 → wpAny (model P w) A (g b) R E s1) {ob : Obj} {cs : Array (Int × Value)} {ep : Nat} {tb : SetTable} (e0 : s.heap.get? p = some ob) (ex : ob.ExactSet) (ed : ob.data = .set cs ep tb)
    {cs1 : Array (Int × Value)} {tb1 : SetTable} {M' : Str → Bool} (good : ∀ c ∈ cs1.toList, TxE w c) (unl : (cs1.toList.map txt).Nodup) (mem : ∀ z, M' z = true ↔ z ∈ cs1.toList.map txt) (few : cs1.size < scanBound) (fit : tb1.fits cs1.size = true) (ris : Ris tb1.place.toList)
    (led : w.params.followText "set-order" = true ∨ tb1.led = true) {was : Bool} {R : Option Bool → Shared → Prop} (hR : ∀ h', Heap.SameBut p s.heap h' → SetT w h' p M' cs1.size → R (some true) { s with heap := h' }) :
    wpAny (model P w) A (do
        storeSet p cs1 tb1
        if (!was && tb1.tooFull) = true then do
            g (relayAll tb1 cs1 (SetTable.grown cs1.size)).2.2
            storeSet p (relayAll tb1 cs1 (SetTable.grown cs1.size)).1 (relayAll tb1 cs1 (SetTable.grown cs1.size)).2.1
            pure (some true)
          else pure (some true)) R E s := by
  have kept1 := store_at (es' := cs1) (t' := tb1) e0 ed
  have but1 := Heap.SameBut.update s.heap p (Obj.putSet cs1 tb1)
  refine wpAny_bind (wpAny_storeSet_of e0 ed ?_ (fits_of_scanBound few))
  by_cases full : (!was && tb1.tooFull) = true
  · rw [if_pos full]
    have perm := relayAll_perm tb1 cs1 (SetTable.grown cs1.size)
    have fit2 := relayAll_fits tb1 cs1 (SetTable.grown cs1.size)
    have ris2 := relayAll_ris tb1 cs1 (SetTable.grown cs1.size)
    have led2 := relayAll_led tb1 cs1 (SetTable.grown cs1.size)
    generalize relayAll tb1 cs1 (SetTable.grown cs1.size) = all at perm fit2 ris2 led2 ⊢
    obtain ⟨cs2, tb2, way⟩ := all
    have size2 : cs2.size = cs1.size := by rw [← Array.length_toList, perm.length_eq, Array.length_toList]
    have few2 : cs2.size < scanBound := size2 ▸ few
    refine wpAny_bind (hg _ _ _ (wpAny_bind (wpAny_storeSet_of kept1 rfl ?_ (fits_of_scanBound few2))))
    have kept2 := store_at (es' := cs2) (t' := tb2) kept1 rfl
    exact wpAny_pure (hR _ (but1.trans (Heap.SameBut.update _ p _)) ⟨_, cs2, _, tb2, kept2, ex, rfl, fun c hc => good c (perm.mem_iff.mp hc), (perm.map txt).nodup_iff.mpr unl, fun z => (mem z).trans (perm.map txt).mem_iff.symm, few2, fit2, size2, ris2, led.imp id fun q => led2.trans q⟩)
  · rw [if_neg full]
    exact wpAny_pure (hR _ but1 ⟨_, cs1, _, tb1, kept1, ex, rfl, good, unl, mem, few, fit, rfl, ris, led⟩)
theorem putT {z : Str} {tz : Tok} {Q : Bool → Shared → Prop} (R : SetT w s.heap p M m) (room : m + 1 < scanBound)
    (hQ : ∀ h', Heap.SameBut p s.heap h' → SetT w h' p (fun y => M y || decide (y = z)) (if M z = true then m else m + 1) → Q (!M z) { s with heap := h' }) :
    wpAny (model P w) A (setAddHashed p (.str z tz) ((kS P w).hash z)) Q E s := by
  obtain ⟨ob, cs, ep, tb, e0, ex, ed, good, unl, mem, few, fit, num, ris, led⟩ := R
  have isz : (kS P w).is z (.str z tz) = true := strKind_is P w z tz
  have scan : (Value.str z tz).scannable = true := rfl
  have els : ElemsOf (kS P w) cs.toList := txE_elems good
  unfold setAddHashed setAddHashedIn
  refine wpAny_holding (wpAny_bind (wpAny_setState_of e0 ed fit ?_))
  dsimp only
  rw [byScan_of scan few els]
  simp only [↓reduceIte]
  unfold setAddByScan
  refine wpAny_bind (wpAny_bind (wpAny_rule (wpAny_bind (wpAny_setScan_of isz e0 ed fit els ?_))))
  cases here : List.findIdx? (fun c => (kS P w).is z c.2) cs.toList with
  | some j =>
    obtain ⟨hj, pj, _⟩ := List.findIdx?_eq_some_iff_getElem.mp here
    have Mz : M z = true := (mem z).2 ((txE_mem (P := P) good z).2 ⟨cs.toList[j], List.getElem_mem hj, pj⟩)
    refine wpAny_pure (wpAny_pure ?_)
    have q := hQ s.heap (Heap.SameBut.refl p s.heap) ⟨ob, cs, ep, tb, e0, ex, ed, good, unl, fun y => by
      rw [Bool.or_eq_true, decide_eq_true_eq, ← mem y]
      exact ⟨fun o => o.elim id (fun e => e ▸ Mz), .inl⟩, few, fit, by rw [if_pos Mz]; exact num, ris, led⟩
    rw [Mz] at q
    exact q
  | none =>
    have nz : z ∉ cs.toList.map txt := fun o => by
      obtain ⟨c, hc, q⟩ := (txE_mem (P := P) good z).1 o
      have no := List.findIdx?_eq_none_iff.mp here c hc
      rw [q] at no
      cases no
    have Mz : M z = false := by
      cases q : M z with
      | false => rfl
      | true => exact absurd ((mem z).1 q) nz
    have gw : ∀ (b : Bool) {s1 : Shared} {R : Unit → Shared → Prop}, R () s1 → wpAny (model P w) A (match b with | true => rule "set.scan.the-table-gave-way" | false => pure ()) R E s1 := fun b s1 R q => by cases b <;> first | exact wpAny_pure q | exact wpAny_rule q
    have perm := layNew_perm tb cs ((kS P w).hash z) (.str z tz)
    have fit1 := layNew_fits tb cs ((kS P w).hash z) (.str z tz)
    have ris1 := layNew_ris tb cs ((kS P w).hash z) (.str z tz) ris
    have led1 := layNew_led tb cs ((kS P w).hash z) (.str z tz)
    dsimp only
    generalize layNew tb cs ((kS P w).hash z) (.str z tz) = all at perm fit1 ris1 led1 ⊢
    obtain ⟨cs1, tb1, was, way⟩ := all
    dsimp only at perm fit1 ris1 led1 ⊢
    rw [Array.toList_push] at perm
    have pc : cs1.toList.Perm (((kS P w).hash z, Value.str z tz) :: cs.toList) := perm.trans (List.perm_append_singleton _ _)
    have pz : (cs1.toList.map txt).Perm (z :: cs.toList.map txt) := pc.map txt
    have good1 : ∀ c ∈ cs1.toList, TxE w c := fun c hc => (List.mem_cons.mp (pc.mem_iff.mp hc)).elim (fun e => by rw [e]; exact ⟨z, tz, rfl, rfl⟩) (good c)
    have unl1 : (cs1.toList.map txt).Nodup := pz.nodup_iff.mpr (List.nodup_cons.mpr ⟨nz, unl⟩)
    have mem1 : ∀ y, (M y || decide (y = z)) = true ↔ y ∈ cs1.toList.map txt := fun y => by
      rw [Bool.or_eq_true, decide_eq_true_eq, mem y, pz.mem_iff, List.mem_cons]
      exact Or.comm
    have size1 : cs1.size = m + 1 := by rw [← Array.length_toList, pc.length_eq, List.length_cons, Array.length_toList, num]
    have few1 : cs1.size < scanBound := size1 ▸ room
    have led1' : w.params.followText "set-order" = true ∨ tb1.led = true := led.imp id fun q => led1.trans q
    have fin : ∀ h', Heap.SameBut p s.heap h' → SetT w h' p (fun y => M y || decide (y = z)) cs1.size → Q true { s with heap := h' } := fun h' sb r => by
      have q := hQ h' sb
      rw [Mz] at q
      exact q (size1 ▸ r)
    refine wpAny_bind (gw _ ?_)
    split
    · refine wpAny_bind ?_
      rw [hashByValue_scannable 8 scan]
      refine wpAny_pure (putT_tail ?_ e0 ex ed good1 unl1 mem1 few1 ?_ ?_ ?_ ?_)
      · intro b s1 R q; cases b <;> first | exact wpAny_pure q | exact wpAny_rule q
      · first | (split <;> first | exact fit1 | exact SetTable.fits_plain_off fit1) | exact fit1
      · first | (split <;> exact ris1) | exact ris1
      · first | (split <;> exact led1') | exact led1'
      · intro h' sb r; exact wpAny_pure (fin h' sb r)
    · refine wpAny_bind (wpAny_pure ?_)
      simp only [↓reduceIte]
      refine putT_tail ?_ e0 ex ed good1 unl1 mem1 few1 fit1 ris1 led1' ?_
      · intro b s1 R q; cases b <;> first | exact wpAny_pure q | exact wpAny_rule q
      · intro h' sb r; exact wpAny_pure (fin h' sb r)
end
theorem strs_len {vs : List Value} {xs : List Str} (h : StrsAre vs xs) : vs.length = xs.length := by
  induction h with
  | nil => rfl
  | cons y t _ ih => rw [List.length_cons, List.length_cons, ih]
theorem strs_get : ∀ {vs : List Value} {xs : List Str}, StrsAre vs xs → ∀ (i : Nat) (v : Value), vs[i]? = some v → ∃ z tz, xs[i]? = some z ∧ v = Value.str z tz
  | _, _, .nil, i, v, h => by cases h
  | _, _, .cons y t r, 0, v, h => by cases h; exact ⟨y, t, rfl, rfl⟩
  | _, _, .cons y t r, i + 1, v, h => strs_get r i v h
/-! the texts of a list, one after another -/
/-- what is met first -/
def once : List Str → List Str
  | [] => []
  | x :: xs => x :: (once xs).filter fun y => decide (y ≠ x)
theorem mem_once : ∀ {xs : List Str} {z : Str}, z ∈ once xs ↔ z ∈ xs
  | [], z => Iff.rfl
  | x :: xs, z => by
    rw [once, List.mem_cons, List.mem_filter, mem_once, List.mem_cons, decide_eq_true_eq]
    constructor
    · exact fun h => h.imp id fun q => q.1
    · intro h
      by_cases e : z = x
      · exact .inl e
      · exact .inr ⟨h.elim (fun q => absurd q e) id, e⟩
/-- how many unlike ones there are -/
def many (xs : List Str) : Nat := (once xs).length
theorem once_snoc : ∀ (xs : List Str) (z : Str), once (xs ++ [z]) = if z ∈ xs then once xs else once xs ++ [z]
  | [], z => rfl
  | x :: xs, z => by
    rw [List.cons_append, once, once_snoc xs z]
    by_cases e : z = x
    · subst e
      rw [if_pos List.mem_cons_self, once]
      by_cases h : z ∈ xs
      · rw [if_pos h]
      · rw [if_neg h, List.filter_append]
        simp
    · by_cases h : z ∈ xs
      · rw [if_pos h, if_pos (List.mem_cons_of_mem _ h), once]
      · rw [if_neg h, if_neg (fun q => (List.mem_cons.mp q).elim e h), once, List.filter_append]
        simp [e]
theorem many_snoc (xs : List Str) (z : Str) : many (xs ++ [z]) = if z ∈ xs then many xs else many xs + 1 := by
  unfold many
  rw [once_snoc]
  split
  · rfl
  · rw [List.length_append]; rfl
theorem once_le : ∀ xs : List Str, (once xs).length ≤ xs.length
  | [] => Nat.le_refl _
  | x :: xs => by
    rw [once, List.length_cons, List.length_cons]
    have := List.length_filter_le (fun y => decide (y ≠ x)) (once xs)
    have := once_le xs
    omega
theorem once_nodup : ∀ {xs : List Str}, xs.Nodup → once xs = xs
  | [], _ => rfl
  | x :: xs, h => by
    obtain ⟨h1, h2⟩ := List.nodup_cons.mp h
    rw [once, once_nodup h2]
    congr 1
    exact List.filter_eq_self.mpr fun y hy => decide_eq_true fun e => h1 (e ▸ hy)
section
variable {P : Program} {w : World} {A : Around} {R : Result → Shared → Prop} {I : Addr} {fp wr : List Addr} {G : Array GenState → Array GenState → Prop} {Pv : Nat → Value → Prop} {St : Nat → Shared → Prop}
theorem SetT.congr {h : Heap} {p : Addr} {M M' : Str → Bool} {m m' : Nat} (r : SetT w h p M m) (e : ∀ z, M z = M' z) (en : m = m') : SetT w h p M' m' := by
  obtain rfl : M = M' := funext e
  exact en ▸ r
theorem fillT (xs : List Str) (W : WalksS P w A.in1 I fp wr G xs.length Pv St) (p : Addr) (pf : p ∉ fp) (isx : ∀ i v, Pv i v → ∃ z tz, xs[i]? = some z ∧ v = Value.str z tz) (room : xs.length + 1 < scanBound) :
    ∀ (d i : Nat) (s : Shared), xs.length - i = d → i ≤ xs.length → St i s → SetT w s.heap p (fun z => decide (z ∈ xs.take i)) (many (xs.take i)) →
      (∀ s', Moved (p :: wr) G s s' → SetT w s'.heap p (fun z => decide (z ∈ xs)) (many xs) → R (.ok (.ret .none)) s') → codeAny (model P w) A (.builtin "set.update.loop" ⟨[.ref p, .ref I], []⟩) R s := by
  have pw : p ∉ wr := fun o => pf (W.sub _ o)
  have more : ∀ b ∈ wr, b ∈ p :: wr := fun b hb => List.mem_cons_of_mem _ hb
  intro d
  induction d with
  | zero =>
    intro i s hd hi st r done
    obtain rfl : i = xs.length := by omega
    rw [List.take_length] at r
    refine codeAny_builtin F.entry_set_update_loop ?_
    rw [Around.under_plainId F.plain_set_update_loop _]
    show wpAny _ A.in1 (pyNext (.ref I) >>= _) _ _ s
    refine wpAny_bind (W.done s _ _ st fun s' mv => ?_)
    show wpAny _ A.in1 (ret Value.none) _ _ s'
    exact wpAny_pure (done s' (mv.mono more) (r.at fun o e => mv.heap p o pw e))
  | succ d ih =>
    intro i s hd hi st r done
    have lt : i < xs.length := by omega
    refine codeAny_builtin F.entry_set_update_loop ?_
    rw [Around.under_plainId F.plain_set_update_loop _]
    show wpAny _ A.in1 (pyNext (.ref I) >>= _) _ _ s
    refine wpAny_bind (W.item i s _ _ lt st fun v s' hv st' mv => ?_)
    obtain ⟨z, tz, hz, rfl⟩ := isx i v hv
    obtain ⟨_, ez⟩ := List.getElem?_eq_some_iff.mp hz
    have r' : SetT w s'.heap p (fun z => decide (z ∈ xs.take i)) (many (xs.take i)) := r.at fun o e => mv.heap p o pw e
    show wpAny _ A.in1 (holding [Value.str z tz] (setAdd p (.str z tz)) >>= _) _ _ s'
    refine wpAny_bind (wpAny_holding ?_)
    unfold setAdd
    refine wpAny_holding (wpAny_bind ((kS P w).pyHash (k := z) (strKind_is _ _ _ _) ?_))
    have roomi : many (xs.take i) + 1 < scanBound := by
      have := once_le (xs.take i)
      rw [List.length_take] at this
      unfold many
      omega
    refine putT (s := { s' with toks := s'.toks + 1 }) r' roomi fun h' sb r2 => ?_
    have r3 : SetT w h' p (fun y => decide (y ∈ xs.take (i + 1))) (many (xs.take (i + 1))) := r2.congr (fun y => by
      rw [List.take_succ_eq_append_getElem lt, ez, Bool.eq_iff_iff]
      simp) (by
      rw [List.take_succ_eq_append_getElem lt, ez, many_snoc]
      by_cases q : z ∈ xs.take i
      · rw [if_pos q, if_pos (decide_eq_true q)]
      · rw [if_neg q, if_neg (by rw [decide_eq_true_eq]; exact q)])
    refine wpAny_pure ⟨plainId_quiet F.plain_set_update_loop _, ih (i + 1) _ (by omega) lt (W.frame _ s' _ _ st' (Nat.le_succ _) fun b hb o e => ?_) r3 fun s2 mv2 r4 => ?_⟩
    · rw [sb.2 b fun q : b = p => pf (q ▸ hb)]
      exact e
    · refine done s2 (Moved.trans W.gtrans ((mv.mono more).then_heap (Nat.le_succ _) fun b o hb e => ?_) mv2) r4
      rw [sb.2 b fun q : b = p => hb (q ▸ List.mem_cons_self)]
      exact e
end
end TX

namespace TX
open PySem PySem.Spec PyProof.Rows L2
section
variable {P : Program} {w : World} {A : Around} {E : Value → Shared → Prop} {s : Shared}
/-- the heap with a new, empty set -/
abbrev bare (w : World) (h : Heap) : Heap := h.push { cls := .type "set", dict := none, data := .set #[] 0 (.fresh 0 0 (!w.params.followText "set-order")) }
theorem bare_at {h : Heap} (w : World) : (bare w h).get? h.objs.size = some { cls := .type "set", dict := none, data := .set #[] 0 (.fresh 0 0 (!w.params.followText "set-order")) } := Heap.get?_push_size _ rfl
theorem bareT {h h2 : Heap} (k : ∀ o, (bare w h).get? h.objs.size = some o → h2.get? h.objs.size = some o) : SetT w h2 h.objs.size (fun _ => false) 0 :=
  ⟨_, #[], 0, _, k _ (bare_at w), ⟨rfl, rfl, rfl⟩, rfl, (fun c hc => by simp at hc), (by simp), (fun z => by simp), (by decide), (by rfl), rfl, List.Pairwise.nil, by
    show _ ∨ (!w.params.followText "set-order") = true
    cases w.params.followText "set-order" with
    | true => exact .inl rfl
    | false => exact .inr rfl⟩
theorem new_bare (a : Value) {R : Value → Shared → Prop} (k : R (.ref s.heap.objs.size) { s with heap := bare w s.heap }) : codeAny (model P w) A (.call (.builtin "set.__new__") ⟨[.type "set", a], []⟩) (wants R E) s := by
  refine codeAny_of_tree ?_
  show wpAny _ A.in1 (do checkBuiltinCall "set.__new__" ⟨[.type "set", a], []⟩; again (.builtin "set.__new__" ⟨[.type "set", a], []⟩)) _ _ s
  refine wpAny_bind (wpAny_of_eq (F.newCall_set_1 a) (wpAny_pure ⟨plainId_quiet F.plain_set_new _, codeAny_builtin F.entry_set_new ?_⟩))
  rw [Around.under_plainId F.plain_set_new _]
  unfold Builtin.«set.__new__» Builtin.Frozenset.newClass
  have self := sub_set_self
  obtain ⟨hp, g, d, tk, os⟩ := s
  dsimp only
  wp_walk
  refine wpAny_askSetting (wpAny_pure ?_)
  dsimp only
  simp only [newObj]
  exact wpAny_bind (wpAny_alloc (wpAny_pure (wpAny_pure k)))
/-- set(xs) of a list of texts -/
theorem set_of_list {l : Addr} {items : Array Value} {xs : List Str} {Q : Value → Shared → Prop} (hh : A.handled = none) (hl : s.heap.IsList l items) (hx : StrsAre items.toList xs) (room : items.size + 1 < scanBound)
    (k : ∀ (h' : Heap) (tk : Nat), SetT w h' s.heap.objs.size (fun z => decide (z ∈ xs)) (many xs) → (∀ b o, b < s.heap.objs.size → s.heap.get? b = some o → h'.get? b = some o) → Q (.ref s.heap.objs.size) { s with heap := h', toks := tk }) :
    wpAny (model P w) A (call (.type "set") [.ref l]) Q E s := by
  obtain ⟨c, tl, mro⟩ := F.called_set.mro
  have made := F.called_set.made
  have sub := F.called_set.sub
  have lenx : items.size = xs.length := by rw [← Array.length_toList, strs_len hx]
  refine wpAny_call (codeAny_of_tree ?_)
  show wpAny _ _ (callAny (.type "set") _) _ _ _
  refine wpAny_pure ⟨Code.quiet_builtin _ (by decide +kernel), codeAny_builtin F.entry_type_call ?_⟩
  rw [Around.under_plain (weight_type_call_type "set" [.ref l] []) rfl]
  have n1 := F.called_set.notType
  have n2 := F.called_set.canCreate
  have n3 := F.typeCall_set_1 (.ref l)
  repeat (any_goals (first | assumption | wp_step))
  refine codeAny_mono (new_bare (.ref l) (E := E) (R := fun ob s1 => ob = .ref s.heap.objs.size ∧ s1 = { s with heap := bare w s.heap }) ⟨rfl, rfl⟩) fun r s1 hr => ?_
  cases r with
  | error e => exact hr
  | ok fl =>
    cases fl with
    | next => exact hr.elim
    | brk => exact hr.elim
    | cont => exact hr.elim
    | ret ob =>
      obtain ⟨rfl, rfl⟩ := hr
      have at0 := bare_at (h := s.heap) w
      have isS : Shared.TypeIs { s with heap := bare w s.heap } (.ref s.heap.objs.size) "set" := ⟨_, at0, rfl⟩
      have n4 := F.called_set.init.lookup
      have n5 := F.called_set.init.bind (.ref s.heap.objs.size)
      repeat (any_goals (first | assumption | wp_step))
      refine codeAny_mono (codeAny_call_builtin (R := wants (fun r s2 => r = .none ∧ ∃ h' tk, s2 = { s with heap := h', toks := tk } ∧ SetT w h' s.heap.objs.size (fun z => decide (z ∈ xs)) (many xs) ∧ (∀ b o, b < s.heap.objs.size → s.heap.get? b = some o → h'.get? b = some o)) E)
        F.called_set.init.plain F.entry_set_init (check_set_init_1 isS ?_)) fun r2 s2 hr2 => ?_
      · obtain ⟨ol, hol, hcl, nl, hdl⟩ := hl
        obtain ⟨ocls, odict, odata, oslots⟩ := ol
        simp only at hcl hdl
        subst hcl hdl
        have hol' : (bare w s.heap).get? l = some { cls := .type "list", dict := odict, data := .seq items nl, slots := oslots } := Heap.get?_push_of_some _ hol
        have m1 := F.sub_list_set
        have m2 := F.sub_list_frozenset
        have m3 : (Value.type "list" == Value.type "dict") = false := by decide
        have isl : (bare w s.heap).IsList l items := ⟨_, hol', rfl, nl, rfl⟩
        unfold Builtin.«set.__init__» noKeywords Builtin.Frozenset.updateFrom
        generalize hPI : pyIter = PI
        wp_walk
        subst hPI
        refine wpAny_pyIter_list isl (wpAny_bind (wpAny_runValue ?_))
        have lS : l < s.heap.objs.size := Heap.lt_size hol
        have size1 : (bare w s.heap).objs.size = s.heap.objs.size + 1 := Heap.size_push _ _
        have hh3 : A.in1.in1.in1.handled = none := by simp [hh]
        have lI : l ≠ (bare w s.heap).objs.size := by rw [size1]; exact Nat.ne_of_lt (Nat.lt_succ_of_lt lS)
        have notF : s.heap.objs.size ∉ [(bare w s.heap).objs.size, l] := by
          rw [size1]
          simp only [List.mem_cons, List.not_mem_nil, or_false, not_or]
          exact ⟨Nat.ne_of_lt (Nat.lt_succ_self _), Nat.ne_of_gt lS⟩
        have isx : ∀ (i : Nat) (v : Value), items[i]? = some v → ∃ z tz, xs[i]? = some z ∧ v = Value.str z tz := fun i v hv => strs_get hx i v (by rw [Array.getElem?_toList]; exact hv)
        have W := (Walks.list (prog := P) (w := w) hh3 (bare w s.heap).objs.size l lI items).toS
        rw [lenx] at W room
        refine fillT xs W s.heap.objs.size notF isx room xs.length 0 _ rfl (Nat.zero_le _) ⟨⟨_, Heap.get?_push_size _ rfl, rfl, rfl⟩, (isl.push _)⟩ ((bareT fun o e => Heap.get?_push_of_some _ e).congr (fun z => rfl) rfl) ?_
        intro s' mv r
        obtain ⟨h', g', d', tk', os'⟩ := s'
        obtain rfl : g' = s.gens := mv.gens
        obtain rfl : d' = s.drawn := mv.drawn
        obtain rfl : os' = s.os := mv.os
        show wpAny _ _ _ _ _ _
        refine wpAny_pure ?_
        show wpAny _ _ (ret Value.none) _ _ _
        refine wpAny_pure ⟨rfl, h', tk', rfl, r, fun b o hb e => mv.heap b o ?_ (Heap.get?_push_of_some _ (Heap.get?_push_of_some _ e))⟩
        have b1 : b ≠ s.heap.objs.size := Nat.ne_of_lt hb
        have b2 : b ≠ (bare w s.heap).objs.size := by rw [size1]; exact Nat.ne_of_lt (Nat.lt_succ_of_lt hb)
        simp only [List.mem_cons, List.not_mem_nil, or_false, not_or]
        exact ⟨b1, b2⟩
      · cases r2 with
        | error e => exact hr2
        | ok f2 =>
          cases f2 with
          | ret r =>
            obtain ⟨rfl, h', tk, rfl, r, kp⟩ := hr2
            repeat (any_goals (first | assumption | wp_step))
            exact k _ _ r kp
          | next => exact hr2.elim
          | brk => exact hr2.elim
          | cont => exact hr2.elim
end
end TX

namespace TX
open PySem PySem.Spec PyProof.Rows L2
section
variable {P : Program} {w : World} {A : Around} {E : Value → Shared → Prop} {s : Shared}
/-- sorted(a set of texts) -/
theorem sort_set {p : Addr} {M : Str → Bool} {m : Nat} {Q : Value → Shared → Prop} (R : SetT w s.heap p M m) (hh : A.handled = none) (few64 : m < 64)
    (k : ∀ s' q (out : Array Value) (c : Nat) (ys : List Str), (∀ b o, s.heap.get? b = some o → s'.heap.get? b = some o) → s'.gens = s.gens → s'.os = s.os → s.heap.objs.size ≤ q → s'.heap.get? q = some (seqObj "list" out c) →
      StrsAre out.toList ys → sortedS ys = true → ys.Nodup → (∀ z, z ∈ ys ↔ M z = true) → ys.length = m → Q (.ref q) s') :
    wpAny (model P w) A (call (.builtin "sorted") [.ref p]) Q E s := by
  obtain ⟨ob, cs, ep, tb, e0, ex, ed, good, unl, mem, few, fit, num, ris, led⟩ := R
  refine Calls.call_function_entry kind_sorted plain_sorted entry_sorted (args_sorted1 _) ?_
  unfold Builtin.«sorted»
  refine wpAny_bind (m := checkCount "sorted" 1 1 _) (wpAny_pure (wpAny_bind (collect_set (A := A.in1) hh ⟨ob, e0, ex.1, ed⟩ fit few ris led fun s1 vs k1 hz g1 o1 pm => ?_)))
  have lenv : vs.length = m := by rw [pm.length_eq, List.length_map, Array.length_toList]; exact num
  have hst : StrsAre vs (vs.map strOf) := strsAre_map vs fun v hv => by
    obtain ⟨c, hc, q⟩ := List.mem_map.mp (pm.mem_iff.mp hv)
    obtain ⟨z, tz, e1, _⟩ := good c hc
    exact ⟨z, tz, by rw [← q]; exact e1⟩
  have permv : (vs.map strOf).Perm (cs.toList.map txt) := by
    have q := pm.map strOf
    rw [List.map_map] at q
    exact q
  refine wpAny_bind (wpAny_newList ?_ (by rw [lenv, sizeLine_eq]; omega))
  have atL : (s1.heap.push (seqObj "list" vs.toArray 0)).get? s1.heap.objs.size = some (seqObj "list" vs.toArray 0) := Heap.get?_push_size _ rfl
  refine wpAny_bind (wpAny_holding (wpAny_call_entry slot_list_sort ⟨_, atL, rfl⟩ entry_list_sort (list_sort_treeK strKind_oneLt atL hst.keysOf (fun v1 v2 rest e => keyKind_strs (by rw [← e]; exact hst)) (by rw [lenv]; exact few64) fun st' a1 a2 => ⟨_, rfl, ?_⟩) (args_list_sort _)))
  obtain ⟨ys, y1, y2, y3⟩ := sorted_out_str hst a1 a2
  obtain ⟨c, hc⟩ := sortedHeap_at (vs := vs) (out := (arrOf st').map (·.2)) atL
  have perm : ys.Perm (cs.toList.map txt) := y2.trans permv
  refine wpAny_pure ⟨_, rfl, k _ s1.heap.objs.size _ c ys (fun b u e => ?_) g1 o1 hz hc y1 y3 (perm.nodup_iff.mpr unl) (fun z => by rw [perm.mem_iff, mem z]) (by rw [perm.length_eq, List.length_map, Array.length_toList]; exact num)⟩
  have q := k1 b u e
  have lt := Heap.lt_size q
  show (sortedHeap (s1.heap.push (seqObj "list" vs.toArray 0)) s1.heap.objs.size vs _).get? b = some u
  rw [sortedHeap_old (Nat.ne_of_lt lt) (by rw [size_push']; exact Nat.lt_succ_of_lt lt)]
  exact Heap.get?_push_of_some _ q
end
/-! in the hand layer -/
def SetX (w : World) (p : Addr) (M : Str → Bool) (m : Nat) : HO := .ext fun h => SetT w h p M m
section
variable {X : Cx}
theorem setX_ok {w : World} {P : Program} {H : Hp} {h : Heap} {p : Addr} {M : Str → Bool} {m : Nat} (R : SetT w h p M m) : ObjOk P w H h p (SetX w p M m) := by
  have ⟨ob, _, _, _, e, _⟩ := R
  exact ⟨R, ⟨ob, e⟩, fun h1 h2 _ k => SetT.at ‹_› k⟩
theorem setX_at {pins : List (Addr × Obj)} {σ : L2.St} {H : Hp} {s : Shared} {p : Addr} {M : Str → Bool} {m : Nat} (I : Inv X pins σ H s) (e : H p = some (SetX X.w p M m)) : SetT X.w s.heap p M m := (I.hok p _ e).1
/-- set(xs) -/
def rSetX (K : PySem.W.Frag) (w : World) : List V → Hp → VK → Prop := fun vs H Q => ∃ (l : Addr) (xs : List Str), vs = [.ref l] ∧ SqL K H l (xs.map V.str) ∧ xs.length ≤ 1000 ∧ ∀ p, H p = none → Q (.ref p) (upd H p (SetX w p (fun z => decide (z ∈ xs)) (many xs)))
theorem cr_setX (hc : X.calm = true) : CallR X (.type "set") (rSetX X.K X.w) := by
  intro pins s σ H vs us Q I r h
  obtain ⟨l, xs, rfl, hl, few, q⟩ := h
  obtain ⟨its, rv, isl, _⟩ := I.list hl
  rw [Vals.ref1 r]
  have lenv := rv.length
  rw [List.length_map] at lenv
  refine set_of_list (I.ok.hd hc) isl.isList (by simpa using rv.strs) (by rw [List.size_toArray, ← lenv]; unfold scanBound; omega) fun h' tk r kp => ?_
  have n0 := I.hok.fresh (Nat.le_refl s.heap.objs.size)
  exact ⟨.ref _, _, I.laid (t' := tk) (fun b o e => kp b o (Heap.lt_size e) e) (Nat.le_refl _) (setX_ok r), rfl, q _ n0⟩
/-- len(set) -/
def rLenX (w : World) : List V → Hp → VK → Prop := fun vs H Q => ∃ (p : Addr) (M : Str → Bool) (m : Nat), vs = [.ref p] ∧ H p = some (SetX w p M m) ∧ Q (.int m) H
theorem cr_lenX : CallR X (.builtin "len") (rLenX X.w) := by
  intro pins s σ H vs us Q I r h
  obtain ⟨p, M, m, rfl, e, q⟩ := h
  obtain ⟨ob, cs, ep, tb, e0, ex, ed, good, unl, mem, few, fit, num, _⟩ := setX_at I e
  rw [Vals.ref1 r]
  refine call_len_set e0 ex ed fit (by unfold scanBound at few; omega) ⟨.int m, H, (I.tok _), ⟨_, by rw [num]⟩, q⟩
/-- sorted(set), fewer than 64 -/
def rSortX (w : World) : List V → Hp → VK → Prop := fun vs H Q => ∃ (p : Addr) (M : Str → Bool) (m : Nat), vs = [.ref p] ∧ H p = some (SetX w p M m) ∧ m < 64 ∧
  ∀ (ys : List Str) (l : Addr), sortedS ys = true → ys.Nodup → (∀ z, z ∈ ys ↔ M z = true) → ys.length = m → H l = none → Q (.ref l) (upd H l (.lst (ys.map V.str)))
theorem cr_sortX (hc : X.calm = true) : CallR X (.builtin "sorted") (rSortX X.w) := by
  intro pins s σ H vs us Q I r h
  obtain ⟨p, M, m, rfl, e, few64, q⟩ := h
  rw [Vals.ref1 r]
  refine sort_set (setX_at I e) (I.ok.hd hc) few64 fun s' l out c ys kp g o hl hg hs h1 h2 h3 h4 => ?_
  have lenY : (ys.map V.str).length ≤ sizeLine := by rw [List.length_map, h4, sizeLine_eq]; omega
  have nl : H l = none := I.hok.fresh hl
  have J : Inv X pins σ (upd H l (.lst (ys.map V.str))) { s with heap := s'.heap, gens := s'.gens, drawn := s'.drawn, toks := s'.toks } :=
    I.call (ch := []) (Un.laid kp hl nl) (I.hok.laid kp hl ⟨lenY, out.toList, c, vals_of_strs hs, hg⟩) (by rw [g]; exact I.bare) (fun _ z => nomatch z)
  have same : s' = { s with heap := s'.heap, gens := s'.gens, drawn := s'.drawn, toks := s'.toks } := by
    cases s'
    cases s
    cases o
    rfl
  rw [same]
  exact ⟨.ref l, _, J, rfl, q ys l h1 h2 h3 h4 nl⟩
end
end TX

namespace K9
open PySem PySem.Spec PyProof.Rows L2 C8 XE XR TX
/-! holes_in, labels_in, is_left, is_right -/
abbrev sHoI : Stmt := top 18
abbrev sLaI : Stmt := top 19
abbrev sIsL : Stmt := top 20
abbrev sIsR : Stmt := top 21
abbrev NHoI : List Str := ["shape", "node"]
theorem scHoI : FnScope NHoI ["shape"] (fnScope sHoI) := fnScope_by (by decide +kernel)
theorem scLaI : FnScope NHoI ["shape"] (fnScope sLaI) := fnScope_by (by decide +kernel)
theorem scIsL : FnScope ["thing", "holes"] ["thing"] (fnScope sIsL) := fnScope_by (by decide +kernel)
theorem scIsR : FnScope ["thing", "holes", "hole"] ["thing", "holes"] (fnScope sIsR) := fnScope_by (by decide +kernel)
mutual
/-- the labels, in order -/
def lnm : D → List Str
  | .sq (.fl (.str z) :: cs) => z :: lnms cs
  | .sq (_ :: cs) => lnms cs
  | _ => []
def lnms : List D → List Str
  | [] => []
  | c :: cs => lnm c ++ lnms cs
end
def hdOf : D → List Str
  | .sq (.fl (.str z) :: _) => [z]
  | _ => []
def stOf : D → List Str
  | .fl (.str z) => [z]
  | _ => []
mutual
theorem nodes_hnm : ∀ d : D, (nodesD d).flatMap stOf = hnm d
  | .fl x => by cases x <;> simp [nodesD, hnm, stOf]
  | .emp => by simp [nodesD, hnm, stOf]
  | .sq [] => by simp [nodesD, hnm, stOf]
  | .sq (x :: cs) => by rw [nodesD, hnm, List.flatMap_cons, nodess_hnm cs]; rfl
theorem nodess_hnm : ∀ cs : List D, (nodesDs cs).flatMap stOf = hnms cs
  | [] => rfl
  | c :: cs => by rw [nodesDs, hnms, List.flatMap_append, nodes_hnm c, nodess_hnm cs]
end
mutual
theorem nodes_lnm : ∀ d : D, (nodesD d).flatMap hdOf = lnm d
  | .fl x => by cases x <;> simp [nodesD, lnm, hdOf]
  | .emp => by simp [nodesD, lnm, hdOf]
  | .sq [] => by simp [nodesD, lnm, hdOf]
  | .sq (x :: cs) => by
    rw [nodesD, List.flatMap_cons, nodess_lnm cs]
    cases x with
    | fl v => cases v <;> rfl
    | _ => rfl
theorem nodess_lnm : ∀ cs : List D, (nodesDs cs).flatMap hdOf = lnms cs
  | [] => rfl
  | c :: cs => by rw [nodesDs, lnms, List.flatMap_append, nodes_lnm c, nodess_lnm cs]
end
theorem hnm_le (d : D) : (hnm d).length ≤ sz d := by rw [hnm_nh, ← holes_nh]; exact (holes_le d).1
theorem flat_len {f : D → List Str} (h : ∀ d, (f d).length ≤ 1) : ∀ ds : List D, (ds.flatMap f).length ≤ ds.length
  | [] => Nat.le_refl _
  | d :: ds => by rw [List.flatMap_cons, List.length_append, List.length_cons]; have := h d; have := flat_len h ds; omega
theorem lnm_le (d : D) : (lnm d).length ≤ sz d := by
  rw [← nodes_lnm]
  refine Nat.le_trans (flat_len (fun d => ?_) _) (nodes_sz d)
  unfold hdOf
  split <;> simp
def spHoI (g : D → List Str) : Sp := fun vs H Q _ => ∃ (v : V) (d : D) (F : Addr → Prop), vs = [v] ∧ DAt F H v d ∧ isSh d = true ∧ sz d ≤ 5000 ∧ ∀ l H', H l = none → Same H H' → H' l = some (.lst ((g d).map V.str)) → Q (.ref l) H'
def leftB (d : D) : Bool := isSh d && (!isSt d && (decide (("keep" : Str) ∉ lnm d) && decide (TX.many (hnm d) = (hnm d).length)))
def rightB (d : D) (hs : List Str) : Bool := isSh d && (hnm d).all fun z => decide (z ∈ hs)
def spIsL : Sp := fun vs H Q _ => ∃ (v : V) (d : D) (F : Addr → Prop), vs = [v] ∧ DAt F H v d ∧ shortD d = true ∧ sz d ≤ 900 ∧ ∀ H', Same H H' → Q (.bl (leftB d)) H'
def spIsR : Sp := fun vs H Q _ => ∃ (v : V) (d : D) (F : Addr → Prop) (hl : Addr) (hs : List Str), vs = [v, .ref hl] ∧ DAt F H v d ∧ shortD d = true ∧ sz d ≤ 900 ∧ H hl = some (.lst (hs.map V.str)) ∧ ∀ H', Same H H' → Q (.bl (rightB d hs)) H'
theorem inV_str (z : Str) (hs : List Str) : inV (.str z) (hs.map V.str) = decide (z ∈ hs) := by
  rw [isOf_flat rfl]
  unfold isOf
  by_cases h : z ∈ hs
  · rw [decide_eq_true h]
    exact List.any_eq_true.mpr ⟨z, h, beq_self_eq_true z⟩
  · rw [decide_eq_false h]
    exact List.any_eq_false.mpr fun y hy e => h (by rw [← beq_iff_eq.mp e]; exact hy)
theorem all_flat (hs : List Str) : (hs.map V.str).all flatV = true := List.all_eq_true.mpr fun v hv => by
  obtain ⟨z, _, rfl⟩ := List.mem_map.mp hv
  rfl
section
variable {P : Program} {w : World} {K : PySem.W.Frag} {mg : Str → Option Value} {base : Heap}
theorem c_hoI {f : Addr} {fd : FuncData} (F : Def K mg "holes_in" sHoI f fd) (b : Binds K fd ["shape"] []) (T : Blt4 mg) (CN : Cal P w K mg base 2 "nodes_in_order" spNodes []) (CH : Cal P w K mg base 1 "is_hole" spHole []) : Cal P w K mg base 3 "holes_in" (spHoI hnm) [] := by
  refine cal0 F b .nil scHoI (fun vs H Q E h => ?_) (fun cdv A outer s H vs Q E hr h => ?_)
  · obtain ⟨v, d, G, rfl, _⟩ := h
    rfl
  · obtain ⟨v, d, G, rfl, hv, hsh, hz, k⟩ := h
    have nd := scHoI.nd
    refine ⟨_, pss_one (ps_ret (pe_lc (own := [("node", 1)]) (g := gName 1) (tt := _) rfl nd (pi_list (pe_c CN hr (by decide) (by rfl) (pa_cons (pv 0) pa_nil))) (blkOk_by (N := NHoI) (sc := fnScope sHoI) (by decide +kernel)) (fun _ _ _ _ _ => pg_name (i := 1) nd rfl (Or.inl rfl))
        (fun _ _ _ _ _ => pts_one (pt_val (pe_c CH hr (by decide) (by rfl) (pa_cons (pv 1) pa_nil)))) (fun _ _ _ _ _ => pv 1))), ?_⟩
    have hsl := sizeLine_eq
    refine ⟨_, rfl, v, d, G, rfl, hv, hsh, hz, fun lq us H1 nlq s1 hlq hus => ⟨lq, rfl, ⟨us, SqL.of hlq⟩, fun Da nDa => ?_⟩⟩
    have hul := hus.len
    have hnz := nodes_sz d
    have hnn := nodes_hnm d
    have hns : ∀ n ∈ nodesD d, isSh n = true := isSh_nodes hsh
    generalize nodesD d = ns at hus hul hnz hnn hns
    refine lc_gen (J := Itl K lq) us.length (fun i H' => H' Da = some (.lst (((ns.take i).flatMap stOf).map V.str)) ∧ Same H1 H') ⟨upd_same, same_upd nDa⟩ (fun i H' hi ⟨_, sm⟩ => ⟨us, us.getD i .non, SqL.of (sm _ _ hlq), getD_at hi⟩) (fun H' ⟨_, sm⟩ => ⟨us, SqL.of (sm _ _ hlq), Nat.le_refl _⟩) (fun i H' x H'' hi ⟨hD, sm⟩ yl => ?_) (fun H' ⟨hD, sm⟩ => ?_)
    · obtain ⟨rfl, hx⟩ := yl
      have hx := hx _ (SqL.of (sm _ _ hlq))
      obtain ⟨n, hn, hxn⟩ := hus.get hx
      obtain ⟨hlt, en⟩ := List.getElem?_eq_some_iff.mp hn
      have hx1 := DAt.hold (.same (s1.trans sm)) _ hxn
      have hfl : ((ns.take i).flatMap stOf).length ≤ i := by
        have h1 : ((ns.take i).flatMap stOf).length ≤ (ns.take i).length := flat_len (fun d => by unfold stOf; split <;> simp) (ns.take i)
        rw [List.length_take] at h1
        omega
      refine ⟨rfl, _, rfl, x, n, G, rfl, hx1, _, rfl, ?_⟩
      rcases isSh_inv (hns n (List.mem_of_getElem? hn)) with ⟨z, rfl, _⟩ | ⟨z, cs, rfl, _⟩
      · obtain ⟨rfl, _⟩ := hx1
        refine iteBt rfl ⟨_, rfl, _, hD, by rw [List.length_map]; omega, ?_, fun b o e => by rw [upd_ne (ne_of_none e nDa)]; exact sm _ _ e⟩
        rw [upd_same, List.take_succ_eq_append_getElem hlt, en, List.flatMap_append, List.map_append]
        rfl
      · refine iteBf rfl ⟨?_, sm⟩
        rw [hD, List.take_succ_eq_append_getElem hlt, en, List.flatMap_append]
        show _ = some (HO.lst ((_ ++ []).map V.str))
        rw [List.append_nil]
    · rw [hul, List.take_length, hnn] at hD
      exact k Da H' (same_free s1 nDa) (s1.trans sm) hD
theorem c_laI {f : Addr} {fd : FuncData} (F : Def K mg "labels_in" sLaI f fd) (b : Binds K fd ["shape"] []) (T : Blt4 mg) (CN : Cal P w K mg base 2 "nodes_in_order" spNodes []) (CH : Cal P w K mg base 1 "is_hole" spHole []) : Cal P w K mg base 3 "labels_in" (spHoI lnm) [] := by
  refine cal0 F b .nil scLaI (fun vs H Q E h => ?_) (fun cdv A outer s H vs Q E hr h => ?_)
  · obtain ⟨v, d, G, rfl, _⟩ := h
    rfl
  · obtain ⟨v, d, G, rfl, hv, hsh, hz, k⟩ := h
    have nd := scLaI.nd
    refine ⟨_, pss_one (ps_ret (pe_lc (own := [("node", 1)]) (g := gName 1) (tt := _) rfl nd (pi_list (pe_c CN hr (by decide) (by rfl) (pa_cons (pv 0) pa_nil))) (blkOk_by (N := NHoI) (sc := fnScope sLaI) (by decide +kernel)) (fun _ _ _ _ _ => pg_name (i := 1) nd rfl (Or.inl rfl))
        (fun _ _ _ _ _ => pts_one (pt_not (pt_val (pe_c CH hr (by decide) (by rfl) (pa_cons (pv 1) pa_nil))))) (fun _ _ _ _ _ => pe_ix (show IxR _ (rIx K) from ix_seq) (pv 1) pe_int fun _ _ => rfl))), ?_⟩
    have hsl := sizeLine_eq
    refine ⟨_, rfl, v, d, G, rfl, hv, hsh, hz, fun lq us H1 nlq s1 hlq hus => ⟨lq, rfl, ⟨us, SqL.of hlq⟩, fun Da nDa => ?_⟩⟩
    have hul := hus.len
    have hnz := nodes_sz d
    have hnn := nodes_lnm d
    have hns : ∀ n ∈ nodesD d, isSh n = true := isSh_nodes hsh
    generalize nodesD d = ns at hus hul hnz hnn hns
    refine lc_gen (J := Itl K lq) us.length (fun i H' => H' Da = some (.lst (((ns.take i).flatMap hdOf).map V.str)) ∧ Same H1 H') ⟨upd_same, same_upd nDa⟩ (fun i H' hi ⟨_, sm⟩ => ⟨us, us.getD i .non, SqL.of (sm _ _ hlq), getD_at hi⟩) (fun H' ⟨_, sm⟩ => ⟨us, SqL.of (sm _ _ hlq), Nat.le_refl _⟩) (fun i H' x H'' hi ⟨hD, sm⟩ yl => ?_) (fun H' ⟨hD, sm⟩ => ?_)
    · obtain ⟨rfl, hx⟩ := yl
      have hx := hx _ (SqL.of (sm _ _ hlq))
      obtain ⟨n, hn, hxn⟩ := hus.get hx
      obtain ⟨hlt, en⟩ := List.getElem?_eq_some_iff.mp hn
      have hx1 := DAt.hold (.same (s1.trans sm)) _ hxn
      have hfl : ((ns.take i).flatMap hdOf).length ≤ i := by
        have h1 : ((ns.take i).flatMap hdOf).length ≤ (ns.take i).length := flat_len (fun d => by unfold hdOf; split <;> simp) (ns.take i)
        rw [List.length_take] at h1
        omega
      refine ⟨rfl, _, rfl, x, n, G, rfl, hx1, _, rfl, ?_⟩
      rcases isSh_inv (hns n (List.mem_of_getElem? hn)) with ⟨z, rfl, _⟩ | ⟨z, cs, rfl, _⟩
      · refine iteBf rfl ⟨?_, sm⟩
        rw [hD, List.take_succ_eq_append_getElem hlt, en, List.flatMap_append]
        show _ = some (HO.lst ((_ ++ []).map V.str))
        rw [List.append_nil]
      · obtain ⟨a, vs, rfl, q, _, hvs⟩ := hx1
        match vs, hvs with
        | [], hvs => exact hvs.elim
        | u :: us', ⟨⟨eu, _⟩, _⟩ =>
          subst eu
          have fin : ∃ acc, H'' Da = some (.lst acc) ∧ acc.length < sizeLine ∧ (upd H'' Da (.lst (acc ++ [.str z]))) Da = some (.lst (((ns.take (i + 1)).flatMap hdOf).map V.str)) ∧ Same H1 (upd H'' Da (.lst (acc ++ [.str z]))) := by
            refine ⟨_, hD, by rw [List.length_map]; omega, ?_, fun b o e => by rw [upd_ne (ne_of_none e nDa)]; exact sm _ _ e⟩
            rw [upd_same, List.take_succ_eq_append_getElem hlt, en, List.flatMap_append, List.map_append]
            rfl
          refine iteBt rfl ⟨_, rfl, ?_⟩
          rcases q with q | ⟨_, q⟩
          · exact .inr (.inl ⟨a, _, 0, _, rfl, rfl, SqT.of q, at_of (j := 0) (by omega) rfl, fin⟩)
          · exact .inl ⟨a, _, 0, _, rfl, rfl, SqL.of q, at_of (j := 0) (by omega) rfl, fin⟩
    · rw [hul, List.take_length, hnn] at hD
      exact k Da H' (same_free s1 nDa) (s1.trans sm) hD
theorem c_isL {f : Addr} {fd : FuncData} (F : Def K mg "is_left" sIsL f fd) (b : Binds K fd ["thing"] []) (T : Blt4 mg) (hset : mg "set" = none) (G : Gs mg) (CS : Cal P w K mg base 2 "is_shape" spIsSh []) (CH : Cal P w K mg base 1 "is_hole" spHole []) (CL : Cal P w K mg base 3 "labels_in" (spHoI lnm) []) (CO : Cal P w K mg base 3 "holes_in" (spHoI hnm) []) : Cal P w K mg base 4 "is_left" spIsL [] := by
  refine cal0 F b .nil scIsL (fun vs H Q E h => ?_) (fun cdv A outer s H vs Q E hr h => ?_)
  · obtain ⟨v, d, G, rfl, _⟩ := h
    rfl
  · obtain ⟨v, d, GF, rfl, hv, hs, hz, k⟩ := h
    have nd := scIsL.nd
    refine ⟨_, pss_cons (ps_if (pw_or (pt_not (pt_val (pe_c CS hr (by decide) (by rfl) (pa_cons (pv 0) pa_nil)))) (pw_or (pt_val (pe_c CH hr (by decide) (by rfl) (pa_cons (pv 0) pa_nil)))
          (pw_or1 (pt_cmpR op_in_seq (pe_gc (by rfl) G.kee) (pe_c CL hr (by decide) (by rfl) (pa_cons (pv 0) pa_nil)) (by rfl))))).pt (pss_one (ps_ret pe_bl)) pss_nil)
      (pss_cons (ps_set (i := 1) nd rfl (Or.inl rfl) (pe_c CO hr (by decide) (by rfl) (pa_cons (pv 0) pa_nil)))
      (pss_one (ps_ret (pe_cmpR op_eq (pe_callB cr_lenX (by rfl) T.len PySem.boot_len (pa_cons (pe_callTy (cr_setX rfl) (by rfl) hset (by decide +kernel) (pa_cons (pv 1) pa_nil)) pa_nil)) (pe_callB call_len_seq (by rfl) T.len PySem.boot_len (pa_cons (pv 1) pa_nil)) (nomark _))))), ?_⟩
    refine ⟨_, rfl, v, d, GF, rfl, hv, hs, by omega, fun H1 s1 => ⟨_, rfl, ?_⟩⟩
    cases hsh : isSh d with
    | false =>
      refine iteBt rfl ?_
      have := k H1 s1
      rw [leftB, hsh, Bool.false_and] at this
      exact this
    | true =>
      refine iteBf rfl ⟨_, rfl, v, d, GF, rfl, DAt.hold (.same s1) _ hv, _, rfl, ?_⟩
      cases hst : isSt d with
      | true =>
        refine iteBt rfl ?_
        have := k H1 s1
        rw [leftB, hsh, hst] at this
        exact this
      | false =>
        refine iteBf rfl ⟨_, rfl, v, d, GF, rfl, DAt.hold (.same s1) _ hv, hsh, by omega, fun l H2 nl s2 hl => ⟨l, _, rfl, .inl (SqL.of hl), rfl, all_flat _, _, rfl, ?_⟩⟩
        rw [if_neg Bool.false_ne_true, inV_str]
        have s02 := s1.trans s2
        by_cases hk : ("keep" : Str) ∈ lnm d
        · refine iteBt (decide_eq_true hk) ?_
          have := k H2 s02
          rw [leftB, hsh, hst, decide_eq_false (by simpa using hk)] at this
          exact this
        · refine iteBf (decide_eq_false hk) ⟨_, rfl, v, d, GF, rfl, DAt.hold (.same s02) _ hv, hsh, by omega, fun hl H3 nhl s3 hhl => ⟨_, rfl, hl, _, rfl, SqL.of hhl, by have := hnm_le d; omega, fun p np => ⟨p, _, _, rfl, upd_same, _, rfl, hl, _, rfl, .inl (SqL.of (by rw [upd_ne (ne_of_none hhl np)]; exact hhl)), rfl, ?_⟩⟩⟩
          have := k _ (s02.trans (s3.trans (same_upd np (o := SetX w p (fun z => decide (z ∈ hnm d)) (TX.many (hnm d))))))
          rw [leftB, hsh, hst, decide_eq_true hk, Bool.true_and, Bool.not_false, Bool.true_and, Bool.true_and] at this
          rw [List.length_map]
          have e : decide (V.int ((TX.many (hnm d) : Nat) : Int) = V.int (((hnm d).length : Nat) : Int)) = decide (TX.many (hnm d) = (hnm d).length) := by
            rw [decide_eq_decide]
            exact ⟨fun e => by have := V.int.inj e; omega, fun e => by rw [e]⟩
          rw [e]
          exact this
theorem c_isR {f : Addr} {fd : FuncData} (F : Def K mg "is_right" sIsR f fd) (b : Binds K fd ["thing", "holes"] []) (T : Blt4 mg) (CS : Cal P w K mg base 2 "is_shape" spIsSh []) (CO : Cal P w K mg base 3 "holes_in" (spHoI hnm) []) : Cal P w K mg base 4 "is_right" spIsR [] := by
  refine cal0 F b .nil scIsR (fun vs H Q E h => ?_) (fun cdv A outer s H vs Q E hr h => ?_)
  · obtain ⟨v, d, G, hl, hs, rfl, _⟩ := h
    rfl
  · obtain ⟨v, d, GF, hl, hs, rfl, hv, hsd, hz, hhl, k⟩ := h
    have nd := scIsR.nd
    refine ⟨_, pss_one (ps_ret (pe_and (pe_c CS hr (by decide) (by rfl) (pa_cons (pv 0) pa_nil)) (pe_one (pe_callB (cr_all rfl) (by rfl) T.all (by decide +kernel) (pa_cons (pe_lc (own := [("hole", 2)]) (g := gName 2) (tt := tYes) rfl nd (pi_list (pe_c CO hr (by decide) (by rfl) (pa_cons (pv 0) pa_nil))) (blkOk_by (N := ["thing", "holes", "hole"]) (sc := fnScope sIsR) (by decide +kernel))
        (fun _ _ _ _ _ => pg_name (i := 2) nd rfl (Or.inl rfl)) (fun _ _ _ _ _ => pts_nil) (fun _ _ _ _ _ => pe_cmpR (show OpR _ (compareOp .In) (rIn K false) from op_in_seq) (pv 2) (pv 1) (by rfl))) pa_nil))))), ?_⟩
    have hsl := sizeLine_eq
    refine ⟨_, rfl, v, d, GF, rfl, hv, hsd, by omega, fun H1 s1 => ⟨_, rfl, ?_⟩⟩
    cases hsh : isSh d with
    | false =>
      refine iteBf rfl ?_
      have := k H1 s1
      rw [rightB, hsh, Bool.false_and] at this
      exact this
    | true =>
      refine iteBt rfl ?_
      refine ⟨_, rfl, v, d, GF, rfl, DAt.hold (.same s1) _ hv, hsh, by omega, fun lq H2 nlq s2 hlq => ⟨lq, rfl, ⟨_, SqL.of hlq⟩, fun Da nDa => ?_⟩⟩
      have hln := hnm_le d
      have s02 := s1.trans s2
      refine lc_gen (J := Itl K lq) (hnm d).length (fun j H' => H' Da = some (.lst ((((hnm d).take j).map fun z => decide (z ∈ hs)).map V.bl)) ∧ Same H2 H') ⟨upd_same, same_upd nDa⟩ (fun j H' hj ⟨_, sm⟩ => ⟨_, .str (hnm d)[j], SqL.of (sm _ _ hlq), by rw [List.getElem?_map, List.getElem?_eq_getElem hj]; rfl⟩) (fun H' ⟨_, sm⟩ => ⟨_, SqL.of (sm _ _ hlq), by rw [List.length_map]; exact Nat.le_refl _⟩) (fun j H' x H'' hj ⟨hD, sm⟩ yl => ?_) (fun H' ⟨hD, sm⟩ => ?_)
      · obtain ⟨rfl, hx⟩ := yl
        have hx := hx _ (SqL.of (sm _ _ hlq))
        rw [List.getElem?_map, List.getElem?_eq_getElem hj] at hx
        obtain rfl := Option.some.inj hx
        refine ⟨rfl, ?_⟩
        unfold tYes
        dsimp only
        rw [if_pos rfl]
        refine ⟨_, rfl, _, rfl, hl, _, rfl, .inl (SqL.of (sm _ _ (s02 _ _ hhl))), rfl, all_flat _, _, hD, by rw [List.length_map, List.length_map, List.length_take]; omega, ?_, fun b o e => by rw [upd_ne (ne_of_none e nDa)]; exact sm _ _ e⟩
        rw [upd_same, List.take_succ_eq_append_getElem hj, List.map_append, List.map_append, if_neg Bool.false_ne_true, inV_str]
        rfl
      · rw [List.take_length] at hD
        refine ⟨Da, _, rfl, SqL.of hD, ?_⟩
        have := k H' (s02.trans sm)
        rw [rightB, hsh, Bool.true_and] at this
        rw [List.all_map]
        exact this
end
end K9

/-! dicts with tuple keys: a display of one pair, items() -/
namespace DT
open PySem PySem.Spec PyProof.Rows L2
/-- {k: v}, k a tuple of numbers and texts -/
def tDisp1 (tk tv : TE) : TE := fun σ H Q => ∀ p, H p = none → tPairs [(tk, tv)] σ (upd H p (.dT [])) fun ps H2 => H2 p = some (.dT []) ∧ ∃ (b : Addr) (k : List Key) (y : V), ps = [(.ref b, y)] ∧ H2 b = some (.tup (k.map kV)) ∧ Q (.ref p) (upd H2 p (.dT [(k, y)]))
theorem pe_disp1 {X : Cx} {pos : Pos} {k v : Expr} {tk tv : TE} (hu : X.A.units + 1 < cLine) (hk : PE X k tk) (hv : PE X v tv) : PE X (.Dict [some k] [v] pos) (tDisp1 tk tv) := by
  refine ⟨fun pins s σ H Q I q => ?_⟩
  have hn := I.hok.fresh (Nat.le_refl s.heap.objs.size)
  have I1 := I.laid (a := s.heap.objs.size) (o := .dT []) (h' := s.heap.push { cls := .type "dict", data := .dict #[] }) (t' := s.toks) (fun _ _ q => Heap.get?_push_of_some _ q) (Nat.le_refl _) (dt_empty s.heap I.big)
  have P : PPs X pos [some k] [v] [(tk, tv)] := pps_cons hk hv pps_nil
  refine wpAny_Dict_any rfl rfl (by simp) (by simp) (thn (P.run pins _ σ _ _ I1 (q _ hn)) fun ws s2 ⟨ps, H2, I2, rel, e, b, kk, y, ep, hb, q2⟩ => ?_)
  subst ep
  cases rel with
  | @cons _ u _ us r t =>
  cases t
  obtain ⟨u1, u2⟩ := u
  obtain ⟨r1, r2⟩ := r
  cases (show u1 = Value.ref b from r1)
  obtain ⟨z, hd, xs, rel, dd⟩ := dt_of I2.hok e
  cases rel
  have hkey := key_of I2.hok hb
  refine wpAny_storeAllH (knd := tupleKind (mixKind X.prog X.w)) (show (tupleKind (mixKind X.prog X.w)).room X.A from ?_) _ [(kk, b, u2)] [] s2 _ ⟨rfl, rfl, hkey, trivial⟩ dd (by simp [sizeLine_eq]) fun h' tk hm hs => ?_
  · show X.A.units < cLine
    omega
  · obtain ⟨q, es, ep, hq, h2, h3, h4, _, h5⟩ := hm
    have hbs : b ≠ s.heap.objs.size := fun z => by rw [z] at hb; rw [hb] at e; cases e
    refine ⟨.ref s.heap.objs.size, _, d_write (ob := .dT [(kk, y)]) I2 (by rw [e]; exact True.intro) hs ⟨q, hq⟩ ⟨by simp [sizeLine_eq], hd, [(kk, b, u2)], .cons ⟨rfl, ?_, r2⟩ .nil, q, es, ep, hq, h2, h3, h4, h5⟩, rfl, q2⟩
    rw [upd_ne hbs]
    exact hb
/-- the pairs of a dict with tuple keys, each a new tuple -/
def Itit (d : Addr) (o : Obj) (kvs : List (List Key × V)) : It :=
  ⟨fun i H => H d = some (.frz o (.dT kvs)) ∧ i < kvs.length, fun i H x H' => ∃ (T : Addr) (k : List Key) (v : V) (q : Addr), kvs[i]? = some (k, v) ∧ x = .ref T ∧ H q = some (.tup (k.map kV)) ∧ H T = none ∧ H' = upd H T (.tup [.ref q, v]), fun i H => H d = some (.frz o (.dT kvs)) ∧ kvs.length ≤ i⟩
theorem frzT2 {X : Cx} {pins : List (Addr × Obj)} {σ : L2.St} {H : Hp} {s : Shared} {d : Addr} {o : Obj} {kvs : List (List Key × V)} (I : Inv X pins σ H s) (h : H d = some (.frz o (.dT kvs))) :
    (d == sysModules) = false ∧ s.heap.get? d = some o ∧ o.ExactDict ∧ ∃ (es : Array DictEntry) (ep : Nat), o.data = .dict es ep ∧ es.size = kvs.length ∧
      ∀ (i : Nat) (k : List Key) (v : V), kvs[i]? = some (k, v) → ∃ (en : DictEntry) (q : Addr), es[i]? = some en ∧ en.key = .ref q ∧ H q = some (.tup (k.map kV)) ∧ RelV v en.val := by
  obtain ⟨hd, z, hs, xs, pr, o', es, ep, ho, hx, hdt, he, _⟩ := I.hok d _ h
  rw [hd] at ho
  cases ho
  refine ⟨hs, hd, hx, es, ep, hdt, ?_, fun i k v e => ?_⟩
  · have l1 : es.size = xs.length := size_of_entries he
    have l2 : kvs.length = xs.length := Paired.length pr
    omega
  · obtain ⟨b, hb, e1, e2, e3⟩ := paired_get pr e
    have q := entry_at he i
    rw [hb] at q
    exact ⟨_, b.2.1, q, rfl, e2, e3⟩
theorem turn_itemsT {P : Program} {w : World} {K : PySem.W.Frag} {d : Addr} {o : Obj} {es : Array DictEntry} {ep : Nat} {kvs : List (List Key × V)} {elts : List Expr} {kk : Nat} {tpos : Pos} (it : Addr) (hod : o.data = .dict es ep) :
    Turn P w K (.Tuple elts kk tpos) (Itit d o kvs) [it] it (fun i h => ∃ ok ov, IsItemIter h it d i kvs.length ep ok ov) where
  mem := by simp
  obj := fun i h st b hb => by
    have e : b = it := by simpa using hb
    subst e
    obtain ⟨ok, ov, e⟩ := st
    exact ⟨_, e, fun v z => nomatch z⟩
  keep := fun i h h' st k => let ⟨ok, ov, e⟩ := st; ⟨ok, ov, k it (by simp) _ e⟩
  item := by
    intro X hP hw hK hc i pins s σ H E I hf st hg
    subst hP hw hK
    obtain ⟨hd, hi⟩ := hg
    obtain ⟨hs, hgd, hx, es', ep', hdt, hsz, ent⟩ := frzT2 I hd
    obtain ⟨rfl, rfl⟩ := dict_ep hod hdt
    obtain ⟨⟨k, v⟩, hkv⟩ : ∃ p, kvs[i]? = some p := ⟨kvs[i], List.getElem?_eq_getElem hi⟩
    obtain ⟨en, q, hen, hkey, hq, rv⟩ := ent i k v hkv
    obtain ⟨ok, ov, he⟩ := st
    rw [← hsz] at he
    have hlt : it < s.heap.objs.size := Heap.lt_size he
    have hi' : i < es'.size := by omega
    have een : es'[i] = en := Option.some.inj ((Array.getElem?_eq_getElem hi').symm.trans hen)
    refine wpAny_pyNext_items_item_raw he ⟨o, hgd, hx, hdt⟩ hi' fun h' ho hT hz hk => ?_
    rw [een] at ho hT
    refine ⟨_, rfl, wpAny_letOwnedTupleGo_items (s := { s with heap := h' }) ho fun h'' he' sb => ?_⟩
    have hT2 : h''.get? s.heap.objs.size = some { cls := .type "tuple", data := .seq #[en.key, en.val] } := (sb.2 _ (Nat.ne_of_gt hlt)).trans hT
    have new : ObjOk X.prog X.w (upd H s.heap.objs.size (.tup [.ref q, v])) h'' s.heap.objs.size (.tup [.ref q, v]) :=
      ⟨by show 2 ≤ sizeLine; decide, [en.key, en.val], .cons hkey (.cons rv .nil), ⟨_, hT2, rfl, _, rfl⟩⟩
    have I1 : Inv X pins σ (upd H s.heap.objs.size (.tup [.ref q, v])) { s with heap := h'' } :=
      I.turnedNew (t' := s.toks) (ch := [it]) (fun b ob hb e => (sb.2 b (by simpa using hb)).trans (hk b ob (by simpa using hb) e)) hf (Nat.le_refl _) new
    refine ⟨.ref s.heap.objs.size, _, I1, rfl, ⟨_, k, v, q, hkv, rfl, hq, I.hok.fresh (Nat.le_refl _), rfl⟩, ⟨en.key, en.val, ?_⟩, fun b hb => ?_⟩
    · rw [← hsz]; exact he'
    · have e : b = it := by simpa using hb
      rw [e, upd_ne (Nat.ne_of_lt hlt)]
      exact (hf it (by simp)).1
  done := by
    intro X hP hw hK hc i pins s σ H E I hf st hg
    subst hP hw hK
    obtain ⟨hd, hi⟩ := hg
    obtain ⟨f0, f1, f2, f3, f4, f5⟩ := hf it (by simp)
    obtain ⟨hs, hgd, hx, es', ep', hdt, hsz, ent⟩ := frzT2 I hd
    obtain ⟨rfl, rfl⟩ := dict_ep hod hdt
    obtain ⟨ok, ov, he⟩ := st
    rw [← hsz] at he
    exact wpAny_pyNext_items_end_raw (I.ok.hd hc) he ⟨o, hgd, hx, hdt⟩ (by omega) fun h' eb => ⟨rfl, I.turned (t' := s.toks) (fun b ob hb e => eb b ob hb e) f0 f1 f3 f4 f5⟩
  self := fun A i s Q E st h => let ⟨_, _, e⟩ := st; PySem.W.kcp_self e h
/-- the dict is locked -/
def iItemsT (td : TE) : TI := fun σ H R => td σ H fun x H1 => ∃ d o kvs, x = .ref d ∧ H1 d = some (.frz o (.dT kvs)) ∧ R (Itit d o kvs) H1
theorem pi_itemsT {X : Cx} {e : Expr} {td : TE} {apos cpos : Pos} {elts : List Expr} {kk : Nat} {tpos : Pos} (he : PE X e td) (hbase : attributeBase e "items" X.env (eval e X.env) = eval e X.env := by rfl) (hline : (apos.endLine == cpos.line) = true := by rfl) :
    PI X (.Tuple elts kk tpos) (.Call (.Attribute e "items" apos) [] [] cpos) (iItemsT td) := by
  refine ⟨fun pins s σ H R I h => ?_⟩
  refine wpAny_Call_method (T := "dict") (id := "dict.items") hbase rfl hline F.plainAttrs_dict F.slot_dict_items F.type_dict_items (thn (he.run pins s σ H _ I h) fun u s1 ⟨x, H1, I1, rx, d, o, kvs, ex, hd, q⟩ => ?_)
  subst ex
  obtain rfl : u = Value.ref d := rx
  obtain ⟨hs, hgd, hx, es, ep, hdt, hsz, ent⟩ := frzT2 I1 hd
  have raw : s1.heap.DictRaw d es ep := ⟨o, hgd, hx, hdt⟩
  refine ⟨raw.typeIs, fun b e => ⟨o, by cases e; exact hgd, hx.2.1⟩, ?_⟩
  have I2 : Inv X pins σ H1 { s1 with heap := s1.heap.push { cls := .type "dict_items", data := .fields #[.ref d] } } := I1.kept (t' := s1.toks) fun b ob q => Heap.get?_push_of_some _ q
  have fin : wpAny (model X.prog X.w) X.A (pyIter (.ref s1.heap.objs.size)) (PIE X pins σ (.Tuple elts kk tpos) R) X.xe { s1 with heap := s1.heap.push { cls := .type "dict_items", data := .fields #[.ref d] } } := by
    refine wpAny_pyIter_items_raw (d := d) ⟨_, Heap.get?_push_size _ rfl, rfl, rfl⟩ (raw.at fun ob q => Heap.get?_push_of_some _ q) (pi_one (tk := s1.toks) I2 _ (turn_itemsT _ hdt) ⟨.none, .none, ?_⟩ q)
    rw [← hsz]
    exact Heap.get?_push_size _ rfl
  show wpAny _ _ (callWith cpos (.builtin "dict.items") [.ref d] [] []) _ X.xe s1
  exact method_meetsIn F.slot_dict_items F.entry_dict_items rfl (PySem.evalArgs_none ⟨rfl, raw.typeIs, F.args_dict_items_1 _, _, meets_dict_items_raw d hs, ⟨es, ep, raw⟩, fin⟩)
end DT

namespace K9
open PySem PySem.Spec PyProof.Rows L2 C8 XE XR TX
/-! x in [texts], x flat, a list or a tuple -/
section
variable {X : Cx}
def rInOf (K : PySem.W.Frag) : R2 := fun x y H Q => ∃ p ls, y = .ref p ∧ (SqL K H p (ls.map V.str) ∨ SqT K H p (ls.map V.str)) ∧ (flatV x = true ∨ SeqOf K H x) ∧ Q (.bl (isOf x ls)) H
theorem op_inOf (hu : X.A.units + 64 < cLine) : OpR X (compareOp .In) (rInOf X.K) := by
  intro pins s σ H x y v u Q I rx ry h
  obtain ⟨p, ls, rfl, hq, hx | ⟨a, xs, rfl, hx⟩, q⟩ := h
  · refine op_in_seq pins s σ H x (.ref p) v u Q I rx ry ⟨p, _, rfl, hq, hx, List.all_eq_true.mpr fun y hy => ?_, ?_⟩
    · obtain ⟨z, _, rfl⟩ := List.mem_map.mp hy
      rfl
    · rw [isOf_flat hx]
      exact q
  · cases rx
    cases ry
    have he : ∀ {us : List Value}, Vals (ls.map V.str) us → ∀ w ∈ us, SeqAt.EqAt X.A.in1 s w (.ref a) false := by
      intro us r w hw
      obtain ⟨z, t, rfl⟩ : ∃ z t, w = .str z t := by
        clear hq hx q
        induction ls generalizing us with
        | nil => cases r; cases hw
        | cons z ls ih =>
          cases r with
          | cons r t =>
            rcases List.mem_cons.mp hw with rfl | hw
            · obtain ⟨t, rfl⟩ := r
              exact ⟨z, t, rfl⟩
            · exact ih t hw
      have hu' : X.A.in1.units < cLine := by show X.A.units + 1 < cLine; omega
      rcases hx with hx | hx
      · obtain ⟨_, _, pl, _⟩ := I.list hx
        exact SeqAt.EqAt.str_list z t pl.isList hu'
      · obtain ⟨_, _, pl, _⟩ := I.tuple hx
        exact SeqAt.EqAt.str_tuple z t pl hu'
    have no : ∀ us : List Value, (us.toArray.any fun _ => false) = false := fun us => by simp
    rcases hq with hq | hq
    · obtain ⟨its, r, pl, hz⟩ := I.list hq
      refine SeqAt.in_listAt (fun _ => false) pl.isList (fun w hw => he r w (by simpa using hw)) ⟨.bl _, H, I, rfl, ?_⟩
      rw [no]
      exact q
    · obtain ⟨its, r, pl, hz⟩ := I.tuple hq
      refine SeqAt.in_tupleAt (fun _ => false) pl (fun w hw => he r w (by simpa using hw)) ⟨.bl _, H, I, rfl, ?_⟩
      rw [no]
      exact q
end
end K9

namespace K9
open PySem PySem.Spec PyProof.Rows L2 C8 XE XR TX
/-! are_labels, wrong_argument, of any arguments -/
abbrev sArL : Stmt := top 22
abbrev sWrA : Stmt := top 23
abbrev NAr : List Str := ["thing", "holes", "hole", "labels"]
abbrev NWr : List Str := ["left", "right", "kinds", "bars", "holes"]
theorem scArL : FnScope NAr ["thing", "holes"] (fnScope sArL) := fnScope_by (by decide +kernel)
theorem scWrA : FnScope NWr ["left", "right", "kinds", "bars"] (fnScope sWrA) := fnScope_by (by decide +kernel)
/-- what may stand for kinds and bars: any data, or a dict -/
inductive KA where
  | d (x : D)
  | k (es : List (Key × D))
  | t (es : List (List Key × D))
def KE (F : Addr → Prop) (H : Hp) (kv : Key × V) (e : Key × D) : Prop := kv.1 = e.1 ∧ DAt F H kv.2 e.2
def KT (F : Addr → Prop) (H : Hp) (kv : List Key × V) (e : List Key × D) : Prop := kv.1 = e.1 ∧ DAt F H kv.2 e.2
def KAt (F : Addr → Prop) (H : Hp) (v : V) : KA → Prop
  | .d x => DAt F H v x
  | .k es => ∃ a kvs, v = .ref a ∧ H a = some (.dK kvs) ∧ Paired (KE F H) kvs es
  | .t es => ∃ a kvs, v = .ref a ∧ H a = some (.dT kvs) ∧ Paired (KT F H) kvs es ∧ es ≠ [] ∧ es.length ≤ 20
theorem KAt.same {F : Addr → Prop} {H H' : Hp} (s : Same H H') {v : V} : ∀ {a : KA}, KAt F H v a → KAt F H' v a
  | .d _, h => DAt.hold (.same s) _ h
  | .k _, ⟨a, kvs, e, q, p⟩ => ⟨a, kvs, e, s _ _ q, Paired.mono (fun _ _ ⟨e, h⟩ => ⟨e, DAt.hold (.same s) _ h⟩) p⟩
  | .t _, ⟨a, kvs, e, q, p, r⟩ => ⟨a, kvs, e, s _ _ q, Paired.mono (fun _ _ ⟨e, h⟩ => ⟨e, DAt.hold (.same s) _ h⟩) p, r⟩
def holeK (hs : List Str) : Key → Bool
  | .inr z => decide (z ∈ hs)
  | .inl _ => false
def entB (hs : List Str) (e : Key × D) : Bool := holeK hs e.1 && wlB e.2
def labsB (hs : List Str) : KA → Bool
  | .d .emp => true
  | .d _ => false
  | .k es => es.all (entB hs)
  | .t _ => false
def noneB : KA → Bool
  | .d (.fl .non) => true
  | _ => false
def okK (hs : List Str) (a : KA) : Bool := noneB a || labsB hs a
def KA.small : KA → Prop
  | .d x => shortD x = true ∧ sz x ≤ 100000
  | .k es => es.length ≤ 5000 ∧ ∀ e ∈ es, shortD e.2 = true ∧ sz e.2 ≤ 100000
  | .t _ => True
theorem same_lock {H H' : Hp} {d : Addr} {u x : HO} (hd : H d = some u) (s : ∀ b o, b ≠ d → (upd H d x) b = some o → H' b = some o) : Same H (upd H' d u) := fun b o e => by
  by_cases hb : b = d
  · rw [hb, upd_same, ← hd, ← hb]; exact e
  · rw [upd_ne hb]
    exact s b o hb (by rw [upd_ne hb]; exact e)
def isEmp : D → Bool
  | .emp => true
  | _ => false
theorem d_dic {K : PySem.W.Frag} {F : Addr → Prop} {H : Hp} {v : V} : ∀ {d : D}, DAt F H v d → ∃ T, TyX K H v (.type T) ∧ PySem.W.kitOne K (.type T) (.type "dict") = some (isEmp d) := by
  have z : ∀ T ∈ ["NoneType", "bool", "int", "str", "dict", "list", "tuple"], kitB T "dict" = some (T == "dict") := by decide +kernel
  intro d h
  cases d with
  | fl x =>
    obtain ⟨rfl, fx⟩ := h
    cases v with
    | non => exact ⟨"NoneType", .base .non, kit_ty (z _ (by decide))⟩
    | bl b => exact ⟨"bool", .base (.bl b), kit_ty (z _ (by decide))⟩
    | int i => exact ⟨"int", .base (.int i), kit_ty (z _ (by decide))⟩
    | str y => exact ⟨"str", .base (.str y), kit_ty (z _ (by decide))⟩
    | _ => cases fx
  | emp =>
    obtain ⟨a, rfl, q⟩ := h
    exact ⟨"dict", .base (.dK q), kit_ty (z _ (by decide))⟩
  | sq xs =>
    obtain ⟨a, vs, rfl, q, _⟩ := h
    rcases q with q | ⟨_, q⟩
    · exact ⟨"tuple", .base (.tup q), kit_ty (z _ (by decide))⟩
    · exact ⟨"list", .base (.lst q), kit_ty (z _ (by decide))⟩
theorem inV_key (k : Key) (hs : List Str) : inV (kV k) (hs.map V.str) = holeK hs k := by
  cases k with
  | inr z => exact inV_str z hs
  | inl i =>
    unfold inV
    rw [List.any_map]
    exact List.any_eq_false.mpr fun y _ => by simp [eqV, kV]
theorem lock_kat {F : Addr → Prop} {H : Hp} {a : Addr} {kvs : List (Key × V)} {o : HO} (ha : H a = some (.dK kvs)) (hne : kvs ≠ []) : Hold F H (upd H a o) :=
  ⟨fun b vs e => by rw [upd_ne (ne_of e ha (by intro z; cases z))]; exact e, fun b e => by rw [upd_ne (fun z => by rw [z, ha] at e; cases e; exact hne rfl)]; exact e, fun b vs _ e => by rw [upd_ne (ne_of e ha (by intro z; cases z))]; exact e⟩
theorem tnf : ¬ (true = false) := fun h => by cases h
mutual
/-- no empty dict in it -/
def plainD : D → Bool
  | .fl _ => true
  | .emp => false
  | .sq xs => plainDs xs
def plainDs : List D → Bool
  | [] => true
  | x :: xs => plainD x && plainDs xs
end
structure HoldP (F : Addr → Prop) (H H' : Hp) : Prop where
  tup : ∀ a vs, H a = some (.tup vs) → H' a = some (.tup vs)
  lst : ∀ a vs, F a → H a = some (.lst vs) → H' a = some (.lst vs)
theorem HoldP.trans {F : Addr → Prop} {H H' H'' : Hp} (h : HoldP F H H') (k : HoldP F H' H'') : HoldP F H H'' := ⟨fun a vs e => k.tup a vs (h.tup a vs e), fun a vs f e => k.lst a vs f (h.lst a vs f e)⟩
theorem HoldP.same {F : Addr → Prop} {H H' : Hp} (s : Same H H') : HoldP F H H' := ⟨fun a vs e => s _ _ e, fun a vs _ e => s _ _ e⟩
mutual
theorem DAt.holdP {F : Addr → Prop} {H H' : Hp} (h : HoldP F H H') : ∀ (d : D) {v : V}, plainD d = true → DAt F H v d → DAt F H' v d
  | .fl x, _, _, e => e
  | .emp, _, p, _ => by cases p
  | .sq xs, _, p, ⟨a, vs, e, q, o, k⟩ => ⟨a, vs, e, q.imp (h.tup a vs) fun ⟨e, q⟩ => ⟨e, h.lst a vs e q⟩, o, DAts.holdP h xs p k⟩
theorem DAts.holdP {F : Addr → Prop} {H H' : Hp} (h : HoldP F H H') : ∀ (ds : List D) {vs : List V}, plainDs ds = true → DAts F H vs ds → DAts F H' vs ds
  | [], [], _, _ => trivial
  | d :: ds, v :: vs, p, ⟨k, t⟩ => by
    rw [plainDs, Bool.and_eq_true] at p
    exact ⟨DAt.holdP h d p.1 k, DAts.holdP h ds p.2 t⟩
  | [], _ :: _, _, k => k
  | _ :: _, [], _, k => k
end
mutual
theorem sh_plain : ∀ d : D, isSh d = true → plainD d = true
  | .fl x, h => rfl
  | .emp, h => by cases h
  | .sq [], h => rfl
  | .sq (x :: cs), h => by
    rcases isSh_inv h with ⟨z, e, _⟩ | ⟨z, cs', e, hz, hcs⟩
    · cases e
    · injection e with e
      injection e with e1 e2
      subst e1 e2
      show (plainD (.fl (.str z)) && plainDs cs) = true
      rw [sh_plains cs hcs, Bool.and_true]
      rfl
theorem sh_plains : ∀ ds : List D, isShs ds = true → plainDs ds = true
  | [], _ => rfl
  | d :: ds, h => by
    rw [isShs, Bool.and_eq_true] at h
    rw [plainDs, sh_plain d h.1, sh_plains ds h.2]
    rfl
end
def spArL : Sp := fun vs H Q _ => ∃ (v : V) (a : KA) (F : Addr → Prop) (hl : Addr) (hs : List Str), vs = [v, .ref hl] ∧ KAt F H v a ∧ a.small ∧ H hl = some (.lst (hs.map V.str)) ∧ ∀ H', Same H H' → Q (.bl (labsB hs a)) H'
/-- the word that is refused -/
def faultW (d1 d2 : D) (a3 a4 : KA) : Option Str :=
  if leftB d1 = false then some "left" else if rightB d2 (hnm d1) = false then some "right" else if okK (hnm d1) a3 = false then some "kinds" else if okK (hnm d1) a4 = false then some "bars" else none
def optV : Option Str → V
  | none => .non
  | some z => .str z
def spWrA : Sp := fun vs H Q _ => ∃ (v1 v2 v3 v4 : V) (d1 d2 : D) (a3 a4 : KA) (F : Addr → Prop), vs = [v1, v2, v3, v4] ∧ DAt F H v1 d1 ∧ shortD d1 = true ∧ sz d1 ≤ 900 ∧ DAt F H v2 d2 ∧ shortD d2 = true ∧ sz d2 ≤ 900 ∧ KAt F H v3 a3 ∧ a3.small ∧ KAt F H v4 a4 ∧ a4.small ∧ ∀ H', Same H H' → Q (optV (faultW d1 d2 a3 a4)) H'
section
variable {P : Program} {w : World} {K : PySem.W.Frag} {mg : Str → Option Value} {base : Heap}
theorem kat_dic {F : Addr → Prop} {H : Hp} {v : V} {a : KA} (h : KAt F H v a) : ∃ T b, TyX K H v (.type T) ∧ PySem.W.kitOne K (.type T) (.type "dict") = some b ∧ (b = false → labsB [] a = false ∧ ∀ hs, labsB hs a = false) ∧ (b = true → (∃ r kvs es, v = .ref r ∧ H r = some (.dK kvs) ∧ Paired (KE F H) kvs es ∧ ((a = .k es) ∨ (a = .d .emp ∧ es = [] ∧ kvs = []))) ∨ ∃ r kvs, v = .ref r ∧ H r = some (.dT kvs) ∧ kvs ≠ [] ∧ kvs.length ≤ 20 ∧ ∃ es, a = .t es) := by
  cases a with
  | d x =>
    obtain ⟨T, h1, h2⟩ := d_dic (K := K) h
    refine ⟨T, _, h1, h2, fun e => ?_, fun e => ?_⟩
    · cases x with
      | emp => cases e
      | fl x => exact ⟨rfl, fun _ => rfl⟩
      | sq x => exact ⟨rfl, fun _ => rfl⟩
    · cases x with
      | emp =>
        obtain ⟨r, e1, e2⟩ := h
        exact .inl ⟨r, [], [], e1, e2, .nil, .inr ⟨rfl, rfl, rfl⟩⟩
      | fl x => cases e
      | sq x => cases e
  | k es =>
    obtain ⟨r, kvs, rfl, q, p⟩ := h
    exact ⟨"dict", true, .base (.dK q), kit_ty (by decide +kernel), fun e => (by cases e), fun _ => .inl ⟨r, kvs, es, rfl, q, p, .inl rfl⟩⟩
  | t es =>
    obtain ⟨r, kvs, rfl, q, p, p1, p2⟩ := h
    exact ⟨"dict", true, .base (.dT q), kit_ty (by decide +kernel), fun e => (by cases e), fun _ => .inr ⟨r, kvs, rfl, q, fun e => p1 (by rw [e] at p; cases p; rfl), by have := Paired.length p; omega, es, rfl⟩⟩
theorem c_arL {f : Addr} {fd : FuncData} (F : Def K mg "are_labels" sArL f fd) (b : Binds K fd ["thing", "holes"] []) (T : Blt4 mg) (CW : Cal P w K mg base 2 "is_word_list" spWL []) : Cal P w K mg base 3 "are_labels" spArL [] := by
  refine cal0 F b .nil scArL (fun vs H Q E h => ?_) (fun cdv A outer s H vs Q E hr h => ?_)
  · obtain ⟨v, a, F, hl, hs, rfl, _⟩ := h
    rfl
  · obtain ⟨v, ka, F, hl, hs, rfl, hv, hsm, hhl, k⟩ := h
    have nd := scArL.nd
    have hu : (A.deeper (envOfC "are_labels" (fnScope sArL) s.heap.objs.size f cdv)).units + 64 < cLine := by have := hr.un; omega
    refine ⟨_, pss_cons (ps_if (pt_not (pt_val (pe_callB call_isi (by rfl) T.isi (by decide +kernel) (pa_cons (pv 0) (pa_cons (pe_bt "dict" T.dic) pa_nil))))) (pss_one (ps_ret pe_bl)) pss_nil)
      (pss_one (ps_ret (pe_callB (cr_all rfl) (by rfl) T.all (by decide +kernel) (pa_cons (pe_lock (pe_lc (own := [("hole", 2), ("labels", 3)]) (g := gTup K 2 (gCons (gName 2) (gCons (gName 3) gNil))) (tt := tYes) rfl nd (PI.or (pi_items (pv 0)) (DT.pi_itemsT (pv 0))) (blkOk_by (N := NAr) (sc := fnScope sArL) (by decide +kernel))
        (fun _ _ _ _ _ => pg_tup rfl (pgs_cons (pg_name (i := 2) nd rfl (Or.inl rfl)) (pgs_cons (pg_name (i := 3) nd rfl (Or.inl rfl)) pgs_nil))) (fun _ _ _ _ _ => pts_nil)
        (fun _ _ _ _ _ => pe_and (pe_cmpR (show OpR _ (compareOp .In) (rInOf K) from op_inOf hu) (pv 2) (pv 1) (by rfl)) (pe_one (pe_c CW hr (by decide) (by rfl) (pa_cons (pv 3) pa_nil)))))) pa_nil)))), ?_⟩
    have hsl := sizeLine_eq
    obtain ⟨Ty, bd, ty, kt, no, yes⟩ := kat_dic (K := K) hv
    refine ⟨_, rfl, v, .ty "dict", _, _, bd, rfl, .ty _, ty, kt, bd, rfl, ?_⟩
    cases bd with
    | false =>
      refine iteBt rfl ?_
      have := k H (fun _ _ e => e)
      rw [(no rfl).2 hs] at this
      exact this
    | true =>
    refine iteBf rfl ?_
    rcases yes rfl with ⟨a, kvs, es, rfl, ha, hp, hka⟩ | ⟨a, kvs, rfl, ha, hne', hkl, es, rfl⟩
    rotate_left
    · have hne : hl ≠ a := ne_of hhl ha (by intro z; cases z)
      refine ⟨a, _, ha, trivial, fun od => .inr ⟨_, rfl, a, od, kvs, rfl, upd_same, fun Da nDa => ?_⟩⟩
      have hh0 : (upd H a (.frz od (.dT kvs))) hl = some (.lst (hs.map V.str)) := by rw [upd_ne hne]; exact hhl
      have ha0 : (upd H a (.frz od (.dT kvs))) a = some (.frz od (.dT kvs)) := upd_same
      have fin : ∀ H', Same (upd H a (.frz od (.dT kvs))) H' → Q (.bl false) (upd H' a (.dT kvs)) := fun H' sm => k _ (same_lock ha fun b o _ e => sm _ _ e)
      generalize upd H a (.frz od (.dT kvs)) = H0 at hh0 ha0 nDa fin ⊢
      refine lc_gen (J := DT.Itit a od kvs) kvs.length (fun i H' => H' Da = some (.lst ((List.replicate i false).map V.bl)) ∧ Same H0 H') ⟨upd_same, same_upd nDa⟩ (fun i H' hi ⟨_, sm⟩ => ⟨sm _ _ ha0, hi⟩) (fun H' ⟨_, sm⟩ => ⟨sm _ _ ha0, Nat.le_refl _⟩) (fun i H' x H'' hi ⟨hD, sm⟩ yl => ?_) (fun H' ⟨hD, sm⟩ => ?_)
      · obtain ⟨T', kk, v', q, hkv, rfl, hq, nT, rfl⟩ := yl
        have sT : Same H' (upd H' T' (.tup [.ref q, v'])) := same_upd nT
        have hT : (upd H' T' (.tup [.ref q, v'])) T' = some (.tup [.ref q, v']) := upd_same
        have hD' := sT _ _ hD
        generalize upd H' T' (.tup [.ref q, v']) = H2 at sT hT hD' ⊢
        have s02 := sm.trans sT
        refine ⟨T', _, rfl, SqT.of hT, rfl, .ref q, [v'], rfl, v', [], rfl, rfl, rfl, ?_⟩
        unfold tYes
        dsimp only
        rw [if_pos rfl]
        refine ⟨_, rfl, _, rfl, hl, hs, rfl, .inl (SqL.of (s02 _ _ hh0)), .inr ⟨q, _, rfl, .inr (SqT.of (sT _ _ hq))⟩, _, rfl, iteBf rfl ⟨_, hD', by rw [List.length_map, List.length_replicate]; omega, ?_, fun b o e => by rw [upd_ne (ne_of_none e nDa)]; exact s02 _ _ e⟩⟩
        rw [upd_same, List.replicate_succ', List.map_append]
        rfl
      · refine ⟨sm _ _ ha0, Da, List.replicate kvs.length false, rfl, SqL.of ?_, ?_⟩
        · rw [upd_ne (ne_of hD (sm _ _ ha0) (by intro z; cases z))]
          exact hD
        · have : ((List.replicate kvs.length false).all id) = false := by
            cases kvs with
            | nil => exact absurd rfl hne'
            | cons x xs => rfl
          rw [this]
          exact fin _ sm
    have hlab : labsB hs ka = es.all (entB hs) := by
      rcases hka with rfl | ⟨rfl, rfl, _⟩
      · rfl
      · rfl
    have hlen := Paired.length hp
    have hel : es.length ≤ 5000 ∧ ∀ e ∈ es, shortD e.2 = true ∧ sz e.2 ≤ 100000 := by
      rcases hka with rfl | ⟨rfl, rfl, _⟩
      · exact hsm
      · exact ⟨by simp, fun e he => by cases he⟩
    have hne : hl ≠ a := ne_of hhl ha (by intro z; cases z)
    refine ⟨a, _, ha, trivial, fun od => .inl ⟨_, rfl, a, od, kvs, rfl, upd_same, fun Da nDa => ?_⟩⟩
    have hh0 : (upd H a (.frz od (.dK kvs))) hl = some (.lst (hs.map V.str)) := by rw [upd_ne hne]; exact hhl
    have ha0 : (upd H a (.frz od (.dK kvs))) a = some (.frz od (.dK kvs)) := upd_same
    have hp0 : Paired (KE F (upd H a (.frz od (.dK kvs)))) kvs es := by
      cases hk0 : kvs with
      | nil =>
        rw [hk0] at hp
        cases hp
        exact .nil
      | cons x y =>
        rw [← hk0]
        exact Paired.mono (fun _ _ ⟨e, l⟩ => ⟨e, DAt.hold (lock_kat ha (by rw [hk0]; simp)) _ l⟩) hp
    have fin : ∀ H', Same (upd H a (.frz od (.dK kvs))) H' → Q (.bl (labsB hs ka)) (upd H' a (.dK kvs)) := fun H' sm => k _ (same_lock ha fun b o _ e => sm _ _ e)
    rw [hlab] at fin
    generalize upd H a (.frz od (.dK kvs)) = H0 at hh0 ha0 hp0 nDa fin ⊢
    refine lc_gen (J := Iti a od kvs) es.length (fun i H' => H' Da = some (.lst (((es.take i).map (entB hs)).map V.bl)) ∧ Same H0 H') ⟨upd_same, same_upd nDa⟩ (fun i H' hi ⟨_, sm⟩ => ⟨sm _ _ ha0, by omega⟩) (fun H' ⟨_, sm⟩ => ⟨sm _ _ ha0, by omega⟩) (fun i H' x H'' hi ⟨hD, sm⟩ yl => ?_) (fun H' ⟨hD, sm⟩ => ?_)
    · obtain ⟨T', kk, v', hkv, rfl, nT, rfl⟩ := yl
      obtain ⟨q, hq, ek, hq2⟩ := paired_get hp0 hkv
      dsimp only at ek hq2
      subst ek
      obtain ⟨hlt, eq⟩ := List.getElem?_eq_some_iff.mp hq
      obtain ⟨hqs, hqz⟩ := hel.2 q (List.mem_of_getElem? hq)
      have sT : Same H' (upd H' T' (.tup [kV q.1, v'])) := same_upd nT
      have hT : (upd H' T' (.tup [kV q.1, v'])) T' = some (.tup [kV q.1, v']) := upd_same
      have hD' := sT _ _ hD
      generalize upd H' T' (.tup [kV q.1, v']) = H2 at sT hT hD' ⊢
      have s02 := sm.trans sT
      have hfk : flatV (kV q.1) = true := by cases q.1 <;> rfl
      have ety := List.take_succ_eq_append_getElem hlt
      rw [eq] at ety
      refine ⟨T', _, rfl, SqT.of hT, rfl, kV q.1, [v'], rfl, v', [], rfl, rfl, rfl, ?_⟩
      unfold tYes
      dsimp only
      rw [if_pos rfl]
      refine ⟨_, rfl, _, rfl, hl, hs, rfl, .inl (SqL.of (s02 _ _ hh0)), .inl hfk, ?_⟩
      rw [← isOf_flat hfk, inV_key]
      have fin2 : ∀ H3, Same H2 H3 → ∀ b, entB hs q = b → ∃ acc, H3 Da = some (.lst acc) ∧ acc.length < sizeLine ∧ (upd H3 Da (.lst (acc ++ [.bl b]))) Da = some (.lst (((es.take (i + 1)).map (entB hs)).map V.bl)) ∧ Same H0 (upd H3 Da (.lst (acc ++ [.bl b]))) := fun H3 s3 b hb => by
        refine ⟨_, s3 _ _ hD', by rw [List.length_map, List.length_map, List.length_take]; omega, ?_, fun b o e => by rw [upd_ne (ne_of_none e nDa)]; exact s3 _ _ (s02 _ _ e)⟩
        rw [upd_same, ety, List.map_append, List.map_append, ← hb]
        rfl
      refine ⟨_, rfl, ?_⟩
      cases hh : holeK hs q.1 with
      | false => exact iteBf rfl (fin2 H2 (fun _ _ e => e) false (by unfold entB; rw [hh]; rfl))
      | true => exact iteBt rfl ⟨_, rfl, v', q.2, F, rfl, DAt.hold (.same s02) _ hq2, hqs, hqz, fun H3 s3 => fin2 H3 s3 _ (by unfold entB; rw [hh]; rfl)⟩
    · refine ⟨sm _ _ ha0, Da, (es.map (entB hs)), rfl, SqL.of ?_, ?_⟩
      · rw [upd_ne (ne_of hD (sm _ _ ha0) (by intro z; cases z))]
        rw [List.take_length] at hD
        exact hD
      · rw [show (es.map (entB hs)).all id = es.all (entB hs) from by rw [List.all_map]; rfl]
        exact fin _ sm
theorem c_wrA {f : Addr} {fd : FuncData} (F : Def K mg "wrong_argument" sWrA f fd) (b : Binds K fd ["left", "right", "kinds", "bars"] []) (CL : Cal P w K mg base 4 "is_left" spIsL []) (CR : Cal P w K mg base 4 "is_right" spIsR []) (CO : Cal P w K mg base 3 "holes_in" (spHoI hnm) []) (CA : Cal P w K mg base 3 "are_labels" spArL []) : Cal P w K mg base 5 "wrong_argument" spWrA [] := by
  refine cal0 F b .nil scWrA (fun vs H Q E h => ?_) (fun cdv A outer s H vs Q E hr h => ?_)
  · obtain ⟨v1, v2, v3, v4, d1, d2, a3, a4, F, rfl, _⟩ := h
    rfl
  · obtain ⟨v1, v2, v3, v4, d1, d2, a3, a4, F, rfl, hv1, hs1, hz1, hv2, hs2, hz2, hv3, hm3, hv4, hm4, k⟩ := h
    have nd := scWrA.nd
    refine ⟨_, pss_cons (ps_if (pt_not (pt_val (pe_c CL hr (by decide) (by rfl) (pa_cons (pv 0) pa_nil)))) (pss_one (ps_ret pe_str)) pss_nil)
      (pss_cons (ps_set (i := 4) nd rfl (Or.inl rfl) (pe_c CO hr (by decide) (by rfl) (pa_cons (pv 0) pa_nil)))
      (pss_cons (ps_if (pt_not (pt_val (pe_c CR hr (by decide) (by rfl) (pa_cons (pv 1) (pa_cons (pv 4) pa_nil))))) (pss_one (ps_ret pe_str)) pss_nil)
      (pss_cut (ps_if (pw_and (pt_cmp (pc_notN (pv 2))) (pw_and1 (pt_not (pt_val (pe_c CA hr (by decide) (by rfl) (pa_cons (pv 2) (pa_cons (pv 4) pa_nil))))))).pt (pss_one (ps_ret pe_str)) pss_nil)
      (pss_cons (ps_if (pw_and (pt_cmp (pc_notN (pv 3))) (pw_and1 (pt_not (pt_val (pe_c CA hr (by decide) (by rfl) (pa_cons (pv 3) (pa_cons (pv 4) pa_nil))))))).pt (pss_one (ps_ret pe_str)) pss_nil)
      (pss_one (ps_ret pe_non)))))), ?_⟩
    have hnn : ∀ {v : V} {a : KA} {H : Hp}, KAt F H v a → ∀ b, decide (v = V.non) = b → noneB a = b := by
      intro v a H h b e
      cases a with
      | k es =>
        obtain ⟨r, _, rfl, _⟩ := h
        rw [← e]
        rfl
      | t es =>
        obtain ⟨r, _, rfl, _⟩ := h
        rw [← e]
        rfl
      | d x =>
        cases x with
        | fl x =>
          obtain ⟨rfl, _⟩ := h
          rw [← e]
          cases v <;> rfl
        | emp =>
          obtain ⟨r, rfl, _⟩ := h
          rw [← e]
          rfl
        | sq x =>
          obtain ⟨r, _, rfl, _⟩ := h
          rw [← e]
          rfl
    refine ⟨_, rfl, v1, d1, F, rfl, hv1, hs1, hz1, fun H1 s1 => ⟨leftB d1, rfl, ?_⟩⟩
    cases hL : leftB d1 with
    | false =>
      refine iteBt rfl ?_
      have := k H1 s1
      unfold faultW at this
      rw [if_pos hL] at this
      exact this
    | true =>
    have hsh : isSh d1 = true := by
      unfold leftB at hL
      rw [Bool.and_eq_true] at hL
      exact hL.1
    refine iteBf rfl ⟨_, rfl, v1, d1, F, rfl, DAt.hold (.same s1) _ hv1, hsh, by omega, fun hl H2 nhl s2 hhl => ?_⟩
    have s02 := s1.trans s2
    refine ⟨_, rfl, _, rfl, v2, d2, F, hl, hnm d1, rfl, DAt.hold (.same s02) _ hv2, hs2, hz2, hhl, fun H3 s3 => ⟨_, rfl, ?_⟩⟩
    have s03 := s02.trans s3
    cases hR : rightB d2 (hnm d1) with
    | false =>
      refine iteBt rfl ?_
      have := k H3 s03
      unfold faultW at this
      rw [if_neg (by rw [hL]; exact tnf), if_pos hR] at this
      exact this
    | true =>
    refine iteBf rfl ?_
    have hhl3 := s3 _ _ hhl
    have fin : ∀ H', Same H3 H' → Q (optV (if okK (hnm d1) a3 = false then some "kinds" else if okK (hnm d1) a4 = false then some "bars" else none)) H' := fun H' s' => by
      have := k H' (s03.trans s')
      unfold faultW at this
      rw [if_neg (by rw [hL]; exact tnf), if_neg (by rw [hR]; exact tnf)] at this
      exact this
    have hhl3 := s3 _ _ hhl
    refine ⟨fun σ H' => σ = [some v1, some v2, some v3, some v4, some (.ref hl)] ∧ Same H3 H' ∧ okK (hnm d1) a3 = true, ?_, ?_⟩
    · refine ⟨_, rfl, _, rfl, ?_⟩
      cases hb : decide (v3 = V.non) with
      | true =>
        have hn := hnn hv3 _ hb
        exact iteBf rfl ⟨rfl, fun _ _ e => e, by unfold okK; rw [hn]; rfl⟩
      | false =>
        have hn := hnn hv3 _ hb
        refine iteBt rfl ⟨_, rfl, _, rfl, v3, a3, F, hl, _, rfl, hv3.same s03, hm3, hhl3, fun H4 s4 => ⟨_, rfl, ?_⟩⟩
        cases hA : labsB (hnm d1) a3 with
        | false =>
          have := fin H4 s4
          rw [if_pos (by unfold okK; rw [hn, hA]; rfl)] at this
          exact iteBt rfl this
        | true => exact iteBf rfl ⟨rfl, s4, by unfold okK; rw [hA, Bool.or_true]⟩
    rintro σ H4 ⟨rfl, s4, h3⟩
    have fin4 : ∀ H', Same H4 H' → Q (optV (if okK (hnm d1) a4 = false then some "bars" else none)) H' := fun H' s' => by
      have := fin H' (s4.trans s')
      rw [if_neg (by rw [h3]; exact tnf)] at this
      exact this
    refine ⟨_, rfl, _, rfl, ?_⟩
    cases hb : decide (v4 = V.non) with
    | true =>
      have hn := hnn hv4 _ hb
      have := fin4 H4 (fun _ _ e => e)
      rw [if_neg (by unfold okK; rw [hn]; exact tnf)] at this
      exact iteBf rfl this
    | false =>
      have hn := hnn hv4 _ hb
      refine iteBt rfl ⟨_, rfl, _, rfl, v4, a4, F, hl, _, rfl, hv4.same (s03.trans s4), hm4, s4 _ _ hhl3, fun H5 s5 => ⟨_, rfl, ?_⟩⟩
      have := fin4 H5 s5
      cases hA : labsB (hnm d1) a4 with
      | false =>
        rw [if_pos (by unfold okK; rw [hn, hA]; rfl)] at this
        exact iteBt rfl this
      | true =>
        rw [if_neg (by unfold okK; rw [hA, Bool.or_true]; exact tnf)] at this
        exact iteBf rfl this
end
end K9

namespace TX
open PySem PySem.Spec PyProof.Rows L2
section
variable {P : Program} {w : World} {A : Around} {E : Value → Shared → Prop} {s : Shared}
/-- set(xs) of a tuple of texts -/
theorem set_of_tuple {l : Addr} {items : Array Value} {xs : List Str} {Q : Value → Shared → Prop} (hh : A.handled = none) (hl : s.heap.IsTuple l items) (hx : StrsAre items.toList xs) (room : items.size + 1 < scanBound)
    (k : ∀ (h' : Heap) (tk : Nat), SetT w h' s.heap.objs.size (fun z => decide (z ∈ xs)) (many xs) → (∀ b o, b < s.heap.objs.size → s.heap.get? b = some o → h'.get? b = some o) → Q (.ref s.heap.objs.size) { s with heap := h', toks := tk }) :
    wpAny (model P w) A (call (.type "set") [.ref l]) Q E s := by
  obtain ⟨c, tl, mro⟩ := F.called_set.mro
  have made := F.called_set.made
  have sub := F.called_set.sub
  have lenx : items.size = xs.length := by rw [← Array.length_toList, strs_len hx]
  refine wpAny_call (codeAny_of_tree ?_)
  show wpAny _ _ (callAny (.type "set") _) _ _ _
  refine wpAny_pure ⟨Code.quiet_builtin _ (by decide +kernel), codeAny_builtin F.entry_type_call ?_⟩
  rw [Around.under_plain (weight_type_call_type "set" [.ref l] []) rfl]
  have n1 := F.called_set.notType
  have n2 := F.called_set.canCreate
  have n3 := F.typeCall_set_1 (.ref l)
  repeat (any_goals (first | assumption | wp_step))
  refine codeAny_mono (new_bare (.ref l) (E := E) (R := fun ob s1 => ob = .ref s.heap.objs.size ∧ s1 = { s with heap := bare w s.heap }) ⟨rfl, rfl⟩) fun r s1 hr => ?_
  cases r with
  | error e => exact hr
  | ok fl =>
    cases fl with
    | next => exact hr.elim
    | brk => exact hr.elim
    | cont => exact hr.elim
    | ret ob =>
      obtain ⟨rfl, rfl⟩ := hr
      have at0 := bare_at (h := s.heap) w
      have isS : Shared.TypeIs { s with heap := bare w s.heap } (.ref s.heap.objs.size) "set" := ⟨_, at0, rfl⟩
      have n4 := F.called_set.init.lookup
      have n5 := F.called_set.init.bind (.ref s.heap.objs.size)
      repeat (any_goals (first | assumption | wp_step))
      refine codeAny_mono (codeAny_call_builtin (R := wants (fun r s2 => r = .none ∧ ∃ h' tk, s2 = { s with heap := h', toks := tk } ∧ SetT w h' s.heap.objs.size (fun z => decide (z ∈ xs)) (many xs) ∧ (∀ b o, b < s.heap.objs.size → s.heap.get? b = some o → h'.get? b = some o)) E)
        F.called_set.init.plain F.entry_set_init (check_set_init_1 isS ?_)) fun r2 s2 hr2 => ?_
      · obtain ⟨ol, hol, hcl, nl, hdl⟩ := hl
        obtain ⟨ocls, odict, odata, oslots⟩ := ol
        simp only at hcl hdl
        subst hcl hdl
        have hol' : (bare w s.heap).get? l = some { cls := .type "tuple", dict := odict, data := .seq items nl, slots := oslots } := Heap.get?_push_of_some _ hol
        have m1 := F.sub_tuple_set
        have m2 := F.sub_tuple_frozenset
        have m3 : (Value.type "tuple" == Value.type "dict") = false := by decide
        have isl : (bare w s.heap).IsTuple l items := ⟨_, hol', rfl, nl, rfl⟩
        unfold Builtin.«set.__init__» noKeywords Builtin.Frozenset.updateFrom
        generalize hPI : pyIter = PI
        wp_walk
        subst hPI
        refine wpAny_pyIter_tuple isl (wpAny_bind (wpAny_runValue ?_))
        have lS : l < s.heap.objs.size := Heap.lt_size hol
        have size1 : (bare w s.heap).objs.size = s.heap.objs.size + 1 := Heap.size_push _ _
        have hh3 : A.in1.in1.in1.handled = none := by simp [hh]
        have lI : l ≠ (bare w s.heap).objs.size := by rw [size1]; exact Nat.ne_of_lt (Nat.lt_succ_of_lt lS)
        have notF : s.heap.objs.size ∉ [(bare w s.heap).objs.size, l] := by
          rw [size1]
          simp only [List.mem_cons, List.not_mem_nil, or_false, not_or]
          exact ⟨Nat.ne_of_lt (Nat.lt_succ_self _), Nat.ne_of_gt lS⟩
        have isx : ∀ (i : Nat) (v : Value), items[i]? = some v → ∃ z tz, xs[i]? = some z ∧ v = Value.str z tz := fun i v hv => strs_get hx i v (by rw [Array.getElem?_toList]; exact hv)
        have W := (Walks.tuple (prog := P) (w := w) hh3 (bare w s.heap).objs.size l lI items).toS
        rw [lenx] at W room
        refine fillT xs W s.heap.objs.size notF isx room xs.length 0 _ rfl (Nat.zero_le _) ⟨⟨_, Heap.get?_push_size _ rfl, rfl, rfl⟩, (isl.push _)⟩ ((bareT fun o e => Heap.get?_push_of_some _ e).congr (fun z => rfl) rfl) ?_
        intro s' mv r
        obtain ⟨h', g', d', tk', os'⟩ := s'
        obtain rfl : g' = s.gens := mv.gens
        obtain rfl : d' = s.drawn := mv.drawn
        obtain rfl : os' = s.os := mv.os
        show wpAny _ _ _ _ _ _
        refine wpAny_pure ?_
        show wpAny _ _ (ret Value.none) _ _ _
        refine wpAny_pure ⟨rfl, h', tk', rfl, r, fun b o hb e => mv.heap b o ?_ (Heap.get?_push_of_some _ (Heap.get?_push_of_some _ e))⟩
        have b1 : b ≠ s.heap.objs.size := Nat.ne_of_lt hb
        have b2 : b ≠ (bare w s.heap).objs.size := by rw [size1]; exact Nat.ne_of_lt (Nat.lt_succ_of_lt hb)
        simp only [List.mem_cons, List.not_mem_nil, or_false, not_or]
        exact ⟨b1, b2⟩
      · cases r2 with
        | error e => exact hr2
        | ok f2 =>
          cases f2 with
          | ret r =>
            obtain ⟨rfl, h', tk, rfl, r, kp⟩ := hr2
            repeat (any_goals (first | assumption | wp_step))
            exact k _ _ r kp
          | next => exact hr2.elim
          | brk => exact hr2.elim
          | cont => exact hr2.elim
end
section
variable {X : Cx}
/-- set(xs), xs a list or a tuple -/
def rSetXT (K : PySem.W.Frag) (w : World) : List V → Hp → VK → Prop := fun vs H Q => ∃ (l : Addr) (xs : List Str), vs = [.ref l] ∧ (SqL K H l (xs.map V.str) ∨ SqT K H l (xs.map V.str)) ∧ xs.length ≤ 1000 ∧ ∀ p, H p = none → Q (.ref p) (upd H p (SetX w p (fun z => decide (z ∈ xs)) (many xs)))
theorem cr_setXT (hc : X.calm = true) : CallR X (.type "set") (rSetXT X.K X.w) := by
  intro pins s σ H vs us Q I r h
  obtain ⟨l, xs, rfl, hl | hl, few, q⟩ := h
  · exact cr_setX hc pins s σ H _ us Q I r ⟨l, xs, rfl, hl, few, q⟩
  · obtain ⟨its, rv, isl, _⟩ := I.tuple hl
    rw [Vals.ref1 r]
    have lenv := rv.length
    rw [List.length_map] at lenv
    refine set_of_tuple (I.ok.hd hc) isl (by simpa using rv.strs) (by rw [List.size_toArray, ← lenv]; unfold scanBound; omega) fun h' tk r kp => ?_
    have n0 := I.hok.fresh (Nat.le_refl s.heap.objs.size)
    exact ⟨.ref _, _, I.laid (t' := tk) (fun b o e => kp b o (Heap.lt_size e) e) (Nat.le_refl _) (setX_ok r), rfl, q _ n0⟩
end
end TX

/-! Making an own exception whose __init__ says super().__init__(text) and stores its parameters. -/
namespace XI
open PySem PySem.W PySem.Calls PyProof.Rows PySem.HandSPX
section
variable {prog : Program} {w : World} {M : Model} {A : Around} {E : Value → Shared → Prop} {hp : Heap} {g : Array GenState} {d : Drawn} {t : Nat} {os : OsState}
variable {cn cq : Str} {C N : Addr} {bs bm tl : List Value} {sn : List Str} {sub : List Value} {ab : Bool} {col : Option Bool} {dd : Option Addr} {k0 k1 k2 k3 k5 : Option Value} {B n0 n1 : String} {us : List Value} {kw : List (Str × Value)}
theorem chk (FB : ExcBaseFacts B n0 n1 tl) (ht : ∀ Y : String, bm.contains (.type Y) = tl.contains (.type Y)) {Q : Unit → Shared → Prop}
    (oC : hp.get? C = some (excClassObj cn cq C N bs bm true sn sub ab col dd k0 k1 k2 k3 k5 n0)) (q : Q () ⟨hp, g, d, t, os⟩) : wpAny M A (checkBuiltinCall n0 ⟨.ref C :: us, kw⟩) Q E ⟨hp, g, d, t, os⟩ := by
  have inB : (Value.ref C :: bm).contains (.type B) = true := by simp only [List.contains_cons, ht, FB.hasB, Bool.or_true]
  have st := FB.noStar
  simp only [checkBuiltinCall, FB.newKind, FB.newSplit, FB.newRow]
  repeat (first
    | (refine wpAny_isSubtype_exc oC ?_; rw [inB])
    | refine wpAny_loadPart_at oC ?_
    | refine wpAny_madeBy_exc oC ?_
    | refine wpAny_staticBase_exc oC ?_
    | wp_step
    | simp only [bne_self_eq_false, Bool.false_eq_true, if_false])
  exact q
theorem chkT {Q : Unit → Shared → Prop} (oC : hp.get? C = some (excClassObj cn cq C N bs bm true sn sub ab col dd k0 k1 k2 k3 k5 n0)) (q : Q () ⟨hp, g, d, t, os⟩) :
    wpAny M A (checkBuiltinCall "type.__call__" ⟨.ref C :: us, kw⟩) Q E ⟨hp, g, d, t, os⟩ := by
  have z := tc_sub
  have ty : (⟨hp, g, d, t, os⟩ : Shared).TypeIs (.ref C) "type" := ⟨_, oC, rfl⟩
  simp only [checkBuiltinCall, tc_kind, tc_split]
  repeat (any_goals (first
    | assumption
    | with_reducible refine wpAny_onRaise ?_
    | with_reducible refine wpAny_loadPart_at oC ?_
    | with_reducible refine wpAny_map ?_
    | wp_step))
end
section
variable {prog : Program} {w : World} {A : Around} {E : Value → Shared → Prop} {R : Result → Shared → Prop} {hp : Heap} {g : Array GenState} {d : Drawn} {t : Nat} {os : OsState}
variable {cn cq : Str} {C N fI : Addr} {bs bm tl : List Value} {sn : List Str} {sub : List Value} {ab : Bool} {col : Option Bool} {dd : Option Addr} {k0 k1 k2 k3 k5 : Option Value} {B n0 n1 : String} {us : List Value} {kw : List (Str × Value)}
/-- the tuple of the arguments, and the new exception behind it -/
abbrev two (hp : Heap) (C : Addr) (us : List Value) : Heap := (hp.push (kdv_tup us)).push (excO C hp.objs.size)
theorem newE (FB : ExcBaseFacts B n0 n1 tl) (ht : ∀ Y : String, bm.contains (.type Y) = tl.contains (.type Y)) (oC : hp.get? C = some (excClassObj cn cq C N bs bm true sn sub ab col dd k0 k1 k2 k3 k5 n0)) (hl : us.length ≤ sizeLine)
    (q : R (.ok (.ret (.ref (hp.objs.size + 1)))) ⟨two hp C us, g, d, t, os⟩) : codeAny (model prog w) A (.builtin n0 ⟨.ref C :: us, kw⟩) R ⟨hp, g, d, t, os⟩ := by
  have en := FB.ends
  have inB : (Value.ref C :: bm).contains (.type B) = true := by simp only [List.contains_cons, ht, FB.hasB, Bool.or_true]
  have noA : (Value.ref C :: bm).contains (.type "AttributeError") = false := by rw [List.contains_cons, ht, FB.noAttr] <;> rfl
  have noN : (Value.ref C :: bm).contains (.type "NameError") = false := by rw [List.contains_cons, ht, FB.noName] <;> rfl
  refine codeAny_builtinAt FB.entry ?_
  unfold Builtin.«BaseException.__new__»
  refine PySem.wpAt_bind ?_
  show PySem.wpAt _ _ _ (stack >>= _) _ _ _
  refine PySem.wpAt_bind (PySem.wpAt_stack fun p below => PySem.wpAt_of_wpAny ?_)
  wp_walk
  refine PySem.wpAt_of_wpAny ?_
  rw [FB.owner]
  repeat (first
    | (with_reducible refine wpAny_isSubtype_exc oC ?_; first | rw [inB] | rw [noA] | rw [noN])
    | with_reducible refine wpAny_madeHere_exc FB.canon oC ?_
    | with_reducible refine wpAny_loadPart_at oC ?_
    | wp_step)
  show R _ _
  rw [Heap.size_push]
  exact q
theorem tcall (FB : ExcBaseFacts B n0 n1 tl) (ht : ∀ Y : String, bm.contains (.type Y) = tl.contains (.type Y)) {Q : Fin → Shared → Prop}
    (oC : hp.get? C = some (excClassObj cn cq C N bs bm true sn sub ab col dd k0 k1 k2 k3 k5 n0)) (li : Looks (model prog w) hp (typeLookup (.ref C) "__init__") (some (.ref fI)))
    (lb : ∀ self, Looks (model prog w) hp (bindSpecial (.ref fI) self) (.ref fI, [self])) (hl : us.length ≤ sizeLine)
    (q : codeAny (model prog w) A (.call (.ref fI) ⟨.ref (hp.objs.size + 1) :: us, kw⟩) (fun r s' => match r with | .ok (.ret v) => v = .none ∧ Q (.done (.ret (.ref (hp.objs.size + 1)))) s' | .ok _ => False | .error e => E e s') ⟨two hp C us, g, d, t, os⟩) :
    wpAny (model prog w) A (Builtin.«type.__call__» ⟨.ref C :: us, kw⟩) Q E ⟨hp, g, d, t, os⟩ := by
  repeat (first
    | with_reducible refine wpAny_madeBy_exc oC ?_
    | with_reducible refine wpAny_loadPart_at oC ?_
    | wp_step)
  refine codeAny_call_builtin_code (Code.quiet_builtin _ FB.quiet) (chk FB ht oC ?_)
  refine newE FB ht oC hl ?_
  show wpAny _ _ _ _ _ _
  have kp : ∀ b o, hp.get? b = some o → (two hp C us).get? b = some o := fun b o e => Heap.get?_push_of_some _ (Heap.get?_push_of_some _ e)
  have oC1 := kp _ _ oC
  have oX : (two hp C us).get? (hp.objs.size + 1) = some (excO C hp.objs.size) := by heap_get
  have inC : (Value.ref C :: bm).contains (.ref C) = true := by simp
  have li1 := li.keeps kp
  have lb1 := (lb (.ref (hp.objs.size + 1))).keeps kp
  unfold isInstance
  repeat (first
    | (with_reducible refine wpAny_isSubtype_exc oC1 ?_; rw [inC])
    | with_reducible refine wpAny_loadPart_at oX ?_
    | wp_step)
  show wpAny _ _ (typeLookup (.ref C) _) _ _ _
  refine li1.at (wpAny_holding (wpAny_bind (lb1.at ?_)))
  refine wpAny_bind (wpAny_call (codeAny_mono q fun r s' z => ?_))
  rcases r with e | (v | _ | _ | _) <;> first | exact z | exact z.elim | skip
  obtain ⟨rfl, z⟩ := z
  first
    | exact wpAny_pure (wpAny_pure z)
    | (wp_walk; exact z)
/-- C(us, kw): the new exception, then its own __init__ -/
theorem callE (FB : ExcBaseFacts B n0 n1 tl) (ht : ∀ Y : String, bm.contains (.type Y) = tl.contains (.type Y))
    (oC : hp.get? C = some (excClassObj cn cq C N bs bm true sn sub ab col dd k0 k1 k2 k3 k5 n0)) (li : Looks (model prog w) hp (typeLookup (.ref C) "__init__") (some (.ref fI)))
    (lb : ∀ self, Looks (model prog w) hp (bindSpecial (.ref fI) self) (.ref fI, [self])) (hl : us.length ≤ sizeLine)
    (q : codeAny (model prog w) (A.under (.builtin "type.__call__" ⟨.ref C :: us, kw⟩)) (.call (.ref fI) ⟨.ref (hp.objs.size + 1) :: us, kw⟩) (InitBack (hp.objs.size + 1) R) ⟨two hp C us, g, d, t, os⟩) :
    codeAny (model prog w) A (.call (.ref C) ⟨us, kw⟩) R ⟨hp, g, d, t, os⟩ := by
  have z1 := tc_lookup
  have z2 := tc_bind (.ref C)
  have ty : (⟨hp, g, d, t, os⟩ : Shared).TypeIs (.ref C) "type" := ⟨_, oC, rfl⟩
  refine codeAny_of_tree ?_
  show wpAny _ _ (callAny (.ref C) _) _ _ _
  repeat (any_goals (first
    | assumption
    | with_reducible refine wpAny_loadPart_at oC ?_
    | wp_step))
  refine ⟨rfl, codeAny_call_builtin_at (Code.quiet_builtin _ (by decide +kernel)) entry_typeCall (chkT oC (tcall FB ht oC li lb hl (codeAny_mono q fun r s' z => ?_)))⟩
  rcases r with e | (v | _ | _ | _) <;> exact z
end
end XI

namespace XI
open PySem PySem.W PySem.Calls PyProof.Rows PySem.HandSPX
section
variable {prog : Program} {w : World} {A : Around} {E : Value → Shared → Prop} {R : Result → Shared → Prop} {s : Shared} {K : Frag} {mg mb : Str → Option Value} {C fI cc cda x L t0 : Addr} {qual tx : Str} {scope : Scope} {params : Arguments} {body : List Stmt}
/-- behind the wrapper's call the args are laid anew -/
theorem wrapCall {cn cq : Str} {N u : Addr} {bs bm tl : List Value} {sn : List Str} {sub : List Value} {ab : Bool} {col : Option Bool} {dd : Option Addr} {k0 k1 k2 k3 k5 : Option Value} {B n0 n1 : String} {us : List Value} {Q : Value → Shared → Prop}
    (FB : ExcBaseFacts B n0 n1 tl) (oC : s.heap.get? C = some (excClassObj cn cq C N bs bm true sn sub ab col dd k0 k1 k2 k3 k5 n0)) (ox : s.heap.get? x = some (excO C t0)) (ou : s.heap.get? u = some (kxs_mw n1 x)) (hl : us.length ≤ sizeLine)
    (q : ∀ h' t1, (∀ b o, b ≠ x → s.heap.get? b = some o → h'.get? b = some o) → h'.get? x = some (excO C t1) → Q .none { s with heap := h' }) : wpAny (model prog w) A (call (.ref u) us) Q E s := by
  obtain ⟨hp, g, d, tk, os⟩ := s
  refine wpAny_call (codeAny_of_tree ?_)
  show wpAny _ A.in1 (callAny (.ref u) ⟨us, []⟩) _ _ _
  simp only [callAny]
  refine wpAny_bind (wpAny_load ou ?_)
  simp only [show (Value.type "method-wrapper" == Value.type "method" || Value.type "method-wrapper" == Value.type "builtin_function_or_method" || Value.type "method-wrapper" == Value.type "method-wrapper") = true by decide, if_true, kxs_mw]
  refine KFB.if_so (by decide) (wpAny_bind (check_bound_init FB.toExcCallFacts oC ox rfl (wpAny_bind (wpAny_pure (wpAny_pure ⟨plainId_quiet FB.init.plain _, codeAny_builtin FB.initEntry ?_⟩)))))
  exact exc_init_tree (t0 := t0) (cls := .ref C) (dv := none) (c2 := .none) (c3 := .none) (b4 := .bool false) ox hl fun h' kp e _ => q h' _ kp e
theorem superPart {p0 p1 p2 p3 p4 p5 : Pos} {k : Nat} {Q : Flow → Shared → Prop} {oc od doc pm an ct osl dV kV} {cl : Value} {cld : Option Addr} {csl : Array (Option Value)} {ccl : Value} {cdd : Option Addr} {ccs : Array (Option Value)} {vs : Array Value} {file : Str} {tf : Tok} {m : Str → Option Value}
    (X : K.In s.heap) (gl : s.heap.Ns mainGlobals mg) (bl : s.heap.Ns builtinsNs mb) (hbb : ∀ y : Str, y ≠ "__name__" → mb y = bootBuiltins y) (hsu : mg "super" = none)
    (hf : K.lookup fI = some ⟨oc, od, .func (ksFn "__init__" qual params body scope dV kV doc pm an (.ref cda) ct cc), osl⟩) (hp1 : ∃ ar, (params.posonlyargs ++ params.args).head? = some ar ∧ ar.arg = ("self" : Str))
    (hcell : K.lookup cc = some ⟨cl, cld, .cell (some (.ref C)), csl⟩) (hcode : K.lookup cda = some ⟨ccl, cdd, .fields vs, ccs⟩) (hvs : vs[2]? = some (.str file tf)) (hfile : ((prog.main.file : Str) == file) = true)
    (htop : (prog.main.scope.names.lookup ("super" : Str)).isSome = false)
    (T : L2.OexC K C) (hsup : ks_superIn K C C "__init__" = some (some (.builtin "ValueError.__init__"))) (hop : nsIn K cStatics "thirdparty.any" = some none) (hB : subIn K (.ref C) (.type "ValueError") = some true) (hmr : mroIn K C (.ref C) = some true)
    (hks : scope.names.lookup ("super" : Str) = some .globalImplicit) (hkc : scope.names.lookup ("__class__" : Str) = some .free) (hka : scope.names.lookup ("self" : Str) = some .local) (hk : scope.kind = .function)
    (ns : s.heap.Ns L m) (hm : m "self" = some (.ref x)) (ox : s.heap.get? x = some (excO C t0)) (nx : K.lookup x = none)
    (q : ∀ h' t' t1, (∀ b o, b ≠ x → s.heap.get? b = some o → h'.get? b = some o) → h'.get? x = some (excO C t1) → Q .next { s with heap := h', toks := t' })
    {pl : Sem Bool} (he : eval (.Call (.Attribute (.Call (.Name "super" p0) [] [] p1) "__init__" p2) [.Constant (.str tx) k p3] [] p4) (ksEnv qual scope L fI (.ref cda) cc) = (do
      let ov ← attributeBase (.Call (.Name "super" p0) [] [] p1) "__init__" (ksEnv qual scope L fI (.ref cda) cc) (eval (.Call (.Name "super" p0) [] [] p1) (ksEnv qual scope L fI (.ref cda) cc))
      standAt p2.atName
      let (fx, first) ← holding [ov] (getMethod ov "__init__" pl)
      callWith p4 fx first (backTo p4 (starEach [.Constant (.str tx) k p3] (ksEnv qual scope L fI (.ref cda) cc))) [])) (hsw : swapsWith (.Call (.Attribute (.Call (.Name "super" p0) [] [] p1) "__init__" p2) [.Constant (.str tx) k p3] [] p4) none p5.line (ksEnv qual scope L fI (.ref cda) cc) = pure false) :
    PySem.wpAt (model prog w) A (.func body (ksEnv qual scope L fI (.ref cda) cc)) (exec (.Expr (.Call (.Attribute (.Call (.Name "super" p0) [] [] p1) "__init__" p2) [.Constant (.str tx) k p3] [] p4) p5) (ksEnv qual scope L fI (.ref cda) cc)) Q E s := by
  obtain ⟨nm, qq, N, bs, bm, sn, sub, ab, col, dd, k0, k1, k2, k3, k5, hC, hbm⟩ := T.cls
  have hcl : clsIn K C = some { name := nm, bases := bs, mro := .ref C :: bm, ns := N, qualname := qq, hasDict := true, slotNames := sn, subclasses := sub, abstract := ab, collection := col, hasDel := false } := by unfold clsIn; rw [hC] <;> rfl
  obtain ⟨ar, har, hara⟩ := hp1
  have hxC : x ≠ C := fun z => by
    rw [z, hC] at nx
    cases nx
  obtain ⟨hp, g, d, t, os⟩ := s
  have oC : hp.get? C = _ := X _ _ hC
  refine ks_wpAt_Expr_any (ks_wpAt_MethodCall ?_ he) (by simp [interactive, hk]) hsw
  refine ks_wpAt_super_base hks hkc (by decide +kernel) rfl (X _ _ hf) rfl har rfl (X _ _ hcode) rfl hvs hfile htop ?_
  refine ks_loadName_global hk hks (loadGlobal_builtin gl hsu bl ((hbb _ (by decide +kernel)).trans (by decide +kernel)) ⟨rfl, ?_⟩)
  refine wpAny_loadName_free hk hkc rfl ⟨_, X _ _ hcell, rfl⟩ ?_
  rw [hara]
  refine wpAny_loadName_local hk hka ns hm ?_
  refine ks_wpAny_isType_cls oC rfl ⟨rfl, ?_⟩
  refine ks_wpAny_call_super oC rfl ox rfl (fun c e => by cases e) (looks_mroIn X hmr) fun h1 e1 kp1 => ?_
  have X1 : K.In h1 := X.keeps kp1
  have I1 : InstAt h1 x (excO C t0) C none := ⟨kp1 _ _ ox, rfl, rfl, trivial⟩
  have al : alongIn K "__init__" (((Value.ref C :: bm).dropWhile (· != .ref C)).drop 1) = some (some (.builtin "ValueError.__init__")) := by
    have z := hsup
    unfold ks_superIn at z
    rw [hcl] at z
    exact z
  refine kxs_getMethod kxs_ValueError (K := K) e1 (looks_opaque X1 hop) ((looks_clsIn X1 hcl).andThen .now) rfl X1 al (I1.type.andThen (looks_subIn X1 hB)) hxC (by decide +kernel) ?_
  have kp2 : ∀ b o, hp.get? b = some o → (h1.push (kxs_mw "ValueError.__init__" x)).get? b = some o := fun b o e => Heap.get?_push_of_some _ (kp1 _ _ e)
  have ou : (h1.push (kxs_mw "ValueError.__init__" x)).get? h1.objs.size = some (kxs_mw "ValueError.__init__" x) := Heap.get?_push_at rfl rfl
  refine kxs_callWith (i := "ValueError.__init__") (x := x) rfl (evalArgs_plain ?_)
  refine spliced_cons (Constant_str (k := k) (pos := p3) (spliced_nil ⟨ou, ?_⟩))
  exact wrapCall PySem.F.excBase_ValueError (kp2 _ _ oC) (kp2 _ _ ox) ou (by show 1 ≤ sizeLine; decide) fun h' t1 kq ex => q h' _ t1 (fun b o hb e => kq b o hb (kp2 b o e)) ex
/-- the rows self.f = f -/
inductive Stores : List Str → List Stmt → Prop where
  | nil : Stores [] []
  | cons {f : Str} {q1 q2 q3 q4 : Pos} {fs : List Str} {b : List Stmt} (h : Stores fs b) : Stores (f :: fs) (.Assign [.Attribute (.Name "self" q1) f q2] (.Name f q3) q4 :: b)
/-- an exception at x of the class at C, made since h: what its attributes are -/
structure ExAt (h h' : Heap) (L x C : Addr) (fs : List (Str × Value)) : Prop where
  keep : ∀ b o, b ≠ x → h.get? b = some o → h'.get? b = some o
  some0 : fs = [] → ∃ t1, h'.get? x = some (excO C t1)
  some1 : fs ≠ [] → ∃ t1 dx m0, h'.get? x = some { cls := .ref C, dict := some dx, data := .fields #[.ref t1, .none, .none, .none, .bool false, .none] } ∧ L < dx ∧ dx ≠ x ∧ h'.Ns1 dx m0 ∧ (∀ y, m0 y = fs.lookup y) ∧ Within m0 (fs.map (·.1))
theorem lookup_cons2 {α : Type} (y f : Str) (v : α) (fs : List (Str × α)) : ((f, v) :: fs).lookup y = if y = f then some v else fs.lookup y := by
  by_cases e : y = f
  · rw [if_pos e, List.lookup_cons, show (y == f) = true from beq_iff_eq.mpr e]
  · rw [if_neg e, List.lookup_cons, show (y == f) = false from beq_eq_false_iff_ne.mpr e]
theorem storesRun {hb : Heap} {env : Env} {m : Str → Option Value} {Q : Flow → Shared → Prop} (T : L2.OexC K C) (hk : env.scope.kind = .function) (hself : env.kindOf "self" = some .local) (hm : m "self" = some (.ref x)) (nx : K.lookup x = none) (hxL : x ≠ env.locals) (hLs : hb.objs.size ≤ env.locals)
    (hxs : x < hb.objs.size) (hKb : K.In hb) : ∀ (todo : List (Str × Value)) (b : List Stmt) (old : List (Str × Value)) (s : Shared), Stores (todo.map (·.1)) b → old.length + todo.length ≤ 900 → (∀ p ∈ todo, env.kindOf p.1 = some .local ∧ (p.1 == ("__debug__" : Str)) = false ∧ m p.1 = some p.2 ∧ findIn K (.ref C) p.1 = some none) →
      K.In s.heap → s.heap.Ns env.locals m → ExAt hb s.heap env.locals x C old → (∀ h' t', ExAt hb h' env.locals x C (todo.reverse ++ old) → Q .next { s with heap := h', toks := t' }) → wpAny (model prog w) A (execs b env) Q E s
  | [], _, old, s, .nil, _, _, _, _, D, q => wpAny_execs_nil (q s.heap s.toks D)
  | (f, v) :: todo, _, old, s, .cons hS, hl, hp, X, ns, D, q => by
    obtain ⟨nm, qq, N, bs, bm, sn, sub, ab, col, dd, k0, k1, k2, k3, k5, hC, hbm⟩ := T.cls
    have hcl : clsIn K C = some { name := nm, bases := bs, mro := .ref C :: bm, ns := N, qualname := qq, hasDict := true, slotNames := sn, subclasses := sub, abstract := ab, collection := col, hasDel := false } := by unfold clsIn; rw [hC] <;> rfl
    obtain ⟨l1, l2, l3, l4⟩ := hp (f, v) List.mem_cons_self
    have go : ∀ h' t', K.In h' → h'.Ns env.locals m → ExAt hb h' env.locals x C ((f, v) :: old) → wpAny (model prog w) A (execs _ env) Q E { s with heap := h', toks := t' } := fun h' t' X' ns' D' =>
      storesRun T hk hself hm nx hxL hLs hxs hKb todo _ ((f, v) :: old) { s with heap := h', toks := t' } hS (by simp only [List.length_cons] at hl ⊢; omega) (fun p hp' => hp p (List.mem_cons_of_mem _ hp')) X' ns' D' fun h2 t2 D2 => q h2 t2 (by rw [List.reverse_cons, List.append_assoc]; exact D2)
    refine wpAny_execs_cons (plainObj_wpAny_Assign_Attribute ?_)
    refine wpAny_Name (wpAny_loadName_local hk l1 ns l3 ?_) l2
    refine wpAny_Name (wpAny_loadName_local hk hself ns hm ?_) (by decide)
    obtain ⟨h, g, d, t, os⟩ := s
    have keepK : ∀ h' : Heap, (∀ b o, b ≠ x → h.get? b = some o → h'.get? b = some o) → K.In h' := fun h' kp a o e => kp a o (fun z => by rw [z, nx] at e; cases e) (X a o e)
    have hlt := ns.lt
    cases old with
    | nil =>
      obtain ⟨t1, ho⟩ := D.some0 rfl
      refine set_plain X (ox := excO C t1) (od := none) ⟨ho, rfl, rfl, trivial⟩ T.sa ?_
      refine exc_osa X ho hcl (show refsVE (.ref C :: bm) = true from hbm) rfl l4 fun h' tk' dx kp dn dne hx hn => ?_
      obtain ⟨oL, eL, pL, e1, e2⟩ := ns
      have hbd : env.locals < dx := Nat.lt_of_lt_of_le hlt dn
      refine go h' tk' (keepK h' kp) ⟨oL, eL, pL, kp _ _ (Ne.symm hxL) e1, e2⟩ ⟨fun b o hbx e => kp b o hbx (D.keep b o hbx e), (fun z => nomatch z), fun _ => ⟨t1, dx, _, hx, hbd, dne, hn, fun y => ?_, ?_⟩⟩
      · rw [lookup_cons2] <;> rfl
      · exact .cons f v .nil
    | cons p old =>
      obtain ⟨t1, dx, m0, ho, dn, dne, hns, hmap, hw⟩ := D.some1 (by simp)
      obtain ⟨oD, _, _, hoD, _, _⟩ := hns.count hw
      refine set_plain X (ox := { cls := .ref C, dict := some dx, data := .fields #[.ref t1, .none, .none, .none, .bool false, .none] }) (od := some oD) ⟨ho, rfl, rfl, hoD⟩ T.sa ?_
      refine PySem.OEX.osa_old X ho hns hw (by simp only [List.length_map, List.length_cons] at hl ⊢; omega) hcl (show refsVE (.ref C :: bm) = true from hbm) rfl l4 fun h' tk' kp hn => ?_
      obtain ⟨oL, eL, pL, e1, e2⟩ := ns
      refine go h' tk' (fun a o e => ?_) ⟨oL, eL, pL, kp _ _ (Nat.ne_of_lt dn) e1, e2⟩ ⟨fun b o hbx e => kp b o (Nat.ne_of_lt (Nat.lt_of_lt_of_le (Heap.lt_size e) (Nat.le_trans hLs (Nat.le_of_lt dn)))) (D.keep b o hbx e), (fun z => nomatch z), fun _ => ⟨t1, dx, _, kp _ _ (Ne.symm dne) ho, dn, dne, hn, fun y => ?_, ?_⟩⟩
      · refine kp a o (fun z => ?_) (X a o e)
        have y := Heap.lt_size (hKb a o e)
        rw [z] at y
        exact absurd (Nat.lt_of_lt_of_le y (Nat.le_trans hLs (Nat.le_of_lt dn))) (Nat.lt_irrefl _)
      · rw [lookup_cons2, hmap]
      · exact .cons f v hw
/-- what the written part and the text say of C's own __init__ -/
structure IniK (prog : Program) (K : Frag) (C fI : Addr) (qual : Str) (params : Arguments) (body : List Stmt) (scope : Scope) (fs : List Str) : Prop where
  fn : ∃ oc od dV kV doc pm an cda ct osl cc cl cld csl ccl cdd ccs, ∃ (vs : Array Value) (file : Str) (tf : Tok), K.lookup fI = some ⟨oc, od, .func (ksFn "__init__" qual params body scope dV kV doc pm an (.ref cda) ct cc), osl⟩ ∧ codeIn K (.ref cda) qual = true ∧
    K.lookup cc = some ⟨cl, cld, .cell (some (.ref C)), csl⟩ ∧ K.lookup cda = some ⟨ccl, cdd, .fields vs, ccs⟩ ∧ vs[2]? = some (.str file tf) ∧ ((prog.main.file : Str) == file) = true
  sup : ks_superIn K C C "__init__" = some (some (.builtin "ValueError.__init__"))
  ini : findIn K (.ref C) "__init__" = some (some (.ref fI))
  ity : typeIn K (.ref fI) = some (.type "function")
  opa : nsIn K cStatics "thirdparty.any" = some none
  suB : subIn K (.ref C) (.type "ValueError") = some true
  suC : mroIn K C (.ref C) = some true
  par : (params.posonlyargs ++ params.args).head?.map (·.arg) = some "self"
  top : (prog.main.scope.names.lookup ("super" : Str)).isSome = false
  ssu : scope.names.lookup ("super" : Str) = some .globalImplicit
  scl : scope.names.lookup ("__class__" : Str) = some .free
  sse : scope.names.lookup ("self" : Str) = some .local
  kin : scope.kind = .function
  cel : ∀ y ∈ scope.names, y.2 ≠ .cell
  nco : scope.isCoroutine = false
  nge : scope.isGenerator = false
  fie : ∀ f ∈ fs, scope.names.lookup f = some .local ∧ (f == ("__debug__" : Str)) = false ∧ findIn K (.ref C) f = some none ∧ f ≠ "self"
  ndf : fs.Nodup
  bod : ∃ (p0 p1 p2 p3 p4 p5 : Pos) (k : Nat) (tx : Str) (b : List Stmt), body = .Expr (.Call (.Attribute (.Call (.Name "super" p0) [] [] p1) "__init__" p2) [.Constant (.str tx) k p3] [] p4) p5 :: b ∧ Stores fs b ∧
    ∀ (L fI' cda' cc' : Addr), ∃ pl, eval (.Call (.Attribute (.Call (.Name "super" p0) [] [] p1) "__init__" p2) [.Constant (.str tx) k p3] [] p4) (ksEnv qual scope L fI' (.ref cda') cc') = (do
      let ov ← attributeBase (.Call (.Name "super" p0) [] [] p1) "__init__" (ksEnv qual scope L fI' (.ref cda') cc') (eval (.Call (.Name "super" p0) [] [] p1) (ksEnv qual scope L fI' (.ref cda') cc'))
      standAt p2.atName
      let (fx, first) ← holding [ov] (getMethod ov "__init__" pl)
      callWith p4 fx first (backTo p4 (starEach [.Constant (.str tx) k p3] (ksEnv qual scope L fI' (.ref cda') cc'))) []) ∧ swapsWith (.Call (.Attribute (.Call (.Name "super" p0) [] [] p1) "__init__" p2) [.Constant (.str tx) k p3] [] p4) none p5.line (ksEnv qual scope L fI' (.ref cda') cc') = pure false
theorem lookup_nd {α : Type} : ∀ {l : List (Str × α)} {f : Str} {v : α}, (l.map (·.1)).Nodup → (f, v) ∈ l → l.lookup f = some v
  | [], _, _, _, h => nomatch h
  | (f', v') :: l, f, v, nd, h => by
    rw [lookup_cons2]
    rcases List.mem_cons.mp h with e | h
    · cases e
      rw [if_pos rfl]
    · have nd' := List.nodup_cons.mp nd
      by_cases e : f = f'
      · exact absurd (List.mem_map.mpr ⟨(f, v), h, e⟩) nd'.1
      · rw [if_neg e]
        exact lookup_nd nd'.2 h
theorem zip_fst : ∀ {fs : List Str} {us : List Value}, us.length = fs.length → (fs.zip us).map (·.1) = fs
  | [], [], _ => rfl
  | f :: fs, u :: us, h => by
    have z : us.length = fs.length := Nat.succ.inj h
    simp only [List.zip_cons_cons, List.map_cons, zip_fst z]
theorem initE {fs : List Str} {us : List Value} {args : Args} (J : IniK prog K C fI qual params body scope fs) (T : L2.OexC K C) (X : K.In s.heap) (gl : s.heap.Ns mainGlobals mg) (bl : s.heap.Ns builtinsNs mb) (hbb : ∀ y : Str, y ≠ "__name__" → mb y = bootBuiltins y) (hsu : mg "super" = none)
    (hlim : s.heap.NoLimit) (hroom : A.depth < recursionLimit) (hus : us.length = fs.length) (hfl : fs.length ≤ 900)
    (hbind : ∀ fd : FuncData, (∃ oc od osl, K.lookup fI = some ⟨oc, od, .func fd, osl⟩) → BindsTo s fd args (("self", .ref x) :: fs.zip us)) (ox : s.heap.get? x = some (excO C t0)) (nx : K.lookup x = none)
    (q : ∀ h' t', ExAt s.heap h' s.heap.objs.size x C (fs.zip us).reverse → R (.ok (.ret .none)) { s with heap := h', toks := t' }) : codeAny (model prog w) A (.call (.ref fI) args) R s := by
  obtain ⟨oc, od, dV, kV, doc, pm, an, cda, ct, osl, cc, cl, cld, csl, ccl, cdd, ccs, vs, file, tf, hf, hcd, hcell, hcode, hvs, hfile⟩ := J.fn
  obtain ⟨p0, p1, p2, p3, p4, p5, k, tx, b, rfl, hS, hev⟩ := J.bod
  refine ks_codeAny_call_defAt hroom (X _ _ hf) rfl hlim (codeRec_of X hcd) rfl (hbind _ ⟨_, _, _, hf⟩) J.cel (fun y hy => ?_) (fun h1 hn kp => ?_) J.nco J.nge J.kin
  · rcases List.mem_cons.mp hy with rfl | hy
    · exact J.sse
    · exact (J.fie y.1 (List.of_mem_zip hy).1).1
  · obtain ⟨pl, he, hsw⟩ := hev s.heap.objs.size fI cda cc
    have par : ∃ ar, (params.posonlyargs ++ params.args).head? = some ar ∧ ar.arg = ("self" : Str) := by
      cases z : (params.posonlyargs ++ params.args).head? with
      | none => have y := J.par; rw [z] at y; cases y
      | some ar => have y := J.par; rw [z] at y; exact ⟨ar, rfl, Option.some.inj y⟩
    have hxL : x ≠ s.heap.objs.size := Nat.ne_of_lt (Heap.lt_size ox)
    have zf := zip_fst hus
    have nd : (((("self", Value.ref x) :: fs.zip us) : List (Str × Value)).reverse.map (·.1)).Nodup := by
      rw [List.map_reverse, List.map_cons, zf]
      refine (List.reverse_perm _).nodup_iff.mpr ?_
      exact List.nodup_cons.mpr ⟨fun z => (J.fie _ z).2.2.2 rfl, J.ndf⟩
    have mm : ∀ p ∈ ((("self", Value.ref x) :: fs.zip us) : List (Str × Value)), ((("self", Value.ref x) :: fs.zip us) : List (Str × Value)).reverse.lookup p.1 = some p.2 := fun p hp => lookup_nd nd (List.mem_reverse.mpr hp)
    refine ks_wpAt_execs_cons (superPart (X.keeps kp) (gl.keeps kp) (bl.keeps kp) hbb hsu hf par hcell hcode hvs hfile J.top T J.sup J.opa J.suB J.suC J.ssu J.scl J.sse J.kin hn (mm _ List.mem_cons_self) (kp _ _ ox) nx (fun h2 t2 t1 kp2 ex => ?_) he hsw)
    have kp3 : ∀ b o, b ≠ x → s.heap.get? b = some o → h2.get? b = some o := fun b o hb e => kp2 b o hb (kp b o e)
    obtain ⟨oL, eL, pL, e1, e2⟩ := hn
    refine PySem.wpAt_of_wpAny (storesRun (hb := s.heap) (env := ksEnv qual scope s.heap.objs.size fI (.ref cda) cc) T J.kin J.sse (mm _ List.mem_cons_self) nx hxL (Nat.le_refl _) (Heap.lt_size ox) X (fs.zip us) b [] _ (by rw [zf]; exact hS) (by have z := congrArg List.length zf; rw [List.length_map] at z; show 0 + _ ≤ 900; omega) (fun p hp => ?_) (fun a o e => kp3 a o (fun z => by rw [z, nx] at e; cases e) (X a o e)) ⟨oL, eL, pL, kp2 _ _ (Ne.symm hxL) e1, e2⟩ ⟨kp3, fun _ => ⟨t1, ex⟩, fun z => absurd rfl z⟩ fun h' t' D => ?_)
    · have y := J.fie p.1 (List.of_mem_zip hp).1
      exact ⟨y.1, y.2.1, mm p (List.mem_cons_of_mem _ hp), y.2.2.1⟩
    · rw [List.append_nil] at D
      exact q h' t' D
end
end XI

namespace XI
open PySem PySem.Spec PyProof.Rows L2
/-- the abstract heap behind C(..): the new exception at a, its own dict at d -/
def mkH (H : Hp) (a d C : Addr) : List (Str × V) → Hp
  | [] => upd H a (exo a C none)
  | p :: fl => upd (upd H d (exd d (p :: fl))) a (exo a C (some d))
theorem mkH_ne {H : Hp} {a d C b : Addr} : ∀ {fl : List (Str × V)}, b ≠ a → b ≠ d → mkH H a d C fl b = H b
  | [], h, _ => upd_ne h
  | _ :: _, h, h2 => (upd_ne h).trans (upd_ne h2)
theorem same_mk {H : Hp} {a d C : Addr} {fl : List (Str × V)} (ha : H a = none) (hd : H d = none) : Same H (mkH H a d C fl) := fun b o e => by
  rw [mkH_ne (ne_of_none e ha) (ne_of_none e hd)]
  exact e
theorem relO_zip {fs : List Str} : ∀ {vs : List V} {us : List Value}, Vals vs us → ∀ y, RelO ((fs.zip vs).reverse.lookup y) ((fs.zip us).reverse.lookup y) := by
  have key : ∀ (fs : List Str) (vs : List V) (us : List Value) (al : List (Str × V)) (bl : List (Str × Value)), Vals vs us → (∀ y, RelO (al.lookup y) (bl.lookup y)) → ∀ y, RelO (((fs.zip vs).reverse ++ al).lookup y) (((fs.zip us).reverse ++ bl).lookup y) := by
    intro fs
    induction fs with
    | nil => intro vs us al bl _ h y; exact h y
    | cons f fs ih =>
      intro vs us al bl r h y
      cases r with
      | nil => exact h y
      | cons rv rr =>
        simp only [List.zip_cons_cons, List.reverse_cons, List.append_assoc, List.singleton_append]
        refine ih _ _ _ _ rr (fun z => ?_) y
        rw [lookup_cons2, lookup_cons2]
        by_cases e : z = f
        · rw [if_pos e, if_pos e]; exact rv
        · rw [if_neg e, if_neg e]; exact h z
  intro vs us r y
  have z := key fs vs us [] [] r (fun _ => True.intro) y
  rw [List.append_nil, List.append_nil] at z
  exact z
theorem n21 (n : Nat) : n + 2 ≠ n + 1 := by omega
theorem n12 (n : Nat) : n + 1 ≤ n + 2 := by omega
theorem nlt {n m : Nat} (h : n + 2 < m) : n ≤ m := by omega
theorem nlt1 {n m : Nat} (h : n + 2 < m) : n + 1 ≤ m := by omega
section
variable {X : Cx} {pins : List (Addr × Obj)} {σ : L2.St} {H : Hp} {s : Shared} {C fI : Addr} {qual : Str} {params : Arguments} {body : List Stmt} {scope : Scope} {fs : List Str}
/-- C(us, ks = ws): what the parameters but self hold is vals -/
theorem mkE {us ws vals : List Value} {vs : List V} {ks : List Str} {Q : VK} {E : Value → Shared → Prop} (J : IniK X.prog X.K C fI qual params body scope fs) (T : OexC X.K C) (hsu : X.mg "super" = none) (hr : Room 1 X.A) (I : Inv X pins σ H s)
    (hl : us.length ≤ sizeLine) (r : Vals vs vals) (hv : vals.length = fs.length) (hfl : fs.length ≤ 900)
    (hbind : ∀ (s : Shared) (y : Value) (fd : FuncData), (∃ oc od osl, X.K.lookup fI = some ⟨oc, od, .func fd, osl⟩) → BindsTo s fd ⟨y :: us, ks.zip ws⟩ (("self", y) :: fs.zip vals))
    (q : ∀ a d, H a = none → H d = none → d ≠ a → Q (.ref a) (mkH H a d C (fs.zip vs).reverse)) : wpAny (model X.prog X.w) X.A (call (.ref C) us (ks.zip ws)) (EP X pins σ Q) E s := by
  obtain ⟨nm, qq, N, bs, bm, sn, sub, ab, col, dd, k0, k1, k2, k3, k5, hC, hbm⟩ := T.cls
  obtain ⟨hp, g, dr, tk, os⟩ := s
  have X0 := I.kIn
  have kp : ∀ b o, hp.get? b = some o → (two hp C us).get? b = some o := fun b o e => Heap.get?_push_of_some _ (Heap.get?_push_of_some _ e)
  have hsz : (two hp C us).objs.size = hp.objs.size + 2 := by rw [Heap.size_push, Heap.size_push]
  have hget : (two hp C us).get? (hp.objs.size + 1) = some (PySem.HandSPX.excO C hp.objs.size) := by heap_get
  have nx : X.K.lookup (hp.objs.size + 1) = none := by
    cases e : X.K.lookup (hp.objs.size + 1) with
    | none => rfl
    | some o => exact absurd (Nat.lt_of_succ_lt (Heap.lt_size (X0 _ _ e))) (Nat.lt_irrefl _)
  obtain ⟨mb, hb1, hb2⟩ := I.mod.blt
  have hn : H (hp.objs.size + 1) = none := I.hok.fresh (Nat.le_succ _)
  refine wpAny_call (callE PySem.F.excBase_ValueError (fun Y => PySem.HandSPX.refsVE_contains Y bm hbm) (X0 _ _ hC) (PySem.W.looks_findIn X0 J.ini) (fun self => PySem.W.bind_fn X0 self J.ity) hl
    (initE (s := ⟨two hp C us, g, dr, tk, os⟩) J T (X0.keeps kp) ((I.mod.glob.keeps I.bk).keeps kp) ((hb1.keeps I.bk).keeps kp) hb2 hsu (I.nolimit.keeps kp) (by have := hr.dp; show X.A.depth + 1 < _; omega) hv hfl (fun fd hfd => hbind _ _ fd hfd) hget nx fun h' t' D => ⟨rfl, ?_⟩))
  have K2 : ∀ b o, hp.get? b = some o → h'.get? b = some o := fun b o e => D.keep b o (Nat.ne_of_lt (Nat.lt_succ_of_lt (Heap.lt_size e))) (kp b o e)
  have neb : ∀ {b : Addr} {o : Obj}, hp.get? b = some o → b ≠ hp.objs.size + 1 := fun e => Nat.ne_of_lt (Nat.lt_succ_of_lt (Heap.lt_size e))
  have rel := relO_zip (fs := fs) r
  have done : ∀ (d : Addr) (H' : Hp), d ≠ hp.objs.size + 1 → H d = none → hp.objs.size + 1 ≤ d → (∀ b, b ≠ hp.objs.size + 1 → b ≠ d → H' b = H b) → HOk X.prog X.w H' h' → Q (.ref (hp.objs.size + 1)) H' →
      EP X pins σ Q (.ref (hp.objs.size + 1)) ⟨h', g, dr, t', os⟩ := fun d H' _ hd hdl hH hok q' => by
    have ned : ∀ {b : Addr} {o : Obj}, hp.get? b = some o → b ≠ d := fun e => Nat.ne_of_lt (Nat.lt_of_lt_of_le (Nat.lt_succ_of_lt (Heap.lt_size e)) hdl)
    have st : ∀ b o, H b = some o → H' b = some o := fun b o e => by
      rw [hH b (ne_of_none e hn) (ne_of_none e hd)]
      exact e
    refine ⟨.ref (hp.objs.size + 1), H', I.un (t' := t') (h' := h') ⟨fun b o e _ _ _ => K2 b o e, fun b o e _ _ _ => ⟨o.slots, K2 b o e⟩, fun b o e n _ => ?_, fun b o e _ => ⟨o, K2 b o e⟩, fun b xs e => st _ _ e, fun b o u e => st _ _ e, fun b ps e => ⟨#[], by rw [st _ _ e]; simp⟩⟩ hok, rfl, q'⟩
    rw [hH b (neb e) (ned e)]
    exact n
  have old : ∀ (H' : Hp), (∀ b o, H b = some o → H' b = some o) → ∀ b o, H b = some o → ObjOk X.prog X.w H' h' b o := fun H' st b o e =>
    (I.hok b o e).stay (fun c v _ z => K2 c v z) (fun c z => st _ _ z) fun c xs z => st _ _ z
  by_cases hfs : fs = []
  · subst hfs
    obtain ⟨t1, ho⟩ := D.some0 rfl
    have hd : H (hp.objs.size + 2) = none := I.hok.fresh (Nat.le_add_right _ 2)
    have q' := q (hp.objs.size + 1) (hp.objs.size + 2) hn hd (n21 _)
    have e0 : mkH H (hp.objs.size + 1) (hp.objs.size + 2) C (([] : List Str).zip vs).reverse = upd H (hp.objs.size + 1) (exo (hp.objs.size + 1) C none) := rfl
    rw [e0] at q'
    refine done (hp.objs.size + 2) _ (n21 _) hd (n12 _) (fun b h1 _ => upd_ne h1) (fun b o e => ?_) q'
    by_cases hb : b = hp.objs.size + 1
    · subst hb
      rw [upd_same] at e
      cases e
      exact exo_ok ho
    · rw [upd_ne hb] at e
      exact old _ (fun c u z => by rw [upd_ne (ne_of_none z hn)]; exact z) b o e
  · have hne : (fs.zip vals).reverse ≠ [] := fun z => by
      have z2 := congrArg List.length z
      rw [List.length_reverse, List.length_zip, hv, Nat.min_self] at z2
      exact hfs (List.length_eq_zero_iff.mp z2)
    obtain ⟨t1, dx, m0, ho, dn, dne, hns, hmap, hw⟩ := D.some1 hne
    have dn' : hp.objs.size + 2 < dx := by rw [← hsz]; exact dn
    have hd : H dx = none := I.hok.fresh (nlt dn')
    have q' := q (hp.objs.size + 1) dx hn hd dne
    have rel' : ∀ f, RelO ((fs.zip vs).reverse.lookup f) (m0 f) := fun f => by rw [hmap]; exact rel f
    cases hfl2 : (fs.zip vs).reverse with
    | nil =>
      have z2 := congrArg List.length hfl2
      rw [List.length_reverse, List.length_zip, r.length, hv, Nat.min_self] at z2
      exact absurd (List.length_eq_zero_iff.mp z2) hfs
    | cons p fl =>
      rw [hfl2] at q' rel'
      refine done dx _ dne hd (nlt1 dn') (fun b h1 h2 => (upd_ne h1).trans (upd_ne h2)) (fun b o e => ?_) q'
      by_cases hb : b = hp.objs.size + 1
      · subst hb
        have e' := upd_same.symm.trans e
        cases e'
        exact exo_ok ho
      · have e' := (upd_ne hb).symm.trans e
        by_cases hb2 : b = dx
        · subst hb2
          have e2 := upd_same.symm.trans e'
          cases e2
          exact exd_ok hns rel'
        · have e2 := (upd_ne hb2).symm.trans e'
          exact old _ (fun c u z => by
            show upd (upd H dx _) _ _ c = _
            rw [upd_ne (ne_of_none z hn), upd_ne (ne_of_none z hd)]
            exact z) b o e2
end
end XI

namespace XI
open PySem PySem.Spec PyProof.Rows L2
/-- an own exception class under its name, with the parameters fs of its __init__ (all stored) -/
structure EC (prog : Program) (K : PySem.W.Frag) (mg : Str → Option Value) (x : Str) (C : Addr) (fs : List Str) : Prop where
  ini : ∃ fI qual params body scope, IniK prog K C fI qual params body scope fs ∧
    (∀ (s : Shared) (y : Value) (fd : FuncData), (∃ oc od osl, K.lookup fI = some ⟨oc, od, .func fd, osl⟩) → ∀ us : List Value, us.length = fs.length → BindsTo s fd ⟨y :: us, []⟩ (("self", y) :: fs.zip us)) ∧
    ∀ (s : Shared) (y : Value) (fd : FuncData), (∃ oc od osl, K.lookup fI = some ⟨oc, od, .func fd, osl⟩) → ∀ (ks : List Str) (ws us : List Value), ks.length = ws.length → (ks.zip ws).Perm (fs.zip us) → us.length = fs.length → ks.length = fs.length → BindsTo s fd ⟨[y], ks.zip ws⟩ (("self", y) :: fs.zip us)
  oex : OexC K C
  gC : mg x = some (.ref C)
  su : mg "super" = none
  is : ExcC K C
  fl : fs.length ≤ 900
def tMkP (C : Addr) (fs : List Str) (t : TA) : TE := fun σ H Q => t σ H fun vs H1 => vs.length = fs.length ∧ ∀ a d, H1 a = none → H1 d = none → d ≠ a → Q (.ref a) (mkH H1 a d C (fs.zip vs).reverse)
def tMkK (C : Addr) (fs : List Str) (g : List V → List V) (t : TA) : TE := fun σ H Q => t σ H fun ws H1 => ∀ a d, H1 a = none → H1 d = none → d ≠ a → Q (.ref a) (mkH H1 a d C (fs.zip (g ws)).reverse)
section
variable {X : Cx} {x : Str} {C : Addr} {fs : List Str} {e : Expr} {es : List Expr} {kws : List Keyword} {t : TA} {te : TE} {p pos : Pos}
theorem lenOk {vs : List V} {us : List Value} {n : Nat} (r : Vals vs us) (h : vs.length = n) (hn : n ≤ 900) : us.length ≤ sizeLine := by
  rw [← r.length, h, sizeLine_eq]
  omega
theorem pe_excP (c : EC X.prog X.K X.mg x C fs) (hr : Room 1 X.A) (hg : Gl X x) (ha : PA X (e :: es) t) (hdb : (x == ("__debug__" : Str)) = false := by decide)
    (he : starEach (e :: es) X.env = (false, eval e X.env) :: starEach es X.env := by rfl) (hpl : (backTo pos (starEach es X.env)).any (·.1) = false := by rfl) : PE X (.Call (.Name x p) (e :: es) [] pos) (tMkP C fs t) := by
  obtain ⟨fI, qual, params, body, scope, J, b1, _⟩ := c.ini
  refine ⟨fun pins s σ H Q I h => ?_⟩
  refine wpAny_Call_Name_kw (ld_glob I hg c.gC ?_ hdb)
  refine PySem.W.callWith_K (h₀ := X.base) I.ok.mod.kin c.oex.kC (thn (ha.run pos pins s σ H _ I h) fun us s1 ⟨vs, H1, I1, r, hl, q⟩ => ⟨I1.kIn, ?_⟩) he hpl
  exact mkE (ks := []) (ws := []) J c.oex c.su hr I1 (lenOk r hl c.fl) r (r.length.symm.trans hl) c.fl (fun s y fd hf => b1 s y fd hf us (r.length.symm.trans hl)) q
theorem pe_exc0 (c : EC X.prog X.K X.mg x C []) (hr : Room 1 X.A) (hg : Gl X x) (hdb : (x == ("__debug__" : Str)) = false := by decide) : PE X (.Call (.Name x p) [] [] pos) (tMkP C [] tNil) := by
  obtain ⟨fI, qual, params, body, scope, J, b1, _⟩ := c.ini
  refine ⟨fun pins s σ H Q I h => ?_⟩
  refine wpAny_Call_Name_kw (ld_glob I hg c.gC ?_ hdb)
  refine PySem.W.callWith_K0 I.kIn c.oex.kC ?_
  exact mkE (ks := []) (ws := []) (us := []) (vs := []) (vals := []) J c.oex c.su hr I (Nat.zero_le _) .nil rfl (Nat.zero_le _) (fun s y fd hf => b1 s y fd hf [] rfl) h.2
theorem pe_excK {ks : List Str} {g : List V → List V} {gu : List Value → List Value} (c : EC X.prog X.K X.mg x C fs) (hr : Room 1 X.A) (hg : Gl X x) (hk : PK X kws t) (hall : (backToKw pos (keywordEach kws X.env)).all (·.1.isSome) = true := by rfl)
    (hks : (backToKw pos (keywordEach kws X.env)).filterMap (·.1) = ks := by rfl) (hkl : ks.length = fs.length := by rfl)
    (hgu : ∀ (vs : List V) (us : List Value), Vals vs us → us.length = fs.length → Vals (g vs) (gu us) ∧ (gu us).length = fs.length ∧ (ks.zip us).Perm (fs.zip (gu us))) (hdb : (x == ("__debug__" : Str)) = false := by decide)
    (hpl : ((backTo pos (starEach [] X.env)).any (·.1) || (backToKw pos (keywordEach kws X.env)).any (·.1.isNone)) = false := by rfl) :
    PE X (.Call (.Name x p) [] kws pos) (fun σ H Q => t σ H fun ws H1 => ws.length = fs.length ∧ ∀ a d, H1 a = none → H1 d = none → d ≠ a → Q (.ref a) (mkH H1 a d C (fs.zip (g ws)).reverse)) := by
  obtain ⟨fI, qual, params, body, scope, J, _, b2⟩ := c.ini
  refine ⟨fun pins s σ H Q I h => ?_⟩
  refine wpAny_Call_Name_kw (ld_glob I hg c.gC ?_ hdb)
  refine PySem.W.callWith_KW0 (h₀ := X.base) I.ok.mod.kin c.oex.kC hall (thn (hk.run pos pins s σ H _ I h) fun ws s1 ⟨vs, H1, I1, r, hl, q⟩ => ⟨I1.kIn, ?_⟩) hpl
  rw [hks]
  have e1 : ws.length = fs.length := r.length.symm.trans hl
  obtain ⟨r2, l2, pm⟩ := hgu vs ws r e1
  exact mkE (us := []) J c.oex c.su hr I1 (Nat.zero_le _) r2 l2 c.fl (fun s y fd hf => b2 s y fd hf ks ws (gu ws) (hkl.trans e1.symm) pm l2 hkl) q
/-- e.f, e an exception that was made -/
def tExf (K : PySem.W.Frag) (f : Str) (te : TE) : TE := fun σ H Q => te σ H fun y H1 => ∃ a C d fl v, y = .ref a ∧ H1 a = some (exo a C (some d)) ∧ H1 d = some (exd d fl) ∧ ExcC K C ∧ PySem.W.findIn K (.ref C) f = some none ∧ fl.lookup f = some v ∧ Q v H1
theorem inst_exo {pins : List (Addr × Obj)} {σ : L2.St} {H : Hp} {s : Shared} {a d : Addr} {fl : List (Str × V)} (I : Inv X pins σ H s) (ha : H a = some (exo a C (some d))) (hd : H d = some (exd d fl)) :
    ∃ (ox od : Obj) (mA : Str → Option Value), PySem.W.InstAt s.heap a ox C (some od) ∧ (∀ f, PySem.W.lookIn f od = some (mA f)) ∧ ∀ f, RelO (fl.lookup f) (mA f) := by
  obtain ⟨t1, ho⟩ := exo_at I.hok ha
  obtain ⟨mA, hns, rel⟩ := exd_at I.hok hd
  obtain ⟨od, e, hl⟩ := lookIn_ns hns
  exact ⟨_, od, mA, ⟨ho, rfl, rfl, e⟩, hl, rel⟩
theorem pe_exf {f : Str} (he : PE X e te) (hb : attributeBase e f X.env (eval e X.env) = eval e X.env := by rfl) : PE X (.Attribute e f pos) (tExf X.K f te) := by
  refine ⟨fun pins s σ H Q I h => ?_⟩
  refine attr_of hb (thn (he.run pins s σ H _ I h) fun u s1 hh => ?_)
  obtain ⟨y, H1, I1, ry, a, C, d, fl, v, rfl, ea, ed, T, hno, hv, q⟩ := hh
  obtain rfl : u = Value.ref a := ry
  obtain ⟨ox, od, mA, J, hl, rel⟩ := inst_exo I1 ea ed
  obtain ⟨u, hu, ru⟩ := RelO.some_of (v := v) (o := mA f) (by rw [← hv]; exact rel f)
  exact HandSPX.exc_get I1.kIn J T.hg T.hk T.hs (PySem.W.findObj_own T.hd hno rfl (by rw [hl, hu])) (handed_of ru) ⟨v, H1, I1.tok _, ru, q⟩
/-- isinstance(e, c), e an exception that was made -/
def rIsX (K : PySem.W.Frag) : List V → Hp → VK → Prop := fun xs H Q => ∃ (a C : Addr) (c : V) (u : Value) (b : Bool), xs = [.ref a, c] ∧ ClsV c u ∧ (H a = some (exo a C none) ∨ ∃ d fl, H a = some (exo a C (some d)) ∧ H d = some (exd d fl)) ∧ ExcC K C ∧ PySem.W.kitOne K (.ref C) u = some b ∧ Q (.bl b) H
theorem call_isX : CallR X (.builtin "isinstance") (rIsX X.K) := by
  intro pins s σ H xs us Q I r h
  obtain ⟨a, C, c, u, b, rfl, hc, hE, T, hk, q⟩ := h
  obtain ⟨u1, u2, rfl, r1, r2⟩ := vals2 r
  obtain rfl : u1 = Value.ref a := r1
  have e2 := hc.eq r2
  subst e2
  have cl : (PySem.W.clsIn X.K C).isSome = true := by
    obtain ⟨cd, h1, _⟩ := PySem.W.any_some T.hd
    rw [h1] <;> rfl
  have fin : ∀ {ox : Obj} {od : Option Obj}, PySem.W.InstAt s.heap a ox C od → wpAny (model X.prog X.w) X.A (call (.builtin "isinstance") [.ref a, u2]) (EP X pins σ Q) X.xe s := fun J =>
    PySem.W.kia_one (PySem.W.kitx_exc cl T.hg T.hk T.hs T.ha T.hn T.ht T.hm) I.kIn J hk (fun z => nomatch z) fun tk => ⟨.bl b, H, I.tok tk, rfl, q⟩
  rcases hE with ea | ⟨d, fl, ea, ed⟩
  · obtain ⟨t1, ho⟩ := exo_at I.hok ea
    exact fin (od := none) ⟨ho, rfl, rfl, trivial⟩
  · obtain ⟨ox, od, mA, J, _, _⟩ := inst_exo I ea ed
    exact fin J
end
end XI

namespace XI
open PySem PySem.Spec PyProof.Rows L2
/-- what stands of an exception's fields behind its making: nothing, or its own dict at d -/
def dH (H : Hp) (d : Addr) : List (Str × V) → Hp
  | [] => H
  | p :: fl => upd H d (.xd (p :: fl))
def dO (d : Addr) : List (Str × V) → Option Addr
  | [] => none
  | _ :: _ => some d
section
variable {X : Cx} {pins : List (Addr × Obj)} {σ : L2.St} {H : Hp} {s : Shared} {C fI : Addr} {qual : Str} {params : Arguments} {body : List Stmt} {scope : Scope} {fs : List Str}
/-- the making of an exception that is let go at once (to be raised) -/
theorem mkM {us ws vals : List Value} {vs : List V} {ks : List Str} {Q : XK} {E : Value → Shared → Prop} (J : IniK X.prog X.K C fI qual params body scope fs) (T : OexC X.K C) (hsu : X.mg "super" = none) (hr : Room 1 X.A) (I : Inv X pins σ H s)
    (hl : us.length ≤ sizeLine) (r : Vals vs vals) (hv : vals.length = fs.length) (hfl : fs.length ≤ 900)
    (hbind : ∀ (s : Shared) (y : Value) (fd : FuncData), (∃ oc od osl, X.K.lookup fI = some ⟨oc, od, .func fd, osl⟩) → BindsTo s fd ⟨y :: us, ks.zip ws⟩ (("self", y) :: fs.zip vals))
    (q : ∀ d, H d = none → Q (.ref C) (dO d (fs.zip vs).reverse) (dH H d (fs.zip vs).reverse)) : wpAny (model X.prog X.w) X.A (call (.ref C) us (ks.zip ws)) (MkP X pins σ Q) E s := by
  obtain ⟨nm, qq, N, bs, bm, sn, sub, ab, col, dd, k0, k1, k2, k3, k5, hC, hbm⟩ := T.cls
  obtain ⟨hp, g, dr, tk, os⟩ := s
  have X0 := I.kIn
  have kp : ∀ b o, hp.get? b = some o → (two hp C us).get? b = some o := fun b o e => Heap.get?_push_of_some _ (Heap.get?_push_of_some _ e)
  have hsz : (two hp C us).objs.size = hp.objs.size + 2 := by rw [Heap.size_push, Heap.size_push]
  have hget : (two hp C us).get? (hp.objs.size + 1) = some (PySem.HandSPX.excO C hp.objs.size) := by heap_get
  have nx : X.K.lookup (hp.objs.size + 1) = none := by
    cases e : X.K.lookup (hp.objs.size + 1) with
    | none => rfl
    | some o => exact absurd (Nat.lt_of_succ_lt (Heap.lt_size (X0 _ _ e))) (Nat.lt_irrefl _)
  obtain ⟨mb, hb1, hb2⟩ := I.mod.blt
  have hn : H (hp.objs.size + 1) = none := I.hok.fresh (Nat.le_succ _)
  refine wpAny_call (callE PySem.F.excBase_ValueError (fun Y => PySem.HandSPX.refsVE_contains Y bm hbm) (X0 _ _ hC) (PySem.W.looks_findIn X0 J.ini) (fun self => PySem.W.bind_fn X0 self J.ity) hl
    (initE (s := ⟨two hp C us, g, dr, tk, os⟩) J T (X0.keeps kp) ((I.mod.glob.keeps I.bk).keeps kp) ((hb1.keeps I.bk).keeps kp) hb2 hsu (I.nolimit.keeps kp) (by have := hr.dp; show X.A.depth + 1 < _; omega) hv hfl (fun fd hfd => hbind _ _ fd hfd) hget nx fun h' t' D => ⟨rfl, ?_⟩))
  have K2 : ∀ b o, hp.get? b = some o → h'.get? b = some o := fun b o e => D.keep b o (Nat.ne_of_lt (Nat.lt_succ_of_lt (Heap.lt_size e))) (kp b o e)
  have neb : ∀ {b : Addr} {o : Obj}, hp.get? b = some o → b ≠ hp.objs.size + 1 := fun e => Nat.ne_of_lt (Nat.lt_succ_of_lt (Heap.lt_size e))
  have rel := relO_zip (fs := fs) r
  obtain ⟨G, gk', gn'⟩ := restrict h' fun b => decide (b ≠ hp.objs.size + 1)
  have gk : ∀ b, b ≠ hp.objs.size + 1 → G.get? b = h'.get? b := fun b hb => gk' b (decide_eq_true hb)
  have ge : G.get? (hp.objs.size + 1) = none := gn' _ (by simp)
  have K3 : ∀ b o, hp.get? b = some o → G.get? b = some o := fun b o e => (gk b (neb e)).trans (K2 b o e)
  have sub : ∀ b o, G.get? b = some o → h'.get? b = some o := fun b o z => by
    by_cases hb : b = hp.objs.size + 1
    · rw [hb, ge] at z
      cases z
    · exact (gk b hb).symm.trans z
  have done : ∀ (d : Addr) (H' : Hp) (od : Option Addr) (tu : Addr), d ≠ hp.objs.size + 1 → H d = none → hp.objs.size + 1 ≤ d → (∀ b, b ≠ d → H' b = H b) → HOk X.prog X.w H' G → h'.get? (hp.objs.size + 1) = some ({ cls := .ref C, dict := od, data := .fields #[.ref tu, .none, .none, .none, .bool false, .none] } : Obj) → Q (.ref C) od H' →
      MkP X pins σ Q (.ref (hp.objs.size + 1)) ⟨h', g, dr, t', os⟩ := fun d H' od tu nd hd hdl hH hok ha q' => by
    have ned : ∀ {b : Addr} {o : Obj}, hp.get? b = some o → b ≠ d := fun e => Nat.ne_of_lt (Nat.lt_of_lt_of_le (Nat.lt_succ_of_lt (Heap.lt_size e)) hdl)
    have st : ∀ b o, H b = some o → H' b = some o := fun b o e => by
      rw [hH b (ne_of_none e hd)]
      exact e
    have J1 : Inv X pins σ H' ⟨G, g, dr, t', os⟩ := I.un (t' := t') (h' := G) ⟨fun b o e _ _ _ => K3 b o e, fun b o e _ _ _ => ⟨o.slots, K3 b o e⟩, fun b o e n _ => by rw [hH b (ned e)]; exact n, fun b o e _ => ⟨o, K3 b o e⟩, fun b xs e => st _ _ e, fun b o u e => st _ _ e, fun b ps e => ⟨#[], by rw [st _ _ e]; simp⟩⟩ hok
    refine ⟨hp.objs.size + 1, _, _, ⟨G, g, dr, t', os⟩, H', .ref C, od, rfl, J1, sub, ge, ha, ⟨rfl, rfl⟩, rfl, rfl, ?_, rfl, J1.bare, raises_own T.exC T.tyC, q'⟩
    rw [hH _ nd.symm]
    exact hn
  have old : ∀ (H' : Hp), (∀ b o, H b = some o → H' b = some o) → ∀ b o, H b = some o → ObjOk X.prog X.w H' G b o := fun H' st b o e =>
    (I.hok b o e).stay (fun c v _ z => K3 c v z) (fun c z => st _ _ z) fun c xs z => st _ _ z
  by_cases hfs : fs = []
  · subst hfs
    obtain ⟨t1, ho⟩ := D.some0 rfl
    have hd : H (hp.objs.size + 2) = none := I.hok.fresh (Nat.le_add_right _ 2)
    exact done (hp.objs.size + 2) H none t1 (n21 _) hd (n12 _) (fun b _ => rfl) (fun b o e => old _ (fun c u z => z) b o e) ho (q (hp.objs.size + 2) hd)
  · have hne : (fs.zip vals).reverse ≠ [] := fun z => by
      have z2 := congrArg List.length z
      rw [List.length_reverse, List.length_zip, hv, Nat.min_self] at z2
      exact hfs (List.length_eq_zero_iff.mp z2)
    obtain ⟨t1, dx, m0, ho, dn, dne, hns, hmap, hw⟩ := D.some1 hne
    have dn' : hp.objs.size + 2 < dx := by rw [← hsz]; exact dn
    have hd : H dx = none := I.hok.fresh (nlt dn')
    have q' := q dx hd
    have rel' : ∀ f, RelO ((fs.zip vs).reverse.lookup f) (m0 f) := fun f => by rw [hmap]; exact rel f
    cases hfl2 : (fs.zip vs).reverse with
    | nil =>
      have z2 := congrArg List.length hfl2
      rw [List.length_reverse, List.length_zip, r.length, hv, Nat.min_self] at z2
      exact absurd (List.length_eq_zero_iff.mp z2) hfs
    | cons p fl =>
      rw [hfl2] at q' rel'
      refine done dx _ (some dx) t1 dne hd (nlt1 dn') (fun b h2 => upd_ne h2) (fun b o e => ?_) ho q'
      by_cases hb2 : b = dx
      · subst hb2
        have e2 := upd_same.symm.trans e
        cases e2
        exact ⟨m0, hns.at fun o y => (gk b dne).trans y, rel'⟩
      · have e2 := (upd_ne hb2).symm.trans e
        exact old _ (fun c u z => by
          show upd H dx _ c = _
          rw [upd_ne (ne_of_none z hd)]
          exact z) b o e2
end
section
variable {X : Cx} {x : Str} {C : Addr} {fs : List Str} {e : Expr} {es : List Expr} {t : TA} {p pos : Pos}
/-- raise C(e, ..) -/
theorem pmk_X (c : EC X.prog X.K X.mg x C fs) (hr : Room 1 X.A) (hg : Gl X x) (ha : PA X (e :: es) t) (hdb : (x == ("__debug__" : Str)) = false := by decide)
    (he : starEach (e :: es) X.env = (false, eval e X.env) :: starEach es X.env := by rfl) (hpl : (backTo pos (starEach es X.env)).any (·.1) = false := by rfl) :
    PMk X (.Call (.Name x p) (e :: es) [] pos) (fun σ H Q => t σ H fun vs H1 => vs.length = fs.length ∧ ∀ d, H1 d = none → Q (.ref C) (dO d (fs.zip vs).reverse) (dH H1 d (fs.zip vs).reverse)) := by
  intro pins s σ H Q I h
  obtain ⟨fI, qual, params, body, scope, J, b1, _⟩ := c.ini
  refine wpAny_Call_Name_kw (ld_glob I hg c.gC ?_ hdb)
  refine PySem.W.callWith_K (h₀ := X.base) I.ok.mod.kin c.oex.kC (thn (ha.run pos pins s σ H _ I h) fun us s1 ⟨vs, H1, I1, r, hl, q⟩ => ⟨I1.kIn, ?_⟩) he hpl
  exact mkM (ks := []) (ws := []) J c.oex c.su hr I1 (lenOk r hl c.fl) r (r.length.symm.trans hl) c.fl (fun s y fd hf => b1 s y fd hf us (r.length.symm.trans hl)) q
theorem pmk_X0 (c : EC X.prog X.K X.mg x C []) (hr : Room 1 X.A) (hg : Gl X x) (hdb : (x == ("__debug__" : Str)) = false := by decide) : PMk X (.Call (.Name x p) [] [] pos) (fun _ H Q => Q (.ref C) none H) := by
  intro pins s σ H Q I h
  obtain ⟨fI, qual, params, body, scope, J, b1, _⟩ := c.ini
  refine wpAny_Call_Name_kw (ld_glob I hg c.gC ?_ hdb)
  refine PySem.W.callWith_K0 I.kIn c.oex.kC ?_
  exact mkM (ks := []) (ws := []) (us := []) (vs := []) (vals := []) J c.oex c.su hr I (Nat.zero_le _) .nil rfl (Nat.zero_le _) (fun s y fd hf => b1 s y fd hf [] rfl) fun d _ => h
end
end XI

/-! a method called, an object made, in a try -/
namespace XI
open PySem PySem.Spec PyProof.Rows L2
section
variable {X : Cx} {CX : CXT} {k : Nat} {f C : Addr} {fd : FuncData} {ps : List Str} {sp : Sp} {E : L2.St → XK} {x m : Str} {p pos apos : Pos} {e o : Expr} {es : List Expr} {ta : TE} {t : TA}
def tMethS (C : Addr) (m : Str) (sp : Sp) (E : L2.St → XK) (ta : TE) (t : TA) : TE := fun σ H Q => ta σ H fun x H1 => ∃ a dx fs, x = .ref a ∧ H1 a = some (.ins C dx fs) ∧ fs.lookup m = none ∧ t σ H1 fun vs H2 => sp (x :: vs) H2 Q (E σ)
theorem pe_methS {pl : Sem Bool} (he : PE X o ta) (c : Cls X.K C) (hm : Meth X.K C m f) (F : FnOk X.prog X.w X.K X.mg X.base CX k f fd ps sp) (hr : Room k X.A) (hb : Binds X.K fd ps []) (hx : ∀ σ, PassesAt CX X σ (E σ)) (ha : PA X (e :: es) t)
    (hst : starEach (e :: es) X.env = (false, eval e X.env) :: starEach es X.env := by rfl) (hpl : (backTo pos (starEach es X.env)).any (·.1) = false := by rfl)
    (ht : eval (.Call (.Attribute o m apos) (e :: es) [] pos) X.env = (do
      let ov ← eval o X.env; standAt apos.atName
      let (g, first) ← holding [ov] (getMethod ov m pl)
      callWith pos g first (backTo pos (starEach (e :: es) X.env)) (backToKw pos (keywordEach [] X.env))) := by rfl) : PE X (.Call (.Attribute o m apos) (e :: es) [] pos) (tMethS C m sp E ta t) := by
  refine ⟨fun pins s σ H Q I h => PySem.W.methodCall_KW (pl := pl) (thn (he.run pins s σ H _ I h) fun u s1 hh => ?_) ht⟩
  obtain ⟨y, H1, I1, ry, a, dx, fs, rfl, ea, l, q⟩ := hh
  obtain rfl : u = Value.ref a := ry
  refine getmeth_ok I1 ea c hm l (PySem.W.callWith_K (first := [.ref a]) (h₀ := X.base) I.ok.mod.kin hm.kp (thn (ha.run pos pins s1 σ H1 _ I1 q) fun us s2 hh2 => ?_) hst hpl)
  obtain ⟨vs, H2, I2, r, q2⟩ := hh2
  exact ⟨I2.kIn, run_fnS (us := .ref a :: us) (vs := .ref a :: vs) F hr hb (hx σ) I2 (.cons rfl r) q2⟩
def tMakeS (C : Addr) (sp : Sp) (E : L2.St → XK) (t : TA) : TE := fun σ H Q => t σ H fun vs H1 => ∀ y dx, H1 y = none → H1 dx = none → dx ≠ y → sp (.ref y :: vs) (upd (upd H1 dx (.own y)) y (.ins C dx [])) (fun v H2 => v = .non ∧ Q (.ref y) H2) (E σ)
theorem run_makeS {pins : List (Addr × Obj)} {σ : L2.St} {H : Hp} {s : Shared} {Q : VK} {us : List Value} {vs : List V} (M : Mk X.K C f) (F : FnOk X.prog X.w X.K X.mg X.base CX k f fd ps sp) (hr : Room (k + 1) X.A) (hb : Binds X.K fd ps [])
    (hx : PassesAt CX X σ (E σ)) (I : Inv X pins σ H s) (r : Vals vs us)
    (h : ∀ y dx, H y = none → H dx = none → dx ≠ y → sp (.ref y :: vs) (upd (upd H dx (.own y)) y (.ins C dx [])) (fun v H2 => v = .non ∧ Q (.ref y) H2) (E σ)) : wpAny (model X.prog X.w) X.A (call (.ref C) us) (EP X pins σ Q) X.xe s := by
  obtain ⟨N, hN⟩ : ∃ N, N = s.heap.objs.size := ⟨_, rfl⟩
  have q0 := h (s.heap.objs.size + 1) s.heap.objs.size (I.hok.fresh (Nat.le_succ _)) (I.hok.fresh (Nat.le_refl _)) (Nat.ne_of_lt (Nat.lt_succ_self _))
  have I2 := Inv.made (C := C) I
  have r2 : Vals (V.ref (s.heap.objs.size + 1) :: vs) (Value.ref (s.heap.objs.size + 1) :: us) := .cons rfl r
  have hl : (Value.ref (s.heap.objs.size + 1) :: us).length = ps.length := by rw [← r2.length, F.len _ _ _ _ q0]
  have hb2 := hb _ (Value.ref (s.heap.objs.size + 1) :: us) I2.kIn (by rw [List.append_nil]; exact hl)
  rw [List.append_nil] at hb2
  refine wpAny_call (make_map (f := f) I.kIn M.makes M.init (beq_iff_eq.mp M.fn) (codeAny_mono (F.run _ X.stack _ _ ⟨_, []⟩ _ _ _ (E σ) (hr.make C us []) (I2.env0.make C us []) hb2 r2 q0) fun r s' hq' => ?_))
  cases r with
  | error er => exact hx pins _ _ er s' I2 hq'
  | ok fl =>
    cases fl with
    | ret u =>
      obtain ⟨v, H', I3, rv, ev, q3⟩ := I2.after hq'
      subst ev
      exact ⟨rv, ⟨V.ref (s.heap.objs.size + 1), H', I3, rfl, q3⟩⟩
    | next => exact hq'.elim
    | brk => exact hq'.elim
    | cont => exact hq'.elim
theorem pe_makeS (M : Mk X.K C f) (F : FnOk X.prog X.w X.K X.mg X.base CX k f fd ps sp) (hr : Room (k + 1) X.A) (hg : Gl X x) (hm : X.mg x = some (.ref C)) (hb : Binds X.K fd ps []) (hx : ∀ σ, PassesAt CX X σ (E σ)) (ha : PA X (e :: es) t)
    (hdb : (x == ("__debug__" : Str)) = false := by decide) (he : starEach (e :: es) X.env = (false, eval e X.env) :: starEach es X.env := by rfl) (hpl : (backTo pos (starEach es X.env)).any (·.1) = false := by rfl) :
    PE X (.Call (.Name x p) (e :: es) [] pos) (tMakeS C sp E t) := by
  refine ⟨fun pins s σ H Q I h => wpAny_Call_Name_kw (ld_glob I hg hm ?_ hdb)⟩
  refine PySem.W.callWith_K (h₀ := X.base) I.ok.mod.kin M.kp (thn (ha.run pos pins s σ H _ I h) fun us s1 hh => ?_) he hpl
  obtain ⟨vs, H1, I1, r, q⟩ := hh
  exact ⟨I1.kIn, run_makeS M F hr hb (hx σ) I1 r q⟩
end
end XI

namespace K9
open PySem PySem.Spec PyProof.Rows L2 C8 XE XR TX XI
/-! class Rule: its __init__, of any arguments -/
def clsBody (s : Stmt) : List Stmt := match s with
  | .ClassDef (body := b) .. => b
  | _ => []
def mthR (j : Nat) : Stmt := (clsBody (top 24)).getD j (.Pass ⟨0, 0, 0, 0⟩)
abbrev sRI : Stmt := mthR 0
abbrev NRI : List Str := ["self", "left", "right", "kinds", "bars", "wrong", "hole", "labels"]
theorem scRI : FnScope NRI ["self", "left", "right", "kinds", "bars"] (fnScope sRI) := fnScope_by (by decide +kernel)
structure Blt7 (mg : Str → Option Value) : Prop extends Blt4 mg where
  any : mg "any" = none
  set : mg "set" = none
  srt : mg "sorted" = none
/-- the words of a list as data -/
def wsOf : D → List Str
  | .sq xs => xs.filterMap fun | .fl (.str z) => some z | _ => none
  | _ => []
theorem wl_ws : ∀ {xs : List D}, xs.all wordB = true → xs = ((wsOf (.sq xs)).map fun z => D.fl (.str z)) ∧ ∀ z ∈ wsOf (.sq xs), wordS z = true
  | [], _ => ⟨rfl, fun z hz => by cases hz⟩
  | x :: xs, h => by
    rw [List.all_cons, Bool.and_eq_true] at h
    obtain ⟨h1, h2⟩ := wl_ws h.2
    cases hx : isSt x with
    | false =>
      have := h.1
      rw [wordB_no hx] at this
      cases this
    | true =>
      obtain ⟨z, rfl⟩ := isSt_inv hx
      have e : wsOf (.sq (.fl (.str z) :: xs)) = z :: wsOf (.sq xs) := rfl
      rw [e]
      refine ⟨by rw [List.map_cons, ← h1], fun y hy => ?_⟩
      rcases List.mem_cons.mp hy with rfl | hy
      · exact h.1
      · exact h2 y hy
theorem wl_inv {d : D} (h : wlB d = true) : d = .sq ((wsOf d).map fun z => D.fl (.str z)) ∧ ∀ z ∈ wsOf d, wordS z = true := by
  unfold wlB at h
  split at h
  · rename_i xs
    obtain ⟨h1, h2⟩ := wl_ws h
    exact ⟨congrArg D.sq h1, h2⟩
  · cases h
theorem dats_strs_inv {F : Addr → Prop} {H : Hp} : ∀ {xs : List Str} {vs : List V}, DAts F H vs (xs.map fun z => D.fl (.str z)) → vs = xs.map V.str
  | [], [], _ => rfl
  | z :: xs, v :: vs, ⟨⟨e, _⟩, t⟩ => by rw [e, dats_strs_inv t]; rfl
  | [], _ :: _, h => h.elim
  | _ :: _, [], h => h.elim
def ksOf : KA → List (Str × List Str)
  | .k es => es.filterMap fun e => match e.1 with
    | .inr z => some (z, wsOf e.2)
    | .inl _ => none
  | .d _ => []
  | .t _ => []
/-- an entry of right kinds or bars -/
def WF (F : Addr → Prop) (H : Hp) (kv : Key × V) (q : Str × List Str) : Prop := kv.1 = .inr q.1 ∧ ∃ l, kv.2 = .ref l ∧ (H l = some (.tup (q.2.map V.str)) ∨ (F l ∧ H l = some (.lst (q.2.map V.str))))
structure KP (hs : List Str) (ks : List (Str × List Str)) : Prop where
  nd : (ks.map fun q => q.1).Nodup
  mem : ∀ q ∈ ks, q.1 ∈ hs ∧ q.2.length ≤ 60 ∧ ∀ z ∈ q.2, wordS z = true
theorem szs_strs : ∀ xs : List Str, szs (xs.map fun z => D.fl (.str z)) = xs.length
  | [] => rfl
  | z :: xs => by rw [List.map_cons, szs, sz, szs_strs xs, List.length_cons]; omega
def KA.few : KA → Prop
  | .d _ => True
  | .k es => (es.map fun e => e.1).Nodup ∧ ∀ e ∈ es, sz e.2 ≤ 61
  | .t _ => True
theorem ks_es {F : Addr → Prop} {H : Hp} {hs : List Str} : ∀ {kvs : List (Key × V)} {es : List (Key × D)}, Paired (KE F H) kvs es → es.all (entB hs) = true → (es.map fun e => e.1).Nodup → (∀ e ∈ es, sz e.2 ≤ 61) →
    Paired (WF F H) kvs (ksOf (.k es)) ∧ KP hs (ksOf (.k es)) ∧ ∀ z ∈ (ksOf (.k es)).map fun q => q.1, Sum.inr z ∈ es.map fun e => e.1
  | _, _, .nil, _, _, _ => ⟨.nil, ⟨List.nodup_nil, fun q hq => by cases hq⟩, fun z hz => by cases hz⟩
  | kv :: kvs, e :: es, .cons ⟨e1, e2⟩ t, h, nd, sm => by
    rw [List.all_cons, Bool.and_eq_true] at h
    rw [List.map_cons, List.nodup_cons] at nd
    obtain ⟨i1, i2, i3⟩ := ks_es t h.2 nd.2 fun e he => sm e (List.mem_cons_of_mem _ he)
    obtain ⟨k, d⟩ := e
    have h1 := h.1
    unfold entB at h1
    rw [Bool.and_eq_true] at h1
    cases k with
    | inl i => cases h1.1
    | inr z =>
      obtain ⟨w1, w2⟩ := wl_inv h1.2
      dsimp only at e1 e2 w1 w2
      have ek : ksOf (.k ((.inr z, d) :: es)) = (z, wsOf d) :: ksOf (.k es) := rfl
      rw [ek]
      rw [w1] at e2
      obtain ⟨a, vs, ev, q, _, hvs⟩ := e2
      obtain rfl := dats_strs_inv hvs
      have hz := sm (.inr z, d) List.mem_cons_self
      dsimp only at hz
      rw [w1, sz, szs_strs] at hz
      refine ⟨.cons ⟨e1, a, ev, q⟩ i1, ⟨?_, fun q hq => ?_⟩, fun y hy => ?_⟩
      · rw [List.map_cons, List.nodup_cons]
        exact ⟨fun hy => nd.1 (i3 _ hy), i2.nd⟩
      · rcases List.mem_cons.mp hq with rfl | hq
        · exact ⟨of_decide_eq_true h1.1, by dsimp only; omega, w2⟩
        · exact i2.mem q hq
      · rw [List.map_cons] at hy ⊢
        rcases List.mem_cons.mp hy with rfl | hy
        · exact List.mem_cons_self
        · exact List.mem_cons_of_mem _ (i3 y hy)
theorem ks_right {F : Addr → Prop} {H : Hp} {v : V} {hs : List Str} {a : KA} (h : labsB hs a = true) (hv : KAt F H v a) (sm : a.few) : KP hs (ksOf a) ∧ ∃ r kvs, v = .ref r ∧ H r = some (.dK kvs) ∧ Paired (WF F H) kvs (ksOf a) := by
  cases a with
  | d x =>
    cases x with
    | emp =>
      obtain ⟨r, e, q⟩ := hv
      exact ⟨⟨List.nodup_nil, fun q hq => by cases hq⟩, r, [], e, q, .nil⟩
    | fl x => cases h
    | sq x => cases h
  | t es => cases h
  | k es =>
    obtain ⟨r, kvs, e, q, p⟩ := hv
    obtain ⟨h1, h2, _⟩ := ks_es p h sm.1 sm.2
    exact ⟨h2, r, kvs, e, q, h1⟩
/-- the words of a hole -/
def kwOf (ks : List (Str × List Str)) (z : Str) : Option (List Str) := (ks.find? fun q => q.1 == z).map fun q => q.2
theorem kwOf_new {ks : List (Str × List Str)} {q : Str × List Str} (h : q.1 ∉ ks.map fun q => q.1) : kwOf (ks ++ [q]) q.1 = some q.2 := by
  unfold kwOf
  have e : ks.find? (fun r => r.1 == q.1) = none := List.find?_eq_none.mpr fun r hr e => h (by rw [← beq_iff_eq.mp e]; exact List.mem_map_of_mem hr)
  rw [List.find?_append, e, Option.none_or, List.find?_cons_of_pos (by simp)]
  rfl
theorem kwOf_old {ks : List (Str × List Str)} {q : Str × List Str} {z : Str} (h : z ≠ q.1) : kwOf (ks ++ [q]) z = kwOf ks z := by
  unfold kwOf
  have e : [q].find? (fun r => r.1 == z) = none := List.find?_eq_none.mpr fun r hr e => by
    rw [List.mem_singleton.mp hr] at e
    exact h (beq_iff_eq.mp e).symm
  rw [List.find?_append, e, Option.or_none]
/-- an entry of a rule's dict -/
def Ent (G : Hp → Option (List Str) → V → Prop) (H : Hp) (ks : List (Str × List Str)) (kv : Key × V) (z : Str) : Prop := kv.1 = .inr z ∧ G H (kwOf ks z) kv.2
def TupOf (H : Hp) (ws : List Str) (v : V) : Prop := ∃ (t : Addr) (ys : List Str), v = .ref t ∧ H t = some (.tup (ys.map V.str)) ∧ ys.length ≤ 100 ∧ (∀ y, y ∈ ys ↔ y ∈ ws) ∧ sortedS ys = true ∧ ys.Nodup
def GK (H : Hp) (o : Option (List Str)) (v : V) : Prop := match o with
  | none => v = .non
  | some ws => TupOf H ws v
def GB (H : Hp) (o : Option (List Str)) (v : V) : Prop := TupOf H (o.getD []) v
/-- tuples stay -/
def TK (H H' : Hp) : Prop := ∀ a vs, H a = some (.tup vs) → H' a = some (.tup vs)
theorem TK.of {H H' : Hp} (s : Same H H') : TK H H' := fun a vs e => s _ _ e
theorem TupOf.tk {H H' : Hp} (s : TK H H') {ws : List Str} {v : V} (h : TupOf H ws v) : TupOf H' ws v := let ⟨t, ys, e, q, r⟩ := h; ⟨t, ys, e, s _ _ q, r⟩
theorem GK.tk {H H' : Hp} (s : TK H H') {o : Option (List Str)} {v : V} (h : GK H o v) : GK H' o v := by
  cases o with
  | none => exact h
  | some ws => exact TupOf.tk s h
theorem GB.tk {H H' : Hp} (s : TK H H') {o : Option (List Str)} {v : V} (h : GB H o v) : GB H' o v := TupOf.tk s h
theorem paired_mem {α β : Type} {R : α → β → Prop} : ∀ {xs : List α} {ys : List β}, Paired R xs ys → ∀ y ∈ ys, ∃ x ∈ xs, R x y
  | _, _, .nil, y, h => by cases h
  | x :: _, z :: _, .cons r t, y, h => by
    rcases List.mem_cons.mp h with rfl | h
    · exact ⟨x, List.mem_cons_self, r⟩
    · obtain ⟨x', hx, r'⟩ := paired_mem t y h
      exact ⟨x', List.mem_cons_of_mem _ hx, r'⟩
theorem paired_map {α β : Type} {R R' : α → β → Prop} {f : α → α} (g : ∀ x y, R x y → R' (f x) y) : ∀ {xs : List α} {ys : List β}, Paired R xs ys → Paired R' (xs.map f) ys
  | _, _, .nil => .nil
  | _, _, .cons r t => .cons (g _ _ r) (paired_map g t)
theorem ent_put {G : Hp → Option (List Str) → V → Prop} {H : Hp} {ks : List (Str × List Str)} {q : Str × List Str} {kd : List (Key × V)} {hs : List Str} {v : V} (h : Paired (Ent G H ks) kd hs) (hq : q.1 ∈ hs) (hn : q.1 ∉ ks.map fun q => q.1) (hv : G H (some q.2) v) :
    Paired (Ent G H (ks ++ [q])) (putK kd (.inr q.1) v) hs := by
  obtain ⟨kv, hkv, e, _⟩ := paired_mem h q.1 hq
  unfold putK
  rw [if_pos (List.any_eq_true.mpr ⟨kv, hkv, decide_eq_true e⟩)]
  refine paired_map (fun kv z ⟨e, g⟩ => ?_) h
  by_cases hz : z = q.1
  · rw [if_pos (by rw [e, hz])]
    exact ⟨e, by rw [hz, kwOf_new hn]; exact hv⟩
  · rw [if_neg (fun e' => hz (by rw [e] at e'; exact Sum.inr.inj e'))]
    exact ⟨e, by rw [kwOf_old hz]; exact g⟩
theorem ent_none {G : Hp → Option (List Str) → V → Prop} {H : Hp} {ks : List (Str × List Str)} {z : Str} : ∀ {kd : List (Key × V)} {hs : List Str}, Paired (Ent G H ks) kd hs → z ∉ hs → valV kd (.inr z) = none
  | _, _, .nil, _ => rfl
  | _, _, .cons ⟨e, _⟩ t, h => by
    rw [List.mem_cons] at h
    rw [valV_neg (fun e' => h (.inl (by rw [e] at e'; exact (Sum.inr.inj e').symm)))]
    exact ent_none t fun x => h (.inr x)
theorem ent_some {G : Hp → Option (List Str) → V → Prop} {H : Hp} {ks : List (Str × List Str)} {z : Str} : ∀ {kd : List (Key × V)} {hs : List Str}, Paired (Ent G H ks) kd hs → z ∈ hs → ∃ v, valV kd (.inr z) = some v ∧ G H (kwOf ks z) v
  | _, _, .nil, h => by cases h
  | kv :: _, y :: _, .cons ⟨e, g⟩ t, h => by
    by_cases hz : y = z
    · rw [hz] at e g
      exact ⟨_, valV_pos e, g⟩
    · obtain ⟨v, e1, e2⟩ := ent_some t ((List.mem_cons.mp h).resolve_left fun e => hz e.symm)
      exact ⟨v, by rw [valV_neg (fun e' => hz (by rw [e] at e'; exact Sum.inr.inj e'))]; exact e1, e2⟩
/-- a dict comprehension by an invariant -/
theorem dc_gen {J : It} {g : TG} {tt : TT} {tk tv : TE} {vs : List Nat} {σ : L2.St} {H1 : Hp} {D : Addr} {Qd : Hp → Prop} (n : Nat) (Pv : Nat → Hp → Prop) (h0 : Pv 0 (upd H1 D (.dK []))) (hgo : ∀ i H, i < n → Pv i H → J.go i H) (hst : ∀ H, Pv n H → J.stop n H)
    (hs : ∀ i H x H', i < n → Pv i H → J.yld i H x H' → g x (wipe σ vs) H' fun σ2 H2 => wipe σ2 vs = wipe σ vs ∧ tt σ2 H2 fun b H3 =>
      if b = true then tk σ2 H3 fun y H4 => tv σ2 H4 fun z H5 => ∃ kvs k, y = kV k ∧ H5 D = some (.dK kvs) ∧ kvs.length < sizeLine ∧ Pv (i + 1) (upd H5 D (.dK (putK kvs k z))) else Pv (i + 1) H3) (hd : ∀ H, Pv n H → Qd H) :
    ∃ W : Nat → Nat → Hp → Prop, (∃ m, W 0 m (upd H1 D (.dK []))) ∧ ∀ i m H, W i m H →
      (J.stop i H ∧ Qd H) ∨ (J.go i H ∧ ∃ Nx : Hp → Prop, (∀ H', Nx H' → ∃ m', m' < m ∧ W (i + 1) m' H') ∧ ∀ x H', J.yld i H x H' → g x (wipe σ vs) H' fun σ2 H2 => wipe σ2 vs = wipe σ vs ∧ tt σ2 H2 fun b H3 =>
        if b = true then tk σ2 H3 fun y H4 => tv σ2 H4 fun z H5 => ∃ kvs k, y = kV k ∧ H5 D = some (.dK kvs) ∧ kvs.length < sizeLine ∧ Nx (upd H5 D (.dK (putK kvs k z))) else Nx H3) := by
  refine ⟨fun i m H => m + i = n ∧ Pv i H, ⟨n, rfl, h0⟩, ?_⟩
  rintro i m H ⟨hm, p⟩
  by_cases hi : i < n
  · exact .inr ⟨hgo i H hi p, Pv (i + 1), fun H' p' => ⟨m - 1, by omega, by omega, p'⟩, fun x H' y => hs i H x H' hi p y⟩
  · obtain rfl : i = n := by omega
    exact .inl ⟨hst H p, hd H p⟩
/-- a rule -/
def RuleW (H : Hp) (x C ka ba : Addr) (d1 d2 : D) (ks bs : List (Str × List Str)) : Prop := ∃ dx v1 v2 kd bd, H x = some (.ins C dx [("left", v1), ("right", v2), ("kinds", .ref ka), ("bars", .ref ba)]) ∧ DAt nol H v1 d1 ∧ DAt nol H v2 d2 ∧
  H ka = some (.dK kd) ∧ Paired (Ent GK H ks) kd (hnm d1) ∧ H ba = some (.dK bd) ∧ Paired (Ent GB H bs) bd (hnm d1)
def RuleAt (H : Hp) (x C : Addr) (d1 d2 : D) (ks bs : List (Str × List Str)) : Prop := ∃ ka ba, RuleW H x C ka ba d1 d2 ks bs
/-- a rule with new dicts -/
def RuleN (H0 H : Hp) (x C : Addr) (d1 d2 : D) (ks bs : List (Str × List Str)) : Prop := ∃ ka ba, H0 ka = none ∧ H0 ba = none ∧ RuleW H x C ka ba d1 d2 ks bs
theorem RuleN.at {H0 H : Hp} {x C : Addr} {d1 d2 : D} {ks bs : List (Str × List Str)} (h : RuleN H0 H x C d1 d2 ks bs) : RuleAt H x C d1 d2 ks bs := let ⟨ka, ba, _, _, h⟩ := h; ⟨ka, ba, h⟩
/-- what makes a rule -/
structure ROk (d1 d2 : D) (ks bs : List (Str × List Str)) : Prop where
  h1 : isSh d1 = true
  q1 : isSt d1 = false
  k : ("keep" : Str) ∉ lnm d1
  nd : (hnm d1).Nodup
  s1 : sz d1 ≤ 900
  h2 : isSh d2 = true
  s2 : sz d2 ≤ 900
  sub : ∀ z ∈ hnm d2, z ∈ hnm d1
  o1 : KP (hnm d1) ks
  o2 : KP (hnm d1) bs
theorem sub_len : ∀ (l m : List Str), l.Nodup → (∀ z ∈ l, z ∈ m) → l.length ≤ m.length
  | [], _, _, _ => Nat.zero_le _
  | z :: l, m, nd, s => by
    have hz := s z List.mem_cons_self
    rw [List.nodup_cons] at nd
    have := sub_len l (m.erase z) nd.2 fun y hy => (List.mem_erase_of_ne fun e => nd.1 (by rw [← e]; exact hy)).mpr (s y (List.mem_cons_of_mem _ hy))
    have hm : 0 < m.length := List.length_pos_of_mem hz
    rw [List.length_erase_of_mem hz] at this
    rw [List.length_cons]
    omega
theorem KP.len {hs : List Str} {ks : List (Str × List Str)} (h : KP hs ks) : ks.length ≤ hs.length := by
  have := sub_len (ks.map fun q => q.1) hs h.nd fun z hz => by
    obtain ⟨q, hq, rfl⟩ := List.mem_map.mp hz
    exact (h.mem q hq).1
  rwa [List.length_map] at this
theorem nodup_many : ∀ {xs : List Str}, TX.many xs = xs.length → xs.Nodup
  | [], _ => List.nodup_nil
  | x :: xs, h => by
    unfold TX.many at h
    rw [once, List.length_cons, List.length_cons] at h
    have h1 := once_le xs
    have h2 := List.length_filter_le (fun y => decide (y ≠ x)) (once xs)
    have e1 : TX.many xs = xs.length := by unfold TX.many; omega
    have e2 : ((once xs).filter fun y => decide (y ≠ x)).length = (once xs).length := by omega
    rw [List.nodup_cons]
    refine ⟨fun hx => ?_, nodup_many e1⟩
    have := List.length_filter_eq_length_iff.mp e2 x (mem_once.mpr hx)
    simp at this
structure LR (K : PySem.W.Frag) (mg : Str → Option Value) (C : Addr) : Prop where
  cls : Cls K C
  left : NoAttr K C "left"
  right : NoAttr K C "right"
  kinds : NoAttr K C "kinds"
  bars : NoAttr K C "bars"
/-- what it raises, with one field -/
def exO (BL : Addr) (f : Str) (v : V) (H : Hp) (E : XK) : Prop := ∀ H' d, Same H H' → H' d = none → E (.ref BL) (some d) (upd H' d (.xd [(f, v)]))
/-- four arguments -/
structure Args (F : Addr → Prop) (H : Hp) (v1 v2 v3 v4 : V) (d1 d2 : D) (a3 a4 : KA) : Prop where
  v1 : DAt F H v1 d1
  s1 : shortD d1 = true
  z1 : sz d1 ≤ 900
  v2 : DAt F H v2 d2
  s2 : shortD d2 = true
  z2 : sz d2 ≤ 900
  v3 : KAt F H v3 a3
  m3 : a3.small
  f3 : a3.few
  v4 : KAt F H v4 a4
  m4 : a4.small
  f4 : a4.few
def spRI (C BR : Addr) : Sp := fun vs H Q E => ∃ (x dx : Addr) (v1 v2 v3 v4 : V) (d1 d2 : D) (a3 a4 : KA) (F : Addr → Prop), vs = [.ref x, v1, v2, v3, v4] ∧ H x = some (.ins C dx []) ∧ Args F H v1 v2 v3 v4 d1 d2 a3 a4 ∧
  (∀ w, faultW d1 d2 a3 a4 = some w → exO BR "word" (.str w) H E) ∧
  (faultW d1 d2 a3 a4 = none → ∀ H', (∀ b o, H b = some o → b ≠ x → H' b = some o) → RuleN H H' x C d1 d2 (ksOf a3) (ksOf a4) → ROk d1 d2 (ksOf a3) (ksOf a4) → Q .non H')
/-- a fit kind or bar: none, or a dict -/
theorem ok_k {F : Addr → Prop} {H : Hp} {v : V} {hs : List Str} {a : KA} (h : okK hs a = true) (hv : KAt F H v a) (sm : a.few) : KP hs (ksOf a) ∧ ((v = .non ∧ ksOf a = []) ∨ ∃ r kvs, v = .ref r ∧ H r = some (.dK kvs) ∧ Paired (WF F H) kvs (ksOf a)) := by
  unfold okK at h
  cases hn : noneB a with
  | true =>
    have : a = .d (.fl .non) := by
      unfold noneB at hn
      split at hn
      · rfl
      · cases hn
    subst this
    exact ⟨⟨List.nodup_nil, fun q hq => by cases hq⟩, .inl ⟨hv.1, rfl⟩⟩
  | false =>
    rw [hn, Bool.false_or] at h
    obtain ⟨h1, h2⟩ := ks_right h hv sm
    exact ⟨h1, .inr h2⟩
theorem fault_none {d1 d2 : D} {a3 a4 : KA} (h : faultW d1 d2 a3 a4 = none) : leftB d1 = true ∧ rightB d2 (hnm d1) = true ∧ okK (hnm d1) a3 = true ∧ okK (hnm d1) a4 = true := by
  unfold faultW at h
  split at h
  · cases h
  · split at h
    · cases h
    · split at h
      · cases h
      · split at h
        · cases h
        · simp_all
section
variable {P : Program} {w : World} {K : PySem.W.Frag} {mg : Str → Option Value} {base : Heap}
/-- a def that may let an own exception out, by its body -/
theorem fnX {x qual : Str} {st : Stmt} {f : Addr} {fd : FuncData} {N ps : List Str} {k : Nat} {sp : Sp} (F : C8.Fun K x qual st f fd) (S : FnScope N ps (fnScope st)) (len : ∀ vs H Q E, sp vs H Q E → vs.length = ps.length)
    (hbody : ∀ (cdv : Value) (A : Around) (outer : List Env) (s : Shared) (H : Hp) (vs : List V) (Q : VK) (E : XK), Room k (A.deeper (envOfC qual (fnScope st) s.heap.objs.size f cdv)) → sp vs H Q E →
      ∃ t, PSs (cxOf (L2.CX P w) P w K mg base N qual (fnScope st) f cdv A outer s H E) (fnBody st) t ∧ t { nx := fun _ H' => Q .non H', rt := Q } (start N vs) H) : FnOk P w K mg base (L2.CX P w) (k + 1) f fd ps sp := by
  obtain ⟨oc, od, dV, kV, doc, pm, an, cdv, ct, osl, rfl, lk, hcd⟩ := F.ex
  exact fn_of lk hcd S len fun A outer s H vs Q E hr hsp => hbody cdv A outer s H vs Q E hr hsp
theorem c_rI {C BR f : Addr} {fd : FuncData} (F : C8.Fun K "__init__" "Rule.__init__" sRI f fd) (T : Blt7 mg) (L : LR K mg C) (EB : EC P K mg "BadRule" BR ["word"])
    (CW : Cal P w K mg base 5 "wrong_argument" spWrA []) (CT : Cal P w K mg base 4 "as_tuples" spAsT []) (CO : Cal P w K mg base 3 "holes_in" (spHoI hnm) []) : FnOk P w K mg base (L2.CX P w) 6 f fd ["self", "left", "right", "kinds", "bars"] (spRI C BR) := by
  refine fnX F scRI (fun vs H Q E h => ?_) (fun cdv A outer s H vs Q E hr h => ?_)
  · obtain ⟨x, dx, v1, v2, v3, v4, d1, d2, a3, a4, F, rfl, _⟩ := h
    rfl
  · obtain ⟨x, dx, v1, v2, v3, v4, d1, d2, a3, a4, F, rfl, hx, R, kE, k⟩ := h
    have nd := scRI.nd
    have hu : (A.deeper (envOfC "Rule.__init__" (fnScope sRI) s.heap.objs.size f cdv)).units + 1 < cLine := by have := hr.un; omega
    refine ⟨_, (pss_cons (ps_set (i := 5) nd rfl (Or.inl rfl) (pe_c CW hr (by decide) (by rfl) (pa_cons (pv 1) (pa_cons (pv 2) (pa_cons (pv 3) (pa_cons (pv 4) pa_nil))))))
      (pss_cons (ps_if (pt_cmp (pc_notN (pv 5)))
        (pss_one (ps_raise rfl (takes_of rfl rfl rfl rfl) (pmk_X EB (hr.mono (by decide)) (by rfl) (pa_cons (pv 5) pa_nil)))) pss_nil)
      (pss_cut (ps_fld (pv 0) (pe_c CT hr (by decide) (by rfl) (pa_cons (pv 1) pa_nil)) rfl)
      (pss_cut (ps_fld (pv 0) (pe_c CT hr (by decide) (by rfl) (pa_cons (pv 2) pa_nil)) rfl)
      (pss_cut (ps_fld (pv 0) (pe_dc (own := [("hole", 6)]) (g := (gName 6)) (tt := tYes) rfl nd (pi_list (pe_c CO hr (by decide) (by rfl) (pa_cons (pv 1) pa_nil))) (blkOk_by (N := NRI) (sc := fnScope sRI) (by decide +kernel)) (fun _ _ _ _ _ => (pg_name (i := 6) nd rfl (Or.inl rfl))) (fun _ _ _ _ _ => pts_nil) (fun _ _ _ _ _ => (pv 6)) (fun _ _ _ _ _ => pe_non)) rfl)
      (pss_cut (ps_fld (pv 0) (pe_dc (own := [("hole", 6)]) (g := (gName 6)) (tt := tYes) rfl nd (pi_list (pe_c CO hr (by decide) (by rfl) (pa_cons (pv 1) pa_nil))) (blkOk_by (N := NRI) (sc := fnScope sRI) (by decide +kernel)) (fun _ _ _ _ _ => (pg_name (i := 6) nd rfl (Or.inl rfl))) (fun _ _ _ _ _ => pts_nil) (fun _ _ _ _ _ => (pv 6)) (fun _ _ _ _ _ => (pe_tup pa_nil))) rfl)
      (pss_cut (ps_if (pt_cmp (pc_notN (pv 3)))
        (pss_one (ps_lock (ps_for (passes_of rfl) rfl (pi_items (pv 3)) (pg_tup rfl (pgs_cons (pg_name (i := 6) nd rfl (Or.inl rfl)) (pgs_cons (pg_name (i := 7) nd rfl (Or.inl rfl)) pgs_nil)))
          (pss_one (ps_dput hu (pe_fld (pv 0) rfl) (pv 6) (pe_callTy call_tuple_of (by rfl) T.tup (by decide +kernel) (pa_cons (pe_callB (cr_sortX rfl) (by rfl) T.srt (by decide +kernel) (pa_cons (pe_callTy (cr_setXT rfl) (by rfl) T.set (by decide +kernel) (pa_cons (pv 7) pa_nil)) pa_nil)) pa_nil)) rfl))))) pss_nil)
      (pss_one (ps_if (pt_cmp (pc_notN (pv 4)))
        (pss_one (ps_lock (ps_for (passes_of rfl) rfl (pi_items (pv 4)) (pg_tup rfl (pgs_cons (pg_name (i := 6) nd rfl (Or.inl rfl)) (pgs_cons (pg_name (i := 7) nd rfl (Or.inl rfl)) pgs_nil)))
          (pss_one (ps_dput hu (pe_fld (pv 0) rfl) (pv 6) (pe_callTy call_tuple_of (by rfl) T.tup (by decide +kernel) (pa_cons (pe_callB (cr_sortX rfl) (by rfl) T.srt (by decide +kernel) (pa_cons (pe_callTy (cr_setXT rfl) (by rfl) T.set (by decide +kernel) (pa_cons (pv 7) pa_nil)) pa_nil)) pa_nil)) rfl))))) pss_nil))))))))), ?_⟩
    have hsl := sizeLine_eq
    refine ⟨_, rfl, _, rfl, _, rfl, _, rfl, v1, v2, v3, v4, d1, d2, a3, a4, F, rfl, R.v1, R.s1, R.z1, R.v2, R.s2, R.z2, R.v3, R.m3, R.v4, R.m4, fun H1 s1 => ?_⟩
    cases hf : faultW d1 d2 a3 a4 with
    | some wd => exact ⟨_, rfl, _, rfl, iteBt (by rfl) ⟨_, rfl, rfl, fun d nd' => kE wd hf H1 d s1 nd'⟩⟩
    | none =>
    refine ⟨_, rfl, _, rfl, iteBf (by rfl) ?_⟩
    obtain ⟨hL, hR, hK3, hK4⟩ := fault_none hf
    have k := k hf
    unfold leftB at hL
    rw [Bool.and_eq_true, Bool.and_eq_true, Bool.and_eq_true] at hL
    obtain ⟨h1, h1s, h1k, h1n⟩ := hL
    unfold rightB at hR
    rw [Bool.and_eq_true] at hR
    obtain ⟨h2, h2s⟩ := hR
    obtain ⟨o1, hk3⟩ := ok_k hK3 (R.v3.same s1) R.f3
    obtain ⟨o2, hk4⟩ := ok_k hK4 (R.v4.same s1) R.f4
    have rok : ROk d1 d2 (ksOf a3) (ksOf a4) := ⟨h1, by simpa using h1s, of_decide_eq_true h1k, nodup_many (of_decide_eq_true h1n), R.z1, h2, R.z2, fun z hz => of_decide_eq_true (List.all_eq_true.mp h2s z hz), o1, o2⟩
    have hx1 := s1 _ _ hx
    have hv1 := DAt.hold (.same s1) _ R.v1
    have hv2 := DAt.hold (.same s1) _ R.v2
    have hz1 := R.z1
    have hz2 := R.z2
    have pl1 := sh_plain d1 h1
    have pl2 := sh_plain d2 h2
    have hold : ∀ {H' : Hp}, (∀ b o, H1 b = some o → b ≠ x → H' b = some o) → HoldP F H1 H' := fun b => ⟨fun a vs e => b _ _ e (ne_of e hx1 (by intro z; cases z)), fun a vs _ e => b _ _ e (ne_of e hx1 (by intro z; cases z))⟩
    generalize ksOf a3 = ks at k rok o1 hk3
    generalize ksOf a4 = bs at k rok o2 hk4
    refine ⟨fun σ H' => ∃ w1, σ = [some (.ref x), some v1, some v2, some v3, some v4, some .non, none, none] ∧ H' x = some (.ins C dx [("left", w1)]) ∧ DAt nol H' w1 d1 ∧ (∀ b o, H1 b = some o → b ≠ x → H' b = some o), ?_, ?_⟩
    · refine ⟨_, rfl, v1, d1, F, rfl, hv1, h1, by omega, fun w1 H2 s2 hw => ?_⟩
      have hx2 := s2 _ _ hx1
      refine ⟨_, rfl, x, C, dx, _, rfl, hx2, L.cls, L.left, by decide, w1, rfl, upd_same, sh_tups (fun a vs e => by rw [upd_ne (ne_of e hx2 (by intro z; cases z))]; exact e) h1 hw, fun b o e ne => by rw [upd_ne ne]; exact s2 _ _ e⟩
    rintro σ H2 ⟨w1, rfl, hx2, hw1, b2⟩
    refine ⟨fun σ H' => ∃ w2, σ = [some (.ref x), some v1, some v2, some v3, some v4, some .non, none, none] ∧ H' x = some (.ins C dx [("left", w1), ("right", w2)]) ∧ DAt nol H' w1 d1 ∧ DAt nol H' w2 d2 ∧ (∀ b o, H1 b = some o → b ≠ x → H' b = some o), ?_, ?_⟩
    · refine ⟨_, rfl, v2, d2, F, rfl, DAt.holdP (hold b2) _ pl2 hv2, h2, by omega, fun w2 H3 s3 hw => ?_⟩
      have hx3 := s3 _ _ hx2
      have tkx : TK H3 (upd H3 x (.ins C dx [("left", w1), ("right", w2)])) := fun a vs e => by rw [upd_ne (ne_of e hx3 (by intro z; cases z))]; exact e
      refine ⟨_, rfl, x, C, dx, _, rfl, hx3, L.cls, L.right, by simp, w2, rfl, upd_same, sh_tups tkx h1 (DAt.hold (.same s3) _ hw1), sh_tups tkx h2 hw, fun b o e ne => by rw [upd_ne ne]; exact s3 _ _ (b2 _ _ e ne)⟩
    clear hw1 b2
    rintro σ H3 ⟨w2, rfl, hx3, hw1, hw2, b3⟩
    have hnl : (hnm d1).length ≤ 900 := Nat.le_trans (hnm_le d1) hz1
    have nwH : ∀ {H3 H4 : Hp} {Da : Addr}, (∀ b o, H1 b = some o → b ≠ x → H3 b = some o) → (∃ o, H3 x = some o) → Same H3 H4 → H4 Da = none → H1 Da = none := fun {H3 H4 Da} b3 hx3 s4 nDa => by
      obtain ⟨o, hx3⟩ := hx3
      cases e : H1 Da with
      | none => rfl
      | some o =>
        by_cases hh : Da = x
        · rw [hh] at nDa
          rw [s4 _ _ hx3] at nDa
          cases nDa
        · rw [s4 _ _ (b3 _ _ e hh)] at nDa
          cases nDa
    refine ⟨fun σ H' => ∃ ka kd, σ = [some (.ref x), some v1, some v2, some v3, some v4, some .non, none, none] ∧ H' x = some (.ins C dx [("left", w1), ("right", w2), ("kinds", .ref ka)]) ∧ DAt nol H' w1 d1 ∧ DAt nol H' w2 d2 ∧ H1 ka = none ∧ H' ka = some (.dK kd) ∧ Paired (Ent GK H' []) kd (hnm d1) ∧ (∀ b o, H1 b = some o → b ≠ x → H' b = some o), ?_, ?_⟩
    · refine ⟨_, rfl, v1, d1, F, rfl, DAt.holdP (hold b3) _ pl1 hv1, h1, by omega, fun lq H4 nlq s4 hlq => ⟨lq, rfl, ⟨_, SqL.of hlq⟩, fun Da nDa => ?_⟩⟩
      refine dc_gen (J := Itl K lq) (hnm d1).length (fun i H' => ∃ kd, H' Da = some (.dK kd) ∧ Paired (Ent GK H' []) kd ((hnm d1).take i) ∧ Same H4 H') ⟨[], upd_same, .nil, same_upd nDa⟩ (fun i H' hi ⟨_, _, _, sm⟩ => ⟨_, .str (hnm d1)[i], SqL.of (sm _ _ hlq), by rw [List.getElem?_map, List.getElem?_eq_getElem hi]; rfl⟩) (fun H' ⟨_, _, _, sm⟩ => ⟨_, SqL.of (sm _ _ hlq), by rw [List.length_map]; exact Nat.le_refl _⟩) (fun i H' v H'' hi ⟨kd, hD, hp, sm⟩ yl => ?_) (fun H' ⟨kd, hD, hp, sm⟩ => ?_)
      · obtain ⟨rfl, hv⟩ := yl
        have hv := hv _ (SqL.of (sm _ _ hlq))
        rw [List.getElem?_map, List.getElem?_eq_getElem hi] at hv
        obtain rfl := Option.some.inj hv
        have hkl := Paired.length hp
        rw [List.length_take] at hkl
        have nw : (hnm d1)[i] ∉ (hnm d1).take i := fun h => by
          have := rok.nd
          rw [← List.take_append_drop i (hnm d1), List.drop_eq_getElem_cons hi] at this
          exact (List.nodup_append.mp this).2.2 _ h _ List.mem_cons_self rfl
        refine ⟨rfl, ?_⟩
        unfold tYes
        dsimp only
        rw [if_pos rfl]
        have tkd : TK H'' (upd H'' Da (.dK (putK kd (.inr (hnm d1)[i]) .non))) := fun a vs e => by rw [upd_ne (ne_of e hD (by intro z; cases z))]; exact e
        refine ⟨_, rfl, kd, .inr (hnm d1)[i], rfl, hD, by omega, _, upd_same, ?_, fun b o e => by rw [upd_ne (ne_of_none e nDa)]; exact sm _ _ e⟩
        rw [putK_new _ (ent_none hp nw), List.take_succ_eq_append_getElem hi]
        exact Paired.snoc (Paired.mono (fun _ _ ⟨e, g⟩ => ⟨e, by rw [putK_new _ (ent_none hp nw)] at tkd; exact g.tk tkd⟩) hp) ⟨rfl, rfl⟩
      · rw [List.take_length] at hp
        have s3' := s4.trans sm
        have hx4 := s3' _ _ hx3
        have tkx : TK H' (upd H' x (.ins C dx [("left", w1), ("right", w2), ("kinds", .ref Da)])) := fun a vs e => by rw [upd_ne (ne_of e hx4 (by intro z; cases z))]; exact e
        exact ⟨_, rfl, x, C, dx, _, rfl, hx4, L.cls, L.kinds, by simp, Da, kd, rfl, upd_same, sh_tups tkx h1 (DAt.hold (.same s3') _ hw1), sh_tups tkx h2 (DAt.hold (.same s3') _ hw2), nwH b3 ⟨_, hx3⟩ s4 nDa, by rw [upd_ne (ne_of hD hx4 (by intro z; cases z))]; exact hD, Paired.mono (fun _ _ ⟨e, g⟩ => ⟨e, g.tk tkx⟩) hp, fun b o e ne => by rw [upd_ne ne]; exact s3' _ _ (b3 _ _ e ne)⟩
    clear hw1 hw2 b3 hx3
    rintro σ H3 ⟨ka, kd, rfl, hx3, hw1, hw2, nka, hka, hpk, b3⟩
    have hxka : ka ≠ x := fun e => by rw [e] at nka; rw [hx1] at nka; cases nka
    refine ⟨fun σ H' => ∃ ba bd, σ = [some (.ref x), some v1, some v2, some v3, some v4, some .non, none, none] ∧ H' x = some (.ins C dx [("left", w1), ("right", w2), ("kinds", .ref ka), ("bars", .ref ba)]) ∧ DAt nol H' w1 d1 ∧ DAt nol H' w2 d2 ∧ H' ka = some (.dK kd) ∧ Paired (Ent GK H' []) kd (hnm d1) ∧ ba ≠ ka ∧ H1 ba = none ∧ H' ba = some (.dK bd) ∧ Paired (Ent GB H' []) bd (hnm d1) ∧ (∀ b o, H1 b = some o → b ≠ x → H' b = some o), ?_, ?_⟩
    · refine ⟨_, rfl, v1, d1, F, rfl, DAt.holdP (hold b3) _ pl1 hv1, h1, by omega, fun lq H4 nlq s4 hlq => ⟨lq, rfl, ⟨_, SqL.of hlq⟩, fun Da nDa => ?_⟩⟩
      refine dc_gen (J := Itl K lq) (hnm d1).length (fun i H' => ∃ kd, H' Da = some (.dK kd) ∧ Paired (Ent GB H' []) kd ((hnm d1).take i) ∧ Same H4 H') ⟨[], upd_same, .nil, same_upd nDa⟩ (fun i H' hi ⟨_, _, _, sm⟩ => ⟨_, .str (hnm d1)[i], SqL.of (sm _ _ hlq), by rw [List.getElem?_map, List.getElem?_eq_getElem hi]; rfl⟩) (fun H' ⟨_, _, _, sm⟩ => ⟨_, SqL.of (sm _ _ hlq), by rw [List.length_map]; exact Nat.le_refl _⟩) (fun i H' v H'' hi ⟨kd, hD, hp, sm⟩ yl => ?_) (fun H' ⟨kd, hD, hp, sm⟩ => ?_)
      · obtain ⟨rfl, hv⟩ := yl
        have hv := hv _ (SqL.of (sm _ _ hlq))
        rw [List.getElem?_map, List.getElem?_eq_getElem hi] at hv
        obtain rfl := Option.some.inj hv
        have hkl := Paired.length hp
        rw [List.length_take] at hkl
        have nw : (hnm d1)[i] ∉ (hnm d1).take i := fun h => by
          have := rok.nd
          rw [← List.take_append_drop i (hnm d1), List.drop_eq_getElem_cons hi] at this
          exact (List.nodup_append.mp this).2.2 _ h _ List.mem_cons_self rfl
        refine ⟨rfl, ?_⟩
        unfold tYes
        dsimp only
        rw [if_pos rfl]
        refine ⟨_, rfl, (by show 0 ≤ sizeLine; omega), fun p np => ?_⟩
        have sp := same_upd (o := .tup []) np
        have hp0 : (upd H'' p (.tup [])) p = some (.tup []) := upd_same
        have hD' := sp _ _ hD
        generalize upd H'' p (.tup []) = H5 at sp hp0 hD' ⊢
        have tkd : TK H5 (upd H5 Da (.dK (putK kd (.inr (hnm d1)[i]) (.ref p)))) := fun a vs e => by rw [upd_ne (ne_of e hD' (by intro z; cases z))]; exact e
        refine ⟨kd, .inr (hnm d1)[i], rfl, hD', by omega, _, upd_same, ?_, fun b o e => by rw [upd_ne (ne_of_none e nDa)]; exact sp _ _ (sm _ _ e)⟩
        rw [putK_new _ (ent_none hp nw)] at tkd ⊢
        rw [List.take_succ_eq_append_getElem hi]
        exact Paired.snoc (Paired.mono (fun _ _ ⟨e, g⟩ => ⟨e, (g.tk (.of sp)).tk tkd⟩) hp) ⟨rfl, p, [], rfl, tkd _ _ hp0, by simp, fun y => Iff.rfl, rfl, List.nodup_nil⟩
      · rw [List.take_length] at hp
        have s3' := s4.trans sm
        have hx4 := s3' _ _ hx3
        have tkx : TK H' (upd H' x (.ins C dx [("left", w1), ("right", w2), ("kinds", .ref ka), ("bars", .ref Da)])) := fun a vs e => by rw [upd_ne (ne_of e hx4 (by intro z; cases z))]; exact e
        exact ⟨_, rfl, x, C, dx, _, rfl, hx4, L.cls, L.bars, by simp, Da, _, rfl, upd_same, sh_tups tkx h1 (DAt.hold (.same s3') _ hw1), sh_tups tkx h2 (DAt.hold (.same s3') _ hw2), by rw [upd_ne hxka]; exact s3' _ _ hka, Paired.mono (fun _ _ ⟨e, g⟩ => ⟨e, (g.tk (.of s3')).tk tkx⟩) hpk, (ne_of_none (s4 _ _ hka) nDa).symm, nwH b3 ⟨_, hx3⟩ s4 nDa, by rw [upd_ne (ne_of hD hx4 (by intro z; cases z))]; exact hD, Paired.mono (fun _ _ ⟨e, g⟩ => ⟨e, g.tk tkx⟩) hp, fun b o e ne => by rw [upd_ne ne]; exact s3' _ _ (b3 _ _ e ne)⟩
    clear hw1 hw2 b3 hx3 hka hpk
    rintro σ H3 ⟨ba, bd, rfl, hx3, hw1, hw2, hka, hpk, nbk, nba, hba, hpb, b3⟩
    refine ⟨fun σ H' => ∃ (o6 o7 : Option V) (cd : List (Key × V)), σ = [some (.ref x), some v1, some v2, some v3, some v4, some .non, o6, o7] ∧ H' x = some (.ins C dx [("left", w1), ("right", w2), ("kinds", .ref ka), ("bars", .ref ba)]) ∧ DAt nol H' w1 d1 ∧ DAt nol H' w2 d2 ∧ H' ka = some (.dK cd) ∧ Paired (Ent GK H' ks) cd (hnm d1) ∧ H' ba = some (.dK bd) ∧ Paired (Ent GB H' []) bd (hnm d1) ∧ (∀ b o, H1 b = some o → b ≠ x → H' b = some o), ?_, ?_⟩
    · rcases hk3 with ⟨rfl, rfl⟩ | ⟨a1, kvs1, rfl, hA1, hP1⟩
      · exact ⟨_, rfl, _, rfl, iteBf (by rfl) ⟨_, _, _, rfl, hx3, hw1, hw2, hka, hpk, hba, hpb, b3⟩⟩
      have hl1 := Paired.length hP1
      have ol1 := o1.len
      have nx1 : a1 ≠ x := ne_of hA1 hx1 (by intro z; cases z)
      have na1k : a1 ≠ ka := ne_of_none hA1 nka
      have na1b : a1 ≠ ba := ne_of_none hA1 nba
      have hA13 := b3 _ _ hA1 nx1
      refine ⟨_, rfl, _, rfl, iteBt (by rfl) ⟨a1, _, hA13, trivial, fun od => ⟨_, rfl, a1, od, kvs1, rfl, upd_same, ?_⟩⟩⟩
      have hFx : (upd H3 a1 (.frz od (.dK kvs1))) x = some (.ins C dx [("left", w1), ("right", w2), ("kinds", .ref ka), ("bars", .ref ba)]) := by rw [upd_ne (ne_of hx3 hA13 (by intro z; cases z))]; exact hx3
      have hFk : (upd H3 a1 (.frz od (.dK kvs1))) ka = some (.dK kd) := by rw [upd_ne na1k.symm]; exact hka
      have hFb : (upd H3 a1 (.frz od (.dK kvs1))) ba = some (.dK bd) := by rw [upd_ne na1b.symm]; exact hba
      have hFt : TK H3 (upd H3 a1 (.frz od (.dK kvs1))) := fun a vs e => by rw [upd_ne (ne_of e hA13 (by intro z; cases z))]; exact e
      have hFa : (upd H3 a1 (.frz od (.dK kvs1))) a1 = some (.frz od (.dK kvs1)) := upd_same
      have hFK : ∀ b o, H1 b = some o → b ≠ x → b ≠ a1 → (upd H3 a1 (.frz od (.dK kvs1))) b = some o := fun b o e n n' => by rw [upd_ne n']; exact b3 _ _ e n
      generalize upd H3 a1 (.frz od (.dK kvs1)) = HF at hFx hFk hFb hFt hFa hFK ⊢
      refine for_gen (J := Iti a1 od kvs1) ks.length (fun i σ H' => ∃ (o6 o7 : Option V) (cd : List (Key × V)), σ = [some (.ref x), some v1, some v2, some (.ref a1), some v4, some .non, o6, o7] ∧ H' x = some (.ins C dx [("left", w1), ("right", w2), ("kinds", .ref ka), ("bars", .ref ba)]) ∧ DAt nol H' w1 d1 ∧ DAt nol H' w2 d2 ∧ H' ka = some (.dK cd) ∧ Paired (Ent GK H' (ks.take i)) cd (hnm d1) ∧ H' ba = some (.dK bd) ∧ Paired (Ent GB H' []) bd (hnm d1) ∧ H' a1 = some (.frz od (.dK kvs1)) ∧ ∀ b o, H1 b = some o → b ≠ x → b ≠ a1 → H' b = some o)
        ⟨_, _, kd, rfl, hFx, sh_tups hFt h1 hw1, sh_tups hFt h2 hw2, hFk, Paired.mono (fun _ _ ⟨e, g⟩ => ⟨e, g.tk hFt⟩) hpk, hFb, Paired.mono (fun _ _ ⟨e, g⟩ => ⟨e, g.tk hFt⟩) hpb, hFa, hFK⟩
        (fun i σ H' hi ⟨_, _, _, _, _, _, _, _, _, _, _, ha, _⟩ => ⟨ha, by omega⟩) (fun σ H' ⟨_, _, _, _, _, _, _, _, _, _, _, ha, _⟩ => ⟨ha, by omega⟩) ?_ ?_
      · rintro i σ H4 u H5 hi ⟨o6, o7, cd, rfl, hx4, hw14, hw24, hk4, hpk4, hb4, hpb4, ha4, b4⟩ ⟨T', kk, v, hkv, rfl, nT, rfl⟩
        obtain ⟨q, hq, ek, l, ev, hl'⟩ := paired_get hP1 hkv
        obtain ⟨hlt, eq⟩ := List.getElem?_eq_some_iff.mp hq
        dsimp only at ek ev
        subst ek ev
        obtain ⟨hqm, hql, hqw⟩ := o1.mem q (List.mem_of_getElem? hq)
        have hl4 : H4 l = some (.tup (q.2.map V.str)) ∨ H4 l = some (.lst (q.2.map V.str)) := hl'.imp (fun e => b4 _ _ e (ne_of e hx1 (by intro z; cases z)) (ne_of e hA1 (by intro z; cases z))) fun e => b4 _ _ e.2 (ne_of e.2 hx1 (by intro z; cases z)) (ne_of e.2 hA1 (by intro z; cases z))
        have qnew : q.1 ∉ (ks.take i).map fun q => q.1 := fun h => by
          have := o1.nd
          rw [← List.take_append_drop i ks, List.map_append, List.drop_eq_getElem_cons hlt, eq, List.map_cons] at this
          exact (List.nodup_append.mp this).2.2 _ h _ List.mem_cons_self rfl
        have ety := List.take_succ_eq_append_getElem hlt
        rw [eq] at ety
        have sT : Same H4 (upd H4 T' (.tup [kV (.inr q.1), .ref l])) := same_upd nT
        have hT : (upd H4 T' (.tup [kV (.inr q.1), .ref l])) T' = some (.tup [.str q.1, .ref l]) := upd_same
        generalize upd H4 T' (.tup [kV (.inr q.1), .ref l]) = H6 at sT hT ⊢
        refine ⟨T', _, rfl, SqT.of hT, rfl, .str q.1, [.ref l], rfl, .ref l, [], rfl, rfl, ?_⟩
        refine ⟨_, rfl, l, q.2, rfl, hl4.symm.imp (fun e => SqL.of (sT _ _ e)) (fun e => SqT.of (sT _ _ e)), by omega, fun p np => ⟨p, _, _, rfl, upd_same, by have := once_le q.2; unfold TX.many; omega, fun ys lq sy ny mem hlen nlq => ⟨lq, _, rfl, .inl ⟨SqL.of upd_same, fun rt nrt => ?_⟩⟩⟩⟩
        have s7 := (same_upd (o := SetX (cxOf (L2.CX P w) P w K mg base NRI "Rule.__init__" (fnScope sRI) f cdv A outer s H E).w p (fun z => decide (z ∈ q.2)) (TX.many q.2)) np).trans ((same_upd (o := .lst (ys.map V.str)) nlq).trans (same_upd (o := .tup (ys.map V.str)) nrt))
        have hrt : (upd (upd (upd H6 p (SetX (cxOf (L2.CX P w) P w K mg base NRI "Rule.__init__" (fnScope sRI) f cdv A outer s H E).w p (fun z => decide (z ∈ q.2)) (TX.many q.2))) lq (.lst (ys.map V.str))) rt (.tup (ys.map V.str))) rt = some (.tup (ys.map V.str)) := upd_same
        generalize upd (upd (upd H6 p (SetX (cxOf (L2.CX P w) P w K mg base NRI "Rule.__init__" (fnScope sRI) f cdv A outer s H E).w p (fun z => decide (z ∈ q.2)) (TX.many q.2))) lq (.lst (ys.map V.str))) rt (.tup (ys.map V.str)) = H7 at s7 hrt ⊢
        have s47 := sT.trans s7
        have hx7 := s47 _ _ hx4
        have hC7 := s47 _ _ hk4
        have hcl := Paired.length hpk4
        have tkd : TK H7 (upd H7 ka (.dK (putK cd (.inr q.1) (.ref rt)))) := fun a vs e => by rw [upd_ne (ne_of e hC7 (by intro z; cases z))]; exact e
        have tk47 := TK.of s47
        have hv : TupOf (upd H7 ka (.dK (putK cd (.inr q.1) (.ref rt)))) q.2 (.ref rt) := ⟨rt, ys, rfl, tkd _ _ hrt, by have := once_le q.2; unfold TX.many at hlen; omega, fun y => by rw [mem y]; exact decide_eq_true_iff, sy, ny⟩
        refine ⟨_, rfl, x, C, dx, _, _, rfl, hx7, L.cls, L.kinds, rfl, _, rfl, ka, _, rfl, DPut.k (k := .inr q.1) hC7 (by omega), _, _, putK cd (.inr q.1) (.ref rt), rfl, by rw [upd_ne (ne_of hx7 hC7 (by intro z; cases z))]; exact hx7, sh_tups tkd h1 (DAt.hold (.same s47) _ hw14), sh_tups tkd h2 (DAt.hold (.same s47) _ hw24), upd_same, ?_, by rw [upd_ne nbk]; exact s47 _ _ hb4, Paired.mono (fun _ _ ⟨e, g⟩ => ⟨e, (g.tk tk47).tk tkd⟩) hpb4, by rw [upd_ne (ne_of (s47 _ _ ha4) hC7 (by intro z; cases z))]; exact s47 _ _ ha4, fun b o e n n' => by rw [upd_ne (ne_of_none e nka)]; exact s47 _ _ (b4 _ _ e n n')⟩
        rw [ety]
        exact ent_put (Paired.mono (fun _ _ ⟨e, g⟩ => ⟨e, (g.tk tk47).tk tkd⟩) hpk4) hqm qnew hv
      · rintro σ H4 ⟨o6, o7, cd, rfl, hx4, hw14, hw24, hk4, hpk4, hb4, hpb4, ha4, b4⟩
        rw [List.take_length] at hpk4
        have tku : TK H4 (upd H4 a1 (.dK kvs1)) := fun a vs e => by rw [upd_ne (ne_of e ha4 (by intro z; cases z))]; exact e
        have hxu : (upd H4 a1 (.dK kvs1)) x = some (.ins C dx [("left", w1), ("right", w2), ("kinds", .ref ka), ("bars", .ref ba)]) := by rw [upd_ne (ne_of hx4 ha4 (by intro z; cases z))]; exact hx4
        have hku := (upd_ne (H := H4) (o := .dK kvs1) (ne_of hk4 ha4 (by intro z; cases z))).trans hk4
        have hbu := (upd_ne (H := H4) (o := .dK kvs1) (ne_of hb4 ha4 (by intro z; cases z))).trans hb4
        have bu : ∀ b o, H1 b = some o → b ≠ x → (upd H4 a1 (.dK kvs1)) b = some o := fun b o e n => by
          by_cases hh : b = a1
          · rw [hh, hA1] at e
            rw [hh, upd_same]
            exact e
          · rw [upd_ne hh]
            exact b4 _ _ e n hh
        have hpku := Paired.mono (fun _ _ (⟨e, g⟩ : Ent GK _ _ _ _) => (⟨e, g.tk tku⟩ : Ent GK _ _ _ _)) hpk4
        have hpbu := Paired.mono (fun _ _ (⟨e, g⟩ : Ent GB _ _ _ _) => (⟨e, g.tk tku⟩ : Ent GB _ _ _ _)) hpb4
        exact ⟨ha4, o6, o7, cd, rfl, hxu, sh_tups tku h1 hw14, sh_tups tku h2 hw24, hku, hpku, hbu, hpbu, bu⟩
    clear hw1 hw2 b3 hx3 hka hpk hba hpb
    rintro σ H3 ⟨o6, o7, kd, rfl, hx3, hw1, hw2, hka, hpk, hba, hpb, b3⟩
    rcases hk4 with ⟨rfl, rfl⟩ | ⟨a2, kvs2, rfl, hA2, hP2⟩
    · exact ⟨_, rfl, _, rfl, iteBf (by rfl) (k _ (fun b o e n => b3 _ _ (s1 _ _ e) n) ⟨ka, ba, same_free s1 nka, same_free s1 nba, dx, w1, w2, kd, bd, hx3, hw1, hw2, hka, hpk, hba, hpb⟩ rok)⟩
    have hl2 := Paired.length hP2
    have ol2 := o2.len
    have nx2 : a2 ≠ x := ne_of hA2 hx1 (by intro z; cases z)
    have na2k : a2 ≠ ka := ne_of_none hA2 nka
    have na2b : a2 ≠ ba := ne_of_none hA2 nba
    have hA23 := b3 _ _ hA2 nx2
    refine ⟨_, rfl, _, rfl, iteBt (by rfl) ⟨a2, _, hA23, trivial, fun od => ⟨_, rfl, a2, od, kvs2, rfl, upd_same, ?_⟩⟩⟩
    have hFx : (upd H3 a2 (.frz od (.dK kvs2))) x = some (.ins C dx [("left", w1), ("right", w2), ("kinds", .ref ka), ("bars", .ref ba)]) := by rw [upd_ne (ne_of hx3 hA23 (by intro z; cases z))]; exact hx3
    have hFk : (upd H3 a2 (.frz od (.dK kvs2))) ka = some (.dK kd) := by rw [upd_ne na2k.symm]; exact hka
    have hFb : (upd H3 a2 (.frz od (.dK kvs2))) ba = some (.dK bd) := by rw [upd_ne na2b.symm]; exact hba
    have hFt : TK H3 (upd H3 a2 (.frz od (.dK kvs2))) := fun a vs e => by rw [upd_ne (ne_of e hA23 (by intro z; cases z))]; exact e
    have hFa : (upd H3 a2 (.frz od (.dK kvs2))) a2 = some (.frz od (.dK kvs2)) := upd_same
    have hFK : ∀ b o, H1 b = some o → b ≠ x → b ≠ a2 → (upd H3 a2 (.frz od (.dK kvs2))) b = some o := fun b o e n n' => by rw [upd_ne n']; exact b3 _ _ e n
    generalize upd H3 a2 (.frz od (.dK kvs2)) = HF at hFx hFk hFb hFt hFa hFK ⊢
    refine for_gen (J := Iti a2 od kvs2) bs.length (fun i σ H' => ∃ (o6 o7 : Option V) (cd : List (Key × V)), σ = [some (.ref x), some v1, some v2, some v3, some (.ref a2), some .non, o6, o7] ∧ H' x = some (.ins C dx [("left", w1), ("right", w2), ("kinds", .ref ka), ("bars", .ref ba)]) ∧ DAt nol H' w1 d1 ∧ DAt nol H' w2 d2 ∧ H' ka = some (.dK kd) ∧ Paired (Ent GK H' ks) kd (hnm d1) ∧ H' ba = some (.dK cd) ∧ Paired (Ent GB H' (bs.take i)) cd (hnm d1) ∧ H' a2 = some (.frz od (.dK kvs2)) ∧ ∀ b o, H1 b = some o → b ≠ x → b ≠ a2 → H' b = some o)
      ⟨_, _, bd, rfl, hFx, sh_tups hFt h1 hw1, sh_tups hFt h2 hw2, hFk, Paired.mono (fun _ _ ⟨e, g⟩ => ⟨e, g.tk hFt⟩) hpk, hFb, Paired.mono (fun _ _ ⟨e, g⟩ => ⟨e, g.tk hFt⟩) hpb, hFa, hFK⟩
      (fun i σ H' hi ⟨_, _, _, _, _, _, _, _, _, _, _, ha, _⟩ => ⟨ha, by omega⟩) (fun σ H' ⟨_, _, _, _, _, _, _, _, _, _, _, ha, _⟩ => ⟨ha, by omega⟩) ?_ ?_
    · rintro i σ H4 u H5 hi ⟨o6, o7, cd, rfl, hx4, hw14, hw24, hk4, hpk4, hb4, hpb4, ha4, b4⟩ ⟨T', kk, v, hkv, rfl, nT, rfl⟩
      obtain ⟨q, hq, ek, l, ev, hl'⟩ := paired_get hP2 hkv
      obtain ⟨hlt, eq⟩ := List.getElem?_eq_some_iff.mp hq
      dsimp only at ek ev
      subst ek ev
      obtain ⟨hqm, hql, hqw⟩ := o2.mem q (List.mem_of_getElem? hq)
      have hl4 : H4 l = some (.tup (q.2.map V.str)) ∨ H4 l = some (.lst (q.2.map V.str)) := hl'.imp (fun e => b4 _ _ e (ne_of e hx1 (by intro z; cases z)) (ne_of e hA2 (by intro z; cases z))) fun e => b4 _ _ e.2 (ne_of e.2 hx1 (by intro z; cases z)) (ne_of e.2 hA2 (by intro z; cases z))
      have qnew : q.1 ∉ (bs.take i).map fun q => q.1 := fun h => by
        have := o2.nd
        rw [← List.take_append_drop i bs, List.map_append, List.drop_eq_getElem_cons hlt, eq, List.map_cons] at this
        exact (List.nodup_append.mp this).2.2 _ h _ List.mem_cons_self rfl
      have ety := List.take_succ_eq_append_getElem hlt
      rw [eq] at ety
      have sT : Same H4 (upd H4 T' (.tup [kV (.inr q.1), .ref l])) := same_upd nT
      have hT : (upd H4 T' (.tup [kV (.inr q.1), .ref l])) T' = some (.tup [.str q.1, .ref l]) := upd_same
      generalize upd H4 T' (.tup [kV (.inr q.1), .ref l]) = H6 at sT hT ⊢
      refine ⟨T', _, rfl, SqT.of hT, rfl, .str q.1, [.ref l], rfl, .ref l, [], rfl, rfl, ?_⟩
      refine ⟨_, rfl, l, q.2, rfl, hl4.symm.imp (fun e => SqL.of (sT _ _ e)) (fun e => SqT.of (sT _ _ e)), by omega, fun p np => ⟨p, _, _, rfl, upd_same, by have := once_le q.2; unfold TX.many; omega, fun ys lq sy ny mem hlen nlq => ⟨lq, _, rfl, .inl ⟨SqL.of upd_same, fun rt nrt => ?_⟩⟩⟩⟩
      have s7 := (same_upd (o := SetX (cxOf (L2.CX P w) P w K mg base NRI "Rule.__init__" (fnScope sRI) f cdv A outer s H E).w p (fun z => decide (z ∈ q.2)) (TX.many q.2)) np).trans ((same_upd (o := .lst (ys.map V.str)) nlq).trans (same_upd (o := .tup (ys.map V.str)) nrt))
      have hrt : (upd (upd (upd H6 p (SetX (cxOf (L2.CX P w) P w K mg base NRI "Rule.__init__" (fnScope sRI) f cdv A outer s H E).w p (fun z => decide (z ∈ q.2)) (TX.many q.2))) lq (.lst (ys.map V.str))) rt (.tup (ys.map V.str))) rt = some (.tup (ys.map V.str)) := upd_same
      generalize upd (upd (upd H6 p (SetX (cxOf (L2.CX P w) P w K mg base NRI "Rule.__init__" (fnScope sRI) f cdv A outer s H E).w p (fun z => decide (z ∈ q.2)) (TX.many q.2))) lq (.lst (ys.map V.str))) rt (.tup (ys.map V.str)) = H7 at s7 hrt ⊢
      have s47 := sT.trans s7
      have hx7 := s47 _ _ hx4
      have hC7 := s47 _ _ hb4
      have hcl := Paired.length hpb4
      have tkd : TK H7 (upd H7 ba (.dK (putK cd (.inr q.1) (.ref rt)))) := fun a vs e => by rw [upd_ne (ne_of e hC7 (by intro z; cases z))]; exact e
      have tk47 := TK.of s47
      have hv : TupOf (upd H7 ba (.dK (putK cd (.inr q.1) (.ref rt)))) q.2 (.ref rt) := ⟨rt, ys, rfl, tkd _ _ hrt, by have := once_le q.2; unfold TX.many at hlen; omega, fun y => by rw [mem y]; exact decide_eq_true_iff, sy, ny⟩
      refine ⟨_, rfl, x, C, dx, _, _, rfl, hx7, L.cls, L.bars, rfl, _, rfl, ba, _, rfl, DPut.k (k := .inr q.1) hC7 (by omega), _, _, putK cd (.inr q.1) (.ref rt), rfl, by rw [upd_ne (ne_of hx7 hC7 (by intro z; cases z))]; exact hx7, sh_tups tkd h1 (DAt.hold (.same s47) _ hw14), sh_tups tkd h2 (DAt.hold (.same s47) _ hw24), by rw [upd_ne nbk.symm]; exact s47 _ _ hk4, Paired.mono (fun _ _ ⟨e, g⟩ => ⟨e, (g.tk tk47).tk tkd⟩) hpk4, upd_same, ?_, by rw [upd_ne (ne_of (s47 _ _ ha4) hC7 (by intro z; cases z))]; exact s47 _ _ ha4, fun b o e n n' => by rw [upd_ne (ne_of_none e nba)]; exact s47 _ _ (b4 _ _ e n n')⟩
      rw [ety]
      exact ent_put (Paired.mono (fun _ _ ⟨e, g⟩ => ⟨e, (g.tk tk47).tk tkd⟩) hpb4) hqm qnew hv
    · rintro σ H4 ⟨o6, o7, cd, rfl, hx4, hw14, hw24, hk4, hpk4, hb4, hpb4, ha4, b4⟩
      rw [List.take_length] at hpb4
      have tku : TK H4 (upd H4 a2 (.dK kvs2)) := fun a vs e => by rw [upd_ne (ne_of e ha4 (by intro z; cases z))]; exact e
      have hxu : (upd H4 a2 (.dK kvs2)) x = some (.ins C dx [("left", w1), ("right", w2), ("kinds", .ref ka), ("bars", .ref ba)]) := by rw [upd_ne (ne_of hx4 ha4 (by intro z; cases z))]; exact hx4
      have hku := (upd_ne (H := H4) (o := .dK kvs2) (ne_of hk4 ha4 (by intro z; cases z))).trans hk4
      have hbu := (upd_ne (H := H4) (o := .dK kvs2) (ne_of hb4 ha4 (by intro z; cases z))).trans hb4
      have bu : ∀ b o, H1 b = some o → b ≠ x → (upd H4 a2 (.dK kvs2)) b = some o := fun b o e n => by
        by_cases hh : b = a2
        · rw [hh, hA2] at e
          rw [hh, upd_same]
          exact e
        · rw [upd_ne hh]
          exact b4 _ _ e n hh
      have hpku := Paired.mono (fun _ _ (⟨e, g⟩ : Ent GK _ _ _ _) => (⟨e, g.tk tku⟩ : Ent GK _ _ _ _)) hpk4
      have hpbu := Paired.mono (fun _ _ (⟨e, g⟩ : Ent GB _ _ _ _) => (⟨e, g.tk tku⟩ : Ent GB _ _ _ _)) hpb4
      exact ⟨ha4, k _ (fun b o e n => bu _ _ (s1 _ _ e) n) ⟨ka, ba, same_free s1 nka, same_free s1 nba, dx, w1, w2, kd, cd, hxu, sh_tups tku h1 hw14, sh_tups tku h2 hw24, hku, hpku, hbu, hpbu⟩ rok⟩
end
end K9

namespace K9
open PySem PySem.Spec PyProof.Rows L2 C8 XE XR TX
/-! the law's own is_word, is_shape, has_keep, tuples -/
abbrev sLW : Stmt := top 44
abbrev sLS : Stmt := top 45
abbrev sLK : Stmt := top 46
abbrev sLT : Stmt := top 51
abbrev NLW : List Str := ["_law_x", "_law_sign"]
abbrev NLS : List Str := ["_law_x", "_law_child"]
abbrev NLK : List Str := ["_law_shape_here", "_law_x"]
abbrev NLT : List Str := ["_law_thing", "_law_x"]
theorem scLW : FnScope NLW ["_law_x"] (fnScope sLW) := fnScope_by (by decide +kernel)
theorem scLS : FnScope NLS ["_law_x"] (fnScope sLS) := fnScope_by (by decide +kernel)
theorem scLK : FnScope NLK ["_law_shape_here"] (fnScope sLK) := fnScope_by (by decide +kernel)
theorem scLT : FnScope NLT ["_law_thing"] (fnScope sLT) := fnScope_by (by decide +kernel)
def spLS (N : Nat) : Sp := fun vs H Q _ => ∃ (v : V) (d : D) (F : Addr → Prop), vs = [v] ∧ DAt F H v d ∧ shortD d = true ∧ sz d ≤ N ∧ sz d ≤ 5000 ∧ ∀ H', Same H H' → Q (.bl (isSh d)) H'
def spLK (N : Nat) : Sp := fun vs H Q _ => ∃ (v : V) (d : D) (F : Addr → Prop), vs = [v] ∧ DAt F H v d ∧ isSh d = true ∧ sz d ≤ N ∧ sz d ≤ 5000 ∧ ∀ H', Same H H' → Q (.bl (decide (("keep" : Str) ∈ lnm d))) H'
def spLT (N : Nat) : Sp := fun vs H Q _ => ∃ (v : V) (d : D) (F : Addr → Prop), vs = [v] ∧ DAt F H v d ∧ isSh d = true ∧ sz d ≤ N ∧ sz d ≤ 5000 ∧ ∀ v' H', Same H H' → DAt nol H' v' d → Q v' H'
theorem keep_any : ∀ cs : List D, ((cs.map fun c => decide (("keep" : Str) ∈ lnm c)).any id) = decide (("keep" : Str) ∈ lnms cs)
  | [] => rfl
  | c :: cs => by
    rw [List.map_cons, List.any_cons, keep_any cs]
    have : decide (("keep" : Str) ∈ lnms (c :: cs)) = (decide (("keep" : Str) ∈ lnm c) || decide (("keep" : Str) ∈ lnms cs)) := by
      rw [lnms, ← Bool.decide_or]
      exact decide_eq_decide.mpr List.mem_append
    rw [this]
    rfl
theorem isShs_all : ∀ cs : List D, (cs.map isSh).all id = isShs cs
  | [] => rfl
  | y :: ys => by rw [List.map_cons, List.all_cons, isShs_all ys, isShs]; rfl
/-- the walk over x[1:], x a list or a tuple -/
theorem sl_walk {K : PySem.W.Frag} {i : Nat} {σ : L2.St} {H : Hp} {R : It → Hp → Prop} {a : Addr} {x : V} {us : List V} (hi : σ[i]? = some (some (.ref a))) (q : H a = some (.tup (x :: us)) ∨ H a = some (.lst (x :: us)))
    (h : ∀ (J : It) (H3 : Hp), Same H H3 → (∀ j H', j < us.length → Same H3 H' → J.go j H') → (∀ H', Same H3 H' → J.stop us.length H') → (∀ j H' z H'', Same H3 H' → J.yld j H' z H'' → H'' = H' ∧ us[j]? = some z) → R J H3) :
    iList K (tSl (fun x lo hi H Q => rSlL K x lo hi H Q ∨ rSlT K x lo hi H Q) (tVar i) (tPart (tC (.int 1))) tNoPart) σ H R ∨ iTup K (tSl (fun x lo hi H Q => rSlL K x lo hi H Q ∨ rSlT K x lo hi H Q) (tVar i) (tPart (tC (.int 1))) tNoPart) σ H R := by
  have cut1 : cutV (x :: us) (some 1) none = us := by rw [cutFrom (by decide)]; rfl
  rcases q with q | q
  · refine .inr ⟨_, hi, 1, rfl, .inr ⟨a, _, rfl, SqT.of q, ?_, fun p np => ?_⟩⟩
    · rintro ⟨e, _⟩
      unfold HT.sIx at e
      rw [List.length_cons] at e
      dsimp only at e
      split at e <;> omega
    · rw [cut1]
      exact ⟨p, rfl, ⟨us, SqT.of upd_same⟩, h _ _ (same_upd np) (fun j H' hj s' => ⟨us, us.getD j .non, SqT.of (s' _ _ upd_same), getD_at hj⟩) (fun H' s' => ⟨us, SqT.of (s' _ _ upd_same), Nat.le_refl _⟩) fun j H' z H'' s' y => ⟨y.1, y.2 _ (SqT.of (s' _ _ upd_same))⟩⟩
  · refine .inl ⟨_, hi, 1, rfl, .inl ⟨a, _, rfl, SqL.of q, fun p np => ?_⟩⟩
    rw [cut1]
    exact ⟨p, rfl, ⟨us, SqL.of upd_same⟩, h _ _ (same_upd np) (fun j H' hj s' => ⟨us, us.getD j .non, SqL.of (s' _ _ upd_same), getD_at hj⟩) (fun H' s' => ⟨us, SqL.of (s' _ _ upd_same), Nat.le_refl _⟩) fun j H' z H'' s' y => ⟨y.1, y.2 _ (SqL.of (s' _ _ upd_same))⟩⟩
section
variable {P : Program} {w : World} {K : PySem.W.Frag} {mg : Str → Option Value} {base : Heap}
theorem c_lw {f : Addr} {fd : FuncData} (F : Def K mg "_law_is_word" sLW f fd) (b : Binds K fd ["_law_x"] []) (T : Blt4 mg) : Cal P w K mg base 1 "_law_is_word" spWord [] := by
  refine cal0 F b .nil scLW (fun vs H Q E h => ?_) (fun cdv A outer s H vs Q E hr h => ?_)
  · obtain ⟨v, d, G, rfl, _⟩ := h
    rfl
  · obtain ⟨v, d, GF, rfl, hv, hz, k⟩ := h
    have nd := scLW.nd
    refine ⟨_, (pss_cons (ps_if (pw_or (pt_not (pt_val (pe_callB call_isi (by rfl) T.isi (by decide +kernel) (pa_cons (pv 0) (pa_cons (pe_bt "str" T.str) pa_nil))))) (pw_or (pt_cmp (pc_lt (pe_callB call_len_str (by rfl) T.len PySem.boot_len (pa_cons (pv 0) pa_nil)) pe_int)) (pw_or1 (pt_cmp (pc_gt (pe_callB call_len_str (by rfl) T.len PySem.boot_len (pa_cons (pv 0) pa_nil)) pe_int))))).pt
        (pss_one (ps_ret pe_bl)) pss_nil)
      (pss_one (ps_ret (pe_callB (cr_all rfl) (by rfl) T.all (by decide +kernel) (pa_cons (pe_lc (own := [("_law_sign", 1)]) (g := (gName 1)) (tt := tYes) rfl nd (pi_str (pv 0)) (blkOk_by (N := NLW) (sc := fnScope sLW) (by decide +kernel)) (fun _ _ _ _ _ => (pg_name (i := 1) nd rfl (Or.inl rfl))) (fun _ _ _ _ _ => pts_nil) (fun _ _ _ _ _ => (pe_cmpR op_in_sign (pv 1) pe_str (by rfl)))) pa_nil))))), ?_⟩
    obtain ⟨Ty, ty, _, k1, _⟩ := d_ty2 (K := K) hv
    have ty0 := ty H fun _ _ e => e
    have s0 : Same H H := fun _ _ e => e
    refine ⟨_, rfl, v, .ty "str", _, _, _, rfl, .ty _, ty0, k1, _, rfl, ?_⟩
    cases hs : isSt d with
    | false =>
      rw [wordB_no hs] at k
      exact iteBt rfl (iteBt rfl (k H s0))
    | true =>
      obtain ⟨z, rfl⟩ := isSt_inv hs
      obtain ⟨rfl, _⟩ := hv
      have hz := hz z rfl
      have hls : z.length ≤ sizeLine := by rw [sizeLine_eq]; omega
      have wz : wordB (.fl (.str z)) = wordS z := rfl
      rw [wz] at k
      refine iteBf rfl ⟨_, rfl, z, rfl, hls, z.length, 1, rfl, rfl, _, rfl, ?_⟩
      by_cases l1 : (z.length : Int) < 1
      · have : wordS z = false := by unfold wordS; rw [decide_eq_false (by omega), Bool.false_and]
        rw [this] at k
        exact iteBt (decide_eq_true l1) (iteBt rfl (k H s0))
      refine iteBf (decide_eq_false l1) ⟨_, rfl, z, rfl, hls, z.length, 8, rfl, rfl, _, rfl, ?_⟩
      by_cases l8 : (8 : Int) < z.length
      · have : wordS z = false := by unfold wordS; rw [decide_eq_false (p := z.length ≤ 8) (by omega), Bool.false_and, Bool.and_false]
        rw [this] at k
        exact iteBt (decide_eq_true l8) (k H s0)
      refine iteBf (decide_eq_false l8) ⟨_, rfl, z, rfl, fun Da nDa => ?_⟩
      have hw : wordS z = z.cps.toList.all fun c => decide (c ∈ letters.cps.toList) := by unfold wordS; rw [decide_eq_true (p := 1 ≤ z.length) (by omega), decide_eq_true (p := z.length ≤ 8) (by omega), Bool.true_and, Bool.true_and]
      have hlz : z.cps.size = z.length := rfl
      refine lc_gen (J := Its z) z.cps.size (fun i H' => H' Da = some (.lst (((z.cps.toList.take i).map fun c => decide (c ∈ letters.cps.toList)).map V.bl)) ∧ Same H H') ⟨upd_same, same_upd nDa⟩ (fun i H' hi _ => hi) (fun H' _ => Nat.le_refl _) (fun i H' x H'' hi ⟨hD, sm⟩ yl => ?_) (fun H' ⟨hD, sm⟩ => ?_)
      · obtain ⟨rfl, c, hcc, rfl⟩ := yl
        refine ⟨rfl, ?_⟩
        unfold tYes
        dsimp only
        rw [if_pos rfl]
        have hlt : i < z.cps.toList.length := by rw [Array.length_toList]; exact hi
        have hce : z.cps.toList[i] = c := by
          have : z.cps.toList[i]? = some c := by rw [Array.getElem?_toList]; exact hcc
          exact (List.getElem?_eq_some_iff.mp this).2
        refine ⟨_, rfl, c, letters, rfl, rfl, _, hD, by rw [List.length_map, List.length_map, List.length_take, sizeLine_eq]; omega, ?_, fun b o e => by rw [upd_ne (ne_of_none e nDa)]; exact sm _ _ e⟩
        rw [upd_same, List.take_succ_eq_append_getElem hlt, hce, List.map_append, List.map_append]
        rfl
      · rw [List.take_of_length_le (by rw [Array.length_toList]; exact Nat.le_refl _)] at hD
        refine ⟨Da, _, rfl, SqL.of hD, ?_⟩
        rw [List.all_map]
        rw [hw] at k
        exact k _ sm
theorem ls_step {k : Nat} {N : Nat} {f : Addr} {fd : FuncData} (F : Def K mg "_law_is_shape" sLS f fd) (b : Binds K fd ["_law_x"] []) (T : Blt4 mg) (CW : Cal P w K mg base 1 "_law_is_word" spWord []) (C_is_shape : Cal P w K mg base k "_law_is_shape" (spLS N) []) (hk : 1 ≤ k) : Cal P w K mg base (k + 1) "_law_is_shape" (spLS (N + 1)) [] := by
  refine cal0 F b .nil scLS (fun vs H Q E h => ?_) (fun cdv A outer s H vs Q E hr h => ?_)
  · obtain ⟨v, d, G, rfl, _⟩ := h
    rfl
  · obtain ⟨v, d, GF, rfl, hv, hsd, hz, hz5, kk⟩ := h
    have nd := scLS.nd
    refine ⟨_, (pss_cons (ps_if (pt_val (pe_callB call_isi (by rfl) T.isi (by decide +kernel) (pa_cons (pv 0) (pa_cons (pe_bt "str" T.str) pa_nil))))
        (pss_one (ps_ret (pe_c CW hr hk (by rfl) (pa_cons (pv 0) pa_nil)))) pss_nil)
      (pss_cons (ps_if (pw_or (pt_not (pt_val (pe_callB call_isiT (by rfl) T.isi (by decide +kernel) (pa_cons (pv 0) (pa_cons (pe_tup (pa_cons (pe_bt "list" T.list) (pa_cons (pe_bt "tuple" T.tup) pa_nil))) pa_nil))))) (pw_or (pt_cmp (pc_eqI (pe_callB call_len_seq (by rfl) T.len PySem.boot_len (pa_cons (pv 0) pa_nil)) pe_int)) (pw_or1 (pt_not (pt_val (pe_c CW hr hk (by rfl) (pa_cons (pe_ix ix_seq (pv 0) pe_int fun _ _ => rfl) pa_nil))))))).pt
        (pss_one (ps_ret pe_bl)) pss_nil)
      (pss_one (ps_ret (pe_callB (cr_all rfl) (by rfl) T.all (by decide +kernel) (pa_cons (pe_lc (own := [("_law_child", 1)]) (g := (gName 1)) (tt := tYes) rfl nd (PI.or (pi_list (pe_slice (SlR.or sl_list sl_tup) (pv 0) (po_some pe_int) po_none)) (pi_tup (pe_slice (SlR.or sl_list sl_tup) (pv 0) (po_some pe_int) po_none))) (blkOk_by (N := NLS) (sc := fnScope sLS) (by decide +kernel)) (fun _ _ _ _ _ => (pg_name (i := 1) nd rfl (Or.inl rfl))) (fun _ _ _ _ _ => pts_nil) (fun _ _ _ _ _ => (pe_c C_is_shape hr (Nat.le_refl _) (by rfl) (pa_cons (pv 1) pa_nil)))) pa_nil)))))), ?_⟩
    have hsl := sizeLine_eq
    obtain ⟨Ty, ty, kA, kO⟩ := d_ty (K := K) hv
    refine ⟨_, rfl, v, .ty "str", _, _, _, rfl, .ty _, ty H (fun _ _ e => e), kO, _, rfl, ?_⟩
    cases hst : isSt d with
    | true =>
      obtain ⟨z, rfl⟩ := isSt_inv hst
      exact iteBt rfl ⟨_, rfl, v, .fl (.str z), GF, rfl, hv, short_str hsd, fun H' s' => kk H' s'⟩
    | false =>
      refine iteBf rfl ⟨_, rfl, (by show 2 ≤ sizeLine; decide), fun p np => ⟨v, p, [.ty "list", .ty "tuple"], _, _, isSq d, rfl, upd_same, .cons (.ty _) (.cons (.ty _) .nil), ty _ (same_upd np), kA, isSq d, rfl, ?_⟩⟩
      have s1 : Same H (upd H p (.tup [.ty "list", .ty "tuple"])) := same_upd np
      generalize upd H p (.tup [.ty "list", .ty "tuple"]) = H1 at s1
      cases d with
      | fl x =>
        have e : isSh (.fl x) = false := by cases x <;> first | rfl | cases hst
        rw [e] at kk
        exact iteBt rfl (iteBt rfl (kk H1 s1))
      | emp => exact iteBt rfl (iteBt rfl (kk H1 s1))
      | sq xs =>
        obtain ⟨a, vs, rfl, q, _, hvs⟩ := hv
        have q1 : H1 a = some (.tup vs) ∨ H1 a = some (.lst vs) := q.imp (s1 _ _) fun e => s1 _ _ e.2
        refine iteBf rfl ⟨_, rfl, a, vs, rfl, q1.elim (fun e => .inr (SqT.of e)) (fun e => .inl (SqL.of e)), (vs.length : Nat), 0, rfl, rfl, _, rfl, ?_⟩
        match xs, vs, hvs with
        | [], [], _ => exact iteBt (by decide) (iteBt rfl (kk H1 s1))
        | x :: cs, u :: us, ⟨hu, hus⟩ =>
          rw [shortD, shortDs, Bool.and_eq_true] at hsd
          have hzc : sz (.sq (x :: cs)) = 1 + (sz x + szs cs) := rfl
          rw [isSh_sq] at kk
          have hul := hus.len
          have hcl := len_szs cs
          refine iteBf (decide_eq_false (by rw [List.length_cons]; omega)) ?_
          have ix : ∀ Q : VK, Q u H1 → rIx K (.ref a) (.int 0) H1 Q := fun Q hQ => q1.elim (fun e => .inr (.inl ⟨a, _, 0, u, rfl, rfl, SqT.of e, at_of (j := 0) (by omega) rfl, hQ⟩)) (fun e => .inl ⟨a, _, 0, u, rfl, rfl, SqL.of e, at_of (j := 0) (by omega) rfl, hQ⟩)
          refine ⟨_, rfl, ix _ ⟨u, x, GF, rfl, DAt.hold (.same s1) _ hu, short_str hsd.1, fun H2 s2 => ⟨_, rfl, ?_⟩⟩⟩
          have s02 := s1.trans s2
          cases hw : wordB x with
          | false =>
            rw [hw] at kk
            exact iteBt rfl (kk H2 s02)
          | true =>
          rw [hw, Bool.true_and] at kk
          refine iteBf rfl ?_
          have q2 : H2 a = some (.tup (u :: us)) ∨ H2 a = some (.lst (u :: us)) := q1.imp (s2 _ _) (s2 _ _)
          refine sl_walk (a := a) (x := u) (us := us) rfl q2 fun J H3 s3 jgo jst jyl => fun Da nDa => ?_
          have s03 := s02.trans s3
          refine lc_gen (J := J) us.length (fun j H' => H' Da = some (.lst (((cs.take j).map isSh).map V.bl)) ∧ Same H3 H') ⟨upd_same, same_upd nDa⟩ (fun j H' hj ⟨_, sm⟩ => jgo j H' hj sm) (fun H' ⟨_, sm⟩ => jst H' sm) (fun j H' z H'' hj ⟨hD, sm⟩ yl => ?_) (fun H' ⟨hD, sm⟩ => ?_)
          · obtain ⟨rfl, hz⟩ := jyl j H' z H'' sm yl
            obtain ⟨c, hc, hzc⟩ := hus.get hz
            obtain ⟨hlt, ec⟩ := List.getElem?_eq_some_iff.mp hc
            have hcz := szs_get hc
            refine ⟨rfl, ?_⟩
            unfold tYes
            dsimp only
            rw [if_pos rfl]
            refine ⟨_, rfl, z, c, GF, rfl, DAt.hold (.same (s03.trans sm)) _ hzc, short_mem hsd.2 c (List.mem_of_getElem? hc), by omega, by omega, fun H4 s4 => ⟨_, s4 _ _ hD, by rw [List.length_map, List.length_map, List.length_take]; omega, ?_, fun b o e => by rw [upd_ne (ne_of_none e nDa)]; exact s4 _ _ (sm _ _ e)⟩⟩
            rw [upd_same, List.take_succ_eq_append_getElem hlt, ec, List.map_append, List.map_append]
            rfl
          · rw [hul, List.take_length] at hD
            refine ⟨Da, _, rfl, SqL.of hD, ?_⟩
            have := kk H' (s03.trans sm)
            rw [isShs_all]
            exact this
theorem c_ls {f : Addr} {fd : FuncData} (F : Def K mg "_law_is_shape" sLS f fd) (b : Binds K fd ["_law_x"] []) (T : Blt4 mg) (CW : Cal P w K mg base 1 "_law_is_word" spWord []) : ∀ N : Nat, Cal P w K mg base (1 + N) "_law_is_shape" (spLS N) []
  | 0 => by
    have no : ∀ {vs H Q E}, spLS 0 vs H Q E → False := fun ⟨_, d, _, _, _, _, h, _⟩ => by have := sz_pos d; omega
    exact cal0 F b .nil scLS (fun vs H Q E h => (no h).elim) (fun cdv A outer s H vs Q E hr h => (no h).elim)
  | N + 1 => ls_step F b T CW (c_ls F b T CW N) (show 1 ≤ 1 + N by omega)
/-- has keep; of a shape -/
theorem lk_step {k : Nat} {N : Nat} {f : Addr} {fd : FuncData} (F : Def K mg "_law_has_keep" sLK f fd) (b : Binds K fd ["_law_shape_here"] []) (T : Blt7 mg) (C_has_keep : Cal P w K mg base k "_law_has_keep" (spLK N) []) : Cal P w K mg base (k + 1) "_law_has_keep" (spLK (N + 1)) [] := by
  refine cal0 F b .nil scLK (fun vs H Q E h => ?_) (fun cdv A outer s H vs Q E hr h => ?_)
  · obtain ⟨v, d, G, rfl, _⟩ := h
    rfl
  · obtain ⟨v, d, GF, rfl, hv, hsh, hz, hz5, kk⟩ := h
    have nd := scLK.nd
    refine ⟨_, (pss_cons (ps_if (pt_val (pe_callB call_isi (by rfl) T.isi (by decide +kernel) (pa_cons (pv 0) (pa_cons (pe_bt "str" T.str) pa_nil))))
        (pss_one (ps_ret pe_bl)) pss_nil)
      (pss_one (ps_ret (pe_or (pe_cmpR op_eq (pe_ix ix_seq (pv 0) pe_int fun _ _ => rfl) pe_str (nomark _)) (pe_one (pe_callB (cr_any rfl) (by rfl) T.any (by decide +kernel) (pa_cons (pe_lc (own := [("_law_x", 1)]) (g := (gName 1)) (tt := tYes) rfl nd (PI.or (pi_list (pe_slice (SlR.or sl_list sl_tup) (pv 0) (po_some pe_int) po_none)) (pi_tup (pe_slice (SlR.or sl_list sl_tup) (pv 0) (po_some pe_int) po_none))) (blkOk_by (N := NLK) (sc := fnScope sLK) (by decide +kernel)) (fun _ _ _ _ _ => (pg_name (i := 1) nd rfl (Or.inl rfl))) (fun _ _ _ _ _ => pts_nil) (fun _ _ _ _ _ => (pe_c C_has_keep hr (Nat.le_refl _) (by rfl) (pa_cons (pv 1) pa_nil)))) pa_nil))))))), ?_⟩
    have hsl := sizeLine_eq
    obtain ⟨Ty, ty, kA, kO⟩ := d_ty (K := K) hv
    refine ⟨_, rfl, v, .ty "str", _, _, _, rfl, .ty _, ty H (fun _ _ e => e), kO, _, rfl, ?_⟩
    rcases isSh_inv hsh with ⟨z, rfl, hzw⟩ | ⟨z, cs, rfl, hzw, hcs⟩
    · exact iteBt rfl (kk H fun _ _ e => e)
    · obtain ⟨a, vs, rfl, q, _, hvs⟩ := hv
      match vs, hvs with
      | [], h => exact h.elim
      | u :: us, ⟨⟨hu, _⟩, hus⟩ =>
      subst hu
      have q : H a = some (.tup (.str z :: us)) ∨ H a = some (.lst (.str z :: us)) := q.imp id fun e => e.2
      have hzc : sz (.sq (.fl (.str z) :: cs)) = 2 + szs cs := by rw [sz, szs, sz]; omega
      have hul := hus.len
      have hcl := len_szs cs
      have ix : ∀ Q : VK, Q (.str z) H → rIx K (.ref a) (.int 0) H Q := fun Q hQ => q.elim (fun e => .inr (.inl ⟨a, _, 0, _, rfl, rfl, SqT.of e, at_of (j := 0) (by omega) rfl, hQ⟩)) (fun e => .inl ⟨a, _, 0, _, rfl, rfl, SqL.of e, at_of (j := 0) (by omega) rfl, hQ⟩)
      have hl : lnm (.sq (.fl (.str z) :: cs)) = z :: lnms cs := by rw [lnm]
      rw [hl] at kk
      refine iteBf rfl ⟨_, rfl, ix _ ⟨rfl, ?_⟩⟩
      refine ⟨_, rfl, ?_⟩
      by_cases hk : z = "keep"
      · refine iteBt (decide_eq_true (by rw [hk])) ?_
        rw [decide_eq_true (by rw [hk]; exact List.mem_cons_self)] at kk
        exact kk H fun _ _ e => e
      refine iteBf (decide_eq_false fun e => hk (by injection e)) ?_
      have e1 : decide (("keep" : Str) ∈ z :: lnms cs) = decide (("keep" : Str) ∈ lnms cs) := decide_eq_decide.mpr (by rw [List.mem_cons]; exact ⟨fun h => h.resolve_left fun e => hk e.symm, .inr⟩)
      rw [e1] at kk
      refine sl_walk (a := a) (x := .str z) (us := us) rfl q fun J H3 s3 jgo jst jyl => fun Da nDa => ?_
      refine lc_gen (J := J) us.length (fun j H' => H' Da = some (.lst (((cs.take j).map fun c => decide (("keep" : Str) ∈ lnm c)).map V.bl)) ∧ Same H3 H') ⟨upd_same, same_upd nDa⟩ (fun j H' hj ⟨_, sm⟩ => jgo j H' hj sm) (fun H' ⟨_, sm⟩ => jst H' sm) (fun j H' z H'' hj ⟨hD, sm⟩ yl => ?_) (fun H' ⟨hD, sm⟩ => ?_)
      · obtain ⟨rfl, hz⟩ := jyl j H' z H'' sm yl
        obtain ⟨c, hc, hzc⟩ := hus.get hz
        obtain ⟨hlt, ec⟩ := List.getElem?_eq_some_iff.mp hc
        have hcz := szs_get hc
        refine ⟨rfl, ?_⟩
        unfold tYes
        dsimp only
        rw [if_pos rfl]
        refine ⟨_, rfl, z, c, GF, rfl, DAt.hold (.same (s3.trans sm)) _ hzc, isShs_mem hcs c (List.mem_of_getElem? hc), by omega, by omega, fun H4 s4 => ⟨_, s4 _ _ hD, by rw [List.length_map, List.length_map, List.length_take]; omega, ?_, fun b o e => by rw [upd_ne (ne_of_none e nDa)]; exact s4 _ _ (sm _ _ e)⟩⟩
        rw [upd_same, List.take_succ_eq_append_getElem hlt, ec, List.map_append, List.map_append]
        rfl
      · rw [hul, List.take_length] at hD
        refine ⟨Da, _, rfl, SqL.of hD, ?_⟩
        rw [keep_any]
        exact kk H' (s3.trans sm)
theorem c_lk {f : Addr} {fd : FuncData} (F : Def K mg "_law_has_keep" sLK f fd) (b : Binds K fd ["_law_shape_here"] []) (T : Blt7 mg) : ∀ N : Nat, Cal P w K mg base (1 + N) "_law_has_keep" (spLK N) []
  | 0 => by
    have no : ∀ {vs H Q E}, spLK 0 vs H Q E → False := fun ⟨_, d, _, _, _, _, h, _⟩ => by have := sz_pos d; omega
    exact cal0 F b .nil scLK (fun vs H Q E h => (no h).elim) (fun cdv A outer s H vs Q E hr h => (no h).elim)
  | N + 1 => lk_step F b T (c_lk F b T N)
theorem lt_step {k : Nat} {N : Nat} {f : Addr} {fd : FuncData} (F : Def K mg "_law_tuples" sLT f fd) (b : Binds K fd ["_law_thing"] []) (T : Blt4 mg) (C_tuples : Cal P w K mg base k "_law_tuples" (spLT N) []) : Cal P w K mg base (k + 1) "_law_tuples" (spLT (N + 1)) [] := by
  refine cal0 F b .nil scLT (fun vs H Q E h => ?_) (fun cdv A outer s H vs Q E hr h => ?_)
  · obtain ⟨v, d, G, rfl, _⟩ := h
    rfl
  · obtain ⟨v, d, GF, rfl, hv, hsh, hz, hz5, kk⟩ := h
    have nd := scLT.nd
    refine ⟨_, (pss_cons (ps_if (pt_val (pe_callB call_isi (by rfl) T.isi (by decide +kernel) (pa_cons (pv 0) (pa_cons (pe_bt "str" T.str) pa_nil))))
        (pss_one (ps_ret (pv 0))) pss_nil)
      (pss_one (ps_ret (pe_op op_catT (pe_tup (pa_cons (pe_ix ix_seq (pv 0) pe_int fun _ _ => rfl) pa_nil)) (pe_callTy call_tuple_of (by rfl) T.tup (by decide +kernel) (pa_cons (pe_lc (own := [("_law_x", 1)]) (g := (gName 1)) (tt := tYes) rfl nd (PI.or (pi_list (pe_slice (SlR.or sl_list sl_tup) (pv 0) (po_some pe_int) po_none)) (pi_tup (pe_slice (SlR.or sl_list sl_tup) (pv 0) (po_some pe_int) po_none))) (blkOk_by (N := NLT) (sc := fnScope sLT) (by decide +kernel)) (fun _ _ _ _ _ => (pg_name (i := 1) nd rfl (Or.inl rfl))) (fun _ _ _ _ _ => pts_nil) (fun _ _ _ _ _ => (pe_c C_tuples hr (Nat.le_refl _) (by rfl) (pa_cons (pv 1) pa_nil)))) pa_nil)))))), ?_⟩
    have hsl := sizeLine_eq
    obtain ⟨Ty, ty, kA, kO⟩ := d_ty (K := K) hv
    refine ⟨_, rfl, v, .ty "str", _, _, _, rfl, .ty _, ty H (fun _ _ e => e), kO, _, rfl, ?_⟩
    rcases isSh_inv hsh with ⟨z, rfl, hzw⟩ | ⟨z, cs, rfl, hzw, hcs⟩
    · obtain ⟨rfl, _⟩ := hv
      exact iteBt rfl ⟨_, rfl, kk _ H (fun _ _ e => e) ⟨rfl, rfl⟩⟩
    · obtain ⟨a, vs, rfl, q, _, hvs⟩ := hv
      match vs, hvs with
      | [], h => exact h.elim
      | u :: us, ⟨⟨hu, _⟩, hus⟩ =>
      subst hu
      have q : H a = some (.tup (.str z :: us)) ∨ H a = some (.lst (.str z :: us)) := q.imp id fun e => e.2
      have hzc : sz (.sq (.fl (.str z) :: cs)) = 2 + szs cs := by rw [sz, szs, sz]; omega
      have hul := hus.len
      have hcl := len_szs cs
      have ix : ∀ Q : VK, Q (.str z) H → rIx K (.ref a) (.int 0) H Q := fun Q hQ => q.elim (fun e => .inr (.inl ⟨a, _, 0, _, rfl, rfl, SqT.of e, at_of (j := 0) (by omega) rfl, hQ⟩)) (fun e => .inl ⟨a, _, 0, _, rfl, rfl, SqL.of e, at_of (j := 0) (by omega) rfl, hQ⟩)
      refine iteBf rfl ⟨_, rfl, ix _ ⟨(by show 1 ≤ sizeLine; decide), fun p np => ?_⟩⟩
      have s1 : Same H (upd H p (.tup [.str z])) := same_upd np
      have hp1 : (upd H p (.tup [.str z])) p = some (.tup [.str z]) := upd_same
      generalize upd H p (.tup [.str z]) = H1 at s1 hp1
      refine sl_walk (a := a) (x := .str z) (us := us) rfl (q.imp (s1 _ _) (s1 _ _)) fun J H3 s3 jgo jst jyl => fun Da nDa => ?_
      have s13 := s1.trans s3
      refine lc_gen (J := J) us.length (fun j H' => ∃ ys, H' Da = some (.lst ys) ∧ DAts nol H' ys (cs.take j) ∧ Same H3 H') ⟨[], upd_same, trivial, same_upd nDa⟩ (fun j H' hj ⟨_, _, _, sm⟩ => jgo j H' hj sm) (fun H' ⟨_, _, _, sm⟩ => jst H' sm) (fun j H' z H'' hj ⟨ys, hD, hys, sm⟩ yl => ?_) (fun H' ⟨ys, hD, hys, sm⟩ => ?_)
      · obtain ⟨rfl, hz⟩ := jyl j H' z H'' sm yl
        obtain ⟨c, hc, hzc⟩ := hus.get hz
        obtain ⟨hlt, ec⟩ := List.getElem?_eq_some_iff.mp hc
        have hcz := szs_get hc
        have hyl := hys.len
        rw [List.length_take] at hyl
        refine ⟨rfl, ?_⟩
        unfold tYes
        dsimp only
        rw [if_pos rfl]
        refine ⟨_, rfl, z, c, GF, rfl, DAt.hold (.same (s13.trans sm)) _ hzc, isShs_mem hcs c (List.mem_of_getElem? hc), by omega, by omega, fun v' H4 s4 hv' => ⟨_, s4 _ _ hD, by omega, _, upd_same, ?_, fun b o e => by rw [upd_ne (ne_of_none e nDa)]; exact s4 _ _ (sm _ _ e)⟩⟩
        have hold : Hold nol H4 (upd H4 Da (.lst (ys ++ [v']))) := ⟨fun b vs e => by rw [upd_ne (ne_of e (s4 _ _ hD) (by intro z; cases z))]; exact e, fun b e => by rw [upd_ne (ne_of e (s4 _ _ hD) (by intro z; cases z))]; exact e, fun _ _ h => h.elim⟩
        rw [List.take_succ_eq_append_getElem hlt, ec]
        exact DAts.app (DAts.hold hold _ (DAts.hold (.same s4) _ hys)) ⟨DAt.hold hold _ hv', trivial⟩
      · rw [hul, List.take_length] at hys
        have hyl := hys.len
        refine ⟨Da, _, rfl, .inl ⟨SqL.of hD, fun t nt => ?_⟩⟩
        have s5 : Same H' (upd H' t (.tup ys)) := same_upd nt
        have hp5 := s5 _ _ (sm _ _ (s3 _ _ hp1))
        refine ⟨p, t, [.str z], ys, rfl, rfl, SqT.of hp5, SqT.of upd_same, by simp, by rw [List.length_singleton]; omega, fun e => ?_, fun _ r nr => ?_⟩
        · subst e
          exact kk (.ref p) _ (s13.trans (sm.trans s5)) ⟨p, _, rfl, .inl hp5, rfl, ⟨rfl, rfl⟩, DAts.hold (.same s5) _ hys⟩
        · have s6 := s5.trans (same_upd nr (o := .tup ([.str z] ++ ys)))
          exact kk (.ref r) _ (s13.trans (sm.trans s6)) ⟨r, _, rfl, .inl upd_same, rfl, ⟨rfl, rfl⟩, DAts.hold (.same s6) _ hys⟩
theorem c_lt {f : Addr} {fd : FuncData} (F : Def K mg "_law_tuples" sLT f fd) (b : Binds K fd ["_law_thing"] []) (T : Blt4 mg) : ∀ N : Nat, Cal P w K mg base (1 + N) "_law_tuples" (spLT N) []
  | 0 => by
    have no : ∀ {vs H Q E}, spLT 0 vs H Q E → False := fun ⟨_, d, _, _, _, _, h, _⟩ => by have := sz_pos d; omega
    exact cal0 F b .nil scLT (fun vs H Q E h => (no h).elim) (fun cdv A outer s H vs Q E hr h => (no h).elim)
  | N + 1 => lt_step F b T (c_lt F b T N)
end
end K9

namespace K9
open PySem PySem.Spec PyProof.Rows L2 C8 XE XR TX
/-! the law's own look at kinds and bars -/
abbrev sWf : Stmt := top 47
abbrev NWf : List Str := ["_law_x", "_law_holes_here", "_law_hole", "_law_word"]
theorem scWf : FnScope NWf ["_law_x", "_law_holes_here"] (fnScope sWf) := fnScope_by (by decide +kernel)
def spWf : Sp := fun vs H Q _ => ∃ (v : V) (a : KA) (F : Addr → Prop) (hl : Addr) (hs : List Str), vs = [v, .ref hl] ∧ KAt F H v a ∧ a.small ∧ a.few ∧ H hl = some (.lst (hs.map V.str)) ∧ ∀ H', Same H H' → Q (.bl (okK hs a)) H'
theorem lt_walk2 {K : PySem.W.Frag} {te : TE} {σ : L2.St} {H : Hp} {R : It → Hp → Prop} {a : Addr} {vs : List V} (hte : ∀ Q : VK, Q (.ref a) H → te σ H Q) (q : H a = some (.tup vs) ∨ H a = some (.lst vs))
    (h : ∀ J : It, (∀ j H', j < vs.length → H' a = H a → J.go j H') → (∀ H', H' a = H a → J.stop vs.length H') → (∀ j H' x H'', H' a = H a → J.yld j H' x H'' → H'' = H' ∧ vs[j]? = some x) → R J H) : iList K te σ H R ∨ iTup K te σ H R := by
  rcases q with q | q
  · exact .inr (hte _ ⟨a, rfl, ⟨vs, SqT.of q⟩, h _ (fun j H' hj e => ⟨vs, vs.getD j .non, SqT.of (by rw [e]; exact q), getD_at hj⟩) (fun H' e => ⟨vs, SqT.of (by rw [e]; exact q), Nat.le_refl _⟩) (fun j H' x H'' e y => ⟨y.1, y.2 _ (SqT.of (by rw [e]; exact q))⟩)⟩)
  · exact .inl (hte _ ⟨a, rfl, ⟨vs, SqL.of q⟩, h _ (fun j H' hj e => ⟨vs, vs.getD j .non, SqL.of (by rw [e]; exact q), getD_at hj⟩) (fun H' e => ⟨vs, SqL.of (by rw [e]; exact q), Nat.le_refl _⟩) (fun j H' x H'' e y => ⟨y.1, y.2 _ (SqL.of (by rw [e]; exact q))⟩)⟩)
theorem valV_at {k : Key} {v : V} : ∀ {kvs : List (Key × V)} {i : Nat}, (kvs.map fun e => e.1).Nodup → kvs[i]? = some (k, v) → valV kvs k = some v
  | [], _, _, h => by simp at h
  | x :: kvs, 0, _, h => by
    cases h
    exact valV_pos rfl
  | x :: kvs, i + 1, nd, h => by
    rw [List.map_cons, List.nodup_cons] at nd
    rw [List.getElem?_cons_succ] at h
    rw [valV_neg (fun e => nd.1 (by rw [e]; exact List.mem_map.mpr ⟨(k, v), List.mem_of_getElem? h, rfl⟩))]
    exact valV_at nd.2 h
theorem ke_keys {F : Addr → Prop} {H : Hp} : ∀ {kvs : List (Key × V)} {es : List (Key × D)}, Paired (KE F H) kvs es → (kvs.map fun e => e.1) = es.map fun e => e.1
  | _, _, .nil => rfl
  | _, _, .cons ⟨e, _⟩ t => by rw [List.map_cons, List.map_cons, e, ke_keys t]
theorem none_kat {F : Addr → Prop} {v : V} {a : KA} {H : Hp} (h : KAt F H v a) : decide (v = V.non) = noneB a := by
  cases a with
  | k es =>
    obtain ⟨r, _, rfl, _⟩ := h
    rfl
  | t es =>
    obtain ⟨r, _, rfl, _⟩ := h
    rfl
  | d x =>
    cases x with
    | fl x =>
      obtain ⟨rfl, _⟩ := h
      cases v <;> rfl
    | emp =>
      obtain ⟨r, rfl, _⟩ := h
      rfl
    | sq x =>
      obtain ⟨r, _, rfl, _⟩ := h
      rfl
section
variable {P : Program} {w : World} {K : PySem.W.Frag} {mg : Str → Option Value} {base : Heap}
theorem c_wf {f : Addr} {fd : FuncData} (F : Def K mg "_law_words_fit" sWf f fd) (b : Binds K fd ["_law_x", "_law_holes_here"] []) (T : Blt4 mg) (C_is_word : Cal P w K mg base 1 "_law_is_word" spWord []) : Cal P w K mg base 2 "_law_words_fit" spWf [] := by
  refine cal0 F b .nil scWf (fun vs H Q E h => ?_) (fun cdv A outer s H vs Q E hr h => ?_)
  · obtain ⟨v, a, G, hl, hs, rfl, _⟩ := h
    rfl
  · obtain ⟨v, ka, GF, hl, hs, rfl, hv, hsm, hfw, hhl, k⟩ := h
    have nd := scWf.nd
    have hsl := sizeLine_eq
    have hu : (A.deeper (envOfC "_law_words_fit" (fnScope sWf) s.heap.objs.size f cdv)).units + 1 < cLine := by have := hr.un; omega
    have hu6 : (A.deeper (envOfC "_law_words_fit" (fnScope sWf) s.heap.objs.size f cdv)).units + 64 < cLine := by have := hr.un; omega
    refine ⟨_, (pss_cons (ps_if (pt_cmp (pc_isN (pv 0)))
        (pss_one (ps_ret pe_bl)) pss_nil)
      (pss_cons (ps_if (pt_not (pt_val (pe_callB call_isi (by rfl) T.isi (by decide +kernel) (pa_cons (pv 0) (pa_cons (pe_bt "dict" T.dic) pa_nil)))))
        (pss_one (ps_ret pe_bl)) pss_nil)
      (pss_cons (ps_lock (ps_for PassesOwn.never rfl (pi_keys (pv 0)) (pg_name (i := 2) nd rfl (Or.inl rfl))
        (pss_cons (ps_if (pw_or (pt_cmpR (op_notOf hu6) (pv 2) (pv 1) (by rfl)) (pw_or1 (pt_not (pt_val (pe_callB call_isiT (by rfl) T.isi (by decide +kernel) (pa_cons (pe_dget hu (pv 0) (pv 2) (fun _ _ => rfl)) (pa_cons (pe_tup (pa_cons (pe_bt "list" T.list) (pa_cons (pe_bt "tuple" T.tup) pa_nil))) pa_nil))))))).pt
          (pss_one (ps_ret pe_bl)) pss_nil)
        (pss_one (ps_if (pt_not (pt_val (pe_callB (cr_all rfl) (by rfl) T.all (by decide +kernel) (pa_cons (pe_lc (own := [("_law_word", 3)]) (g := (gName 3)) (tt := tYes) rfl nd (PI.or (pi_list (pe_dget hu (pv 0) (pv 2) (fun _ _ => rfl))) (pi_tup (pe_dget hu (pv 0) (pv 2) (fun _ _ => rfl)))) (blkOk_by (N := NWf) (sc := fnScope sWf) (by decide +kernel)) (fun _ _ _ _ _ => (pg_name (i := 3) nd rfl (Or.inl rfl))) (fun _ _ _ _ _ => pts_nil) (fun _ _ _ _ _ => (pe_c C_is_word hr (by decide) (by rfl) (pa_cons (pv 3) pa_nil)))) pa_nil))))
          (pss_one (ps_ret pe_bl)) pss_nil)))))
      (pss_one (ps_ret pe_bl))))), ?_⟩
    have hnn := none_kat hv
    refine ⟨_, rfl, _, rfl, ?_⟩
    cases hb : decide (v = V.non) with
    | true =>
      have := k H (fun _ _ e => e)
      unfold okK at this
      rw [← hnn, hb, Bool.true_or] at this
      exact iteBt rfl this
    | false =>
    have k : ∀ H', Same H H' → Q (.bl (labsB hs ka)) H' := fun H' s' => by
      have := k H' s'
      unfold okK at this
      rwa [← hnn, hb, Bool.false_or] at this
    refine iteBf rfl ?_
    obtain ⟨Ty, bd, ty, kt, no, yes⟩ := kat_dic (K := K) hv
    refine ⟨_, rfl, v, .ty "dict", _, _, bd, rfl, .ty _, ty, kt, bd, rfl, ?_⟩
    cases bd with
    | false =>
      have := k H (fun _ _ e => e)
      rw [(no rfl).2 hs] at this
      exact iteBt rfl this
    | true =>
    refine iteBf rfl ?_
    rcases yes rfl with ⟨a, kvs, es, rfl, ha, hp, hka⟩ | ⟨a, kvs, rfl, ha, hne', hkl, es, rfl⟩
    · have hlab : labsB hs ka = es.all (entB hs) := by
        rcases hka with rfl | ⟨rfl, rfl, _⟩
        · rfl
        · rfl
      have hlen := Paired.length hp
      have hel : es.length ≤ 5000 ∧ ∀ e ∈ es, shortD e.2 = true ∧ sz e.2 ≤ 100000 := by
        rcases hka with rfl | ⟨rfl, rfl, _⟩
        · exact hsm
        · exact ⟨by simp, fun e he => by cases he⟩
      have hnd : (es.map fun e => e.1).Nodup := by
        rcases hka with rfl | ⟨rfl, rfl, _⟩
        · exact hfw.1
        · exact List.nodup_nil
      have hne : hl ≠ a := ne_of hhl ha (by intro z; cases z)
      refine ⟨a, _, ha, trivial, fun od => ⟨_, rfl, a, od, rfl, .inl ⟨kvs, upd_same, ?_⟩⟩⟩
      have hh0 : (upd H a (.frz od (.dK kvs))) hl = some (.lst (hs.map V.str)) := by rw [upd_ne hne]; exact hhl
      have ha0 : (upd H a (.frz od (.dK kvs))) a = some (.frz od (.dK kvs)) := upd_same
      have hp0 : Paired (KE GF (upd H a (.frz od (.dK kvs)))) kvs es := by
        cases hk0 : kvs with
        | nil =>
          rw [hk0] at hp
          cases hp
          exact .nil
        | cons x y =>
          rw [← hk0]
          exact Paired.mono (fun _ _ ⟨e, l⟩ => ⟨e, DAt.hold (lock_kat ha (by rw [hk0]; simp)) _ l⟩) hp
      have fin : ∀ H', Same (upd H a (.frz od (.dK kvs))) H' → Q (.bl (labsB hs ka)) (upd H' a (.dK kvs)) := fun H' sm => k _ (same_lock ha fun b o _ e => sm _ _ e)
      rw [hlab] at fin
      generalize upd H a (.frz od (.dK kvs)) = H0 at hh0 ha0 hp0 fin ⊢
      refine for_gen (J := Itk a od kvs) es.length (fun i σ H' => ∃ v2 : Option V, σ = [some (.ref a), some (.ref hl), v2, none] ∧ (es.take i).all (entB hs) = true ∧ Same H0 H') ⟨_, rfl, rfl, fun _ _ e => e⟩
        (fun i σ H' hi ⟨_, _, _, sm⟩ => ⟨sm _ _ ha0, by omega⟩) (fun σ H' ⟨_, _, _, sm⟩ => ⟨sm _ _ ha0, by omega⟩) ?_ (fun σ H' ⟨v2, e, hall, sm⟩ => ?_)
      · rintro i σ H1 x H2 hi ⟨v2, rfl, hall, sm⟩ ⟨rfl, kk, v', hkv, rfl⟩
        obtain ⟨q, hq, ek, hq2⟩ := paired_get hp0 hkv
        dsimp only at ek hq2
        subst ek
        obtain ⟨hlt, eq⟩ := List.getElem?_eq_some_iff.mp hq
        obtain ⟨hqs, hqz⟩ := hel.2 q (List.mem_of_getElem? hq)
        have hfk : flatV (kV q.1) = true := by cases q.1 <;> rfl
        have ety := List.take_succ_eq_append_getElem hlt
        rw [eq] at ety
        have haN := sm _ _ ha0
        have out : entB hs q = false → ∀ H', Same H2 H' → H' a = some (.frz od (.dK kvs)) ∧ Q (.bl false) (upd H' a (.dK kvs)) := fun he H' s' => by
          refine ⟨s' _ _ haN, ?_⟩
          have := fin H' (sm.trans s')
          have e : es.all (entB hs) = false := List.all_eq_false.mpr ⟨q, List.mem_of_getElem? hq, by rw [he]; exact Bool.false_ne_true⟩
          rwa [e] at this
        have go : entB hs q = true → (es.take (i + 1)).all (entB hs) = true := fun he => by
          rw [ety, List.all_append, hall, List.all_cons, he]
          rfl
        have hval : valV kvs q.1 = some v' := valV_at (by rw [ke_keys hp0]; exact hnd) hkv
        have hget : ∀ {H' : Hp}, Same H2 H' → DGet H' a (kV q.1) (some v') := fun {H'} s' => by
          rw [← hval]
          exact .inl ⟨kvs, q.1, .inr ⟨_, s' _ _ haN⟩, rfl, rfl⟩
        refine ⟨_, rfl, _, rfl, hl, hs, rfl, .inl (SqL.of (sm _ _ hh0)), .inl hfk, _, rfl, ?_⟩
        rw [← isOf_flat hfk, inV_key]
        cases hh : holeK hs q.1 with
        | false => exact iteBt rfl (iteBt rfl (out (by unfold entB; rw [hh]; rfl) _ fun _ _ e => e))
        | true =>
        obtain ⟨Tv, tv, kA, _⟩ := d_ty (K := K) (DAt.hold (.same sm) _ hq2)
        refine iteBf rfl ⟨_, rfl, _, rfl, a, v', rfl, hget (fun _ _ e => e), (by show 2 ≤ sizeLine; decide), fun p np => ⟨v', p, [.ty "list", .ty "tuple"], _, _, isSq q.2, rfl, upd_same, .cons (.ty _) (.cons (.ty _) .nil), tv _ (same_upd np), kA, isSq q.2, rfl, ?_⟩⟩
        have s1 : Same H2 (upd H2 p (.tup [.ty "list", .ty "tuple"])) := same_upd np
        generalize upd H2 p (.tup [.ty "list", .ty "tuple"]) = H3 at s1
        obtain ⟨qk, qd⟩ := q
        have ent : entB hs (qk, qd) = wlB qd := by unfold entB; rw [hh, Bool.true_and]
        dsimp only at hq2 hqs hqz hget
        cases qd with
        | fl x => exact iteBt rfl (out (by rw [ent]; rfl) _ s1)
        | emp => exact iteBt rfl (out (by rw [ent]; rfl) _ s1)
        | sq xs =>
          obtain ⟨r, us, rfl, qr, _, hus⟩ := hq2
          have hul := hus.len
          have hcl := len_szs xs
          rw [sz] at hqz
          have s03 := sm.trans s1
          have q3 : H3 r = some (.tup us) ∨ H3 r = some (.lst us) := qr.imp (s03 _ _) fun e => s03 _ _ e.2
          have eqa : ∀ {H' : Hp}, Same H3 H' → H' r = H3 r := fun sm => by rcases q3 with e | e <;> rw [e] <;> exact sm _ _ e
          refine iteBf rfl ?_
          refine lt_walk2 (a := r) (vs := us) (fun Q hQ => ⟨_, rfl, _, rfl, a, _, rfl, hget s1, hQ⟩) q3 fun J jgo jst jyl => fun Da nDa => ?_
          refine lc_gen (J := J) us.length (fun j H' => H' Da = some (.lst (((xs.take j).map wordB).map V.bl)) ∧ Same H3 H') ⟨upd_same, same_upd nDa⟩ (fun j H' hj ⟨_, sm⟩ => jgo j H' hj (eqa sm)) (fun H' ⟨_, sm⟩ => jst H' (eqa sm)) (fun j H' x H'' hj ⟨hD, sm'⟩ yl => ?_) (fun H' ⟨hD, sm'⟩ => ?_)
          · obtain ⟨rfl, hx⟩ := jyl j H' x H'' (eqa sm') yl
            obtain ⟨c, hc, hxc⟩ := hus.get hx
            obtain ⟨hlt, ec⟩ := List.getElem?_eq_some_iff.mp hc
            refine ⟨rfl, ?_⟩
            unfold tYes
            dsimp only
            rw [if_pos rfl]
            refine ⟨_, rfl, x, c, GF, rfl, DAt.hold (.same (s03.trans sm')) _ hxc, short_str (short_mem hqs c (List.mem_of_getElem? hc)), fun H4 s4 => ⟨_, s4 _ _ hD, by rw [List.length_map, List.length_map, List.length_take]; omega, ?_, fun b o e => by rw [upd_ne (ne_of_none e nDa)]; exact s4 _ _ (sm' _ _ e)⟩⟩
            rw [upd_same, List.take_succ_eq_append_getElem hlt, ec, List.map_append, List.map_append]
            rfl
          · rw [hul, List.take_length] at hD
            refine ⟨Da, _, rfl, SqL.of hD, ?_⟩
            have e : (xs.map wordB).all id = entB hs (qk, .sq xs) := by rw [ent, wlB, List.all_map]; rfl
            rw [e]
            refine ⟨_, rfl, ?_⟩
            cases he : entB hs (qk, .sq xs) with
            | false => exact iteBt rfl (out he _ (s1.trans sm'))
            | true => exact iteBf rfl ⟨_, rfl, go he, sm.trans (s1.trans sm')⟩
      · subst e
        rw [List.take_length] at hall
        refine ⟨sm _ _ ha0, ?_⟩
        have := fin H' sm
        rw [hall] at this
        exact this
    · have hne : hl ≠ a := ne_of hhl ha (by intro z; cases z)
      refine ⟨a, _, ha, trivial, fun od => ⟨_, rfl, a, od, rfl, .inr ⟨kvs, upd_same, ?_⟩⟩⟩
      have hh0 : (upd H a (.frz od (.dT kvs))) hl = some (.lst (hs.map V.str)) := by rw [upd_ne hne]; exact hhl
      have ha0 : (upd H a (.frz od (.dT kvs))) a = some (.frz od (.dT kvs)) := upd_same
      have fin : ∀ H', Same (upd H a (.frz od (.dT kvs))) H' → Q (.bl false) (upd H' a (.dT kvs)) := fun H' sm => k _ (same_lock ha fun b o _ e => sm _ _ e)
      generalize upd H a (.frz od (.dT kvs)) = H0 at hh0 ha0 fin ⊢
      have hpos : 0 < kvs.length := List.length_pos_iff.mpr hne'
      refine for_gen (J := Itkt a od kvs) kvs.length (fun i σ H' => σ = [some (.ref a), some (.ref hl), none, none] ∧ i = 0 ∧ Same H0 H') ⟨rfl, rfl, fun _ _ e => e⟩
        (fun i σ H' hi ⟨_, _, sm⟩ => ⟨sm _ _ ha0, hi⟩) (fun σ H' ⟨_, _, sm⟩ => ⟨sm _ _ ha0, Nat.le_refl _⟩) ?_ (fun σ H' ⟨_, e, _⟩ => by omega)
      rintro i σ H1 x H2 hi ⟨rfl, _, sm⟩ ⟨rfl, kk, v', q, hkv, rfl, hq⟩
      exact ⟨_, rfl, _, rfl, hl, hs, rfl, .inl (SqL.of (sm _ _ hh0)), .inr ⟨q, _, rfl, .inr (SqT.of hq)⟩, _, rfl, iteBt rfl (iteBt rfl ⟨sm _ _ ha0, fin _ sm⟩)⟩
end
end K9

namespace CN
open PySem PySem.Spec PyProof.Rows
/-! texts in ascending order, each once -/
def sl (a b : Str) : Prop := a.cps.toList < b.cps.toList
instance (a b : Str) : Decidable (sl a b) := inferInstanceAs (Decidable (a.cps.toList < b.cps.toList))
theorem str_ext {a b : Str} (h : a.cps.toList = b.cps.toList) : a = b := by
  cases a
  cases b
  simp only at h
  congr 1
  exact Array.toList_inj.mp h
theorem sl_irr (a : Str) : ¬ sl a a := List.lt_irrefl _
theorem sl_tr {a b c : Str} (h : sl a b) (k : sl b c) : sl a c := List.lt_trans h k
theorem sl_tri {a b : Str} (h : ¬ sl a b) (k : ¬ sl b a) : a = b := str_ext (List.le_antisymm k h)
theorem sl_asym {a b : Str} (h : sl a b) : ¬ sl b a := fun k => sl_irr a (sl_tr h k)
def insR (z : Str) : List Str → List Str
  | [] => [z]
  | x :: xs => if sl x z then x :: insR z xs else z :: x :: xs
def insS (z : Str) (xs : List Str) : List Str := if z ∈ xs then xs else insR z xs
def canon (ws : List Str) : List Str := ws.foldl (fun acc z => insS z acc) []
abbrev Asc (xs : List Str) : Prop := xs.Pairwise sl
theorem mem_insR {z y : Str} : ∀ {xs : List Str}, y ∈ insR z xs ↔ y = z ∨ y ∈ xs
  | [] => by simp [insR]
  | x :: xs => by
    unfold insR
    split
    · rw [List.mem_cons, mem_insR, List.mem_cons]
      constructor
      · rintro (h | h | h)
        · exact .inr (.inl h)
        · exact .inl h
        · exact .inr (.inr h)
      · rintro (h | h | h)
        · exact .inr (.inl h)
        · exact .inl h
        · exact .inr (.inr h)
    · rw [List.mem_cons]
theorem asc_insR {z : Str} : ∀ {xs : List Str}, z ∉ xs → Asc xs → Asc (insR z xs)
  | [], _, _ => by simp [insR, Asc]
  | x :: xs, hz, h => by
    have h' := List.pairwise_cons.mp h
    rw [List.mem_cons, not_or] at hz
    unfold insR
    split
    · rename_i hx
      refine List.pairwise_cons.mpr ⟨fun y hy => ?_, asc_insR hz.2 h'.2⟩
      rcases mem_insR.mp hy with rfl | hy
      · exact hx
      · exact h'.1 y hy
    · rename_i hx
      have hzx : sl z x := by
        by_cases q : sl z x
        · exact q
        · exact absurd (sl_tri q hx) hz.1
      refine List.pairwise_cons.mpr ⟨fun y hy => ?_, h⟩
      rcases List.mem_cons.mp hy with rfl | hy
      · exact hzx
      · exact sl_tr hzx (h'.1 y hy)
theorem asc_insS {z : Str} {xs : List Str} (h : Asc xs) : Asc (insS z xs) := by
  unfold insS
  split
  · exact h
  · rename_i hz
    exact asc_insR hz h
theorem mem_insS {z y : Str} {xs : List Str} : y ∈ insS z xs ↔ y = z ∨ y ∈ xs := by
  unfold insS
  split
  · rename_i hz
    exact ⟨.inr, fun h => h.elim (fun e => by rw [e]; exact hz) id⟩
  · exact mem_insR
theorem fold_asc : ∀ (ws acc : List Str), Asc acc → Asc (ws.foldl (fun acc z => insS z acc) acc) ∧ ∀ y, y ∈ ws.foldl (fun acc z => insS z acc) acc ↔ y ∈ ws ∨ y ∈ acc
  | [], acc, h => ⟨h, fun y => by simp⟩
  | w :: ws, acc, h => by
    obtain ⟨h1, h2⟩ := fold_asc ws (insS w acc) (asc_insS h)
    refine ⟨h1, fun y => ?_⟩
    rw [List.foldl_cons, h2, mem_insS, List.mem_cons]
    constructor
    · rintro (h | h | h)
      · exact .inl (.inr h)
      · exact .inl (.inl h)
      · exact .inr h
    · rintro ((h | h) | h)
      · exact .inr (.inl h)
      · exact .inl h
      · exact .inr (.inr h)
theorem asc_canon (ws : List Str) : Asc (canon ws) := (fold_asc ws [] .nil).1
theorem mem_canon {ws : List Str} {y : Str} : y ∈ canon ws ↔ y ∈ ws := by
  have := (fold_asc ws [] .nil).2 y
  unfold canon
  rw [this]
  simp
theorem insS_len (z : Str) (xs : List Str) : (insS z xs).length ≤ xs.length + 1 := by
  have : ∀ xs : List Str, (insR z xs).length = xs.length + 1 := fun xs => by
    induction xs with
    | nil => rfl
    | cons x xs ih =>
      unfold insR
      split
      · rw [List.length_cons, ih, List.length_cons]
      · rw [List.length_cons]
  unfold insS
  split
  · omega
  · rw [this]; omega
theorem canon_len (ws : List Str) : (canon ws).length ≤ ws.length := by
  have : ∀ (ws acc : List Str), (ws.foldl (fun acc z => insS z acc) acc).length ≤ acc.length + ws.length := fun ws => by
    induction ws with
    | nil => intro acc; simp
    | cons w ws ih =>
      intro acc
      rw [List.foldl_cons]
      have h1 := ih (insS w acc)
      have h2 := insS_len w acc
      rw [List.length_cons]
      omega
  have := this ws []
  unfold canon
  simpa using this
/-- two ascending lists with the same members are the same -/
theorem asc_uniq : ∀ {xs ys : List Str}, Asc xs → Asc ys → (∀ z, z ∈ xs ↔ z ∈ ys) → xs = ys
  | [], [], _, _, _ => rfl
  | [], y :: ys, _, _, h => absurd ((h y).mpr List.mem_cons_self) (by simp)
  | x :: xs, [], _, _, h => absurd ((h x).mp List.mem_cons_self) (by simp)
  | x :: xs, y :: ys, hx, hy, h => by
    have hx' := List.pairwise_cons.mp hx
    have hy' := List.pairwise_cons.mp hy
    have e : x = y := by
      rcases List.mem_cons.mp ((h x).mp List.mem_cons_self) with e | h1
      · exact e
      · rcases List.mem_cons.mp ((h y).mpr List.mem_cons_self) with e | h2
        · exact e.symm
        · exact absurd (sl_tr (hx'.1 y h2) (hy'.1 x h1)) (sl_irr x)
    subst e
    congr 1
    refine asc_uniq hx'.2 hy'.2 fun z => ?_
    have nx : x ∉ xs := fun q => sl_irr x (hx'.1 x q)
    have ny : x ∉ ys := fun q => sl_irr x (hy'.1 x q)
    have := h z
    rw [List.mem_cons, List.mem_cons] at this
    constructor
    · intro q
      exact (this.mp (.inr q)).elim (fun e => absurd q (by rw [e]; exact nx)) id
    · intro q
      exact (this.mpr (.inr q)).elim (fun e => absurd q (by rw [e]; exact ny)) id
theorem asc_of_sorted : ∀ {xs : List Str}, sortedS xs = true → xs.Nodup → Asc xs
  | [], _, _ => .nil
  | x :: xs, h, nd => by
    have go : ∀ (xs : List Str) (x : Str), risingS x xs = true → (x :: xs).Nodup → Asc (x :: xs) := fun xs => by
      induction xs with
      | nil => intro x _ _; exact List.pairwise_singleton _ _
      | cons y ys ih =>
        intro x h nd
        unfold risingS at h
        rw [Bool.and_eq_true] at h
        have nd' := List.nodup_cons.mp nd
        have hy := ih y h.2 nd'.2
        have hxy : sl x y := by
          by_cases q : sl x y
          · exact q
          · have h1 : ltCps y.cps.toList x.cps.toList = false := by simpa using h.1
            rw [ltCps_eq] at h1
            have q2 : ¬ sl y x := of_decide_eq_false h1
            exact absurd (sl_tri q q2) (fun e => nd'.1 (by rw [e]; exact List.mem_cons_self))
        refine List.pairwise_cons.mpr ⟨fun z hz => ?_, hy⟩
        rcases List.mem_cons.mp hz with rfl | hz
        · exact hxy
        · exact sl_tr hxy ((List.pairwise_cons.mp hy).1 z hz)
    exact go xs x h nd
theorem canon_of {ys ws : List Str} (h : sortedS ys = true) (nd : ys.Nodup) (m : ∀ z, z ∈ ys ↔ z ∈ ws) : ys = canon ws :=
  asc_uniq (asc_of_sorted h nd) (asc_canon ws) fun z => by rw [m, mem_canon]
/-- a new one goes in behind all that are less -/
theorem insR_at {z : Str} : ∀ {xs : List Str}, Asc xs → z ∉ xs → insR z xs = xs.take (xs.filter fun x => decide (sl x z)).length ++ z :: xs.drop (xs.filter fun x => decide (sl x z)).length
  | [], _, _ => rfl
  | x :: xs, h, hz => by
    have h' := List.pairwise_cons.mp h
    rw [List.mem_cons, not_or] at hz
    unfold insR
    split
    · rename_i hx
      rw [List.filter_cons_of_pos (by simpa using hx), List.length_cons, List.take_succ_cons, List.drop_succ_cons, insR_at h'.2 hz.2]
      rfl
    · rename_i hx
      have hzx : sl z x := by
        by_cases q : sl z x
        · exact q
        · exact absurd (sl_tri q hx) hz.1
      have e : ((x :: xs).filter fun x => decide (sl x z)) = [] := List.filter_eq_nil_iff.mpr fun y hy q => by
        have q := of_decide_eq_true q
        rcases List.mem_cons.mp hy with rfl | hy
        · exact hx q
        · exact sl_irr z (sl_tr (sl_tr hzx (h'.1 y hy)) q)
      rw [e]
      rfl
end CN

namespace K9
open PySem PySem.Spec PyProof.Rows L2 C8 XE XR TX
/-! _law_rising, _law_fault -/
abbrev sRis : Stmt := top 43
abbrev NRis : List Str := ["_law_things", "_law_found", "_law_thing", "_law_x"]
theorem scRis : FnScope NRis ["_law_things"] (fnScope sRis) := fnScope_by (by decide +kernel)
def spRis : Sp := fun vs H Q _ => ∃ (a : Addr) (ws : List Str), vs = [.ref a] ∧ (H a = some (.tup (ws.map V.str)) ∨ H a = some (.lst (ws.map V.str))) ∧ ws.length ≤ 100 ∧ ∀ l H', H l = none → Same H H' → H' l = some (.lst ((CN.canon ws).map V.str)) → Q (.ref l) H'
abbrev sFt : Stmt := top 48
abbrev NFt : List Str := ["_law_rule_here", "_law_left_here", "_law_right_here", "_law_kinds", "_law_bars", "_law_holes_here", "_law_hole", "_law_place"]
theorem scFt : FnScope NFt ["_law_rule_here"] (fnScope sFt) := fnScope_by (by decide +kernel)
theorem once_nd : ∀ xs : List Str, (once xs).Nodup
  | [] => List.nodup_nil
  | x :: xs => by
    rw [once, List.nodup_cons]
    exact ⟨fun h => by rw [List.mem_filter] at h; exact of_decide_eq_true h.2 rfl, (once_nd xs).filter _⟩
theorem canon_many (xs : List Str) : (CN.canon xs).length = TX.many xs := by
  have nd : (CN.canon xs).Nodup := List.Pairwise.imp (R := CN.sl) (S := fun a b => a ≠ b) (fun {a b} h e => CN.sl_irr a (by subst e; exact h)) (CN.asc_canon xs)
  have p : (CN.canon xs).Perm (once xs) := (List.perm_ext_iff_of_nodup nd (once_nd xs)).mpr fun z => by rw [CN.mem_canon, mem_once]
  exact p.length_eq
/-- what may stand for a shape -/
structure SA (F : Addr → Prop) (H : Hp) (v : V) (d : D) : Prop where
  da : DAt F H v d
  s : shortD d = true
  z : sz d ≤ 60
  n : isSh d = true → DAt nol H v d ∧ sz d ≤ 40
theorem SA.same {F : Addr → Prop} {H H' : Hp} (s : Same H H') {v : V} {d : D} (h : SA F H v d) : SA F H' v d := ⟨DAt.hold (.same s) _ h.da, h.s, h.z, fun e => ⟨DAt.hold (.same s) _ (h.n e).1, (h.n e).2⟩⟩
/-- what may stand for kinds or bars -/
structure WA (F : Addr → Prop) (H : Hp) (v : V) (a : KA) : Prop where
  ka : KAt F H v a
  m : a.small
  f : a.few
theorem WA.same {F : Addr → Prop} {H H' : Hp} (s : Same H H') {v : V} {a : KA} (h : WA F H v a) : WA F H' v a := ⟨h.ka.same s, h.m, h.f⟩
def spFt : Sp := fun vs H Q _ => ∃ (tl : Addr) (v1 v2 v3 v4 : V) (d1 d2 : D) (a3 a4 : KA) (F : Addr → Prop), vs = [.ref tl] ∧ H tl = some (.lst [v1, v2, v3, v4]) ∧ SA F H v1 d1 ∧ SA F H v2 d2 ∧ WA F H v3 a3 ∧ WA F H v4 a4 ∧ ∀ H', Same H H' → Q (optV (faultW d1 d2 a3 a4)) H'
section
variable {P : Program} {w : World} {K : PySem.W.Frag} {mg : Str → Option Value} {base : Heap}
theorem c_ris {f : Addr} {fd : FuncData} (F : Def K mg "_law_rising" sRis f fd) (b : Binds K fd ["_law_things"] []) (T : Blt4 mg) : Cal P w K mg base 1 "_law_rising" spRis [] := by
  refine cal0 F b .nil scRis (fun vs H Q E h => ?_) (fun cdv A outer s H vs Q E hr h => ?_)
  · obtain ⟨a, ws, rfl, _⟩ := h
    rfl
  · obtain ⟨a, ws, rfl, ha, hl, k⟩ := h
    have nd := scRis.nd
    have hsl := sizeLine_eq
    refine ⟨_, (pss_cons (ps_set (i := 1) nd rfl (Or.inl rfl) (pe_lst pa_nil))
      (pss_cons (ps_for PassesOwn.never rfl (PI.or (pi_list (pv 0)) (pi_tup (pv 0))) (pg_name (i := 2) nd rfl (by first | exact Or.inl rfl | exact Or.inr rfl))
        (pss_one (ps_if (pt_cmpR op_notIn_seq (pv 2) (pv 1) (by rfl))
          (pss_one (ps_expr (pe_bm PySem.F.plainAttrs_list PySem.F.slot_list_insert PySem.F.type_list_insert mt_insert (pv 1) (pa_cons (pe_callB call_len_seq (by rfl) T.len PySem.boot_len (pa_cons (pe_lc (own := [("_law_x", 3)]) (g := (gName 3)) rfl nd (pi_list (pv 1)) (blkOk_by (N := NRis) (sc := fnScope sRis) (by decide +kernel)) (fun _ _ _ _ _ => (pg_name (i := 3) nd rfl (Or.inl rfl))) (fun _ _ _ _ _ => (pts_one (pt_cmpR op_lt_str (pv 3) (pv 2) (nomark _)))) (fun _ _ _ _ _ => (pv 3))) pa_nil)) (pa_cons (pv 2) pa_nil))))) pss_nil)))
      (pss_one (ps_ret (pv 1))))), ?_⟩
    refine ⟨(by show 0 ≤ sizeLine; decide), fun L nL => ?_⟩
    have s0 : Same H (upd H L (.lst [])) := same_upd nL
    have hL0 : (upd H L (.lst [])) L = some (.lst (([] : List Str).map V.str)) := upd_same
    generalize upd H L (.lst []) = H0 at s0 hL0
    have aL : a ≠ L := by rcases ha with e | e <;> exact ne_of_none e nL
    have inv0 : ∃ v2 v3 : Option V, [some (V.ref a), some (.ref L), none, none] = [some (.ref a), some (.ref L), v2, none] ∧ True := ⟨none, none, rfl, trivial⟩
    refine lt_walk (vs := ws.map V.str) rfl (ha.imp (s0 _ _) (s0 _ _)) fun J jgo jst jyl => ?_
    refine for_gen (J := J) ws.length (fun i σ H' => ∃ v2 : Option V, σ = [some (.ref a), some (.ref L), v2, none] ∧ H' L = some (.lst (((ws.take i).foldl (fun acc z => CN.insS z acc) []).map V.str)) ∧ Same H H' ∧ H' a = H0 a) ⟨none, rfl, hL0, s0, rfl⟩
      (fun i σ H' hi ⟨_, _, _, _, e⟩ => jgo i H' (by rw [List.length_map]; exact hi) e) (fun σ H' ⟨_, _, _, _, e⟩ => by have := jst H' e; rwa [List.length_map] at this) ?_ (fun σ H' ⟨v2, e, hL, sm, _⟩ => ?_)
    · rintro i σ H1 x H2 hi ⟨v2, rfl, hL, sm, ea⟩ yl
      obtain ⟨rfl, hx⟩ := jyl i H1 x H2 ea yl
      rw [List.getElem?_map, List.getElem?_eq_getElem hi] at hx
      obtain rfl := Option.some.inj hx
      rw [List.take_succ_eq_append_getElem hi, List.foldl_append, List.foldl_cons, List.foldl_nil]
      have hlen : ((ws.take i).foldl (fun acc z => CN.insS z acc) []).length ≤ i := by
        have h1 := CN.canon_len (ws.take i)
        unfold CN.canon at h1
        rw [List.length_take] at h1
        omega
      have hasc : CN.Asc ((ws.take i).foldl (fun acc z => CN.insS z acc) []) := (CN.fold_asc (ws.take i) [] .nil).1
      generalize (ws.take i).foldl (fun acc z => CN.insS z acc) [] = acc at hL hlen hasc
      generalize ws[i] = z
      refine ⟨_, rfl, _, rfl, L, _, rfl, .inl (SqL.of hL), rfl, all_flat _, _, rfl, ?_⟩
      rw [if_pos rfl, inV_str]
      by_cases hz : z ∈ acc
      · refine iteBf (by rw [decide_eq_true hz]; rfl) ⟨_, rfl, ?_, sm, ea⟩
        unfold CN.insS
        rw [if_pos hz]
        exact hL
      · refine iteBt (by rw [decide_eq_false hz]; rfl) ?_
        unfold CN.insS
        rw [if_neg hz, CN.insR_at hasc hz]
        refine ⟨_, rfl, .inl ⟨rfl, _, SqL.of hL⟩, _, rfl, L, rfl, ⟨_, SqL.of hL⟩, fun Da nDa => ?_⟩
        have DL : Da ≠ L := (ne_of_none hL nDa).symm
        refine lc_gen (J := Itl K L) acc.length (fun j H' => H' Da = some (.lst (((acc.take j).filter fun x => decide (CN.sl x z)).map V.str)) ∧ Same H2 H') ⟨upd_same, same_upd nDa⟩ (fun j H' hj ⟨_, s'⟩ => ⟨_, .str acc[j], SqL.of (s' _ _ hL), by rw [List.getElem?_map, List.getElem?_eq_getElem hj]; rfl⟩) (fun H' ⟨_, s'⟩ => ⟨_, SqL.of (s' _ _ hL), by rw [List.length_map]; exact Nat.le_refl _⟩) (fun j H' x H'' hj ⟨hD, s'⟩ yl => ?_) (fun H' ⟨hD, s'⟩ => ?_)
        · obtain ⟨rfl, hx⟩ := yl
          have hx := hx _ (SqL.of (s' _ _ hL))
          rw [List.getElem?_map, List.getElem?_eq_getElem hj] at hx
          obtain rfl := Option.some.inj hx
          have ety := List.take_succ_eq_append_getElem hj
          have hfl := List.length_filter_le (fun x => decide (CN.sl x z)) (acc.take j)
          rw [List.length_take] at hfl
          refine ⟨rfl, _, rfl, _, rfl, _, _, rfl, rfl, _, rfl, ?_⟩
          rw [ety, List.filter_append]
          by_cases hs : CN.sl acc[j] z
          · refine iteBt (decide_eq_true hs) ⟨_, rfl, _, hD, by rw [List.length_map]; omega, ?_, fun b o e => by rw [upd_ne (ne_of_none e nDa)]; exact s' _ _ e⟩
            rw [upd_same, List.filter_cons_of_pos (by simpa using hs), List.map_append]
            rfl
          · refine iteBf (decide_eq_false hs) ⟨?_, s'⟩
            rw [List.filter_cons_of_neg (by simpa using hs), List.filter_nil, List.append_nil]
            exact hD
        · rw [List.take_length] at hD
          have hfl := List.length_filter_le (fun x => decide (CN.sl x z)) acc
          have hL' := s' _ _ hL
          have aDa : ∀ {o}, H2 a = some o → a ≠ Da := fun e => ne_of_none e nDa
          refine ⟨Da, _, rfl, .inl (SqL.of hD), _, rfl, L, _, _, _, rfl, rfl, hL', by rw [List.length_map]; omega, by omega, by rw [List.length_map]; omega, _, rfl, ?_, fun b o e => by rw [upd_ne (ne_of_none e nL)]; exact s' _ _ (sm _ _ e), ?_⟩
          · rw [upd_same, List.length_map]
            congr 2
            rw [List.map_append, List.map_cons, List.map_take, List.map_drop]
            simp
          · rw [upd_ne aL]
            have h0 : ∃ o, H0 a = some o := by rcases ha with e | e <;> exact ⟨_, s0 _ _ e⟩
            obtain ⟨o, e⟩ := h0
            rw [e, s' _ _ (by rw [ea]; exact e)]
    · rw [List.take_length] at hL
      subst e
      exact ⟨_, rfl, k L H' nL sm hL⟩
theorem c_ft {f : Addr} {fd : FuncData} (F : Def K mg "_law_fault" sFt f fd) (b : Binds K fd ["_law_rule_here"] []) (T : Blt7 mg) (C_is_shape : Cal P w K mg base 61 "_law_is_shape" (spLS 60) []) (C_has_keep : Cal P w K mg base 61 "_law_has_keep" (spLK 60) []) (C_holes : Cal P w K mg base 41 "_law_holes" (spHoles 40) []) (C_rising : Cal P w K mg base 1 "_law_rising" spRis []) (C_words_fit : Cal P w K mg base 2 "_law_words_fit" spWf []) : Cal P w K mg base 62 "_law_fault" spFt [] := by
  refine cal0 F b .nil scFt (fun vs H Q E h => ?_) (fun cdv A outer s H vs Q E hr h => ?_)
  · obtain ⟨tl, v1, v2, v3, v4, d1, d2, a3, a4, G, rfl, _⟩ := h
    rfl
  · obtain ⟨tl, v1, v2, v3, v4, d1, d2, a3, a4, GF, rfl, htl, S1, S2, W3, W4, k⟩ := h
    have nd := scFt.nd
    have hsl := sizeLine_eq
    refine ⟨_, (pss_cons (ps_asg (pv 0) (pg_lst rfl (pgs_cons (pg_name (i := 1) nd rfl (Or.inl rfl)) (pgs_cons (pg_name (i := 2) nd rfl (Or.inl rfl)) (pgs_cons (pg_name (i := 3) nd rfl (Or.inl rfl)) (pgs_cons (pg_name (i := 4) nd rfl (Or.inl rfl)) pgs_nil))))))
      (pss_cons (ps_if (pw_or (pt_val (pe_callB call_isi (by rfl) T.isi (by decide +kernel) (pa_cons (pv 1) (pa_cons (pe_bt "str" T.str) pa_nil)))) (pw_or (pt_not (pt_val (pe_c C_is_shape hr (by decide) (by rfl) (pa_cons (pv 1) pa_nil)))) (pw_or1 (pt_val (pe_c C_has_keep hr (by decide) (by rfl) (pa_cons (pv 1) pa_nil)))))).pt
        (pss_one (ps_ret pe_str)) pss_nil)
      (pss_cut (ps_set (i := 5) nd rfl (by first | exact Or.inl rfl | exact Or.inr rfl) (pe_lc (own := [("_law_hole", 6), ("_law_place", 7)]) (g := (gTup K 2 (gCons (gName 6) (gCons (gName 7) gNil)))) (tt := tYes) rfl nd (pi_list (pe_c C_holes hr (by decide) (by rfl) (pa_cons (pv 1) pa_nil))) (blkOk_by (N := NFt) (sc := fnScope sFt) (by decide +kernel)) (fun _ _ _ _ _ => (pg_tup rfl (pgs_cons (pg_name (i := 6) nd rfl (Or.inl rfl)) (pgs_cons (pg_name (i := 7) nd rfl (Or.inl rfl)) pgs_nil)))) (fun _ _ _ _ _ => pts_nil) (fun _ _ _ _ _ => (pv 6))))
      (pss_cons (ps_if (pt_cmp (pc_neI (pe_callB call_len_seq (by rfl) T.len PySem.boot_len (pa_cons (pe_c C_rising hr (by decide) (by rfl) (pa_cons (pv 5) pa_nil)) pa_nil)) (pe_callB call_len_seq (by rfl) T.len PySem.boot_len (pa_cons (pv 5) pa_nil))))
        (pss_one (ps_ret pe_str)) pss_nil)
      (pss_cons (ps_if (pt_not (pt_val (pe_c C_is_shape hr (by decide) (by rfl) (pa_cons (pv 2) pa_nil))))
        (pss_one (ps_ret pe_str)) pss_nil)
      (pss_cons (ps_if (pt_not (pt_val (pe_callB (cr_all rfl) (by rfl) T.all (by decide +kernel) (pa_cons (pe_lc (own := [("_law_hole", 6), ("_law_place", 7)]) (g := (gTup K 2 (gCons (gName 6) (gCons (gName 7) gNil)))) (tt := tYes) rfl nd (pi_list (pe_c C_holes hr (by decide) (by rfl) (pa_cons (pv 2) pa_nil))) (blkOk_by (N := NFt) (sc := fnScope sFt) (by decide +kernel)) (fun _ _ _ _ _ => (pg_tup rfl (pgs_cons (pg_name (i := 6) nd rfl (Or.inl rfl)) (pgs_cons (pg_name (i := 7) nd rfl (Or.inl rfl)) pgs_nil)))) (fun _ _ _ _ _ => pts_nil) (fun _ _ _ _ _ => (pe_cmpR (show OpR _ (compareOp .In) (rIn K false) from op_in_seq) (pv 6) (pv 5) (by rfl)))) pa_nil))))
        (pss_one (ps_ret pe_str)) pss_nil)
      (pss_cons (ps_if (pt_not (pt_val (pe_c C_words_fit hr (by decide) (by rfl) (pa_cons (pv 3) (pa_cons (pv 5) pa_nil)))))
        (pss_one (ps_ret pe_str)) pss_nil)
      (pss_one (ps_ret (pe_ifExp (pt_val (pe_c C_words_fit hr (by decide) (by rfl) (pa_cons (pv 4) (pa_cons (pv 5) pa_nil)))) pe_non pe_str)))))))))), ?_⟩
    have fl : leftB d1 = false → ∀ H', Same H H' → Q (.str "left") H' := fun e H' s' => by
      have := k H' s'
      unfold faultW at this
      rwa [if_pos e] at this
    refine ⟨_, rfl, tl, _, rfl, SqL.of htl, rfl, v1, _, rfl, v2, _, rfl, v3, _, rfl, v4, [], rfl, rfl, ?_⟩
    obtain ⟨Ty, ty, kA, kO⟩ := d_ty (K := K) S1.da
    refine ⟨_, rfl, v1, .ty "str", _, _, _, rfl, .ty _, ty H (fun _ _ e => e), kO, _, rfl, ?_⟩
    cases hst : isSt d1 with
    | true =>
      refine iteBt rfl (iteBt rfl (fl ?_ H fun _ _ e => e))
      unfold leftB
      rw [hst, Bool.not_true, Bool.false_and, Bool.and_false]
    | false =>
    refine iteBf rfl ⟨_, rfl, v1, d1, GF, rfl, S1.da, S1.s, S1.z, by have := S1.z; omega, fun H1 s1 => ⟨_, rfl, ?_⟩⟩
    cases hsh : isSh d1 with
    | false =>
      refine iteBt rfl (iteBt rfl (fl ?_ H1 s1))
      unfold leftB
      rw [hsh, Bool.false_and]
    | true =>
    obtain ⟨hn1, hz1⟩ := S1.n hsh
    refine iteBf rfl ⟨_, rfl, v1, d1, GF, rfl, DAt.hold (.same s1) _ S1.da, hsh, S1.z, by have := S1.z; omega, fun H2 s2 => ⟨_, rfl, ?_⟩⟩
    have s02 := s1.trans s2
    cases hkp : decide (("keep" : Str) ∈ lnm d1) with
    | true =>
      refine iteBt rfl (fl ?_ H2 s02)
      unfold leftB
      rw [decide_eq_false (p := ("keep" : Str) ∉ lnm d1) (fun h => h (of_decide_eq_true hkp)), Bool.false_and, Bool.and_false, Bool.and_false]
    | false =>
    refine iteBf rfl ?_
    -- the holes
    refine ⟨fun σ H' => ∃ hl : Addr, σ = [some (.ref tl), some v1, some v2, some v3, some v4, some (.ref hl), none, none] ∧ H' hl = some (.lst ((hnm d1).map V.str)) ∧ Same H2 H', ?_, ?_⟩
    · refine ⟨_, rfl, v1, d1, rfl, DAt.hold (.same s02) _ hn1, hsh, hz1, by omega, fun lq us H3 nlq s3 hlq hpu => ⟨lq, rfl, ⟨us, SqL.of hlq⟩, fun Da nDa => ?_⟩⟩
      have hul := Paired.length hpu
      have hql := (holes_le d1).1
      rw [← holes_hnm d1]
      generalize holesP d1 = qs at hpu hul hql
      refine lc_gen (J := Itl K lq) us.length (fun i H' => H' Da = some (.lst (((qs.take i).map fun q : Str × List Int => q.1).map V.str)) ∧ Same H3 H') ⟨upd_same, same_upd nDa⟩ (fun i H' hi ⟨_, sm⟩ => ⟨us, us.getD i .non, SqL.of (sm _ _ hlq), getD_at hi⟩) (fun H' ⟨_, sm⟩ => ⟨us, SqL.of (sm _ _ hlq), Nat.le_refl _⟩) (fun i H' x H'' hi ⟨hD, sm⟩ yl => ?_) (fun H' ⟨hD, sm⟩ => ?_)
      · obtain ⟨rfl, hx⟩ := yl
        have hx := hx _ (SqL.of (sm _ _ hlq))
        obtain ⟨q, hq, qt, qa, rfl, hqt, hqa⟩ := paired_get hpu hx
        obtain ⟨hlt, e⟩ := List.getElem?_eq_some_iff.mp hq
        refine ⟨qt, [.str q.1, .ref qa], rfl, SqT.of (sm _ _ hqt), rfl, .str q.1, [.ref qa], rfl, .ref qa, [], rfl, rfl, rfl, ?_⟩
        unfold tYes
        dsimp only
        rw [if_pos rfl]
        refine ⟨_, rfl, _, hD, by rw [List.length_map, List.length_map, List.length_take]; omega, ?_, fun b o e => by rw [upd_ne (ne_of_none e nDa)]; exact sm _ _ e⟩
        rw [upd_same, List.take_succ_eq_append_getElem hlt, List.map_append, List.map_append, e]
        rfl
      · rw [List.take_of_length_le (by omega)] at hD
        exact ⟨Da, rfl, hD, s3.trans sm⟩
    rintro σ H3 ⟨hl, rfl, hhl, s3⟩
    have hnl := hnm_le d1
    have s03 := s02.trans s3
    have hz60 := S1.z
    refine ⟨_, rfl, hl, hnm d1, rfl, .inr hhl, by omega, fun rl H4 nrl s4 hrl => ?_⟩
    have hcl := CN.canon_len (hnm d1)
    refine ⟨rl, _, rfl, .inl (SqL.of hrl), _, rfl, hl, _, rfl, .inl (SqL.of (s4 _ _ hhl)), _, _, rfl, rfl, _, rfl, ?_⟩
    rw [List.length_map, List.length_map, canon_many]
    have s04 := s03.trans s4
    by_cases hmn : TX.many (hnm d1) = (hnm d1).length
    rotate_left
    · refine iteBt (by dsimp only; rw [decide_eq_false (fun e => hmn (by omega))]; rfl) (fl ?_ H4 s04)
      unfold leftB
      rw [decide_eq_false hmn, Bool.and_false, Bool.and_false, Bool.and_false]
    refine iteBf (by dsimp only; rw [hmn, decide_eq_true rfl]; rfl) ?_
    have hL : leftB d1 = true := by
      unfold leftB
      rw [hsh, hst, decide_eq_true (p := ("keep" : Str) ∉ lnm d1) (fun h => by rw [decide_eq_true h] at hkp; cases hkp), decide_eq_true hmn]
      rfl
    have hhl4 := s4 _ _ hhl
    have k1 : ∀ H', Same H H' → Q (optV (if rightB d2 (hnm d1) = false then some "right" else if okK (hnm d1) a3 = false then some "kinds" else if okK (hnm d1) a4 = false then some "bars" else none)) H' := fun H' s' => by
      have := k H' s'
      unfold faultW at this
      rwa [if_neg (by rw [hL]; exact tnf)] at this
    refine ⟨_, rfl, v2, d2, GF, rfl, DAt.hold (.same s04) _ S2.da, S2.s, S2.z, by have := S2.z; omega, fun H5 s5 => ⟨_, rfl, ?_⟩⟩
    have s05 := s04.trans s5
    have fr : rightB d2 (hnm d1) = false → ∀ H', Same H H' → Q (.str "right") H' := fun e H' s' => by
      have := k1 H' s'
      rwa [if_pos e] at this
    cases hsh2 : isSh d2 with
    | false =>
      refine iteBt rfl (fr ?_ H5 s05)
      unfold rightB
      rw [hsh2, Bool.false_and]
    | true =>
    obtain ⟨hn2, hz2⟩ := S2.n hsh2
    refine iteBf rfl ⟨_, rfl, v2, d2, rfl, DAt.hold (.same s05) _ hn2, hsh2, hz2, by omega, fun lq us H6 nlq s6 hlq hpu => ⟨lq, rfl, ⟨us, SqL.of hlq⟩, fun Da nDa => ?_⟩⟩
    have s06 := s05.trans s6
    have hhl6 := s6 _ _ (s5 _ _ hhl4)
    have hul := Paired.length hpu
    have hql := (holes_le d2).1
    have hqn := holes_hnm d2
    generalize holesP d2 = qs at hpu hul hql hqn
    refine lc_gen (J := Itl K lq) us.length (fun i H' => H' Da = some (.lst (((qs.take i).map fun q : Str × List Int => decide (q.1 ∈ hnm d1)).map V.bl)) ∧ Same H6 H') ⟨upd_same, same_upd nDa⟩ (fun i H' hi ⟨_, sm⟩ => ⟨us, us.getD i .non, SqL.of (sm _ _ hlq), getD_at hi⟩) (fun H' ⟨_, sm⟩ => ⟨us, SqL.of (sm _ _ hlq), Nat.le_refl _⟩) (fun i H' x H'' hi ⟨hD, sm⟩ yl => ?_) (fun H' ⟨hD, sm⟩ => ?_)
    · obtain ⟨rfl, hx⟩ := yl
      have hx := hx _ (SqL.of (sm _ _ hlq))
      obtain ⟨q, hq, qt, qa, rfl, hqt, hqa⟩ := paired_get hpu hx
      obtain ⟨hlt, e⟩ := List.getElem?_eq_some_iff.mp hq
      refine ⟨qt, [.str q.1, .ref qa], rfl, SqT.of (sm _ _ hqt), rfl, .str q.1, [.ref qa], rfl, .ref qa, [], rfl, rfl, rfl, ?_⟩
      unfold tYes
      dsimp only
      rw [if_pos rfl]
      refine ⟨_, rfl, _, rfl, hl, _, rfl, .inl (SqL.of (sm _ _ hhl6)), rfl, all_flat _, ?_⟩
      rw [if_neg Bool.false_ne_true, inV_str]
      refine ⟨_, hD, by rw [List.length_map, List.length_map, List.length_take]; omega, ?_, fun b o e => by rw [upd_ne (ne_of_none e nDa)]; exact sm _ _ e⟩
      rw [upd_same, List.take_succ_eq_append_getElem hlt, List.map_append, List.map_append, e]
      rfl
    · rw [List.take_of_length_le (by omega)] at hD
      have s07 := s06.trans sm
      have hhl7 := sm _ _ hhl6
      have hall : (qs.map fun q : Str × List Int => decide (q.1 ∈ hnm d1)).all id = rightB d2 (hnm d1) := by
        unfold rightB
        rw [hsh2, Bool.true_and, ← hqn, List.all_map, List.all_map]
        rfl
      refine ⟨Da, _, rfl, SqL.of hD, _, rfl, ?_⟩
      rw [hall]
      cases hR : rightB d2 (hnm d1) with
      | false => exact iteBt rfl (fr hR H' s07)
      | true =>
      have k2 : ∀ H', Same H H' → Q (optV (if okK (hnm d1) a3 = false then some "kinds" else if okK (hnm d1) a4 = false then some "bars" else none)) H' := fun H' s' => by
        have := k1 H' s'
        rwa [if_neg (by rw [hR]; exact tnf)] at this
      refine iteBf rfl ⟨_, rfl, _, rfl, v3, a3, GF, hl, hnm d1, rfl, W3.ka.same s07, W3.m, W3.f, hhl7, fun H8 s8 => ⟨_, rfl, ?_⟩⟩
      have s08 := s07.trans s8
      cases hk3 : okK (hnm d1) a3 with
      | false =>
        have := k2 H8 s08
        rw [if_pos hk3] at this
        exact iteBt rfl this
      | true =>
      refine iteBf rfl ⟨_, rfl, _, rfl, v4, a4, GF, hl, hnm d1, rfl, W4.ka.same s08, W4.m, W4.f, s8 _ _ hhl7, fun H9 s9 => ⟨_, rfl, ?_⟩⟩
      have := k2 H9 (s08.trans s9)
      rw [if_neg (by rw [hk3]; exact tnf)] at this
      cases hk4 : okK (hnm d1) a4 with
      | false =>
        rw [if_pos hk4] at this
        exact iteBf rfl this
      | true =>
        rw [if_neg (by rw [hk4]; exact tnf)] at this
        exact iteBt rfl this
end
end K9

namespace K9
open PySem PySem.Spec PyProof.Rows L2 C8 XE XI
/-! new data, laid item by item: what the text writes of it -/
/-- te lays d, wherever H has grown to -/
def GE (H : Hp) (σ : L2.St) (te : TE) (d : D) : Prop := ∀ H0, Same H H0 → ∀ Q : VK, (∀ v H1, Same H0 H1 → DAt (fun a => H a = none) H1 v d → Q v H1) → te σ H0 Q
def GA (H : Hp) (σ : L2.St) (t : TA) (ds : List D) : Prop := ∀ H0, Same H H0 → ∀ Q : List V → Hp → Prop, (∀ vs H1, Same H0 H1 → DAts (fun a => H a = none) H1 vs ds → Q vs H1) → t σ H0 Q
/-- small things: short texts, small numbers, no dict -/
def okX : V → Bool
  | .int i => decide (-9 ≤ i) && decide (i ≤ 9)
  | .str z => decide (z.length ≤ 20) && PyData.strOk z
  | .non => true
  | .bl _ => true
  | _ => false
mutual
def okD : D → Bool
  | .fl x => okX x
  | .emp => false
  | .sq xs => okDs xs
def okDs : List D → Bool
  | [] => true
  | x :: xs => okD x && okDs xs
end
theorem okDs_all : ∀ ds : List D, okDs ds = ds.all okD
  | [] => rfl
  | d :: ds => by rw [okDs, List.all_cons, okDs_all ds]
section
variable {H : Hp} {σ : L2.St}
theorem ge_c {x : V} (h : flatV x = true) : GE H σ (tC x) (.fl x) := fun H0 s0 Q k => k x H0 (fun _ _ e => e) ⟨rfl, h⟩
theorem ga_nil : GA H σ tNil [] := fun H0 s0 Q k => k [] H0 (fun _ _ e => e) trivial
theorem ga_cons {te : TE} {t : TA} {d : D} {ds : List D} (h : GE H σ te d) (h2 : GA H σ t ds) : GA H σ (tCons te t) (d :: ds) := fun H0 s0 Q k =>
  h H0 s0 _ fun v H1 s1 hv => h2 H1 (s0.trans s1) _ fun vs H2 s2 hvs => k (v :: vs) H2 (s1.trans s2) ⟨DAt.hold (.same s2) _ hv, hvs⟩
theorem ge_tup {t : TA} {ds : List D} (h : GA H σ t ds) (o : hdOk ds = true) (hl : ds.length ≤ 1000) : GE H σ (tTup t) (.sq ds) := fun H0 s0 Q k =>
  h H0 s0 _ fun vs H1 s1 hvs => ⟨by rw [hvs.len, sizeLine_eq]; omega, fun p np => k (.ref p) _ (s1.trans (same_upd np)) ⟨p, vs, rfl, .inl upd_same, o, DAts.hold (.same (same_upd np)) _ hvs⟩⟩
theorem ge_lst {t : TA} {ds : List D} (h : GA H σ t ds) (o : hdOk ds = true) (hl : ds.length ≤ 1000) : GE H σ (tLst t) (.sq ds) := fun H0 s0 Q k =>
  h H0 s0 _ fun vs H1 s1 hvs => ⟨by rw [hvs.len, sizeLine_eq]; omega, fun p np => k (.ref p) _ (s1.trans (same_upd np)) ⟨p, vs, rfl, .inr ⟨same_free (s0.trans s1) np, upd_same⟩, o, DAts.hold (.same (same_upd np)) _ hvs⟩⟩
theorem ge_neg {i : Int} : GE H σ (tUn (rU fun i => V.int (-i)) (tC (.int i))) (.fl (.int (-i))) := fun H0 s0 Q k => by
  refine ⟨i, rfl, ?_⟩
  exact k (.int (-i)) H0 (fun _ _ e => e) ⟨rfl, rfl⟩
abbrev tRow2 (a b : V) : TE := tTup (tCons (tC a) (tCons (tC b) tNil))
theorem ge_row {a b : V} (ha : flatV a = true) (hb : flatV b = true) : GE H σ (tRow2 a b) (.sq [.fl a, .fl b]) := ge_tup (ga_cons (ge_c ha) (ga_cons (ge_c hb) ga_nil)) rfl (by simp)
end
theorem DAts.mem {F : Addr → Prop} {H : Hp} {ds : List D} {vs : List V} (h : DAts F H vs ds) {v : V} (hv : v ∈ vs) : ∃ d ∈ ds, DAt F H v d := by
  obtain ⟨i, hi⟩ := List.getElem?_of_mem hv
  obtain ⟨d, hd, q⟩ := h.get hi
  exact ⟨d, List.mem_of_getElem? hd, q⟩
theorem asg_lst {t : TA} {g : TG} {D : Ends} {σ : L2.St} {H : Hp} {ds : List K9.D} (h : GA H σ t ds) (hl : ds.length ≤ 1000)
    (k : ∀ p vs H', H p = none → H' p = some (.lst vs) → DAts (fun a => H a = none ∧ a ≠ p) H' vs ds → Same H H' → g (.ref p) σ H' D.nx) : tAsg (tLst t) g D σ H :=
  h H (Same.refl _) _ fun vs H2 s2 hvs => ⟨by rw [hvs.len, sizeLine_eq]; omega, fun p np => k p vs _ (same_free s2 np) upd_same (DAts.hold (.same (same_upd np)) _ (DAts.off np _ hvs)) (s2.trans (same_upd np))⟩
/-- xs.extend([..]), the list written there -/
theorem ext_lst {K : PySem.W.Frag} {t : TA} {i : Nat} {D : Ends} {σ : L2.St} {H : Hp} {ds : List K9.D} {p : Addr} {vs1 : List V} (h : GA H σ t ds) (hi : σ[i]? = some (some (.ref p))) (hp : H p = some (.lst vs1)) (hl : vs1.length + ds.length ≤ 1000)
    (k : ∀ vs2 H' q, H q = none → Same H H' → H' q = none → DAts (fun a => H a = none) H' vs2 ds → vs2.length = ds.length → D.nx σ (upd (upd H' q (.lst vs2)) p (.lst (vs1 ++ vs2)))) : tDrop (tBM K "list" rExtend (tVar i) (tCons (tLst t) tNil)) D σ H := by
  refine ⟨_, hi, .inl ⟨rfl, _, SqL.of hp⟩, ?_⟩
  refine h H (Same.refl _) _ fun vs2 H3 s3 hvs2 => ⟨by rw [hvs2.len, sizeLine_eq]; omega, fun q nq => ?_⟩
  have hp3 := s3 _ _ hp
  have pq : p ≠ q := ne_of_none hp3 nq
  have e2 := hvs2.len
  exact ⟨p, q, vs1, vs2, rfl, rfl, by rw [upd_ne pq]; exact hp3, upd_same, by rw [e2, sizeLine_eq]; omega, k vs2 H3 q (same_free s3 nq) s3 nq hvs2 e2⟩
theorem szs_le {ds : List D} {m : Nat} (h : ∀ d ∈ ds, sz d ≤ m) : szs ds ≤ m * ds.length := by
  induction ds with
  | nil => exact Nat.zero_le _
  | cons d ds ih =>
    have h1 := h d List.mem_cons_self
    have h2 := ih fun e he => h e (List.mem_cons_of_mem _ he)
    rw [szs, List.length_cons, Nat.mul_succ]
    omega
theorem okDs_app {a b : List D} (h : okDs a = true) (h' : okDs b = true) : okDs (a ++ b) = true := by
  rw [okDs_all, List.all_append, ← okDs_all, ← okDs_all, h, h']
  rfl
theorem okDs_mem {a : List D} (h : okDs a = true) {d : D} (hd : d ∈ a) : okD d = true := by
  rw [okDs_all] at h
  exact List.all_eq_true.mp h d hd
theorem okDs_of {a : List D} (h : ∀ d ∈ a, okD d = true) : okDs a = true := by
  rw [okDs_all]
  exact List.all_eq_true.mpr h
end K9

namespace K9
open PySem PySem.Spec PyProof.Rows L2 C8 XE XI
/-! repr of small data -/
theorem same_t {K : PySem.W.Frag} {H H' : Hp} {a : Addr} {xs : List V} (e : Same H H') (h : SqT K H a xs) : SqT K H' a xs := by
  rcases h with h | h
  · rcases h with h | ⟨o, h⟩
    · exact Or.inl (.inl (e a _ h))
    · exact Or.inl (.inr ⟨o, e a _ h⟩)
  · exact Or.inr h
mutual
theorem Dp.same {K : PySem.W.Frag} {H H' : Hp} (s : Same H H') : ∀ (d : PyData) {v : V}, Dp K H v d → Dp K H' v d
  | .none, _, h => by cases h; exact .non
  | .bool _, _, h => by cases h; exact .bl _
  | .int _, _, h => by cases h; exact .int _
  | .str _, _, h => by cases h; exact .str _
  | .list ds, _, h => by
    cases h with
    | lst a b => exact .lst (s.seq a) (DpAll.same s ds b)
  | .tuple ds, _, h => by
    cases h with
    | tup a b => exact .tup (same_t s a) (DpAll.same s ds b)
  | .dict _, _, h => by cases h
theorem DpAll.same {K : PySem.W.Frag} {H H' : Hp} (s : Same H H') : ∀ (ds : List PyData) {vs : List V}, DpAll K H vs ds → DpAll K H' vs ds
  | [], _, h => by cases h; exact .nil
  | d :: ds, _, h => by
    cases h with
    | cons a b => exact .cons (Dp.same s d a) (DpAll.same s ds b)
end
/-- what is said of small data -/
structure Small (e : PyData) (n : Nat) : Prop where
  lay : e.canLay0 = true
  sho : e.showable = true
  lea : e.leavesShort 13 = true
  wei : e.weight + 1 ≤ 30 * n
  dep : e.depth ≤ n
structure SmallAll (es : List PyData) (n : Nat) : Prop where
  lay : PyData.canLayAll0 es = true
  sho : PyData.showableAll es = true
  lea : PyData.leavesShortAll 13 es = true
  wei : PyData.weightAll es ≤ 30 * n
  dep : PyData.depthAll es ≤ n
theorem small_int {i : Int} (h1 : -9 ≤ i) (h2 : i ≤ 9) : Small (.int i) 1 := by
  have : i = -9 ∨ i = -8 ∨ i = -7 ∨ i = -6 ∨ i = -5 ∨ i = -4 ∨ i = -3 ∨ i = -2 ∨ i = -1 ∨ i = 0 ∨ i = 1 ∨ i = 2 ∨ i = 3 ∨ i = 4 ∨ i = 5 ∨ i = 6 ∨ i = 7 ∨ i = 8 ∨ i = 9 := by omega
  rcases this with rfl | rfl | rfl | rfl | rfl | rfl | rfl | rfl | rfl | rfl | rfl | rfl | rfl | rfl | rfl | rfl | rfl | rfl | rfl <;> exact ⟨by decide +kernel, by decide +kernel, by decide +kernel, by decide +kernel, by decide +kernel⟩
theorem small_str {z : Str} (h1 : z.length ≤ 20) (h2 : PyData.strOk z = true) : Small (.str z) 1 := by
  refine ⟨h2, rfl, ?_, ?_, by simp [PyData.depth]⟩
  · show (z.cps.toList.all fun c => decide (c < 16 ^ 8)) = true
    unfold PyData.strOk at h2
    rw [← Array.all_toList] at h2
    refine List.all_eq_true.mpr fun c hc => decide_eq_true ?_
    have := of_decide_eq_true (List.all_eq_true.mp h2 c hc)
    omega
  · show z.cps.size + 1 ≤ 30
    have : z.cps.size = z.length := rfl
    omega
mutual
theorem small_of {K : PySem.W.Frag} {F : Addr → Prop} {H : Hp} : ∀ (d : D) {v : V}, okD d = true → DAt F H v d → ∃ e, (∀ H', Hold F H H' → Dp K H' v e) ∧ Small e (sz d)
  | .fl x, v, h, ⟨ev, hf⟩ => by
    subst ev
    have h : okX v = true := h
    cases v with
    | non => exact ⟨_, fun _ _ => .non, by refine ⟨rfl, rfl, rfl, by show 0 + 1 ≤ 30; decide, by simp [PyData.depth]⟩⟩
    | bl b => exact ⟨_, fun _ _ => .bl b, by refine ⟨rfl, rfl, rfl, by show 0 + 1 ≤ 30; decide, by simp [PyData.depth]⟩⟩
    | int i =>
      have h : (decide (-9 ≤ i) && decide (i ≤ 9)) = true := h
      rw [Bool.and_eq_true] at h
      exact ⟨_, fun _ _ => .int i, small_int (of_decide_eq_true h.1) (of_decide_eq_true h.2)⟩
    | str z =>
      have h : (decide (z.length ≤ 20) && PyData.strOk z) = true := h
      rw [Bool.and_eq_true] at h
      exact ⟨_, fun _ _ => .str z, small_str (of_decide_eq_true h.1) h.2⟩
    | _ => cases h
  | .emp, v, h, _ => by cases h
  | .sq xs, v, h, ⟨a, vs, e, q, o, k⟩ => by
    subst e
    obtain ⟨es, h1, S⟩ := smalls_of (K := K) xs h k
    have w : PyData.weightAll es + 1 ≤ 30 * (1 + szs xs) := by have := S.wei; omega
    have dp : (PyData.list es).depth ≤ 1 + szs xs ∧ (PyData.tuple es).depth ≤ 1 + szs xs := by
      have := S.dep
      constructor <;> (simp only [PyData.depth]; omega)
    rcases q with q | ⟨hF, q⟩
    · exact ⟨.tuple es, fun H' hh => .tup (SqT.of (hh.tup _ _ q)) (h1 H' hh), ⟨S.lay, S.sho, S.lea, w, dp.2⟩⟩
    · exact ⟨.list es, fun H' hh => .lst (SqL.of (hh.lst _ _ hF q)) (h1 H' hh), ⟨S.lay, S.sho, S.lea, w, dp.1⟩⟩
theorem smalls_of {K : PySem.W.Frag} {F : Addr → Prop} {H : Hp} : ∀ (ds : List D) {vs : List V}, okDs ds = true → DAts F H vs ds → ∃ es, (∀ H', Hold F H H' → DpAll K H' vs es) ∧ SmallAll es (szs ds)
  | [], [], _, _ => ⟨[], fun _ _ => .nil, ⟨rfl, rfl, rfl, Nat.zero_le _, by simp [PyData.depthAll]⟩⟩
  | d :: ds, v :: vs, h, ⟨k, t⟩ => by
    rw [okDs, Bool.and_eq_true] at h
    obtain ⟨e, h1, S⟩ := small_of (K := K) d h.1 k
    obtain ⟨es, h2, T⟩ := smalls_of (K := K) ds h.2 t
    refine ⟨e :: es, fun H' hh => .cons (h1 H' hh) (h2 H' hh), ⟨?_, ?_, ?_, ?_, ?_⟩⟩
    · rw [PyData.canLayAll0, S.lay, T.lay]; rfl
    · rw [PyData.showableAll, S.sho, T.sho]; rfl
    · rw [PyData.leavesShortAll, S.lea, T.lea]; rfl
    · rw [PyData.weightAll, szs]; have := S.wei; have := T.wei; omega
    · rw [PyData.depthAll, szs]; have := S.dep; have := T.dep; have := sz_pos d; omega
  | [], _ :: _, _, k => k.elim
  | _ :: _, [], _, k => k.elim
end
/-- repr(v) -/
def rRepr (K : PySem.W.Frag) : List V → Hp → VK → Prop := fun xs H Q => ∃ v, xs = [v] ∧ ((∃ e n, Dp K H v e ∧ Small e n ∧ n ≤ 400 ∧ Q (.str e.shown) H) ∨ ∃ a, v = .ref a ∧ H a = some (.dK []) ∧ Q (.str (PyData.dict []).shown) H)
theorem Small.fits {e : PyData} {n : Nat} (S : Small e n) (h : n ≤ 400) : e.shown.length ≤ sizeLine := by
  have := S.wei
  refine PyData.shown_fits (B := 13) (by decide) (by decide) S.lea ?_
  have e : (2 : Nat) ^ 20 = 1048576 := by decide
  omega
section
variable {X : Cx}
theorem call_repr (hg : X.A.guards = some []) (hu : X.A.units + 500 < cLine) : CallR X (.builtin "repr") (rRepr X.K) := by
  intro pins s σ H xs us Q I r h
  obtain ⟨v, rfl, h⟩ := h
  obtain ⟨u, rfl, ru⟩ := r.one
  rcases h with ⟨e, n, hd, S, hn, q⟩ | ⟨a, rfl, ha, q⟩
  · have hz := S.fits hn
    have hdep := S.dep
    cases hd with
    | non =>
      cases ru
      exact P.repr_of_none ⟨.str _, H, I.tok _, ⟨_, rfl⟩, q⟩
    | bl b =>
      cases ru
      exact P.repr_of_bool ⟨.str _, H, I.tok _, ⟨_, rfl⟩, q⟩
    | int i =>
      obtain ⟨t, rfl⟩ := ru
      exact P.repr_of_int (by have := S.sho; simpa [PyData.showable] using this) ⟨.str _, H, I.tok _, ⟨_, rfl⟩, q⟩
    | str z =>
      obtain ⟨t, rfl⟩ := ru
      exact P.repr_of_str ⟨.str _, H, I.tok _, ⟨_, rfl⟩, q⟩ hz
    | lst hs ha =>
      cases ru
      obtain ⟨as, hr⟩ := Dp.reads I _ _ _ (.lst hs ha) rfl
      exact repr_of_reads' hr S.sho (PyData.noDict_hsm (PyData.hasDict_of_canLay _ S.lay)) hg (by omega) (fun _ _ e => e) (fun h' u tk hk => ⟨.str _, H, I.kept hk, ⟨_, rfl⟩, q⟩) hz
    | tup hs ha =>
      cases ru
      obtain ⟨as, hr⟩ := Dp.reads I _ _ _ (.tup hs ha) rfl
      exact repr_of_reads' hr S.sho (PyData.noDict_hsm (PyData.hasDict_of_canLay _ S.lay)) hg (by omega) (fun _ _ e => e) (fun h' u tk hk => ⟨.str _, H, I.kept hk, ⟨_, rfl⟩, q⟩) hz
  · cases ru
    obtain ⟨_, hS, vs, r, o, es, ep, ho, hc, hd, _, hp, _⟩ := dk_of I.hok ha
    cases r
    have he : es.toList = [] := by
      generalize es.toList = l at hp
      cases hp
      rfl
    have hr : Reads s.heap (.ref a) (.dict []) (a :: [] ++ []) := .dict ho hc.1 hd (by rw [he]; exact .nil) (by rw [he]; exact .nil)
    refine repr_of_reads' hr rfl (fun _ hm => ?_) hg (by simp only [PyData.depth, PyData.depthKv]; omega) (fun _ _ e => e) (fun h' u tk hk => ⟨.str _, H, I.kept hk, ⟨_, rfl⟩, q⟩) (by decide +kernel)
    have : sysModules = a := by simpa using hm
    subst this
    cases hS
end
end K9

/-! the end for a law whose own def asks more of its surroundings than room: it is called from callerA alone -/
namespace XW
open PySem PySem.Spec PySem.W PyProof.Rows L2
/-- a def called from callerA, with nothing around it -/
def Ran (P : Program) (w : World) (K : PySem.W.Frag) (mg : Str → Option Value) (base : Heap) (CX : CXT) (f : Addr) (fd : FuncData) (ps : List Str) (sp : Sp) : Prop :=
  ∀ (s : Shared) (H : Hp) (args : Args) (us : List Value) (vs : List V) (Q : VK) (E : XK), Env0 P w K mg base callerA [] s H → BindsTo s fd args (ps.zip us) → Vals vs us → sp vs H Q E → codeAny (model P w) callerA (.call (.ref f) args) (CR CX [] P w H s Q E) s
theorem ran_of {CX : CXT} {P : Program} {w : World} {K : PySem.W.Frag} {mg : Str → Option Value} {base : Heap} {k : Nat} {f : Addr} {name qual : Str} {params : Arguments} {body : List Stmt} {scope : Scope} {dV kV doc pm cdv ct oc : Value} {an od : Option Addr} {osl : Array (Option Value)} {N ps : List Str} {sp : Sp}
    (lk : K.lookup f = some ⟨oc, od, .func (PySem.W.fnOf name qual params body scope dV kV doc pm an cdv ct), osl⟩) (hcd : PySem.W.codeIn K cdv qual = true) (S : FnScope N ps scope) (len : ∀ vs H Q E, sp vs H Q E → vs.length = ps.length) (room : Room (k + 1) callerA)
    (hbody : ∀ (s : Shared) (H : Hp) (vs : List V) (Q : VK) (E : XK), Room k (callerA.deeper (envOfC qual scope s.heap.objs.size f cdv)) → (callerA.deeper (envOfC qual scope s.heap.objs.size f cdv)).guards = some [] → sp vs H Q E →
      ∃ t, PSs (cxOf CX P w K mg base N qual scope f cdv callerA [] s H E) body t ∧ t { nx := fun _ H' => Q .non H', rt := Q } (start N vs) H) :
    Ran P w K mg base CX f (PySem.W.fnOf name qual params body scope dV kV doc pm an cdv ct) ps sp := by
  intro s H args us vs Q E e0 hb r hsp
  have lim := e0.mod.nolimit.keeps fun b o e => (e0.bs b o e).1
  have KX : K.In s.heap := e0.mod.kin.keeps fun b o e => (e0.bs b o e).1
  have ksc : ∀ y ∈ ps.zip us, scope.names.lookup y.1 = some .local ∨ (scope.names.lookup y.1 = some .cell ∧ ((cellsFrom (s.heap.objs.size + 1) scope.names []).lookup y.1).isSome = true) := by
    rintro ⟨n, v⟩ hy
    exact (S.par n (List.of_mem_zip hy).1).imp id fun q => ⟨q, PySem.W.cellsFrom_some _ _ _ (.inl q)⟩
  refine codeAny_call_function room.depth (KX _ _ lk) rfl S.co S.gen rfl (PySem.W.codeRec_of KX hcd) (hb _ _ _ _ (wpAny_newFunctionEnv_cells S.kind ksc fun env he s1 x => ?_))
  subst he
  refine ⟨lim.keeps x.toInCall.keep, codeAny_func ?_⟩
  obtain ⟨t, ht, hq⟩ := hbody s H vs Q E (room.deeper _) rfl hsp
  have I : Inv (cxOf CX P w K mg base N qual scope f cdv callerA [] s H E) [] (start N vs) H s1 := inv_start S room.hd e0 (len _ _ _ _ hsp) r x
  refine wpAny_mono (ht.run [] s1 (start N vs) H _ I hq) (fun fl s' hs => ?_) fun e s' hs => hs
  cases fl with
  | ret u =>
    obtain ⟨v, σ', H', J, rv, q⟩ := hs
    exact ⟨v, H', J.os, J.bare, J.base, J.hok, rv, q⟩
  | next =>
    obtain ⟨σ', H', J, q⟩ := hs
    exact ⟨V.non, H', J.os, J.bare, J.base, J.hok, rfl, q⟩
  | brk => exact (let ⟨_, _, _, q⟩ := hs; q : False).elim
  | cont => exact (let ⟨_, _, _, q⟩ := hs; q : False).elim
theorem law_end {P : Program} {w : World} {K : PySem.W.Frag} {mg mb : Str → Option Value} {CX : CXT} {fa a : Addr} {fd : FuncData} {x : Str} {sp : Sp} {s1 : Shared} {vs : List Value} {ns : List Int} (KX : K.In s1.heap) (hns : s1.heap.Ns mainGlobals mg) (hb : s1.heap.Ns builtinsNs mb)
    (hbb : ∀ x : Str, x ≠ "__name__" → mb x = bootBuiltins x) (hlim : s1.heap.NoLimit) (hg : s1.gens = #[]) (ha : s1.heap.get? a = some { cls := .type "list", data := .seq vs.toArray }) (hi : IntsAre vs ns) (hl : ns.length ≤ sizeLine)
    (F : ∀ base : Heap, K.In base → base.Ns mainGlobals mg → Ran P w K mg base CX fa fd [x] sp) (hbind : ∀ (s : Shared) (u : Value), BindsTo s fd ⟨[u], []⟩ [(x, u)])
    (hsp : ∀ H : Hp, Only H → SqL K H a (ns.map V.int) → sp [.ref a] H (fun v _ => v = .bl true) fun _ _ _ => False) (hCX : ∀ H e s', CX [] H s1 (fun _ _ _ => False) e s' → False) :
    codeAny (model P w) callerA (.call (.ref fa) ⟨[.ref a], []⟩) (fun r s' => r = .ok (.ret (.bool true)) ∧ OldK s1.heap s'.heap ∧ s'.os = s1.os ∧ AllBare s'.gens) s1 := by
  have rv := vals_ints hi
  have lenV := hi.length
  have main : ∀ H : Hp, Only H → SqL K H a (ns.map V.int) → HOk P w H s1.heap → (∀ b, H b ≠ none → b = a) → (H a ≠ none → K.lookup a = none) →
      codeAny (model P w) callerA (.call (.ref fa) ⟨[.ref a], []⟩) (fun r s' => r = .ok (.ret (.bool true)) ∧ OldK s1.heap s'.heap ∧ s'.os = s1.os ∧ AllBare s'.gens) s1 := by
    intro H hO hS hok hA hK
    have only : ∀ {b : Addr} {u : HO}, H b = some u → b = a := fun {b u} q => hA b (by rw [q]; exact Option.some_ne_none u)
    have noA : ∀ {b : Addr} {o : Obj} {es : Array DictEntry} {ep : Nat}, s1.heap.get? b = some o → o.data = .dict es ep → H b = none := fun {b o es ep} e d => by
      cases q : H b with
      | none => rfl
      | some u =>
        obtain rfl := only q
        rw [ha] at e
        cases e
        exact absurd (show Data.seq vs.toArray _ = Data.dict es ep from d) (by intro z; cases z)
    have nsK : ∀ {b : Addr} {m : Str → Option Value}, s1.heap.Ns b m → (hidT s1.heap H).Ns b m := fun {b m} ⟨o, es, ep, e, d, r⟩ => ⟨o, es, ep, hidT_get e (noA e d), d, r⟩
    have hKb : K.In (hidT s1.heap H) := fun b o e => hidT_get (KX b o e) (by
      cases q : H b with
      | none => rfl
      | some u =>
        obtain rfl := only q
        rw [hK (by rw [q]; exact Option.some_ne_none u)] at e
        cases e)
    have hM : Mod K mg (hidT s1.heap H) := ⟨hKb, nsK hns, ⟨mb, nsK hb, hbb⟩, let ⟨mc, h1, h2⟩ := hlim; ⟨mc, nsK h1, h2⟩⟩
    have env : Env0 P w K mg (hidT s1.heap H) callerA [] s1 H := ⟨rfl, hM, fun b o e => of_hidT e, Nat.le_of_eq (hidT_size _ _), trivial, fun b hb => absurd (show b ∈ ([] : List Addr) from hb) (by simp), hok, .of_eq hg⟩
    refine codeAny_mono (F _ hKb (nsK hns) s1 H ⟨[.ref a], []⟩ [.ref a] [.ref a] _ _ env (hbind s1 (.ref a)) (.cons rfl .nil) (hsp H hO hS)) fun r s' h => ?_
    cases r with
    | error e => exact (hCX H e s' h).elim
    | ok fl =>
      cases fl with
      | next => exact h.elim
      | brk => exact h.elim
      | cont => exact h.elim
      | ret u =>
        obtain ⟨v, H', os, bare, un, hok', r', q⟩ := h
        obtain rfl : v = .bl true := q
        obtain rfl : u = Value.bool true := r'
        refine ⟨rfl, OldK.of_keep fun b o e => ?_, os, bare⟩
        rcases hO b with z | ⟨ob, xs, z⟩
        · exact un.keep b o e z (by intro z; exact absurd (show b ∈ ([] : List Addr) from z) (by simp)) (by simp)
        · obtain ⟨e1, _⟩ := hok b _ z
          obtain ⟨e2, _⟩ := hok' b _ (un.frzs b ob _ z)
          rw [e] at e1
          cases e1
          exact e2
  cases hk : K.lookup a with
  | some o =>
    have e := KX a o hk
    rw [ha] at e
    cases e
    exact main (fun _ => none) (fun _ => .inl rfl) (.inr ⟨_, vs.toArray, _, hk, rfl, rfl, rfl, by rw [List.size_toArray, lenV]; exact hl, by simpa using rv⟩) (fun b u z => nomatch (show (none : Option HO) = some u from z)) (fun b z => absurd rfl z) fun z => absurd rfl z
  | none =>
    refine main (fun b => if b = a then some (.frz { cls := .type "list", data := .seq vs.toArray } (.lst (ns.map V.int))) else none) (fun b => ?_) (.inl (.inr ⟨_, if_pos rfl⟩)) (fun b u z => ?_) (fun b z => ?_) fun _ => hk
    · by_cases hba : b = a
      · exact .inr ⟨_, _, if_pos hba⟩
      · exact .inl (if_neg hba)
    · by_cases hba : b = a
      · subst hba
        cases (if_pos rfl).symm.trans z
        exact ⟨ha, by rw [List.length_map]; exact hl, vs, _, rv, ha⟩
      · cases (if_neg hba).symm.trans z
    · by_cases hba : b = a
      · exact hba
      · exact absurd (if_neg hba) z
theorem walk_ran {l : PySem.W.OpenLaw} {n : Nat} {q : Program} {loose : List Str} {XP : (Str → Option Value) → Heap → Prop} {YP : World → Heap → Prop} {d : DefRec} {K : Params → PySem.W.Frag} {CX : World → CXT} {sp : World → Sp} {x : Str} (hn : l.most = some n) (hn2 : n ≤ sizeLine) (hdf : d.params.defaults = [])
    (hY : ∀ (w : World) (h : Heap), YP w h → (K w.params).In h)
    (F : ∀ (w : World) (mg : Str → Option Value) (fa : Addr) (h : Heap), (K w.params).In h → h.Ns mainGlobals mg → mg d.name = some (.ref fa) →
      ∃ fd : FuncData, (∀ (s : Shared) (u : Value), BindsTo s fd ⟨[u], []⟩ [(x, u)]) ∧ ∀ base : Heap, (K w.params).In base → base.Ns mainGlobals mg → Ran l.prog w (K w.params) mg base (CX w) fa fd [x] (sp w))
    (hsp : ∀ (w : World) (H : Hp) (a : Addr) (ns : List Int), ns.length ≤ n → Only H → SqL (K w.params) H a (ns.map V.int) → sp w [.ref a] H (fun v _ => v = .bl true) fun _ _ _ => False)
    (hCX : ∀ (w : World) (H : Hp) (s : Shared) (e : Value) (s' : Shared), CX w [] H s (fun _ _ _ => False) e s' → False) : PySem.W.WalkO q loose XP YP l.row.toRowW d [] (fun f vs => PySem.call f vs) := by
  refine Att.attach_call hn hdf fun w s0 s1 mg mb fa o pm cd doc a vs ns G Y ho hd hcd hmg hobj hints hlen hg => ?_
  obtain ⟨fd, hb, hF⟩ := F w mg fa _ (hY w _ Y) G.T.g hmg
  exact law_end (hY w _ Y) G.T.g G.T.b G.T.builtins G.T.nolimit hg hobj hints (Nat.le_trans hlen hn2) hF hb (fun H hO hS => hsp w H a ns hlen hO hS) fun H e s' => hCX w H s1 e s'
end XW

/-! the end of wg for a law whose own def makes lambdas: its one table of code objects -/
namespace XW
open PySem PySem.Spec PySem.W PyProof.Rows L2 LamX
/-- a dict stands where the modules are told -/
def SysB (base : Heap) : Prop := ∃ o es ep, base.get? sysModules = some o ∧ o.data = .dict es ep
theorem law_end1 {P : Program} {w : World} {K : PySem.W.Frag} {mg mb : Str → Option Value} {CX : CXT} {fa a cd tb : Addr} {fd : FuncData} {x : Str} {sp : Sp} {s1 : Shared} {vs : List Value} {ns : List Int} (KX : K.In s1.heap) (hns : s1.heap.Ns mainGlobals mg) (hb : s1.heap.Ns builtinsNs mb)
    (hbb : ∀ x : Str, x ≠ "__name__" → mb x = bootBuiltins x) (hlim : s1.heap.NoLimit) (hg : s1.gens = #[]) (hT : s1.heap.get? tb = some { cls := .none, data := .fields #[] }) (nT : K.lookup tb = none) (C : PySem.W.CodeHd s1.heap cd tb)
    (hbm : ∃ (bm : Addr) (ob : Obj), mg "__builtins__" = some (.ref bm) ∧ bm ≠ builtinsNs ∧ s1.heap.get? bm = some ob ∧ ob.cls = .type "module" ∧ ob.dict = some builtinsNs ∧ ob.data = .plain) (ha : s1.heap.get? a = some { cls := .type "list", data := .seq vs.toArray }) (hi : IntsAre vs ns) (hl : ns.length ≤ sizeLine)
    (hsys : SysB s1.heap) (F : ∀ base : Heap, K.In base → base.Ns mainGlobals mg → TabB base mg cd tb → SysB base → Ran P w K mg base CX fa fd [x] sp) (hbind : ∀ (s : Shared) (u : Value), BindsTo s fd ⟨[u], []⟩ [(x, u)])
    (hsp : ∀ H : Hp, H tb = some (.tbl #[]) → SqL K H a (ns.map V.int) → sp [.ref a] H (fun v _ => v = .bl true) fun _ _ _ => False) (hCX : ∀ H e s', CX [] H s1 (fun _ _ _ => False) e s' → False) :
    codeAny (model P w) callerA (.call (.ref fa) ⟨[.ref a], []⟩) (fun r s' => r = .ok (.ret (.bool true)) ∧ OldK s1.heap s'.heap ∧ s'.os = s1.os ∧ AllBare s'.gens) s1 := by
  have vals := vals_ints hi
  have lenV := hi.length
  have ne : a ≠ tb := fun z => by
    have q := hT
    rw [← z, ha] at q
    have q2 : Data.seq vs.toArray _ = Data.fields #[] := congrArg Obj.data (Option.some.inj q)
    cases q2
  have main : ∀ H : Hp, H tb = some (.tbl #[]) → (∀ b, H b = none ∨ b = tb ∨ ∃ o xs, H b = some (.frz o (.lst xs))) → SqL K H a (ns.map V.int) → HOk P w H s1.heap → (∀ b, H b ≠ none → b = a ∨ b = tb) → (H a ≠ none → K.lookup a = none) →
      codeAny (model P w) callerA (.call (.ref fa) ⟨[.ref a], []⟩) (fun r s' => r = .ok (.ret (.bool true)) ∧ OldK s1.heap s'.heap ∧ s'.os = s1.os ∧ AllBare s'.gens) s1 := by
    intro H hH hO hS hok hA hK
    have here : ∀ {b : Addr} {o : Obj}, s1.heap.get? b = some o → H b = none → (hidT s1.heap H).get? b = some o := fun e n => hidT_get e n
    have off : ∀ {b : Addr} {o : Obj}, s1.heap.get? b = some o → (∀ vs n, o.data ≠ .seq vs n) → o.data ≠ .fields #[] → H b = none := fun {b o} e h1 h2 => by
      cases q : H b with
      | none => rfl
      | some u =>
        rcases hA b (by rw [q]; exact Option.some_ne_none u) with rfl | rfl
        · rw [ha] at e
          cases e
          exact absurd rfl (h1 _ _)
        · rw [hT] at e
          cases e
          exact absurd rfl h2
    have offD : ∀ {b : Addr} {o : Obj} {es : Array DictEntry} {ep : Nat}, s1.heap.get? b = some o → o.data = .dict es ep → H b = none := fun {b o es ep} e d => off e (fun vs n z => by rw [d] at z; cases z) (fun z => by rw [d] at z; cases z)
    have nsK : ∀ {b : Addr} {m : Str → Option Value}, s1.heap.Ns b m → (hidT s1.heap H).Ns b m := fun {b m} ⟨o, es, ep, e, d, r⟩ => ⟨o, es, ep, here e (offD e d), d, r⟩
    have hKb : K.In (hidT s1.heap H) := fun b o e => here (KX b o e) (by
      cases q : H b with
      | none => rfl
      | some u =>
        rcases hA b (by rw [q]; exact Option.some_ne_none u) with rfl | rfl
        · rw [hK (by rw [q]; exact Option.some_ne_none u)] at e
          cases e
        · rw [nT] at e
          cases e)
    have hM : Mod K mg (hidT s1.heap H) := ⟨hKb, nsK hns, ⟨mb, nsK hb, hbb⟩, let ⟨mc, h1, h2⟩ := hlim; ⟨mc, nsK h1, h2⟩⟩
    have TB : TabB (hidT s1.heap H) mg cd tb := by
      refine ⟨?_, ?_, fun z => ?_⟩
      · obtain ⟨o, us, file, tf, flags, tg, inF, text, tt, e1, r1, r2, r3, r4, r5, r6, r7, r8, hne⟩ := C
        exact ⟨o, us, file, tf, flags, tg, inF, text, tt, here e1 (off e1 (fun vs n z => by rw [r2] at z; cases z) (fun z => by rw [r2] at z; cases z; simp at r3)), r1, r2, r3, r4, r5, r6, r7, r8, hne⟩
      · obtain ⟨bm, ob, b1, b2, b3, b4, b5, b6⟩ := hbm
        have nG : bm ≠ mainGlobals := fun q => by
          obtain ⟨o, es, ep, e, hd, _⟩ := hns
          rw [q, e] at b3
          cases b3
          rw [hd] at b6
          cases b6
        have nP : bm ≠ tb := fun q => by
          rw [q, hT] at b3
          cases b3
          cases b6
        exact ⟨bm, ob, b1, b2, nG, nP, here b3 (off b3 (fun vs n z => by rw [b6] at z; cases z) (fun z => by rw [b6] at z; cases z)), b4, b5, b6⟩
      · obtain ⟨o, es, ep, e, hd, _⟩ := hns
        rw [z, hT] at e
        cases e
        cases hd
    have env : Env0 P w K mg (hidT s1.heap H) callerA [] s1 H := ⟨rfl, hM, fun b o e => of_hidT e, Nat.le_of_eq (hidT_size _ _), trivial, fun b hb => absurd (show b ∈ ([] : List Addr) from hb) (by simp), hok, .of_eq hg⟩
    refine codeAny_mono (F _ hKb (nsK hns) TB (let ⟨o, es, ep, e, d⟩ := hsys; ⟨o, es, ep, here e (offD e d), d⟩) s1 H ⟨[.ref a], []⟩ [.ref a] [.ref a] _ _ env (hbind s1 (.ref a)) (.cons rfl .nil) (hsp H hH hS)) fun r s' h => ?_
    cases r with
    | error e => exact (hCX H e s' h).elim
    | ok fl =>
      cases fl with
      | next => exact h.elim
      | brk => exact h.elim
      | cont => exact h.elim
      | ret u =>
        obtain ⟨v, H', os, bare, un, hok', r', q⟩ := h
        obtain rfl : v = .bl true := q
        obtain rfl : u = Value.bool true := r'
        have key : ∀ b o, b ≠ tb → s1.heap.get? b = some o → s'.heap.get? b = some o := fun b o nb e => by
          rcases hO b with z | z | ⟨ob, xs, z⟩
          · exact un.keep b o e z (by intro z; exact absurd (show b ∈ ([] : List Addr) from z) (by simp)) (by simp)
          · exact absurd z nb
          · obtain ⟨e1, _⟩ := hok b _ z
            obtain ⟨e2, _⟩ := hok' b _ (un.frzs b ob _ z)
            rw [e] at e1
            cases e1
            exact e2
        have grown : ∃ more : Array Value, s'.heap.get? tb = some { cls := .none, data := .fields more } := by
          obtain ⟨more, z⟩ := un.tbls tb #[] hH
          exact ⟨_, hok' tb _ z⟩
        obtain ⟨more, hm⟩ := grown
        refine ⟨rfl, ⟨fun b o e => ?_, fun b o e => ?_⟩, os, bare⟩
        · by_cases hbt : b = tb
          · subst hbt
            rw [hT] at e
            cases e
            exact .inr (.inl ⟨(C.tab hT).isCodeTable, rfl, #[], more, rfl, by rw [Array.empty_append]; exact hm⟩)
          · exact .inl (key b o hbt e)
        · by_cases hbt : b = tb
          · subst hbt
            exact ⟨_, hm⟩
          · exact ⟨o, key b o hbt e⟩
  cases hk : K.lookup a with
  | some o =>
    have e := KX a o hk
    rw [ha] at e
    cases e
    refine main (fun b => if b = tb then some (.tbl #[]) else none) (if_pos rfl) (fun b => ?_) (.inr ⟨_, vs.toArray, _, hk, rfl, rfl, rfl, by rw [List.size_toArray, lenV]; exact hl, by simpa using vals⟩) (fun b u z => ?_) (fun b z => ?_) fun z => absurd (show (if a = tb then some (HO.tbl #[]) else none) = none from if_neg ne) z
    · by_cases hbt : b = tb
      · exact .inr (.inl hbt)
      · exact .inl (if_neg hbt)
    · by_cases hbt : b = tb
      · cases (if_pos hbt).symm.trans z
        rw [hbt]
        exact hT
      · cases (if_neg hbt).symm.trans z
    · by_cases hbt : b = tb
      · exact .inr hbt
      · exact absurd (if_neg hbt) z
  | none =>
    refine main (fun b => if b = a then some (.frz { cls := .type "list", data := .seq vs.toArray } (.lst (ns.map V.int))) else if b = tb then some (.tbl #[]) else none) ((if_neg (show ¬ tb = a from fun z => ne z.symm)).trans (if_pos rfl)) (fun b => ?_) (.inl (.inr ⟨_, if_pos rfl⟩)) (fun b u z => ?_) (fun b z => ?_) fun _ => hk
    · by_cases hba : b = a
      · exact .inr (.inr ⟨_, _, if_pos hba⟩)
      · by_cases hbt : b = tb
        · exact .inr (.inl hbt)
        · exact .inl ((if_neg hba).trans (if_neg hbt))
    · by_cases hba : b = a
      · subst hba
        cases (if_pos rfl).symm.trans z
        exact ⟨ha, by rw [List.length_map]; exact hl, vs, _, vals, ha⟩
      · have z1 := (if_neg hba).symm.trans z
        by_cases hbt : b = tb
        · cases (if_pos hbt).symm.trans z1
          rw [hbt]
          exact hT
        · cases (if_neg hbt).symm.trans z1
    · by_cases hba : b = a
      · exact .inl hba
      · by_cases hbt : b = tb
        · exact .inr hbt
        · exact absurd ((if_neg hba).trans (if_neg hbt)) z
/-- what the end must know of the law: its def, its code object and its table -/
def Knows (P : Program) (w : World) (K : PySem.W.Frag) (CX : CXT) (x : Str) (mg : Str → Option Value) (fa : Addr) (sp : Addr → Sp) : Prop :=
  ∃ (fd : FuncData) (cd tb : Addr) (o : Obj) (e : Value) (dd : Option Addr) (us : Array Value) (sl : Array (Option Value)), K.lookup fa = some o ∧ o.data = .func fd ∧ fd.code = .ref cd ∧ K.lookup cd = some ⟨e, dd, .fields us, sl⟩ ∧ us[11]? = some (.ref tb) ∧ K.lookup tb = none ∧ (∀ h : Heap, K.In h → PySem.W.CodeHd h cd tb) ∧
    (∀ (s : Shared) (u : Value), BindsTo s fd ⟨[u], []⟩ [(x, u)]) ∧ ∀ base : Heap, K.In base → base.Ns mainGlobals mg → TabB base mg cd tb → SysB base → Ran P w K mg base CX fa fd [x] (sp tb)
theorem walk_ran1 {l : PySem.W.OpenLaw} {n : Nat} {q : Program} {loose : List Str} {XP : (Str → Option Value) → Heap → Prop} {YP : World → Heap → Prop} {d : DefRec} {K : Params → PySem.W.Frag} {CX : World → CXT} {sp : World → Addr → Sp} {x : Str} (hn : l.most = some n) (hn2 : n ≤ sizeLine) (hdf : d.params.defaults = [])
    (hrec : ((recsOf q).any fun e => e.name == d.name) = true) (himp : PyProof.Rows.importsNone q = true) (hY : ∀ (w : World) (h : Heap), YP w h → (K w.params).In h)
    (F : ∀ (w : World) (mg : Str → Option Value) (fa : Addr) (h : Heap), (K w.params).In h → h.Ns mainGlobals mg → mg d.name = some (.ref fa) → Knows l.prog w (K w.params) (CX w) x mg fa (sp w))
    (hsp : ∀ (w : World) (H : Hp) (a tb : Addr) (ns : List Int), ns.length ≤ n → H tb = some (.tbl #[]) → SqL (K w.params) H a (ns.map V.int) → sp w tb [.ref a] H (fun v _ => v = .bl true) fun _ _ _ => False)
    (hCX : ∀ (w : World) (H : Hp) (s : Shared) (e : Value) (s' : Shared), CX w [] H s (fun _ _ _ => False) e s' → False) : PySem.W.WalkO q loose XP YP l.row.toRowW d [] (fun f vs => PySem.call f vs) := by
  refine Att.attach_call hn hdf fun w s0 s1 mg mb fa o pm cd doc a vs ns G Y ho hd hcd hmg hobj hints hlen hg => ?_
  have KX := hY w _ Y
  obtain ⟨fd, c, tb, o1, e, dd, us, sl, k1, k2, k3, k4, k5, nT, hC, hb, hF⟩ := F w mg fa _ KX G.T.g hmg
  have hT : s1.heap.get? tb = some { cls := .none, data := .fields #[] } := by
    obtain ⟨dL, hm, hn1⟩ := List.any_eq_true.mp hrec
    have hn2 : dL.name = d.name := beq_iff_eq.mp hn1
    obtain ⟨a', o', fd', c', P', h1, h2, h3, h4, h5, h6⟩ := G.T.tab dL hm
    rw [hn2, hmg] at h1
    cases h1
    have g1 := KX _ _ k1
    rw [g1] at h2
    cases h2
    rw [k2] at h3
    cases h3
    rw [k3] at h4
    cases h4
    obtain ⟨⟨oc, vc, e1, _, e3, e4⟩, hP⟩ := h6
    have g2 := KX _ _ k4
    rw [g2] at e1
    cases e1
    cases e3
    rw [k5] at e4
    cases e4
    exact hP
  exact law_end1 KX G.T.g G.T.b G.T.builtins G.T.nolimit hg hT nT (hC _ KX) G.T.bmain hobj hints (Nat.le_trans hlen hn2) (let ⟨_, ⟨o, es, ep, e, d, _⟩, _⟩ := (G.T.seer himp).mods; ⟨o, es, ep, e, d⟩) hF hb (fun H hH hS => hsp w H a tb ns hlen hH hS) fun H e s' => hCX w H s1 e s'
end XW

namespace K9
open PySem PySem.Spec PyProof.Rows L2 C8 XE XR TX XI XW
/-! repr of small data with dicts in it -/
def keyP : Key → PyData
  | .inl i => .int i
  | .inr z => .str z
mutual
inductive Dq (K : PySem.W.Frag) (H : Hp) : V → PyData → Prop
  | non : Dq K H .non .none
  | bl (b : Bool) : Dq K H (.bl b) (.bool b)
  | int (i : Int) : Dq K H (.int i) (.int i)
  | str (x : Str) : Dq K H (.str x) (.str x)
  | lst {a : Addr} {xs : List V} {ds : List PyData} : SqL K H a xs → DqAll K H xs ds → Dq K H (.ref a) (.list ds)
  | tup {a : Addr} {xs : List V} {ds : List PyData} : SqT K H a xs → DqAll K H xs ds → Dq K H (.ref a) (.tuple ds)
  | dic {a : Addr} {kvs : List (Key × V)} {ds : List (PyData × PyData)} : H a = some (.dK kvs) → DqKv K H kvs ds → Dq K H (.ref a) (.dict ds)
  | dicT {a : Addr} {kvs : List (List Key × V)} {ds : List (PyData × PyData)} : H a = some (.dT kvs) → DqT K H kvs ds → Dq K H (.ref a) (.dict ds)
inductive DqAll (K : PySem.W.Frag) (H : Hp) : List V → List PyData → Prop
  | nil : DqAll K H [] []
  | cons {v : V} {vs : List V} {d : PyData} {ds : List PyData} : Dq K H v d → DqAll K H vs ds → DqAll K H (v :: vs) (d :: ds)
inductive DqKv (K : PySem.W.Frag) (H : Hp) : List (Key × V) → List (PyData × PyData) → Prop
  | nil : DqKv K H [] []
  | cons {k : Key} {v : V} {kvs : List (Key × V)} {d : PyData} {ds : List (PyData × PyData)} : Dq K H v d → DqKv K H kvs ds → DqKv K H ((k, v) :: kvs) ((keyP k, d) :: ds)
inductive DqT (K : PySem.W.Frag) (H : Hp) : List (List Key × V) → List (PyData × PyData) → Prop
  | nil : DqT K H [] []
  | cons {k : List Key} {v : V} {kvs : List (List Key × V)} {d : PyData} {ds : List (PyData × PyData)} : Dq K H v d → DqT K H kvs ds → DqT K H ((k, v) :: kvs) ((.tuple (k.map keyP), d) :: ds)
end
mutual
theorem Dp.q {K : PySem.W.Frag} {H : Hp} : ∀ (d : PyData) {v : V}, Dp K H v d → Dq K H v d
  | .none, _, h => by cases h; exact .non
  | .bool _, _, h => by cases h; exact .bl _
  | .int _, _, h => by cases h; exact .int _
  | .str _, _, h => by cases h; exact .str _
  | .list ds, _, h => by
    cases h with
    | lst a b => exact .lst a (DpAll.q ds b)
  | .tuple ds, _, h => by
    cases h with
    | tup a b => exact .tup a (DpAll.q ds b)
  | .dict _, _, h => by cases h
theorem DpAll.q {K : PySem.W.Frag} {H : Hp} : ∀ (ds : List PyData) {vs : List V}, DpAll K H vs ds → DqAll K H vs ds
  | [], _, h => by cases h; exact .nil
  | d :: ds, _, h => by
    cases h with
    | cons a b => exact .cons (Dp.q d a) (DpAll.q ds b)
end
section
variable {X : Cx} {pins : List (Addr × Obj)} {σ : L2.St} {H : Hp} {s : Shared}
theorem sys_ne (I : Inv X pins σ H s) (hB : SysB X.base) {a : Addr} {o : Obj} {vs : Array Value} {n : Nat} (e : s.heap.get? a = some o) (d : o.data = .seq vs n) : sysModules ≠ a := fun h => by
  obtain ⟨o', es, ep, e', d'⟩ := hB
  have := I.bk _ _ e'
  rw [h, e] at this
  cases this
  rw [d] at d'
  cases d'
theorem kv_reads {h : Heap} : ∀ {es : List DictEntry} {vs : List (Key × Value)}, Pairs (mixKind X.prog X.w) es vs → ∃ as, ReadsAll h (es.map (·.key)) (vs.map fun kv => keyP kv.1) as ∧ as = [] ∧ es.map (·.val) = vs.map fun kv => kv.2
  | _, _, .nil => ⟨[], .nil, rfl, rfl⟩
  | e :: _, kv :: _, .cons hk hv t => by
    obtain ⟨as, r, e1, e2⟩ := kv_reads (h := h) t
    subst e1
    refine ⟨[] ++ [], ?_, rfl, by rw [List.map_cons, List.map_cons, hv, e2]⟩
    rw [List.map_cons, List.map_cons]
    refine .cons ?_ r
    rcases keyIs_shape hk with ⟨i, t, e1, e2⟩ | ⟨x, t, e1, e2⟩
    · rw [e1, e2]; exact .int i t
    · rw [e1, e2]; exact .str x t
theorem keys_read {h : Heap} : ∀ {ks : List Key} {us : List Value}, Vals (ks.map kV) us → ReadsAll h us (ks.map keyP) []
  | [], _, r => by cases r; exact .nil
  | k :: ks, _, r => by
    rw [List.map_cons] at r
    cases r with
    | cons a b =>
      rw [List.map_cons]
      refine (.cons (as := []) (bs := []) ?_ (keys_read b) : ReadsAll h _ _ ([] ++ []))
      cases k with
      | inl i => obtain ⟨t, rfl⟩ := a; exact .int i t
      | inr x => obtain ⟨t, rfl⟩ := a; exact .str x t
mutual
theorem Dq.reads (I : Inv X pins σ H s) (hB : SysB X.base) : ∀ (d : PyData) (v : V) (u : Value), Dq X.K H v d → RelV v u → ∃ as, Reads s.heap u d as ∧ sysModules ∉ as
  | .none, _, _, h, r => by
    cases h
    cases r
    exact ⟨_, .none, by simp⟩
  | .bool b, _, _, h, r => by
    cases h
    cases r
    exact ⟨_, .bool b, by simp⟩
  | .int i, _, _, h, r => by
    cases h
    obtain ⟨t, rfl⟩ := r
    exact ⟨_, .int i t, by simp⟩
  | .str x, _, _, h, r => by
    cases h
    obtain ⟨t, rfl⟩ := r
    exact ⟨_, .str x t, by simp⟩
  | .list ds, _, _, h, r => by
    cases h with
    | lst hs ha =>
      cases r
      obtain ⟨us, rv, pl, _⟩ := I.list hs
      obtain ⟨as, ra, na⟩ := DqAll.reads I hB ds _ us ha rv
      obtain ⟨o, ho, hc, n, hd⟩ := pl.isList
      refine ⟨_, .list ho hc hd (by simpa using ra), ?_⟩
      rw [List.mem_cons, not_or]
      exact ⟨sys_ne I hB ho hd, na⟩
  | .tuple ds, _, _, h, r => by
    cases h with
    | tup hs ha =>
      cases r
      obtain ⟨us, rv, pl, _⟩ := I.tuple hs
      obtain ⟨as, ra, na⟩ := DqAll.reads I hB ds _ us ha rv
      obtain ⟨o, ho, hc, n, hd⟩ := pl
      exact ⟨_, .tuple ho hc hd (by simpa using ra), na⟩
  | .dict ds, _, _, h, r => by
    cases h with
    | dic hs ha =>
      cases r
      obtain ⟨_, hS, vs, rv, o, es, ep, ho, hc, hd, _, hp, _⟩ := dk_of I.hok hs
      obtain ⟨bs, rb, nb, ek⟩ := DqKv.reads I hB ds _ vs ha rv
      obtain ⟨as, ra, ea, ev⟩ := kv_reads (X := X) (h := s.heap) hp
      subst ea
      refine ⟨_, .dict ho hc.1 hd (by rw [← ek]; exact ra) (by rw [ev]; exact rb), ?_⟩
      rw [List.mem_append, List.mem_singleton, not_or]
      exact ⟨fun e => by rw [← e] at hS; simp at hS, nb⟩
    | dicT hs ha =>
      cases r
      obtain ⟨_, hS, xs, rel, o, es, ep, ho, hc, hd, he, _, _⟩ := dt_rd I.hok (.inl hs)
      obtain ⟨bs, rb, nb, rk⟩ := DqT.reads I hB ds _ xs ha rel
      have e1 : es.toList.map (fun e => e.key) = xs.map fun x => Value.ref x.2.1 := by rw [he, List.map_map]; rfl
      have e2 : es.toList.map (fun e => e.val) = xs.map fun x => x.2.2 := by rw [he, List.map_map]; rfl
      refine ⟨_, .dict ho hc.1 hd (by rw [e1]; exact rk) (by rw [e2]; exact rb), ?_⟩
      rw [List.mem_append, List.mem_singleton, not_or]
      exact ⟨fun e => by rw [← e] at hS; simp at hS, nb⟩
theorem DqAll.reads (I : Inv X pins σ H s) (hB : SysB X.base) : ∀ (ds : List PyData) (vs : List V) (us : List Value), DqAll X.K H vs ds → Vals vs us → ∃ as, ReadsAll s.heap us ds as ∧ sysModules ∉ as
  | [], _, _, h, r => by
    cases h
    cases r
    exact ⟨[], .nil, by simp⟩
  | d :: ds, _, _, h, r => by
    cases h with
    | cons a b =>
      cases r with
      | cons p q =>
        obtain ⟨as, r1, n1⟩ := Dq.reads I hB d _ _ a p
        obtain ⟨bs, r2, n2⟩ := DqAll.reads I hB ds _ _ b q
        exact ⟨as ++ bs, .cons r1 r2, by rw [List.mem_append, not_or]; exact ⟨n1, n2⟩⟩
theorem DqT.reads (I : Inv X pins σ H s) (hB : SysB X.base) : ∀ (ds : List (PyData × PyData)) (kvs : List (List Key × V)) (xs : List (List Key × Addr × Value)), DqT X.K H kvs ds → L2.KT H kvs xs → ∃ bs, ReadsAll s.heap (xs.map fun x => x.2.2) (ds.map (·.2)) bs ∧ sysModules ∉ bs ∧ ReadsAll s.heap (xs.map fun x => Value.ref x.2.1) (ds.map (·.1)) []
  | [], _, _, h, r => by
    cases h
    cases r
    exact ⟨[], .nil, by simp, .nil⟩
  | (k, d) :: ds, _, _, h, r => by
    cases h with
    | cons a b =>
      cases r with
      | cons p q =>
        obtain ⟨p1, p2, p3⟩ := p
        obtain ⟨as, r1, n1⟩ := Dq.reads I hB d _ _ a p3
        obtain ⟨bs, r2, n2, rk⟩ := DqT.reads I hB ds _ _ b q
        obtain ⟨its, rv, ⟨o, ho, hc, n, hd⟩, _⟩ := I.tuple (SqT.of p2)
        refine ⟨as ++ bs, .cons r1 r2, by rw [List.mem_append, not_or]; exact ⟨n1, n2⟩, ?_⟩
        rw [List.map_cons, List.map_cons]
        exact (.cons (as := []) (bs := []) (.tuple ho hc hd (by simpa using keys_read rv)) rk : ReadsAll s.heap _ _ ([] ++ []))
theorem DqKv.reads (I : Inv X pins σ H s) (hB : SysB X.base) : ∀ (ds : List (PyData × PyData)) (kvs : List (Key × V)) (vs : List (Key × Value)), DqKv X.K H kvs ds → KV kvs vs → ∃ bs, ReadsAll s.heap (vs.map fun kv => kv.2) (ds.map (·.2)) bs ∧ sysModules ∉ bs ∧ (vs.map fun kv => keyP kv.1) = ds.map (·.1)
  | [], _, _, h, r => by
    cases h
    cases r
    exact ⟨[], .nil, by simp, rfl⟩
  | (k, d) :: ds, _, _, h, r => by
    cases h with
    | cons a b =>
      cases r with
      | cons p q =>
        obtain ⟨p1, p2⟩ := p
        obtain ⟨as, r1, n1⟩ := Dq.reads I hB d _ _ a p2
        obtain ⟨bs, r2, n2, e⟩ := DqKv.reads I hB ds _ _ b q
        refine ⟨as ++ bs, .cons r1 r2, by rw [List.mem_append, not_or]; exact ⟨n1, n2⟩, ?_⟩
        rw [List.map_cons, List.map_cons, e]
        congr 1
        exact congrArg keyP p1.symm
end
end
structure Small2 (e : PyData) (n : Nat) : Prop where
  sho : e.showable = true
  lea : e.leavesShort 13 = true
  wei : e.weight + 1 ≤ 30 * n
  dep : e.depth ≤ n
structure SmallAll2 (es : List PyData) (n : Nat) : Prop where
  sho : PyData.showableAll es = true
  lea : PyData.leavesShortAll 13 es = true
  wei : PyData.weightAll es ≤ 30 * n
  dep : PyData.depthAll es ≤ n
structure SmallKv2 (es : List (PyData × PyData)) (n : Nat) : Prop where
  sho : PyData.showableKv es = true
  lea : PyData.leavesShortKv 13 es = true
  wei : PyData.weightKv es ≤ 30 * n
  dep : PyData.depthKv es ≤ n
theorem Small.two {e : PyData} {n : Nat} (S : Small e n) : Small2 e n := ⟨S.sho, S.lea, S.wei, S.dep⟩
theorem SmallAll2.cons {e : PyData} {es : List PyData} {n m : Nat} (S : Small2 e n) (T : SmallAll2 es m) : SmallAll2 (e :: es) (n + m) :=
  ⟨by rw [PyData.showableAll, S.sho, T.sho]; rfl, by rw [PyData.leavesShortAll, S.lea, T.lea]; rfl, by rw [PyData.weightAll]; have := S.wei; have := T.wei; omega, by rw [PyData.depthAll]; have := S.dep; have := T.dep; omega⟩
theorem SmallAll2.nil : SmallAll2 [] 0 := ⟨rfl, rfl, Nat.zero_le _, by simp [PyData.depthAll]⟩
theorem SmallAll2.list {es : List PyData} {n : Nat} (S : SmallAll2 es n) : Small2 (.list es) (1 + n) := ⟨S.sho, S.lea, by show PyData.weightAll es + 1 ≤ _; have := S.wei; omega, by have := S.dep; simp only [PyData.depth]; omega⟩
theorem SmallAll2.tup {es : List PyData} {n : Nat} (S : SmallAll2 es n) : Small2 (.tuple es) (1 + n) := ⟨S.sho, S.lea, by show PyData.weightAll es + 1 ≤ _; have := S.wei; omega, by have := S.dep; simp only [PyData.depth]; omega⟩
theorem SmallKv2.nil : SmallKv2 [] 0 := ⟨rfl, rfl, Nat.zero_le _, by simp [PyData.depthKv]⟩
theorem SmallKv2.cons {k e : PyData} {es : List (PyData × PyData)} {l n m : Nat} (R : Small2 k l) (S : Small2 e n) (T : SmallKv2 es m) : SmallKv2 ((k, e) :: es) (l + n + m) :=
  ⟨by rw [PyData.showableKv, R.sho, S.sho, T.sho]; rfl, by rw [PyData.leavesShortKv, R.lea, S.lea, T.lea]; rfl, by rw [PyData.weightKv]; have := R.wei; have := S.wei; have := T.wei; omega, by rw [PyData.depthKv]; have := R.dep; have := S.dep; have := T.dep; omega⟩
theorem SmallKv2.dict {es : List (PyData × PyData)} {n : Nat} (S : SmallKv2 es n) : Small2 (.dict es) (1 + n) := ⟨S.sho, S.lea, by show PyData.weightKv es + 1 ≤ _; have := S.wei; omega, by have := S.dep; simp only [PyData.depth]; omega⟩
theorem Small2.fits {e : PyData} {n : Nat} (S : Small2 e n) (h : n ≤ 3000) : e.shown.length ≤ sizeLine := by
  have := S.wei
  refine PyData.shown_fits (B := 13) (by decide) (by decide) S.lea ?_
  have e : (2 : Nat) ^ 20 = 1048576 := by decide
  omega
/-- repr(v) of an object -/
def rRepr2 (K : PySem.W.Frag) : List V → Hp → VK → Prop := fun xs H Q => ∃ a e n, xs = [.ref a] ∧ Dq K H (.ref a) e ∧ Small2 e n ∧ n ≤ 3000 ∧ e.depth ≤ 400 ∧ Q (.str e.shown) H
section
variable {X : Cx}
theorem call_repr2 (hB : SysB X.base) (hg : X.A.guards = some []) (hu : X.A.units + 500 < cLine) : CallR X (.builtin "repr") (rRepr2 X.K) := by
  intro pins s σ H xs us Q I r h
  obtain ⟨a, e, n, rfl, hd, S, hn, hdep, q⟩ := h
  obtain ⟨u, rfl, ru⟩ := r.one
  have hz := S.fits hn
  cases ru
  obtain ⟨as, hr, na⟩ := Dq.reads I hB _ _ _ hd rfl
  exact repr_of_reads' hr S.sho (fun _ => na) hg (by omega) (fun _ _ e => e) (fun h' u tk hk => ⟨.str _, H, I.kept hk, ⟨_, rfl⟩, q⟩) hz
end
end K9

namespace K9
open PySem PySem.Spec PyProof.Rows L2 C8 XE XI XR TX
/-! small data with dicts: texts, and how a text lays them -/
mutual
def okZ : D → Bool
  | .fl x => okX x
  | .emp => true
  | .sq xs => okZs xs
def okZs : List D → Bool
  | [] => true
  | x :: xs => okZ x && okZs xs
end
theorem okZs_all : ∀ ds : List D, okZs ds = ds.all okZ
  | [] => rfl
  | d :: ds => by rw [okZs, List.all_cons, okZs_all ds]
mutual
theorem okD_Z : ∀ d : D, okD d = true → okZ d = true
  | .fl x, h => h
  | .emp, h => rfl
  | .sq xs, h => okDs_Z xs h
theorem okDs_Z : ∀ ds : List D, okDs ds = true → okZs ds = true
  | [], _ => rfl
  | d :: ds, h => by
    rw [okDs, Bool.and_eq_true] at h
    rw [okZs, okD_Z d h.1, okDs_Z ds h.2]
    rfl
end
mutual
theorem okZ_short : ∀ d : D, okZ d = true → shortD d = true
  | .fl x, h => by
    cases x with
    | str z =>
      have h : (decide (z.length ≤ 20) && PyData.strOk z) = true := h
      rw [Bool.and_eq_true] at h
      exact decide_eq_true (by have := of_decide_eq_true h.1; omega)
    | _ => rfl
  | .emp, h => rfl
  | .sq xs, h => okZs_short xs h
theorem okZs_short : ∀ ds : List D, okZs ds = true → shortDs ds = true
  | [], _ => rfl
  | d :: ds, h => by
    rw [okZs, Bool.and_eq_true] at h
    rw [shortDs, okZ_short d h.1, okZs_short ds h.2]
    rfl
end
mutual
theorem small2_of {K : PySem.W.Frag} {F : Addr → Prop} {H : Hp} : ∀ (d : D) {v : V}, okZ d = true → DAt F H v d → ∃ e, (∀ H', Hold F H H' → Dq K H' v e) ∧ Small2 e (sz d)
  | .fl x, v, h, hv => by
    obtain ⟨e, h1, S⟩ := small_of (K := K) (.fl x) h hv
    exact ⟨e, fun H' hh => Dp.q _ (h1 H' hh), S.two⟩
  | .emp, v, h, ⟨a, e, q⟩ => by
    subst e
    exact ⟨.dict [], fun H' hh => .dic (hh.dic _ q) .nil, SmallKv2.nil.dict⟩
  | .sq xs, v, h, ⟨a, vs, e, q, o, k⟩ => by
    subst e
    obtain ⟨es, h1, S⟩ := smalls2_of (K := K) xs h k
    rcases q with q | ⟨hF, q⟩
    · exact ⟨.tuple es, fun H' hh => .tup (SqT.of (hh.tup _ _ q)) (h1 H' hh), S.tup⟩
    · exact ⟨.list es, fun H' hh => .lst (SqL.of (hh.lst _ _ hF q)) (h1 H' hh), S.list⟩
theorem smalls2_of {K : PySem.W.Frag} {F : Addr → Prop} {H : Hp} : ∀ (ds : List D) {vs : List V}, okZs ds = true → DAts F H vs ds → ∃ es, (∀ H', Hold F H H' → DqAll K H' vs es) ∧ SmallAll2 es (szs ds)
  | [], [], _, _ => ⟨[], fun _ _ => .nil, .nil⟩
  | d :: ds, v :: vs, h, ⟨k, t⟩ => by
    rw [okZs, Bool.and_eq_true] at h
    obtain ⟨e, h1, S⟩ := small2_of (K := K) d h.1 k
    obtain ⟨es, h2, T⟩ := smalls2_of (K := K) ds h.2 t
    exact ⟨e :: es, fun H' hh => .cons (h1 H' hh) (h2 H' hh), SmallAll2.cons S T⟩
  | [], _ :: _, _, k => k.elim
  | _ :: _, [], _, k => k.elim
end
/-- dicts of words or data, short -/
def okKey : Key → Bool
  | .inl i => decide (-9 ≤ i) && decide (i ≤ 9)
  | .inr z => decide (z.length ≤ 20) && PyData.strOk z
def okA : KA → Prop
  | .d d => okZ d = true ∧ sz d ≤ 20
  | .k es => es.length ≤ 12 ∧ ∀ e ∈ es, okKey e.1 = true ∧ okZ e.2 = true ∧ sz e.2 ≤ 17
  | .t es => es.length ≤ 2 ∧ ∀ e ∈ es, e.1.length ≤ 2 ∧ e.1.all okKey = true ∧ okZ e.2 = true ∧ sz e.2 ≤ 17
theorem key_small {k : Key} (h : okKey k = true) : Small2 (keyP k) 1 := by
  have hx : okX (kV k) = true := by cases k <;> exact h
  obtain ⟨e, h1, S⟩ := small_of (K := []) (F := nol) (H := fun _ => none) (.fl (kV k)) hx ⟨rfl, by cases k <;> rfl⟩
  have := h1 (fun _ => none) ⟨fun _ _ e => e, fun _ e => e, fun _ _ _ e => e⟩
  have e1 : e = keyP k := by
    cases k with
    | inl i => cases this; rfl
    | inr z => cases this; rfl
  rw [← e1]
  exact S.two
theorem kvs_dq {K : PySem.W.Frag} {F : Addr → Prop} {H : Hp} : ∀ {kvs : List (Key × V)} {es : List (Key × D)}, Paired (KE F H) kvs es → (∀ e ∈ es, okKey e.1 = true ∧ okZ e.2 = true ∧ sz e.2 ≤ 17) → ∃ ps, (∀ H', Hold F H H' → DqKv K H' kvs ps) ∧ SmallKv2 ps (18 * es.length) ∧ PyData.depthKv ps ≤ 17
  | _, _, .nil, _ => ⟨[], fun _ _ => .nil, .nil, by simp [PyData.depthKv]⟩
  | kv :: _, q :: _, .cons ⟨ek, hd⟩ t, h => by
    obtain ⟨ps, h1, h2, h3⟩ := kvs_dq (K := K) t fun e he => h e (List.mem_cons_of_mem _ he)
    obtain ⟨g1, g2, g3⟩ := h q List.mem_cons_self
    obtain ⟨e, he, hs⟩ := small2_of (K := K) q.2 g2 hd
    have all := SmallKv2.cons (key_small g1) hs h2
    obtain ⟨k, v⟩ := kv
    dsimp only at ek he
    subst ek
    refine ⟨(keyP q.1, e) :: ps, fun H' hH => .cons (he H' hH) (h1 H' hH), ⟨all.sho, all.lea, by have := all.wei; rw [List.length_cons]; omega, by have := all.dep; rw [List.length_cons]; omega⟩, ?_⟩
    have d1 := hs.dep
    have d2 := (key_small g1).dep
    rw [PyData.depthKv]
    omega
theorem ks_all {ks : List Key} (h : ks.all okKey = true) : SmallAll2 (ks.map keyP) ks.length := by
  induction ks with
  | nil => exact .nil
  | cons k ks ih =>
    rw [List.all_cons, Bool.and_eq_true] at h
    have := SmallAll2.cons (key_small h.1) (ih h.2)
    rw [List.map_cons, List.length_cons, Nat.add_comm]
    exact this
theorem kts_dq {K : PySem.W.Frag} {F : Addr → Prop} {H : Hp} : ∀ {kvs : List (List Key × V)} {es : List (List Key × D)}, Paired (KT F H) kvs es → (∀ e ∈ es, e.1.length ≤ 2 ∧ e.1.all okKey = true ∧ okZ e.2 = true ∧ sz e.2 ≤ 17) → ∃ ps, (∀ H', Hold F H H' → DqT K H' kvs ps) ∧ SmallKv2 ps (20 * es.length) ∧ PyData.depthKv ps ≤ 17
  | _, _, .nil, _ => ⟨[], fun _ _ => .nil, .nil, by simp [PyData.depthKv]⟩
  | kv :: _, q :: _, .cons ⟨ek, hd⟩ t, h => by
    obtain ⟨ps, h1, h2, h3⟩ := kts_dq (K := K) t fun e he => h e (List.mem_cons_of_mem _ he)
    obtain ⟨g0, g1, g2, g3⟩ := h q List.mem_cons_self
    obtain ⟨e, he, hs⟩ := small2_of (K := K) q.2 g2 hd
    have kk := (ks_all g1).tup
    have all := SmallKv2.cons kk hs h2
    obtain ⟨k, v⟩ := kv
    dsimp only at ek he
    subst ek
    refine ⟨(.tuple (q.1.map keyP), e) :: ps, fun H' hH => .cons (he H' hH) (h1 H' hH), ⟨all.sho, all.lea, by have := all.wei; rw [List.length_cons]; omega, by have := all.dep; rw [List.length_cons]; omega⟩, ?_⟩
    have d1 := hs.dep
    have d2 := kk.dep
    rw [PyData.depthKv]
    omega
/-- the text of what stands for kinds, wherever the heap has grown to -/
theorem kat_dq {K : PySem.W.Frag} {F : Addr → Prop} {H : Hp} {v : V} {a : KA} (o : okA a) (h : KAt F H v a) : ∃ e n, (∀ H', Same H H' → Dq K H' v e) ∧ Small2 e n ∧ n ≤ 220 ∧ e.depth ≤ 20 := by
  cases a with
  | d d =>
    obtain ⟨e, h1, S⟩ := small2_of (K := K) d o.1 h
    exact ⟨e, _, fun H' s => h1 H' (.same s), S, by have := o.2; omega, by have := S.dep; have := o.2; omega⟩
  | k es =>
    obtain ⟨r, kvs, rfl, q, p⟩ := h
    obtain ⟨ps, h1, S, dp⟩ := kvs_dq (K := K) p o.2
    refine ⟨.dict ps, _, fun H' s => .dic (s _ _ q) (h1 H' (.same s)), S.dict, by have := o.1; omega, ?_⟩
    simp only [PyData.depth]
    omega
  | t es =>
    obtain ⟨r, kvs, rfl, q, p, _⟩ := h
    obtain ⟨ps, h1, S, dp⟩ := kts_dq (K := K) p o.2
    refine ⟨.dict ps, _, fun H' s => .dicT (s _ _ q) (h1 H' (.same s)), S.dict, by have := o.1; omega, ?_⟩
    simp only [PyData.depth]
    omega
theorem word_ok {z : Str} (h : wordS z = true) : PyData.strOk z = true := by
  unfold wordS at h
  simp only [Bool.and_eq_true] at h
  obtain ⟨_, _, h⟩ := h
  unfold PyData.strOk
  rw [← Array.all_toList]
  refine List.all_eq_true.mpr fun c hc => ?_
  have h1 := of_decide_eq_true (List.all_eq_true.mp h c hc)
  have h2 : ∀ c ∈ letters.cps.toList, c < 1114112 := by decide +kernel
  exact decide_eq_true (h2 c h1)
theorem word_le {z : Str} (h : wordS z = true) : z.length ≤ 8 := by
  unfold wordS at h
  rw [Bool.and_eq_true, Bool.and_eq_true] at h
  exact of_decide_eq_true h.2.1
theorem okX_word {z : Str} (h : wordS z = true) : okX (.str z) = true := by
  unfold okX
  dsimp only
  rw [Bool.and_eq_true]
  exact ⟨decide_eq_true (by have := word_le h; omega), word_ok h⟩
theorem sh_okDN : ∀ (n : Nat) (d : D), sz d ≤ n → isSh d = true → okD d = true
  | 0, d, h, _ => by have := sz_pos d; omega
  | n + 1, d, hn, h => by
    rcases isSh_inv h with ⟨z, rfl, hz⟩ | ⟨z, cs, rfl, hz, hcs⟩
    · exact okX_word hz
    · have hsc : sz (.sq (.fl (.str z) :: cs)) = 2 + szs cs := by rw [sz, szs, sz]; omega
      rw [okD, okDs, okD, okX_word hz, Bool.true_and]
      refine okDs_of fun c hc => ?_
      obtain ⟨i, hi⟩ := List.getElem?_of_mem hc
      have := szs_get hi
      exact sh_okDN n c (by omega) (isShs_mem hcs c hc)
theorem sh_okD {d : D} (h : isSh d = true) : okD d = true := sh_okDN _ d (Nat.le_refl _) h
theorem word_key {z : Str} (h : wordS z = true) : okKey (.inr z) = true := okX_word h
end K9

namespace K9
open PySem PySem.Spec PyProof.Rows L2 C8 XE XI XR TX
/-! _law_spoilt -/
abbrev sSp : Stmt := top 49
abbrev NSp : List Str := ["_law_state", "_law_rule_here", "_law_k", "_law_some", "_law_holes_here", "_law_hole", "_law_place", "_law_words_here", "_law_shape_here"]
theorem scSp : FnScope NSp ["_law_state", "_law_rule_here", "_law_k"] (fnScope sSp) := fnScope_by (by decide +kernel)
def spSp : Sp := fun vs H Q _ => ∃ (st p : Addr) (k : Int) (u1 u2 : V) (a1 a2 : Addr) (d1 d2 : D) (B : Nat) (cl : Addr), vs = [.ref st, .ref p, .int k] ∧ H p = some (.tup [u1, u2, .ref a1, .ref a2]) ∧ DAt nol H u1 d1 ∧ isSh d1 = true ∧ sz d1 ≤ 30 ∧ DAt nol H u2 d2 ∧ isSh d2 = true ∧ sz d2 ≤ 30 ∧ (∀ z ∈ hnm d1, wordS z = true) ∧ 0 ≤ k ∧ k ≤ 3 ∧ StAt B H st cl ∧ B < 100000000000000 ∧
  (k ≤ 1 → ∀ v d H', SA (fun a => H a = none) H' v d → okZ d = true → StAt (B + 1) H' st cl → But st H H' → Q v H') ∧ (1 < k → ∀ v a H', WA (fun a => H a = none) H' v a → okA a → StAt (B + 1) H' st cl → But st H H' → Q v H')
theorem paired_left {α β : Type} {R : α → β → Prop} : ∀ {xs : List α} {ys : List β}, Paired R xs ys → ∀ x ∈ xs, ∃ y ∈ ys, R x y
  | _, _, .nil, x, h => by cases h
  | z :: _, y :: _, .cons r t, x, h => by
    rcases List.mem_cons.mp h with rfl | h
    · exact ⟨y, List.mem_cons_self, r⟩
    · obtain ⟨y', hy, r'⟩ := paired_left t x h
      exact ⟨y', List.mem_cons_of_mem _ hy, r'⟩
theorem ne_of_none' {H : Hp} {a p : Addr} {o : HO} (h : H p = some o) (n : H a = none) : a ≠ p := fun e => by rw [e, h] at n; cases n
/-- a thing; of tuples, if it is a shape -/
def SF (F : Addr → Prop) (H : Hp) (v : V) (d : D) : Prop := DAt F H v d ∧ (isSh d = true → DAt nol H v d)
theorem SF.same {F : Addr → Prop} {H H' : Hp} (s : Same H H') {v : V} {d : D} (h : SF F H v d) : SF F H' v d := ⟨DAt.hold (.same s) _ h.1, fun e => DAt.hold (.same s) _ (h.2 e)⟩
theorem SF.off {F : Addr → Prop} {H : Hp} {p : Addr} (n : H p = none) {v : V} {d : D} (h : SF F H v d) : SF (fun a => F a ∧ a ≠ p) H v d := ⟨DAt.off n _ h.1, h.2⟩
def GS (H : Hp) (σ : L2.St) (te : TE) (d : D) : Prop := ∀ H0, Same H H0 → ∀ Q : VK, (∀ v H1, Same H0 H1 → SF (fun a => H a = none) H1 v d → Q v H1) → te σ H0 Q
def GSA (H : Hp) (σ : L2.St) (t : TA) (ds : List D) : Prop := ∀ H0, Same H H0 → ∀ Q : List V → Hp → Prop, (∀ vs H1, Same H0 H1 → Paired (SF (fun a => H a = none) H1) vs ds → Q vs H1) → t σ H0 Q
theorem sf_dats {F : Addr → Prop} {H : Hp} : ∀ {vs : List V} {ds : List D}, Paired (SF F H) vs ds → DAts F H vs ds ∧ (isShs ds = true → DAts nol H vs ds)
  | _, _, .nil => ⟨trivial, fun _ => trivial⟩
  | _, _, .cons a t => by
    obtain ⟨h1, h2⟩ := sf_dats t
    refine ⟨⟨a.1, h1⟩, fun e => ?_⟩
    rw [isShs, Bool.and_eq_true] at e
    exact ⟨a.2 e.1, h2 e.2⟩
section
variable {H : Hp} {σ : L2.St}
theorem gs_c {x : V} (h : flatV x = true) : GS H σ (tC x) (.fl x) := fun H0 s0 Q k => k x H0 (fun _ _ e => e) ⟨⟨rfl, h⟩, fun _ => ⟨rfl, h⟩⟩
theorem gsa_nil : GSA H σ tNil [] := fun H0 s0 Q k => k [] H0 (fun _ _ e => e) .nil
theorem gsa_cons {te : TE} {t : TA} {d : D} {ds : List D} (h : GS H σ te d) (h2 : GSA H σ t ds) : GSA H σ (tCons te t) (d :: ds) := fun H0 s0 Q k =>
  h H0 s0 _ fun v H1 s1 hv => h2 H1 (s0.trans s1) _ fun vs H2 s2 hvs => k (v :: vs) H2 (s1.trans s2) (.cons (hv.same s2) hvs)
theorem gs_tup {t : TA} {ds : List D} (h : GSA H σ t ds) (o : hdOk ds = true) (hl : ds.length ≤ 1000) : GS H σ (tTup t) (.sq ds) := fun H0 s0 Q k =>
  h H0 s0 _ fun vs H1 s1 hvs => ⟨by rw [Paired.length hvs, sizeLine_eq]; omega, fun p np => by
    have sp := same_upd np (o := .tup vs)
    obtain ⟨h1, h2⟩ := sf_dats hvs
    refine k (.ref p) _ (s1.trans sp) ⟨⟨p, vs, rfl, .inl upd_same, o, DAts.hold (.same sp) _ h1⟩, fun e => ?_⟩
    rcases isSh_inv e with ⟨z, e1, _⟩ | ⟨z, cs, e1, hz, hcs⟩
    · cases e1
    · cases e1
      match vs, hvs with
      | v :: vs, .cons a t =>
        obtain ⟨ha, hf⟩ := a.1
        exact ⟨p, v :: vs, rfl, .inl upd_same, o, ⟨ha, hf⟩, DAts.hold (.same sp) _ ((sf_dats t).2 hcs)⟩⟩
theorem gs_ln : GS H σ (tLst tNil) (.sq []) := fun H0 s0 Q k => ⟨by show 0 ≤ sizeLine; decide, fun p np => k (.ref p) _ (same_upd np) ⟨⟨p, [], rfl, .inr ⟨same_free s0 np, upd_same⟩, rfl, trivial⟩, fun e => by cases e⟩⟩
theorem gs_dn : GS H σ tDNewK .emp := fun H0 s0 Q k => fun p np => k (.ref p) _ (same_upd np) ⟨⟨p, rfl, upd_same⟩, fun e => by cases e⟩
end
theorem sf_mono {F F' : Addr → Prop} {H : Hp} (hF : ∀ a, F a → F' a) {v : V} {d : D} (h : SF F H v d) : SF F' H v d := ⟨DAt.weak hF _ h.1, h.2⟩
theorem asgS {t : TA} {g : TG} {D : Ends} {σ : L2.St} {H : Hp} {ds : List K9.D} (h : GSA H σ t ds) (hl : ds.length ≤ 1000)
    (k : ∀ p vs H', H p = none → H' p = some (.lst vs) → Paired (SF (fun a => H a = none ∧ a ≠ p) H') vs ds → Same H H' → g (.ref p) σ H' D.nx) : tAsg (tLst t) g D σ H :=
  h H (Same.refl _) _ fun vs H2 s2 hvs => ⟨by rw [Paired.length hvs, sizeLine_eq]; omega, fun p np => k p vs _ (same_free s2 np) upd_same (Paired.mono (fun _ _ z => (z.off np).same (same_upd np)) hvs) (s2.trans (same_upd np))⟩
theorem extS {K : PySem.W.Frag} {t : TA} {i : Nat} {D : Ends} {σ : L2.St} {H : Hp} {ds : List K9.D} {p : Addr} {vs1 : List V} (h : GSA H σ t ds) (hi : σ[i]? = some (some (.ref p))) (hp : H p = some (.lst vs1)) (hl : vs1.length + ds.length ≤ 1000)
    (k : ∀ vs2 H', Same H H' → H' p = some (.lst vs1) → Paired (SF (fun a => H a = none) H') vs2 ds → D.nx σ (upd H' p (.lst (vs1 ++ vs2)))) : tDrop (tBM K "list" rExtend (tVar i) (tCons (tLst t) tNil)) D σ H := by
  refine ⟨_, hi, .inl ⟨rfl, _, SqL.of hp⟩, ?_⟩
  refine h H (Same.refl _) _ fun vs2 H3 s3 hvs2 => ⟨by rw [Paired.length hvs2, sizeLine_eq]; omega, fun q nq => ?_⟩
  have hp3 := s3 _ _ hp
  have sq := same_upd nq (o := .lst vs2)
  have pq : p ≠ q := ne_of_none hp3 nq
  have e2 := Paired.length hvs2
  exact ⟨p, q, vs1, vs2, rfl, rfl, sq _ _ hp3, upd_same, by rw [e2, sizeLine_eq]; omega, k vs2 _ (s3.trans sq) (sq _ _ hp3) (Paired.mono (fun _ _ z => z.same sq) hvs2)⟩
theorem sf_upd {F : Addr → Prop} {H : Hp} {p : Addr} {xs ys : List V} (hp : H p = some (.lst xs)) (hF : ∀ a, F a → a ≠ p) {v : V} {d : D} (h : SF F H v d) : SF F (upd H p (.lst ys)) v d := by
  have hold : ∀ G : Addr → Prop, (∀ a, G a → a ≠ p) → Hold G H (upd H p (.lst ys)) := fun G hG => ⟨fun a vs e => by rw [upd_ne (ne_of e hp (by intro z; cases z))]; exact e, fun a e => by rw [upd_ne (ne_of e hp (by intro z; cases z))]; exact e, fun a vs g e => by rw [upd_ne (hG a g)]; exact e⟩
  exact ⟨DAt.hold (hold F hF) _ h.1, fun e => DAt.hold (hold nol fun _ g => g.elim) _ (h.2 e)⟩
theorem sf_but {F : Addr → Prop} {B : Nat} {H H' : Hp} {st cl : Addr} (hs : StAt B H st cl) (b : But st H H') (hF : ∀ a, F a → a ≠ st) {v : V} {d : D} (h : SF F H v d) : SF F H' v d := ⟨DAt.hold (.but hs b hF) _ h.1, fun e => DAt.hold (.but hs b fun _ g => g.elim) _ (h.2 e)⟩
theorem ge_dn {H : Hp} {σ : L2.St} : GE H σ tDNewK .emp := fun H0 s0 Q k => fun p np => k (.ref p) _ (same_upd np) ⟨p, rfl, upd_same⟩
theorem it_lst {K : PySem.W.Frag} {t : TA} {σ : L2.St} {H : Hp} {R : It → Hp → Prop} {ds : List D} (h : GA H σ t ds) (hl : ds.length ≤ 1000) (k : ∀ r us H', H r = none → H' r = some (.lst us) → DAts (fun a => H a = none) H' us ds → Same H H' → R (Itl K r) H') : iList K (tLst t) σ H R :=
  h H (Same.refl _) _ fun vs H2 s2 hvs => ⟨by rw [hvs.len, sizeLine_eq]; omega, fun p np => ⟨p, rfl, ⟨_, SqL.of upd_same⟩, k p vs _ (same_free s2 np) upd_same (DAts.hold (.same (same_upd np)) _ hvs) (s2.trans (same_upd np))⟩⟩
/-- what may stand for kinds -/
def WK (F : Addr → Prop) (H : Hp) (v : V) (a : KA) : Prop := KAt F H v a ∧ a.small ∧ a.few ∧ okA a
theorem WK.same {F : Addr → Prop} {H H' : Hp} (s : Same H H') {v : V} {a : KA} (h : WK F H v a) : WK F H' v a := ⟨h.1.same s, h.2⟩
/-- a change that keeps dicts, tuples and the lists of F -/
structure HoldK (F : Addr → Prop) (H H' : Hp) : Prop extends Hold F H H' where
  dk : ∀ a kvs, H a = some (.dK kvs) → H' a = some (.dK kvs)
  dt : ∀ a kvs, H a = some (.dT kvs) → H' a = some (.dT kvs)
theorem KAt.holdK {F : Addr → Prop} {H H' : Hp} (h : HoldK F H H') {v : V} : ∀ {a : KA}, KAt F H v a → KAt F H' v a
  | .d _, k => DAt.hold h.toHold _ k
  | .k _, ⟨a, kvs, e, q, p⟩ => ⟨a, kvs, e, h.dk _ _ q, Paired.mono (fun _ _ ⟨e, k⟩ => ⟨e, DAt.hold h.toHold _ k⟩) p⟩
  | .t _, ⟨a, kvs, e, q, p, r⟩ => ⟨a, kvs, e, h.dt _ _ q, Paired.mono (fun _ _ ⟨e, k⟩ => ⟨e, DAt.hold h.toHold _ k⟩) p, r⟩
theorem KAt.weak {F F' : Addr → Prop} (hF : ∀ a, F a → F' a) {H : Hp} {v : V} : ∀ {a : KA}, KAt F H v a → KAt F' H v a
  | .d _, k => DAt.weak hF _ k
  | .k _, ⟨a, kvs, e, q, p⟩ => ⟨a, kvs, e, q, Paired.mono (fun _ _ ⟨e, k⟩ => ⟨e, DAt.weak hF _ k⟩) p⟩
  | .t _, ⟨a, kvs, e, q, p, r⟩ => ⟨a, kvs, e, q, Paired.mono (fun _ _ ⟨e, k⟩ => ⟨e, DAt.weak hF _ k⟩) p, r⟩
theorem KAt.off {F : Addr → Prop} {H : Hp} {p : Addr} (n : H p = none) {v : V} : ∀ {a : KA}, KAt F H v a → KAt (fun a => F a ∧ a ≠ p) H v a
  | .d _, k => DAt.off n _ k
  | .k _, ⟨a, kvs, e, q, r⟩ => ⟨a, kvs, e, q, Paired.mono (fun _ _ ⟨e, k⟩ => ⟨e, DAt.off n _ k⟩) r⟩
  | .t _, ⟨a, kvs, e, q, r, t⟩ => ⟨a, kvs, e, q, Paired.mono (fun _ _ ⟨e, k⟩ => ⟨e, DAt.off n _ k⟩) r, t⟩
theorem HoldK.upd {F : Addr → Prop} {H : Hp} {p : Addr} {xs ys : List V} (hp : H p = some (.lst xs)) (hF : ∀ a, F a → a ≠ p) : HoldK F H (upd H p (.lst ys)) where
  tup := fun a vs e => by rw [upd_ne (ne_of e hp (by intro z; cases z))]; exact e
  dic := fun a e => by rw [upd_ne (ne_of e hp (by intro z; cases z))]; exact e
  lst := fun a vs g e => by rw [upd_ne (hF a g)]; exact e
  dk := fun a kvs e => by rw [upd_ne (ne_of e hp (by intro z; cases z))]; exact e
  dt := fun a kvs e => by rw [upd_ne (ne_of e hp (by intro z; cases z))]; exact e
theorem HoldK.but {F : Addr → Prop} {B : Nat} {H H' : Hp} {st cl : Addr} (hs : StAt B H st cl) (b : But st H H') (hF : ∀ a, F a → a ≠ st) : HoldK F H H' := by
  obtain ⟨xs, e⟩ := (show ∃ xs, H st = some (.lst xs) from let ⟨_, _, _, _, _, e, _⟩ := hs; ⟨_, e⟩)
  exact { toHold := .but hs b hF, dk := fun a k q => b _ _ q (ne_of q e (by intro z; cases z)), dt := fun a k q => b _ _ q (ne_of q e (by intro z; cases z)) }
def GW (H : Hp) (σ : L2.St) (te : TE) (a : KA) : Prop := ∀ H0, Same H H0 → ∀ Q : VK, (∀ v H1, Same H0 H1 → WK (fun a => H a = none) H1 v a → Q v H1) → te σ H0 Q
def GWA (H : Hp) (σ : L2.St) (t : TA) (as : List KA) : Prop := ∀ H0, Same H H0 → ∀ Q : List V → Hp → Prop, (∀ vs H1, Same H0 H1 → Paired (WK (fun a => H a = none) H1) vs as → Q vs H1) → t σ H0 Q
section
variable {H : Hp} {σ : L2.St}
theorem gw_of {te : TE} {d : D} (h : GS H σ te d) (ho : okZ d = true) (hz : sz d ≤ 20) : GW H σ te (.d d) := fun H0 s0 Q k => h H0 s0 Q fun v H1 s1 hv => k v H1 s1 ⟨hv.1, ⟨okZ_short d ho, by omega⟩, trivial, ho, hz⟩
theorem gwa_nil : GWA H σ tNil [] := fun H0 s0 Q k => k [] H0 (fun _ _ e => e) .nil
theorem gwa_cons {te : TE} {t : TA} {a : KA} {as : List KA} (h : GW H σ te a) (h2 : GWA H σ t as) : GWA H σ (tCons te t) (a :: as) := fun H0 s0 Q k =>
  h H0 s0 _ fun v H1 s1 hv => h2 H1 (s0.trans s1) _ fun vs H2 s2 hvs => k (v :: vs) H2 (s1.trans s2) (.cons (hv.same s2) hvs)
theorem gw_disp {k : Key} (hk : okKey k = true) : GW H σ (tDisp [(tC (kV k), tLst tNil)]) (.k [(k, .sq [])]) := fun H0 s0 Q kk => by
  intro p np
  refine ⟨(by show 0 ≤ sizeLine; decide), fun q nq => ?_⟩
  have pq : p ≠ q := ne_of_none upd_same nq
  refine ⟨by rw [upd_ne pq]; exact upd_same, [(k, .ref q)], rfl, by simp, ?_⟩
  have hm : mergeK [] [(k, V.ref q)] = [(k, .ref q)] := rfl
  rw [hm]
  have nq0 : H0 q = none := by rw [← nq, upd_ne (Ne.symm pq)]
  have s1 : Same H0 (upd (upd (upd H0 p (.dK [])) q (.lst [])) p (.dK [(k, .ref q)])) := fun b o e => by rw [upd_ne (ne_of_none e np), upd_ne (ne_of_none e nq0), upd_ne (ne_of_none e np)]; exact e
  refine kk (.ref p) _ s1 ⟨⟨p, _, rfl, upd_same, .cons ⟨rfl, q, [], rfl, .inr ⟨same_free s0 nq0, by rw [upd_ne (Ne.symm pq)]; exact upd_same⟩, rfl, trivial⟩ .nil⟩, ⟨by simp, fun e he => ?_⟩, ⟨by simp, fun e he => ?_⟩, by simp, fun e he => ?_⟩
  all_goals rw [List.mem_singleton.mp he]
  · exact ⟨rfl, show sz (.sq []) ≤ 100000 by decide⟩
  · exact (show sz (.sq []) ≤ 61 by decide)
  · exact ⟨hk, rfl, show sz (.sq []) ≤ 17 by decide⟩
theorem gw_disp1 {x : Str} (hk : okKey (.inr x) = true) : GW H σ (DT.tDisp1 (tTup (tCons (tC (.str x)) tNil)) (tLst tNil)) (.t [([.inr x], .sq [])]) := fun H0 s0 Q kk => by
  intro p np
  refine ⟨(by show 1 ≤ sizeLine; decide), fun b nb => ⟨(by show 0 ≤ sizeLine; decide), fun q nq => ?_⟩⟩
  have pb : p ≠ b := ne_of_none upd_same nb
  have hp1 : (upd (upd H0 p (.dT [])) b (.tup [.str x])) p = some (.dT []) := by rw [upd_ne pb]; exact upd_same
  have pq : p ≠ q := ne_of_none hp1 nq
  have bq : b ≠ q := ne_of_none upd_same nq
  have nb0 : H0 b = none := by rw [← nb, upd_ne (Ne.symm pb)]
  have nq0 : H0 q = none := by rw [← nq, upd_ne (Ne.symm bq), upd_ne (Ne.symm pq)]
  refine ⟨by rw [upd_ne pq]; exact hp1, b, [.inr x], .ref q, rfl, by rw [upd_ne bq]; exact upd_same, ?_⟩
  have s1 : Same H0 (upd (upd (upd (upd H0 p (.dT [])) b (.tup [.str x])) q (.lst [])) p (.dT [([.inr x], .ref q)])) := fun c o e => by rw [upd_ne (ne_of_none e np), upd_ne (ne_of_none e nq0), upd_ne (ne_of_none e nb0), upd_ne (ne_of_none e np)]; exact e
  refine kk (.ref p) _ s1 ⟨⟨p, _, rfl, upd_same, .cons ⟨rfl, q, [], rfl, .inr ⟨same_free s0 nq0, by rw [upd_ne (Ne.symm pq)]; exact upd_same⟩, rfl, trivial⟩ .nil, by simp, by simp⟩, trivial, trivial, by simp, fun e he => ?_⟩
  rw [List.mem_singleton.mp he]
  exact ⟨by simp, by rw [List.all_cons, hk]; rfl, rfl, show sz (.sq []) ≤ 17 by decide⟩
end
theorem asgW {t : TA} {g : TG} {D : Ends} {σ : L2.St} {H : Hp} {as : List KA} (h : GWA H σ t as) (hl : as.length ≤ 1000)
    (k : ∀ p vs H', H p = none → H' p = some (.lst vs) → Paired (WK (fun a => H a = none ∧ a ≠ p) H') vs as → Same H H' → g (.ref p) σ H' D.nx) : tAsg (tLst t) g D σ H :=
  h H (Same.refl _) _ fun vs H2 s2 hvs => ⟨by rw [Paired.length hvs, sizeLine_eq]; omega, fun p np => k p vs _ (same_free s2 np) upd_same (Paired.mono (fun _ _ z => (show WK _ _ _ _ from ⟨(z.1.off np).same (same_upd np), z.2⟩)) hvs) (s2.trans (same_upd np))⟩
section
variable {P : Program} {w : World} {K : PySem.W.Frag} {mg : Str → Option Value} {base : Heap}
theorem c_sp {f : Addr} {fd : FuncData} (F : Def K mg "_law_spoilt" sSp f fd) (b : Binds K fd ["_law_state", "_law_rule_here", "_law_k"] []) (T : Blt4 mg) (C_one : Cal P w K mg base 2 "_law_one" spOne []) (C_holes : Cal P w K mg base 41 "_law_holes" (spHoles 40) []) : Cal P w K mg base 42 "_law_spoilt" spSp [] := by
  refine cal0 F b .nil scSp (fun vs H Q E h => ?_) (fun cdv A outer s H vs Q E hr h => ?_)
  · obtain ⟨st, p, k, u1, u2, a1, a2, d1, d2, B, cl, rfl, _⟩ := h
    rfl
  · obtain ⟨st, p, k, u1, u2, a1, a2, d1, d2, B, cl, rfl, hp, h1, hs1, hz1, h2, hs2, hz2, hwd, hk0, hk3, hst, hB, kS, kW⟩ := h
    have nd := scSp.nd
    have hsl := sizeLine_eq
    have hu : (A.deeper (envOfC "_law_spoilt" (fnScope sSp) s.heap.objs.size f cdv)).units + 1 < cLine := by have := hr.un; omega
    have hu6 : (A.deeper (envOfC "_law_spoilt" (fnScope sSp) s.heap.objs.size f cdv)).units + 64 < cLine := by have := hr.un; omega
    refine ⟨_, (pss_cons (ps_if (pt_cmp (pc_gt (pv 2) pe_int))
        (pss_cut (ps_set (i := 3) nd rfl (Or.inl rfl) (pe_lst (pa_cons pe_int (pa_cons (pe_lst pa_nil) (pa_cons pe_str (pa_cons (pe_tup pa_nil) (pa_cons pe_bl (pa_cons (pe_disp (pps_cons pe_str (pe_lst pa_nil) pps_nil) rfl rfl (by simp) (by decide)) (pa_cons (pe_disp (pps_cons pe_str (pe_lst pa_nil) pps_nil) rfl rfl (by simp) (by decide)) (pa_cons (pe_disp (pps_cons pe_int (pe_lst pa_nil) pps_nil) rfl rfl (by simp) (by decide)) (pa_cons (DT.pe_disp1 hu (pe_tup (pa_cons pe_str pa_nil)) (pe_lst pa_nil)) pa_nil)))))))))))
        (pss_cut (ps_setLc (i := 4) (own := [("_law_hole", 5), ("_law_place", 6)]) (g := (gTup K 2 (gCons (gName 5) (gCons (gName 6) gNil)))) (tt := tYes) rfl nd rfl rfl (by rfl) (pi_list (pe_c C_holes hr (by decide) (by rfl) (pa_cons (pe_ix ix_tup (pv 1) pe_int fun _ _ => rfl) pa_nil))) (blkOk_by (N := NSp) (sc := fnScope sSp) (by decide +kernel)) (fun _ _ _ _ _ => (pg_tup rfl (pgs_cons (pg_name (i := 5) nd rfl (Or.inl rfl)) (pgs_cons (pg_name (i := 6) nd rfl (Or.inl rfl)) pgs_nil)))) (fun _ _ _ _ _ => pts_nil) (fun _ _ _ _ _ => (pv 5)))
        (pss_cut (ps_if (pt_cmpR (op_neNil hu6) (pv 4) (pe_lst pa_nil) (nomark _))
          (pss_one (ps_for PassesOwn.never rfl (pi_list (pe_lst (pa_cons pe_non (pa_cons pe_str (pa_cons pe_int (pa_cons (pe_lst (pa_cons pe_str pa_nil)) (pa_cons (pe_lst (pa_cons pe_int pa_nil)) (pa_cons (pe_lst (pa_cons pe_non pa_nil)) (pa_cons (pe_lst (pa_cons pe_str pa_nil)) (pa_cons (pe_lst pa_nil) (pa_cons (pe_tup (pa_cons pe_str (pa_cons pe_str pa_nil))) (pa_cons pe_dnewK pa_nil)))))))))))) (pg_name (i := 7) nd rfl (Or.inl rfl))
            (pss_one (ps_expr (pe_bm PySem.F.plainAttrs_list PySem.F.slot_list_append PySem.F.type_list_append mt_append (pv 3) (pa_cons (pe_disp (pps_cons (pe_ix ix_list (pv 4) pe_int fun _ _ => rfl) (pv 7) pps_nil) rfl rfl (by simp) (by decide)) pa_nil)))))) pss_nil)
        (pss_one (ps_ret (pe_c C_one hr (by decide) (by rfl) (pa_cons (pv 0) (pa_cons (pv 3) pa_nil)))))))) pss_nil)
      (pss_cons (ps_set (i := 8) nd rfl (Or.inl rfl) (pe_ix ix_tup (pv 1) (pv 2) fun _ _ => rfl))
      (pss_cut (ps_set (i := 3) nd rfl (Or.inl rfl) (pe_lst (pa_cons pe_non (pa_cons pe_int (pa_cons pe_dnewK (pa_cons (pe_tup pa_nil) (pa_cons (pe_lst pa_nil) (pa_cons pe_str (pa_cons pe_str (pa_cons pe_str (pa_cons (pe_tup (pa_cons pe_str (pa_cons pe_str pa_nil))) (pa_cons (pe_tup (pa_cons pe_int pa_nil)) (pa_cons (pe_tup (pa_cons pe_str (pa_cons pe_int pa_nil))) (pa_cons (pe_tup (pa_cons pe_str (pa_cons (pe_tup (pa_cons pe_str (pa_cons pe_non pa_nil))) pa_nil))) (pa_cons pe_bl (pa_cons pe_str pa_nil))))))))))))))))
      (pss_cut (ps_expr (pe_bm PySem.F.plainAttrs_list PySem.F.slot_list_extend PySem.F.type_list_extend mt_extend (pv 3) (pa_cons (pe_lst (pa_cons (pe_tup (pa_cons pe_str (pa_cons pe_str pa_nil))) (pa_cons (pe_tup (pa_cons pe_str (pa_cons (pe_tup (pa_cons pe_str (pa_cons (pe_tup (pa_cons pe_str pa_nil)) pa_nil))) pa_nil))) (pa_cons (pe_tup (pa_cons pe_str (pa_cons pe_str (pa_cons pe_str pa_nil)))) pa_nil)))) pa_nil)))
      (pss_cut (ps_expr (pe_bm PySem.F.plainAttrs_list PySem.F.slot_list_extend PySem.F.type_list_extend mt_extend (pv 3) (pa_cons (pe_lst (pa_cons (pe_tup (pa_cons pe_str (pa_cons pe_str pa_nil))) (pa_cons (pe_tup (pa_cons pe_str (pa_cons (pe_tup (pa_cons pe_str (pa_cons pe_str pa_nil))) pa_nil))) pa_nil))) pa_nil)))
      (pss_one (ps_ret (pe_c C_one hr (by decide) (by rfl) (pa_cons (pv 0) (pa_cons (pe_op op_cat (pv 3) (pe_lst (pa_cons (pe_tup (pa_cons (pv 8) pa_nil)) pa_nil))) pa_nil)))))))))), ?_⟩
    have nst : ∀ {q : Addr}, H q = none → q ≠ st := fun n => (hst.new n).1
    by_cases hk1 : 1 < k
    rotate_left
    · -- a shape spoilt
      have kS := kS (by omega)
      obtain ⟨us, ds, hat, hus, hds, hzs⟩ : ∃ us ds, atI [u1, u2, V.ref a1, .ref a2] k = some us ∧ DAt nol H us ds ∧ isSh ds = true ∧ sz ds ≤ 30 := by
        have : k = 0 ∨ k = 1 := by omega
        rcases this with rfl | rfl
        · exact ⟨u1, d1, at_of (j := 0) (by omega) rfl, h1, hs1, hz1⟩
        · exact ⟨u2, d2, at_of (j := 1) (by omega) rfl, h2, hs2, hz2⟩
      refine ⟨_, rfl, k, 1, rfl, rfl, _, rfl, iteBf (decide_eq_false hk1) ?_⟩
      refine ⟨_, rfl, _, rfl, p, _, k, us, rfl, rfl, SqT.of hp, hat, ?_⟩
      let dsA : List D := [.fl .non, .fl (.int 5), .emp, .sq [], .sq [], .fl (.str "A"), .fl (.str ""), .fl (.str "abcdefghi"), .sq [.fl (.str "A"), .fl (.str "x")], .sq [.fl (.int 5)], .sq [.fl (.str "a"), .fl (.int 5)], .sq [.fl (.str "a"), .sq [.fl (.str "b"), .fl .non]], .fl (.bl true), .fl (.str "zz")]
      let dsB : List D := [.sq [.fl (.str "keep"), .fl (.str "x")], .sq [.fl (.str "a"), .sq [.fl (.str "keep"), .sq [.fl (.str "b")]]], .sq [.fl (.str "a"), .fl (.str "x"), .fl (.str "x")]]
      let dsC : List D := [.sq [.fl (.str "a"), .fl (.str "qq")], .sq [.fl (.str "a"), .sq [.fl (.str "b"), .fl (.str "qq")]]]
      have okAll : ∀ d ∈ dsA ++ dsB ++ dsC, okZ d = true ∧ sz d ≤ 20 := by decide +kernel
      refine ⟨fun σ H' => ∃ (sl : Addr) (vs : List V), σ = [some (.ref st), some (.ref p), some (.int k), some (.ref sl), none, none, none, none, some us] ∧ H' sl = some (.lst vs) ∧ Paired (SF (fun a => H a = none ∧ a ≠ sl) H') vs dsA ∧ H sl = none ∧ Same H H', ?_, ?_⟩
      · exact asgS (ds := dsA) (gsa_cons (gs_c rfl) (gsa_cons (gs_c rfl) (gsa_cons gs_dn (gsa_cons (gs_tup gsa_nil rfl (by decide)) (gsa_cons gs_ln (gsa_cons (gs_c rfl) (gsa_cons (gs_c rfl) (gsa_cons (gs_c rfl) (gsa_cons (gs_tup (gsa_cons (gs_c rfl) (gsa_cons (gs_c rfl) gsa_nil)) rfl (by decide)) (gsa_cons (gs_tup (gsa_cons (gs_c rfl) gsa_nil) rfl (by decide))
          (gsa_cons (gs_tup (gsa_cons (gs_c rfl) (gsa_cons (gs_c rfl) gsa_nil)) rfl (by decide)) (gsa_cons (gs_tup (gsa_cons (gs_c rfl) (gsa_cons (gs_tup (gsa_cons (gs_c rfl) (gsa_cons (gs_c rfl) gsa_nil)) rfl (by decide)) gsa_nil)) rfl (by decide)) (gsa_cons (gs_c rfl) (gsa_cons (gs_c rfl) gsa_nil)))))))))))))) (by decide) fun q vs H' nq hq hv s' => ⟨q, vs, rfl, hq, hv, nq, s'⟩
      rintro σ H1 ⟨sl, vs1, rfl, hsl1, hv1, nsl, s1⟩
      have l1 := Paired.length hv1
      refine ⟨fun σ H' => ∃ (vs : List V), σ = [some (.ref st), some (.ref p), some (.int k), some (.ref sl), none, none, none, none, some us] ∧ H' sl = some (.lst vs) ∧ Paired (SF (fun a => H a = none ∧ a ≠ sl) H') vs (dsA ++ dsB) ∧ Same H H', ?_, ?_⟩
      · refine extS (ds := dsB) (gsa_cons (gs_tup (gsa_cons (gs_c rfl) (gsa_cons (gs_c rfl) gsa_nil)) rfl (by decide)) (gsa_cons (gs_tup (gsa_cons (gs_c rfl) (gsa_cons (gs_tup (gsa_cons (gs_c rfl) (gsa_cons (gs_tup (gsa_cons (gs_c rfl) gsa_nil) rfl (by decide)) gsa_nil)) rfl (by decide)) gsa_nil)) rfl (by decide)) (gsa_cons (gs_tup (gsa_cons (gs_c rfl) (gsa_cons (gs_c rfl) (gsa_cons (gs_c rfl) gsa_nil))) rfl (by decide)) gsa_nil)))
          rfl hsl1 (by rw [l1]; decide) fun vs2 H' s' hp' hv2 => ⟨_, rfl, upd_same, paired_app (Paired.mono (fun _ _ z => sf_upd hp' (fun a g => g.2) (z.same s')) hv1) (Paired.mono (fun _ _ z => sf_upd hp' (fun a g => g.2) (sf_mono (fun a n => ⟨same_free s1 n, ne_of_none' hsl1 n⟩) z)) hv2), fun b o e => by rw [upd_ne (ne_of_none e nsl)]; exact s' _ _ (s1 _ _ e)⟩
      clear hsl1 hv1 s1 l1
      rintro σ H1 ⟨vs1, rfl, hsl1, hv1, s1⟩
      have l1 := Paired.length hv1
      refine ⟨fun σ H' => ∃ (vs : List V), σ = [some (.ref st), some (.ref p), some (.int k), some (.ref sl), none, none, none, none, some us] ∧ H' sl = some (.lst vs) ∧ Paired (SF (fun a => H a = none ∧ a ≠ sl) H') vs (dsA ++ dsB ++ dsC) ∧ Same H H', ?_, ?_⟩
      · refine extS (ds := dsC) (gsa_cons (gs_tup (gsa_cons (gs_c rfl) (gsa_cons (gs_c rfl) gsa_nil)) rfl (by decide)) (gsa_cons (gs_tup (gsa_cons (gs_c rfl) (gsa_cons (gs_tup (gsa_cons (gs_c rfl) (gsa_cons (gs_c rfl) gsa_nil)) rfl (by decide)) gsa_nil)) rfl (by decide)) gsa_nil))
          rfl hsl1 (by rw [l1]; decide) fun vs2 H' s' hp' hv2 => ⟨_, rfl, upd_same, paired_app (Paired.mono (fun _ _ z => sf_upd hp' (fun a g => g.2) (z.same s')) hv1) (Paired.mono (fun _ _ z => sf_upd hp' (fun a g => g.2) (sf_mono (fun a n => ⟨same_free s1 n, ne_of_none' hsl1 n⟩) z)) hv2), fun b o e => by rw [upd_ne (ne_of_none e nsl)]; exact s' _ _ (s1 _ _ e)⟩
      clear hsl1 hv1 s1 l1
      rintro σ H1 ⟨vs1, rfl, hsl1, hv1, s1⟩
      have l1 := Paired.length hv1
      have l1' : vs1.length = 19 := by rw [l1]; rfl
      refine ⟨_, rfl, _, rfl, _, rfl, (by show 1 ≤ sizeLine; decide), fun t nt => ⟨(by show 1 ≤ sizeLine; decide), fun r nr => ?_⟩⟩
      have s2 : Same H1 (upd H1 t (.tup [us])) := same_upd nt
      have ht : (upd H1 t (.tup [us])) t = some (.tup [us]) := upd_same
      generalize upd H1 t (.tup [us]) = H2 at s2 ht nr ⊢
      have s3 : Same H2 (upd H2 r (.lst [.ref t])) := same_upd nr
      refine ⟨sl, r, vs1, [.ref t], rfl, rfl, s3 _ _ (s2 _ _ hsl1), upd_same, by rw [l1', List.length_singleton]; omega, fun q nq => ?_⟩
      have s4 := same_upd nq (o := .lst (vs1 ++ [.ref t]))
      have s14 := s2.trans (s3.trans s4)
      have sH4 := s1.trans s14
      have hst4 := hst.same sH4
      have nqH : H q = none := same_free (s1.trans (s2.trans s3)) nq
      refine ⟨st, q, vs1 ++ [.ref t], B, cl, rfl, .inl upd_same, nst nqH, by simp, by rw [List.length_append, l1', List.length_singleton]; decide, hst4, by omega, fun v H5 hv hs5 b5 => ?_⟩
      have bH5 := (Same.but sH4).trans b5
      rcases List.mem_append.mp hv with hv | hv
      · obtain ⟨d, hd, hsf⟩ := paired_left hv1 v hv
        obtain ⟨ho, hz⟩ := okAll d hd
        have h5 := sf_but hst4 b5 (fun a g => nst g.1) (hsf.same s14)
        exact kS v d H5 ⟨DAt.weak (fun a g => g.1) _ h5.1, okZ_short d ho, by omega, fun e => ⟨h5.2 e, by omega⟩⟩ ho hs5 bH5
      · rw [List.mem_singleton.mp hv]
        have ht5 : H5 t = some (.tup [us]) := b5 _ _ (s4 _ _ (s3 _ _ ht)) (by have n0 := same_free s1 nt; exact nst n0)
        have hus5 : DAt nol H5 us ds := DAt.hold (.but hst bH5 fun _ g => g.elim) _ hus
        have hdk : hdOk [ds] = true := by
          rcases isSh_inv hds with ⟨z, rfl, _⟩ | ⟨z, cs, rfl, _⟩ <;> rfl
        have hzz : sz (.sq [ds]) = 1 + (sz ds + 0) := rfl
        have ho : okZ (.sq [ds]) = true := by
          rw [okZ, okZs, okZs, okD_Z _ (sh_okD hds)]
          rfl
        have dn : DAt nol H5 (.ref t) (.sq [ds]) := ⟨t, _, rfl, .inl ht5, hdk, hus5, trivial⟩
        exact kS (.ref t) (.sq [ds]) H5 ⟨DAt.weak (fun _ g => g.elim) _ dn, okZ_short _ ho, by omega, fun _ => ⟨dn, by omega⟩⟩ ho hs5 bH5
    · -- kinds or bars spoilt
      have kW := kW hk1
      refine ⟨_, rfl, k, 1, rfl, rfl, _, rfl, iteBt (decide_eq_true hk1) ?_⟩
      let asA : List KA := [.d (.fl (.int 5)), .d (.sq []), .d (.fl (.str "a")), .d (.sq []), .d (.fl (.bl true)), .k [(.inr "qq", .sq [])], .k [(.inr "", .sq [])], .k [(.inl 5, .sq [])], .t [([.inr "x"], .sq [])]]
      refine ⟨fun σ H' => ∃ (sl : Addr) (vs : List V), σ = [some (.ref st), some (.ref p), some (.int k), some (.ref sl), none, none, none, none, none] ∧ H' sl = some (.lst vs) ∧ (∀ v ∈ vs, ∃ a, WK (fun a => H a = none ∧ a ≠ sl) H' v a) ∧ vs.length = 9 ∧ H sl = none ∧ Same H H', ?_, ?_⟩
      · exact asgW (as := asA) (gwa_cons (gw_of (gs_c rfl) (by decide +kernel) (by decide)) (gwa_cons (gw_of gs_ln rfl (by decide)) (gwa_cons (gw_of (gs_c rfl) (by decide +kernel) (by decide)) (gwa_cons (gw_of (gs_tup gsa_nil rfl (by decide)) rfl (by decide)) (gwa_cons (gw_of (gs_c rfl) rfl (by decide))
          (gwa_cons (gw_disp (k := .inr "qq") (by decide +kernel)) (gwa_cons (gw_disp (k := .inr "") (by decide +kernel)) (gwa_cons (gw_disp (k := .inl 5) (by decide +kernel)) (gwa_cons (gw_disp1 (by decide +kernel)) gwa_nil))))))))) (by decide) fun q vs H' nq hq hv s' => ⟨q, vs, rfl, hq, fun v hv' => let ⟨a, _, h⟩ := paired_left hv v hv'; ⟨a, h⟩, Paired.length hv, nq, s'⟩
      rintro σ H1 ⟨sl, vs1, rfl, hsl1, hv1, l1, nsl, s1⟩
      -- holes
      refine ⟨fun σ H' => ∃ hl : Addr, σ = [some (.ref st), some (.ref p), some (.int k), some (.ref sl), some (.ref hl), none, none, none, none] ∧ H1 hl = none ∧ H' hl = some (.lst ((hnm d1).map V.str)) ∧ Same H1 H', ?_, ?_⟩
      · refine ⟨_, rfl, p, _, 0, _, rfl, rfl, SqT.of (s1 _ _ hp), at_of (j := 0) (by omega) rfl, u1, d1, rfl, DAt.hold (.same s1) _ h1, hs1, by omega, by omega, fun lq us H3 nlq s3 hlq hpu => ⟨lq, rfl, ⟨us, SqL.of hlq⟩, fun Da nDa => ?_⟩⟩
        have hul := Paired.length hpu
        have hql := (holes_le d1).1
        rw [← holes_hnm d1]
        generalize holesP d1 = qs at hpu hul hql
        refine lc_gen (J := Itl K lq) us.length (fun i H' => H' Da = some (.lst (((qs.take i).map fun q : Str × List Int => q.1).map V.str)) ∧ Same H3 H') ⟨upd_same, same_upd nDa⟩ (fun i H' hi ⟨_, sm⟩ => ⟨us, us.getD i .non, SqL.of (sm _ _ hlq), getD_at hi⟩) (fun H' ⟨_, sm⟩ => ⟨us, SqL.of (sm _ _ hlq), Nat.le_refl _⟩) (fun i H' x H'' hi ⟨hD, sm⟩ yl => ?_) (fun H' ⟨hD, sm⟩ => ?_)
        · obtain ⟨rfl, hx⟩ := yl
          have hx := hx _ (SqL.of (sm _ _ hlq))
          obtain ⟨q, hq, qt, qa, rfl, hqt, hqa⟩ := paired_get hpu hx
          obtain ⟨hlt, e⟩ := List.getElem?_eq_some_iff.mp hq
          refine ⟨qt, [.str q.1, .ref qa], rfl, SqT.of (sm _ _ hqt), rfl, .str q.1, [.ref qa], rfl, .ref qa, [], rfl, rfl, rfl, ?_⟩
          unfold tYes
          dsimp only
          rw [if_pos rfl]
          refine ⟨_, rfl, _, hD, by rw [List.length_map, List.length_map, List.length_take]; omega, ?_, fun b o e => by rw [upd_ne (ne_of_none e nDa)]; exact sm _ _ e⟩
          rw [upd_same, List.take_succ_eq_append_getElem hlt, List.map_append, List.map_append, e]
          rfl
        · rw [List.take_of_length_le (by omega)] at hD
          exact ⟨Da, rfl, same_free s3 nDa, hD, s3.trans sm⟩
      rintro σ H2 ⟨hl, rfl, nhl, hhl, s2⟩
      have s02 := s1.trans s2
      have hsl2 := s2 _ _ hsl1
      have hv2 : ∀ v ∈ vs1, ∃ a, WK (fun a => H a = none ∧ a ≠ sl) H2 v a := fun v hv => let ⟨a, h⟩ := hv1 v hv; ⟨a, h.same s2⟩
      refine ⟨fun σ H' => ∃ (vs : List V) (v7 : Option V), σ = [some (.ref st), some (.ref p), some (.int k), some (.ref sl), some (.ref hl), none, none, v7, none] ∧ H' sl = some (.lst vs) ∧ (∀ v ∈ vs, ∃ a, WK (fun a => H a = none ∧ a ≠ sl) H' v a) ∧ 0 < vs.length ∧ vs.length ≤ 30 ∧ Same H H', ?_, ?_⟩
      · refine ⟨_, rfl, (by show 0 ≤ sizeLine; omega), fun e ne => ⟨hl, e, _, rfl, rfl, SqL.of (by rw [upd_ne (ne_of_none hhl ne)]; exact hhl), SqL.of upd_same, _, rfl, ?_⟩⟩
        have se : Same H2 (upd H2 e (.lst [])) := same_upd ne
        generalize upd H2 e (.lst []) = H3 at se
        have s03 := s02.trans se
        have hsl3 := se _ _ hsl2
        have hhl3 := se _ _ hhl
        have hv3 : ∀ v ∈ vs1, ∃ a, WK (fun a => H a = none ∧ a ≠ sl) H3 v a := fun v hv => let ⟨a, h⟩ := hv2 v hv; ⟨a, h.same se⟩
        cases hh : hnm d1 with
        | nil => exact iteBf rfl ⟨vs1, _, rfl, hsl3, hv3, by omega, by omega, s03⟩
        | cons h0 hs =>
          refine iteBt rfl ?_
          let dsW : List D := [.fl .non, .fl (.str "ab"), .fl (.int 5), .sq [.fl (.str "A")], .sq [.fl (.int 5)], .sq [.fl .non], .sq [.fl (.str "keep")], .sq [], .sq [.fl (.str "a"), .fl (.str "a")], .emp]
          have okW : ∀ d ∈ dsW, okZ d = true ∧ sz d ≤ 17 := by decide +kernel
          have hkey := word_key (hwd h0 (by rw [hh]; exact List.mem_cons_self))
          rw [hh] at hhl3
          refine it_lst (ds := dsW) (ga_cons (ge_c rfl) (ga_cons (ge_c rfl) (ga_cons (ge_c rfl) (ga_cons (ge_lst (ga_cons (ge_c rfl) ga_nil) rfl (by decide)) (ga_cons (ge_lst (ga_cons (ge_c rfl) ga_nil) rfl (by decide)) (ga_cons (ge_lst (ga_cons (ge_c rfl) ga_nil) rfl (by decide)) (ga_cons (ge_lst (ga_cons (ge_c rfl) ga_nil) rfl (by decide)) (ga_cons (ge_lst ga_nil rfl (by decide)) (ga_cons (ge_tup (ga_cons (ge_c rfl) (ga_cons (ge_c rfl) ga_nil)) rfl (by decide)) (ga_cons ge_dn ga_nil)))))))))) (by decide) fun r us H4 nr hr hus s4 => ?_
          have hul := hus.len
          have rsl : r ≠ sl := (ne_of_none hsl3 nr).symm
          have hlsl : hl ≠ sl := (ne_of_none hsl1 nhl).symm
          refine for_gen (J := Itl K r) us.length (fun i σ H' => ∃ (vs : List V) (v7 : Option V), σ = [some (.ref st), some (.ref p), some (.int k), some (.ref sl), some (.ref hl), none, none, v7, none] ∧ H' sl = some (.lst vs) ∧ (∀ v ∈ vs, ∃ a, WK (fun a => H a = none ∧ a ≠ sl) H' v a) ∧ vs.length = 9 + i ∧ H' hl = some (.lst ((h0 :: hs).map V.str)) ∧ H' r = some (.lst us) ∧ DAts (fun a => H3 a = none) H' us dsW ∧ Same H H')
            ⟨vs1, _, rfl, s4 _ _ hsl3, fun v hv => let ⟨a, h⟩ := hv3 v hv; ⟨a, h.same s4⟩, l1, s4 _ _ hhl3, hr, hus, s03.trans s4⟩ (fun i σ H' hi ⟨_, _, _, _, _, _, _, e, _⟩ => ⟨us, us.getD i .non, SqL.of e, getD_at hi⟩) (fun σ H' ⟨_, _, _, _, _, _, _, e, _⟩ => ⟨us, SqL.of e, Nat.le_refl _⟩) ?_
            (fun σ H' ⟨vs, v7, e, e1, e2, e3, _, _, _, e4⟩ => ⟨vs, v7, e, e1, e2, by omega, by rw [hul] at e3; have : dsW.length = 10 := rfl; omega, e4⟩)
          rintro i σ H5' x H5 hi ⟨vs, v7, rfl, hsl5, hv5, hvl, hhl5, hr5, hus5, s5⟩ ⟨rfl, hx⟩
          have hx := hx _ (SqL.of hr5)
          obtain ⟨d, hd, hxd⟩ := hus5.get hx
          obtain ⟨ho, hz⟩ := okW d (List.mem_of_getElem? hd)
          have hi10 : i < 10 := by rw [hul] at hi; exact hi
          refine ⟨_, rfl, .inl ⟨rfl, _, SqL.of hsl5⟩, fun q nq => ?_⟩
          have sq : Same H5 (upd H5 q (.dK [])) := same_upd nq
          refine ⟨_, rfl, hl, _, 0, _, rfl, rfl, SqL.of (sq _ _ hhl5), at_of (j := 0) (by omega) rfl, _, rfl, upd_same, [(.inr h0, x)], rfl, by simp, ?_⟩
          have hm : mergeK [] [((.inr h0 : Key), x)] = [(.inr h0, x)] := rfl
          rw [hm]
          have s6 : Same H5 (upd (upd H5 q (.dK [])) q (.dK [(.inr h0, x)])) := fun b o e => by rw [upd_ne (ne_of_none e nq), upd_ne (ne_of_none e nq)]; exact e
          have hq6 : (upd (upd H5 q (.dK [])) q (.dK [(.inr h0, x)])) q = some (.dK [(.inr h0, x)]) := upd_same
          generalize upd (upd H5 q (.dK [])) q (.dK [(.inr h0, x)]) = H6 at s6 hq6
          have hsl6 := s6 _ _ hsl5
          have hK : HoldK (fun a => H a = none ∧ a ≠ sl) H6 (upd H6 sl (.lst (vs ++ [.ref q]))) := HoldK.upd hsl6 fun a g => g.2
          have hK3 : HoldK (fun a => H3 a = none) H6 (upd H6 sl (.lst (vs ++ [.ref q]))) := HoldK.upd hsl6 fun a g => ne_of_none' hsl3 g
          have hxd6 := DAt.hold (.same s6) _ hxd
          refine ⟨sl, vs, .ref q, rfl, rfl, hsl6, by omega, _, _, rfl, upd_same, fun v hv => ?_, by rw [List.length_append, hvl, List.length_singleton]; omega, by rw [upd_ne hlsl]; exact s6 _ _ hhl5, by rw [upd_ne rsl]; exact s6 _ _ hr5, DAts.hold hK3.toHold _ (DAts.hold (.same s6) _ hus5), fun b o e => by rw [upd_ne (ne_of_none e nsl)]; exact s6 _ _ (s5 _ _ e)⟩
          rcases List.mem_append.mp hv with hv | hv
          · obtain ⟨a, h⟩ := hv5 v hv
            exact ⟨a, (h.same s6).1.holdK hK, h.2⟩
          · rw [List.mem_singleton.mp hv]
            have hka : KAt (fun a => H a = none ∧ a ≠ sl) H6 (.ref q) (.k [(.inr h0, d)]) := ⟨q, _, rfl, hq6, .cons ⟨rfl, DAt.weak (fun a n => ⟨same_free s03 n, ne_of_none' hsl3 n⟩) _ hxd6⟩ .nil⟩
            refine ⟨.k [(.inr h0, d)], hka.holdK hK, ⟨by simp, fun e he => ?_⟩, ⟨by simp, fun e he => ?_⟩, by simp, fun e he => ?_⟩
            all_goals rw [List.mem_singleton.mp he]
            · exact ⟨okZ_short d ho, by dsimp only; omega⟩
            · dsimp only; omega
            · exact ⟨hkey, ho, hz⟩
      rintro σ H3 ⟨vs, v7, rfl, hsl3, hv3, hp3, hl3, s3⟩
      have hst3 := hst.same s3
      refine ⟨_, rfl, _, rfl, st, sl, vs, B, cl, rfl, .inl hsl3, nst nsl, hp3, by omega, hst3, by omega, fun v H5 hv hs5 b5 => ?_⟩
      obtain ⟨a, hk⟩ := hv3 v hv
      exact kW v a H5 ⟨KAt.weak (fun a g => g.1) ((hk.1).holdK (HoldK.but hst3 b5 fun a g => nst g.1)), hk.2.1, hk.2.2.1⟩ hk.2.2.2 hs5 ((Same.but s3).trans b5)
end
end K9

namespace K9
open PySem PySem.Spec PyProof.Rows L2 C8 XE XI XR TX
/-! _law_tried -/
abbrev sTd : Stmt := top 50
abbrev NTd : List Str := ["_law_rule_here", "_law_found", "e"]
theorem scTd : FnScope NTd ["_law_rule_here"] (fnScope sTd) := fnScope_by (by decide +kernel)
/-- what stands of an own exception class with one field, besides EC -/
structure XX (K : PySem.W.Frag) (mg : Str → Option Value) (x f : Str) (C : Addr) : Prop where
  xf : XfC K C
  no : PySem.W.findIn K (.ref C) f = some none
  ex : PySem.W.exmOne K (.ref C) (.ref C) = some true
  gl : mg x = some (.ref C)
theorem takesF {X : Cx} : Takes X (fun _ _ _ _ => False) := fun u s' ⟨_, _, _, _, _, _, _, _, _, _, _, _, _, _, _, _, h⟩ => h.elim
def spTd : Sp := fun vs H Q _ => ∃ (tl : Addr) (v1 v2 v3 v4 : V) (d1 d2 : D) (a3 a4 : KA) (F : Addr → Prop), vs = [.ref tl] ∧ H tl = some (.lst [v1, v2, v3, v4]) ∧ SA F H v1 d1 ∧ SA F H v2 d2 ∧ WA F H v3 a3 ∧ WA F H v4 a4 ∧
  ∀ p H', Same H H' → (∀ w, faultW d1 d2 a3 a4 = some w → H' p = some (.tup [.str "bad", .str w])) → (faultW d1 d2 a3 a4 = none → ∃ u, H' p = some (.tup [.str "made", u]) ∧ DAt nol H' u d1) → Q (.ref p) H'
section
variable {P : Program} {w : World} {K : PySem.W.Frag} {mg : Str → Option Value} {base : Heap}
theorem c_td {C BR f fi : Addr} {fd fdi : FuncData} (F : Def K mg "_law_tried" sTd f fd) (b : Binds K fd ["_law_rule_here"] []) (T : Blt4 mg) (L : LR K mg C) (hm : mg "Rule" = some (.ref C)) (MI : Mk K C fi) (FI : FnOk P w K mg base (L2.CX P w) 6 fi fdi ["self", "left", "right", "kinds", "bars"] (spRI C BR)) (bi : Binds K fdi ["self", "left", "right", "kinds", "bars"] [])
    (EB : XX K mg "BadRule" "word" BR) : Cal P w K mg base 9 "_law_tried" spTd [] := by
  refine cal0 F b .nil scTd (fun vs H Q E h => ?_) (fun cdv A outer s H vs Q E hr h => ?_)
  · obtain ⟨tl, v1, v2, v3, v4, d1, d2, a3, a4, G, rfl, _⟩ := h
    rfl
  · obtain ⟨tl, v1, v2, v3, v4, d1, d2, a3, a4, GF, rfl, htl, S1, S2, W3, W4, k⟩ := h
    have nd := scTd.nd
    have hr1 : Room 7 _ := hr.mono (by decide)
    refine ⟨_, pss_cut (ps_try_as (i := 2) (tb := fun W => tAsg (tTup (tCons (tC (.str "made")) (tCons (tFld K (tMakeS C (spRI C BR) (L2.WE W) (tCons (tOp (rIxL K) (tVar 0) (tC (.int 0))) (tCons (tOp (rIxL K) (tVar 0) (tC (.int 1))) (tCons (tOp (rIxL K) (tVar 0) (tC (.int 2))) (tCons (tOp (rIxL K) (tVar 0) (tC (.int 3))) tNil))))) "left") tNil))) (gName 1))
        (ts := fun a cls d => tAsg (tTup (tCons (tC (.str "bad")) (tCons (tXf a cls d BR "word" (tVar 2)) tNil))) (gName 1)) (Wout := fun _ _ _ _ => False) rfl rfl nd rfl rfl ⟨rfl, by decide, Or.inl EB.gl⟩ takesF
        (fun W pn xe tk _ => pss_one (ps_set (i := 1) nd rfl (by first | exact Or.inl rfl | exact Or.inr rfl | exact Or.inr ⟨rfl, rfl⟩) (pe_tup (pa_cons pe_str (pa_cons (pe_fld (pe_makeS MI FI hr1 (by rfl) hm bi (fun σ => passAt tk σ) (pa_cons (pe_ix ix_list (pv 0) pe_int fun _ _ => rfl) (pa_cons (pe_ix ix_list (pv 0) pe_int fun _ _ => rfl) (pa_cons (pe_ix ix_list (pv 0) pe_int fun _ _ => rfl) (pa_cons (pe_ix ix_list (pv 0) pe_int fun _ _ => rfl) pa_nil))))) rfl) pa_nil)))))
        (fun a oe cls d pn hz hf => pss_one (ps_set (i := 1) nd rfl (by first | exact Or.inl rfl | exact Or.inr rfl | exact Or.inr ⟨rfl, rfl⟩) (pe_tup (pa_cons pe_str (pa_cons (pe_xf EB.xf EB.no hz hf (pv 2)) pa_nil))))))
      (pss_one (ps_ret (pv 1))), ?_⟩
    have at4 : ∀ (j : Nat) (i : Int) (v : V), [v1, v2, v3, v4][j]? = some v → i = j → atI [v1, v2, v3, v4] i = some v := fun j i v h e => by rw [e]; exact at_of (j := j) (by omega) h
    refine ⟨fun σ H' => ∃ p : Addr, σ = [some (.ref tl), some (.ref p), none] ∧ Same H H' ∧ (∀ w, faultW d1 d2 a3 a4 = some w → H' p = some (.tup [.str "bad", .str w])) ∧ (faultW d1 d2 a3 a4 = none → ∃ u, H' p = some (.tup [.str "made", u]) ∧ DAt nol H' u d1), ?_, ?_⟩
    · refine ⟨_, rfl, tl, _, 0, _, rfl, rfl, SqL.of htl, at4 0 0 _ rfl rfl, _, rfl, tl, _, 1, _, rfl, rfl, SqL.of htl, at4 1 1 _ rfl rfl, _, rfl, tl, _, 2, _, rfl, rfl, SqL.of htl, at4 2 2 _ rfl rfl, _, rfl, tl, _, 3, _, rfl, rfl, SqL.of htl, at4 3 3 _ rfl rfl, fun x dx nx ndx ndxx => ?_⟩
      have sm : Same H (upd (upd H dx (.own x)) x (.ins C dx [])) := fun c o q => by rw [upd_ne (ne_of_none q nx), upd_ne (ne_of_none q ndx)]; exact q
      have ra : Args GF (upd (upd H dx (.own x)) x (.ins C dx [])) v1 v2 v3 v4 d1 d2 a3 a4 := ⟨DAt.hold (.same sm) _ S1.da, S1.s, by have := S1.z; omega, DAt.hold (.same sm) _ S2.da, S2.s, by have := S2.z; omega, W3.ka.same sm, W3.m, W3.f, W4.ka.same sm, W4.m, W4.f⟩
      refine ⟨x, dx, v1, v2, v3, v4, d1, d2, a3, a4, GF, rfl, upd_same, ra, fun wd hw => fun H1 dd s1 ndd => ⟨true, EB.ex, fun _ a ha => ?_, fun z => nomatch z⟩, fun hw H1 kp hR hok => ⟨rfl, ?_⟩⟩
      · refine ⟨_, rfl, rfl, rfl, dd, _, .str wd, rfl, upd_same, rfl, (by show 2 ≤ sizeLine; decide), fun p np => ⟨p, rfl, fun c o q => ?_, fun w' e => ?_, fun e => by rw [hw] at e; cases e⟩⟩
        · have q1 := s1 _ _ (sm _ _ q)
          have q2 : (upd H1 dd (.xd [("word", .str wd)])) c = some o := by rw [upd_ne (ne_of_none q1 ndd)]; exact q1
          rw [upd_ne (ne_of_none q2 np)]
          exact q2
        · rw [hw] at e
          cases e
          exact upd_same
      · obtain ⟨ka, ba, nk, nb, dx', w1, w2, kd, bd, e1, e2, _⟩ := hR
        have s1 : Same H H1 := fun c o q => kp c o (sm c o q) (ne_of_none q nx)
        refine ⟨x, C, dx', _, w1, rfl, e1, L.cls, L.left, rfl, (by show 2 ≤ sizeLine; decide), fun p np => ⟨p, rfl, s1.trans (same_upd np), (fun w' e => by rw [hw] at e; cases e), fun _ => ⟨w1, upd_same, DAt.hold (.same (same_upd np)) _ e2⟩⟩⟩
    · rintro σ H1 ⟨p, rfl, s1, q1, q2⟩
      exact ⟨_, rfl, k p H1 s1 q1 q2⟩
end
end K9

namespace K9
open PySem PySem.Spec PyProof.Rows L2 C8 XE XI XR TX
/-! law -/
abbrev sLaw : Stmt := top 52
abbrev NL : List Str := ["_law_script", "_law_state", "_law_turn", "_law_rows_here", "_law_rule_here", "_law_things", "_law_k", "_law_at", "_law_fault_here", "_law_kept", "_law_due"]
theorem scLaw : FnScope NL ["_law_script"] (fnScope sLaw) := fnScope_by (by decide +kernel)
structure BltL (mg : Str → Option Value) : Prop extends Blt4 mg where
  rep : mg "repr" = none
theorem eq_flat {H : Hp} {x : V} (h : flatV x = true) (n : Nat) : EqN H (n + 1) x x := .inl ⟨rfl, .inl h⟩
theorem eq_shN {H : Hp} : ∀ (n : Nat) (d : D), sz d ≤ n → isSh d = true → sz d ≤ 5000 → ∀ v u, DAt nol H v d → DAt nol H u d → EqN H n v u
  | 0, d, h, _, _, _, _, _, _ => by have := sz_pos d; omega
  | n + 1, d, hn, h, h5, v, u, hv, hu => by
    rcases isSh_inv h with ⟨z, rfl, hz⟩ | ⟨z, cs, rfl, hz, hcs⟩
    · obtain ⟨rfl, _⟩ := hv
      obtain ⟨rfl, _⟩ := hu
      exact .inl ⟨rfl, .inl rfl⟩
    · have hsc : sz (.sq (.fl (.str z) :: cs)) = 2 + szs cs := by rw [sz, szs, sz]; omega
      obtain ⟨a, vs, rfl, qa, _, hvs⟩ := hv
      obtain ⟨c, us, rfl, qc, _, hus⟩ := hu
      have qa : H a = some (.tup vs) := qa.elim id fun e => e.1.elim
      have qc : H c = some (.tup us) := qc.elim id fun e => e.1.elim
      have hvl := hvs.len
      have hls := len_szs cs
      refine .inr ⟨true, a, c, vs, us, rfl, rfl, qa, qc, ?_, by rw [hvl, List.length_cons]; omega⟩
      match vs, us, hvs, hus with
      | [], _, k, _ => exact k.elim
      | _ :: _, [], _, k => exact k.elim
      | v0 :: vs, u0 :: us, ⟨⟨e1, _⟩, hvs⟩, ⟨⟨e2, _⟩, hus⟩ =>
        subst e1
        subst e2
        obtain ⟨m, rfl⟩ : ∃ m, n = m + 1 := ⟨n - 1, by omega⟩
        refine .cons (.inl ⟨rfl, .inl rfl⟩) ?_
        have : ∀ (l : List D), (∀ x ∈ l, x ∈ cs) → ∀ {vs us : List V}, DAts nol H vs l → DAts nol H us l → Paired (EqN H (m + 1)) vs us := fun l => by
          induction l with
          | nil =>
            intro _ vs us k1 k2
            cases vs with
            | nil =>
              cases us with
              | nil => exact .nil
              | cons _ _ => exact k2.elim
            | cons _ _ => exact k1.elim
          | cons x xs ih =>
            intro hl vs us k1 k2
            cases vs with
            | nil => exact k1.elim
            | cons v vs =>
              cases us with
              | nil => exact k2.elim
              | cons u us =>
                have hx := hl x List.mem_cons_self
                obtain ⟨i, hi⟩ := List.getElem?_of_mem hx
                have := szs_get hi
                exact .cons (eq_shN (m + 1) x (by omega) (isShs_mem hcs x hx) (by omega) v u k1.1 k2.1) (ih (fun c hc => hl c (List.mem_cons_of_mem _ hc)) k1.2 k2.2)
        exact this cs (fun _ h => h) hvs hus
theorem okZ_of {d : D} (h : isSh d = true) : okZ d = true := okD_Z _ (sh_okD h)
def wsD (xs : List Str) : D := .sq (xs.map fun z => .fl (.str z))
theorem dats_strs {F : Addr → Prop} {H : Hp} : ∀ xs : List Str, DAts F H (xs.map V.str) (xs.map fun z => D.fl (.str z))
  | [] => trivial
  | z :: xs => ⟨⟨rfl, rfl⟩, dats_strs xs⟩
theorem hdOk_strs : ∀ xs : List Str, hdOk (xs.map fun z => D.fl (.str z)) = true
  | [] => rfl
  | _ :: _ => rfl
def esOf (ks : List (Str × List Str)) : List (Key × D) := ks.map fun q => (.inr q.1, wsD q.2)
theorem wf_ke {F : Addr → Prop} {H : Hp} : ∀ {kvs : List (Key × V)} {ks : List (Str × List Str)}, Paired (WF F H) kvs ks → Paired (KE F H) kvs (esOf ks)
  | _, _, .nil => .nil
  | _, _, .cons ⟨e, l, e2, q⟩ t => .cons ⟨e, l, _, e2, q, hdOk_strs _, dats_strs _⟩ (wf_ke t)
theorem ws_okD {xs : List Str} (h : ∀ z ∈ xs, wordS z = true) : okD (wsD xs) = true := by
  unfold wsD
  rw [okD]
  refine okDs_of fun d hd => ?_
  obtain ⟨z, hz, rfl⟩ := List.mem_map.mp hd
  exact okX_word (h z hz)
theorem sz_wsD (xs : List Str) : sz (wsD xs) = 1 + xs.length := by unfold wsD; rw [sz, szs_strs]
theorem KO.kp {rs : List Rw} (ok : RowsOk rs) {hs : List Str} {ks : List (Str × List Str)} (h : KO rs hs ks) : KP hs ks := ⟨h.nd, fun q hq => ⟨(h.mem q hq).1, by have := (h.mem q hq).2.1; omega, fun z hz => labs_word ok ((h.mem q hq).2.2 z hz)⟩⟩
theorem st_lst {B : Nat} {H : Hp} {st cl : Addr} (hs : StAt B H st cl) : ∃ xs, H st = some (.lst xs) := let ⟨_, _, _, _, _, e, _⟩ := hs; ⟨_, e⟩
/-- the drawn rule -/
structure RQ (st : Addr) (H : Hp) (p : Addr) (u1 u2 : V) (a1 a2 : Addr) (d1 d2 : D) : Prop where
  tp : H p = some (.tup [u1, u2, .ref a1, .ref a2])
  v1 : DAt nol H u1 d1
  h1 : isSh d1 = true
  z1 : sz d1 ≤ 30
  v2 : DAt nol H u2 d2
  h2 : isSh d2 = true
  z2 : sz d2 ≤ 30
  wd : ∀ z ∈ hnm d1, wordS z = true
theorem RQ.same {st : Addr} {H H' : Hp} (s : Same H H') {p : Addr} {u1 u2 : V} {a1 a2 : Addr} {d1 d2 : D} (R : RQ st H p u1 u2 a1 a2 d1 d2) : RQ st H' p u1 u2 a1 a2 d1 d2 := ⟨s _ _ R.tp, DAt.hold (.same s) _ R.v1, R.h1, R.z1, DAt.hold (.same s) _ R.v2, R.h2, R.z2, R.wd⟩
theorem RQ.hold {st : Addr} {H H' : Hp} (h : Hold nol H H') {p : Addr} {u1 u2 : V} {a1 a2 : Addr} {d1 d2 : D} (R : RQ st H p u1 u2 a1 a2 d1 d2) : RQ st H' p u1 u2 a1 a2 d1 d2 := ⟨h.tup _ _ R.tp, DAt.hold h _ R.v1, R.h1, R.z1, DAt.hold h _ R.v2, R.h2, R.z2, R.wd⟩
/-- things that stand for a rule, and what may change beside them -/
structure TH (F : Addr → Prop) (H : Hp) (w1 w2 w3 w4 : V) (e1 e2 : D) (b3 b4 : KA) : Prop where
  s1 : SA F H w1 e1
  o1 : okZ e1 = true
  s2 : SA F H w2 e2
  o2 : okZ e2 = true
  w3 : WA F H w3 b3
  o3 : okA b3
  w4 : WA F H w4 b4
  o4 : okA b4
theorem SA.hold {F : Addr → Prop} {H H' : Hp} (h : Hold F H H') (h0 : Hold nol H H') {v : V} {d : D} (k : SA F H v d) : SA F H' v d := ⟨DAt.hold h _ k.da, k.s, k.z, fun e => ⟨DAt.hold h0 _ (k.n e).1, (k.n e).2⟩⟩
theorem SA.weak {F F' : Addr → Prop} (hF : ∀ a, F a → F' a) {H : Hp} {v : V} {d : D} (k : SA F H v d) : SA F' H v d := ⟨DAt.weak hF _ k.da, k.s, k.z, k.n⟩
theorem WA.hold {F : Addr → Prop} {H H' : Hp} (h : HoldK F H H') {v : V} {a : KA} (k : WA F H v a) : WA F H' v a := ⟨k.ka.holdK h, k.m, k.f⟩
theorem WA.weak {F F' : Addr → Prop} (hF : ∀ a, F a → F' a) {H : Hp} {v : V} {a : KA} (k : WA F H v a) : WA F' H v a := ⟨KAt.weak hF k.ka, k.m, k.f⟩
theorem TH.hold {F : Addr → Prop} {H H' : Hp} (h : HoldK F H H') (h0 : Hold nol H H') {w1 w2 w3 w4 : V} {e1 e2 : D} {b3 b4 : KA} (k : TH F H w1 w2 w3 w4 e1 e2 b3 b4) : TH F H' w1 w2 w3 w4 e1 e2 b3 b4 :=
  ⟨k.s1.hold h.toHold h0, k.o1, k.s2.hold h.toHold h0, k.o2, k.w3.hold h, k.o3, k.w4.hold h, k.o4⟩
theorem HoldK.same {F : Addr → Prop} {H H' : Hp} (s : Same H H') : HoldK F H H' := { toHold := .same s, dk := fun a k e => s _ _ e, dt := fun a k e => s _ _ e }
def spLaw (K : PySem.W.Frag) (P : Addr) : Sp := fun vs H Q _ => ∃ (a : Addr) (ns : List Int), vs = [.ref a] ∧ SqL K H a (ns.map V.int) ∧ ∀ H', Q (.bl true) H'
section
variable {P : Program} {w : World} {K : PySem.W.Frag} {mg : Str → Option Value} {base : Heap}
theorem c_law {f cc pt : Addr} {oc kv0 doc pm ct : Value} {od an : Option Addr} {osl : Array (Option Value)} (lk : K.lookup f = some ⟨oc, od, .func (PySem.W.fnOf "law" "law" (fnArgs sLaw) (fnBody sLaw) (fnScope sLaw) .none kv0 doc pm an (.ref cc) ct), osl⟩) (hcd : PySem.W.codeIn K (.ref cc) "law" = true) (hB : XW.SysB base) (T : BltL mg)
    (C_fresh : Cal P w K mg base 1 "_law_fresh" (spFresh K) []) (C_take : Cal P w K mg base 1 "_law_take" spTake []) (C_rows : Cal P w K mg base 4 "_law_rows" spRows []) (C_same : Cal P w K mg base 71 "_law_same" (spSameN 70) []) (C_rule : Cal P w K mg base 33 "_law_rule" spRule [])
    (C_spoilt : Cal P w K mg base 42 "_law_spoilt" spSp []) (C_fault : Cal P w K mg base 62 "_law_fault" spFt []) (C_tuples : Cal P w K mg base 61 "_law_tuples" (spLT 60) []) (C_tried : Cal P w K mg base 9 "_law_tried" spTd []) :
    XW.Ran P w K mg base C8.CX0 f (PySem.W.fnOf "law" "law" (fnArgs sLaw) (fnBody sLaw) (fnScope sLaw) .none kv0 doc pm an (.ref cc) ct) ["_law_script"] (spLaw K pt) := by
  refine XW.ran_of (k := 80) lk hcd scLaw (fun vs H Q E h => ?_) ⟨rfl, by decide, by decide⟩ (fun s H vs Q E hr hg h => ?_)
  · obtain ⟨a, ns, rfl, _⟩ := h
    rfl
  · obtain ⟨a, ns, rfl, hS, k⟩ := h
    have nd := scLaw.nd
    have hsl := sizeLine_eq
    have hu : (callerA.deeper (envOfC "law" (fnScope sLaw) s.heap.objs.size f (.ref cc))).units + 500 < cLine := by have := hr.un; omega
    suffices hh : ∃ t, PSs (cxOf C8.CX0 P w K mg base NL "law" (fnScope sLaw) f (.ref cc) callerA [] s H E).nox (fnBody sLaw) t ∧ t { nx := fun _ H' => Q .non H', rt := Q } (start NL [.ref a]) H by
      obtain ⟨t, h, q⟩ := hh
      exact ⟨t, h.nox, q⟩
    refine ⟨_, (pss_cons (ps_set (i := 1) nd rfl (Or.inl rfl) (pe_c C_fresh hr (by decide) (by rfl) (pa_cons (pv 0) pa_nil)))
      (pss_cons (ps_for PassesOwn.never rfl (pi_range1 (by rfl) T.ran (pa_cons pe_int pa_nil)) (pg_name (i := 2) nd rfl (Or.inl rfl))
        (pss_cut (ps_set (i := 3) nd rfl (Or.inl rfl) (pe_c C_rows hr (by decide) (by rfl) (pa_cons (pv 1) (pa_cons pe_int pa_nil))))
        (pss_cut (ps_set (i := 4) nd rfl (Or.inl rfl) (pe_c C_rule hr (by decide) (by rfl) (pa_cons (pv 1) (pa_cons (pv 3) (pa_cons pe_int pa_nil)))))
        (pss_cut (ps_set (i := 5) nd rfl (Or.inl rfl) (pe_callTy call_list_of (by rfl) T.list (by decide +kernel) (pa_cons (pv 4) pa_nil)))
        (pss_cut (ps_for PassesOwn.never rfl (pi_range1 (by rfl) T.ran (pa_cons (pe_c C_take hr (by decide) (by rfl) (pa_cons (pv 1) (pa_cons pe_int pa_nil))) pa_nil)) (pg_name (i := 6) nd rfl (Or.inl rfl))
          (pss_cut (ps_set (i := 7) nd rfl (Or.inl rfl) (pe_c C_take hr (by decide) (by rfl) (pa_cons (pv 1) (pa_cons pe_int pa_nil))))
          (pss_one (ps_asg (pe_c C_spoilt hr (by decide) (by rfl) (pa_cons (pv 1) (pa_cons (pv 4) (pa_cons (pv 7) pa_nil)))) (pg_sub (pv 5) (pv 7) set_list)))))
        (pss_cut (ps_par (i := 8) (j := 9) rfl nd rfl rfl (by decide) rfl rfl (pa_cons (pe_c C_fault hr (by decide) (by rfl) (pa_cons (pv 5) pa_nil)) (pa_cons (pe_callB (call_repr2 hB hg hu) (by rfl) T.rep (by decide +kernel) (pa_cons (pv 5) pa_nil)) pa_nil)) (by rfl))
        (pss_cut (ps_set (i := 10) nd rfl (Or.inl rfl) (pe_tup (pa_cons pe_str (pa_cons (pv 8) pa_nil))))
        (pss_cut (ps_if (pt_cmp (pc_isN (pv 8)))
          (pss_one (ps_set (i := 10) nd rfl (Or.inl rfl) (pe_tup (pa_cons pe_str (pa_cons (pe_c C_tuples hr (by decide) (by rfl) (pa_cons (pe_ix ix_list (pv 5) pe_int fun _ _ => rfl) pa_nil)) pa_nil))))) pss_nil)
        (pss_cut (ps_if (pt_not (pt_val (pe_c C_same hr (by decide) (by rfl) (pa_cons (pe_c C_tried hr (by decide) (by rfl) (pa_cons (pv 5) pa_nil)) (pa_cons (pv 10) pa_nil))))) pss_never pss_nil)
        (pss_one (ps_if (pt_cmpR op_ne (pe_callB (call_repr2 hB hg hu) (by rfl) T.rep (by decide +kernel) (pa_cons (pv 5) pa_nil)) (pv 9) (nomark _)) pss_never pss_nil)))))))))))
      (pss_one (ps_ret pe_bl)))), ?_⟩
    
    refine ⟨_, rfl, a, ns, rfl, hS, fun st cl H0 nst ncl s0 hst0 => ?_⟩
    refine ⟨12, rfl, by decide, by decide, for_gen (J := Itr 0 12) 12 (fun i σ H' => ∃ v2 v3 v4 v5 v6 v7 v8 v9 v10 : Option V, σ = [some (.ref a), some (.ref st), v2, v3, v4, v5, v6, v7, v8, v9, v10] ∧ StAt (1000 * i) H' st cl) ⟨_, _, _, _, _, _, _, _, _, rfl, hst0⟩
      (fun i σ H' hi _ => hi) (fun σ H' _ => Nat.le_refl _) ?_ (fun σ H' _ => k H')⟩
    rintro i σ H1 v H2 hi ⟨v2, v3, v4, v5, v6, v7, v8, v9, v10, rfl, hst⟩ ⟨rfl, rfl⟩
    generalize hB' : 1000 * i = B at hst
    have hB1 : B ≤ 11000 := by omega
    -- rows
    refine ⟨fun σ H' => ∃ (l : Addr) (rs : List Rw), σ = [some (.ref a), some (.ref st), some (.int (0 + (i : Nat))), some (.ref l), v4, v5, v6, v7, v8, v9, v10] ∧ RowsAt H' l rs ∧ RowsOk rs ∧ StAt (B + 50) H' st cl, ?_, ?_⟩
    · exact ⟨_, rfl, st, 4, B, cl, rfl, by decide, by decide, hst, by omega, fun l rs H3 nl hR ok hs1 b1 => ⟨l, rs, rfl, hR, ok, hs1⟩⟩
    clear hst
    rintro σ H3 ⟨l, rs, rfl, hR, ok, hst⟩
    -- the rule
    refine ⟨fun σ H' => ∃ (p : Addr) (u1 u2 : V) (a1 a2 : Addr) (d1 d2 : D) (ks bs : List (Str × List Str)), σ = [some (.ref a), some (.ref st), some (.int (0 + (i : Nat))), some (.ref l), some (.ref p), v5, v6, v7, v8, v9, v10] ∧ RQ st H' p u1 u2 a1 a2 d1 d2 ∧ WD st H' a1 ks ∧ WD st H' a2 bs ∧ KO rs (hnm d1) ks ∧ KO rs (hnm d1) bs ∧ sz d1 ≤ 12 ∧ StAt (B + 300) H' st cl, ?_, ?_⟩
    · refine ⟨_, rfl, _, rfl, st, l, 3, rs, _, cl, rfl, by decide, by decide, hR, ok, hst, by omega, fun p kd bd vl vr dl dr kk bb H4 w1 w2 o1 o2 nkb nks nbs hth hnd hhr htp hvl hshl hsq hzl hvr hshr hzr hs1 b1 => ⟨p, vl, vr, kd, bd, dl, dr, kk, bb, rfl, ⟨htp, hvl, hshl, by omega, hvr, hshr, hzr, fun z hz => (hnd.2 z hz).elim (menu_word z) fun e => by rw [e]; decide +kernel⟩, w1, w2, o1, o2, hzl, hs1⟩⟩
    clear hR hst
    rintro σ HR ⟨p, u1, u2, a1, a2, d1, d2, ks, bs, rfl, R, W1, W2, o1, o2, hz12, hst⟩
    have hn1 := hnm_le d1
    -- things
    refine ⟨fun σ H' => ∃ tl : Addr, σ = [some (.ref a), some (.ref st), some (.int (0 + (i : Nat))), some (.ref l), some (.ref p), some (.ref tl), v6, v7, v8, v9, v10] ∧ H' tl = some (.lst [u1, u2, .ref a1, .ref a2]) ∧ HR tl = none ∧ Same HR H', ?_, ?_⟩
    · exact ⟨_, rfl, p, _, rfl, .inr (SqT.of R.tp), fun q nq => ⟨q, rfl, upd_same, nq, same_upd nq⟩⟩
    rintro σ HT ⟨tl, rfl, htl, ntl, sT⟩
    have hstT := hst.same sT
    have tlst : tl ≠ st := (hst.new ntl).1
    have tlcl : tl ≠ cl := (hst.new ntl).2
    let FT : Addr → Prop := fun a => a ≠ st ∧ a ≠ tl
    have wk : ∀ {qs : List (Str × List Str)} {x : Addr}, WD st HR x qs → KO rs (hnm d1) qs → WA FT HT (.ref x) (.k (esOf qs)) ∧ okA (.k (esOf qs)) := fun {qs x} h o => by
      obtain ⟨kvs, e, hp⟩ := h
      have hl := (KO.kp ok o).len
      have m := (KO.kp ok o).mem
      have o15 : ∀ q ∈ qs, q.2.length ≤ 15 := fun q hq => (o.mem q hq).2.1
      have hm : ∀ e ∈ esOf qs, ∃ q ∈ qs, e = (.inr q.1, wsD q.2) := fun e he => by
        obtain ⟨q, hq, e'⟩ := List.mem_map.mp he
        exact ⟨q, hq, e'.symm⟩
      have hwf : Paired (WF FT HT) kvs qs := Paired.mono (fun _ _ ⟨e, l, e2, n, q⟩ => ⟨e, l, e2, .inr ⟨⟨n, ne_of_none q ntl⟩, sT _ _ q⟩⟩) hp
      refine ⟨⟨⟨x, kvs, rfl, sT _ _ e, wf_ke hwf⟩, ⟨by unfold esOf; rw [List.length_map]; omega, fun e he => ?_⟩, ⟨?_, fun e he => ?_⟩⟩, by unfold esOf; rw [List.length_map]; omega, fun e he => ?_⟩
      · obtain ⟨q, hq, rfl⟩ := hm e he
        exact ⟨okZ_short _ (okD_Z _ (ws_okD (m q hq).2.2)), by have := sz_wsD q.2; have := o15 q hq; dsimp only; omega⟩
      · have e1 : (esOf qs).map (fun e => e.1) = (qs.map fun q => q.1).map Sum.inr := by
          unfold esOf
          rw [List.map_map, List.map_map]
          rfl
        rw [e1]
        exact List.Pairwise.map _ (fun a b h e => h (Sum.inr.inj e)) o.nd
      · obtain ⟨q, hq, rfl⟩ := hm e he
        have := sz_wsD q.2
        have := o15 q hq
        dsimp only
        omega
      · obtain ⟨q, hq, rfl⟩ := hm e he
        exact ⟨word_key (R.wd _ (m q hq).1), okD_Z _ (ws_okD (m q hq).2.2), by have := sz_wsD q.2; have := o15 q hq; dsimp only; omega⟩
    have RT := R.same sT
    obtain ⟨k3, ok3⟩ := wk W1 o1
    obtain ⟨k4, ok4⟩ := wk W2 o2
    have sa : ∀ {u : V} {d : D}, DAt nol HR u d → isSh d = true → sz d ≤ 30 → SA FT HT u d := fun h hs hz => ⟨DAt.weak (fun _ g => g.elim) _ (DAt.hold (.same sT) _ h), okZ_short _ (okZ_of hs), by omega, fun _ => ⟨DAt.hold (.same sT) _ h, by omega⟩⟩
    have th0 : TH FT HT u1 u2 (.ref a1) (.ref a2) d1 d2 (.k (esOf ks)) (.k (esOf bs)) := ⟨sa R.v1 R.h1 R.z1, okZ_of R.h1, sa R.v2 R.h2 R.z2, okZ_of R.h2, k3, ok3, k4, ok4⟩
    have hFT : ∀ a, FT a → a ≠ st ∧ a ≠ tl := fun a g => g
    have hFT' : ∀ a, a ≠ st → a ≠ tl → FT a := fun a g g' => ⟨g, g'⟩
    clear_value FT
    -- some are exchanged
    refine ⟨fun σ H' => ∃ (v6 v7 : Option V) (w1 w2 w3 w4 : V) (e1 e2 : D) (b3 b4 : KA), σ = [some (.ref a), some (.ref st), some (.int (0 + (i : Nat))), some (.ref l), some (.ref p), some (.ref tl), v6, v7, v8, v9, v10] ∧ H' tl = some (.lst [w1, w2, w3, w4]) ∧ TH FT H' w1 w2 w3 w4 e1 e2 b3 b4 ∧ StAt (B + 350) H' st cl, ?_, ?_⟩
    · refine ⟨_, rfl, st, 4, _, cl, rfl, by decide, by decide, hstT, by omega, fun d H4 hd0 hd4 hs4 b4 => ⟨d, rfl, by omega, by omega, ?_⟩⟩
      have n0 : Hold nol HT H4 := .but hstT b4 fun _ g => g.elim
      refine for_range (n := d.toNat) (fun j σ H' => ∃ (v6 v7 : Option V) (w1 w2 w3 w4 : V) (e1 e2 : D) (b3 b4 : KA), σ = [some (.ref a), some (.ref st), some (.int (0 + (i : Nat))), some (.ref l), some (.ref p), some (.ref tl), v6, v7, v8, v9, v10] ∧ H' tl = some (.lst [w1, w2, w3, w4]) ∧ TH FT H' w1 w2 w3 w4 e1 e2 b3 b4 ∧ RQ st H' p u1 u2 a1 a2 d1 d2 ∧ StAt (B + 301 + 10 * j) H' st cl)
        ⟨v6, v7, _, _, _, _, _, _, _, _, rfl, b4 _ _ htl tlst, th0.hold (HoldK.but hstT b4 fun a g => (hFT a g).1) n0, RT.hold n0, hs4.mono (by omega)⟩ ?_ (fun σ H' ⟨v6, v7, w1, w2, w3, w4, e1, e2, b3, b4, e, h1, h2, _, h3⟩ => ⟨v6, v7, w1, w2, w3, w4, e1, e2, b3, b4, e, h1, h2, h3.mono (by omega)⟩)
      rintro j σ H5 hj ⟨v6, v7, w1, w2, w3, w4, e1, e2, b3, b4, rfl, htl5, th5, R5, hs5⟩
      -- which
      refine ⟨fun σ H' => ∃ x : Int, σ = [some (.ref a), some (.ref st), some (.int (0 + (i : Nat))), some (.ref l), some (.ref p), some (.ref tl), some (.int (0 + (j : Nat))), some (.int x), v8, v9, v10] ∧ 0 ≤ x ∧ x ≤ 3 ∧ H' tl = some (.lst [w1, w2, w3, w4]) ∧ TH FT H' w1 w2 w3 w4 e1 e2 b3 b4 ∧ RQ st H' p u1 u2 a1 a2 d1 d2 ∧ StAt (B + 302 + 10 * j) H' st cl, ?_, ?_⟩
      · refine ⟨_, rfl, st, 4, _, cl, rfl, by decide, by decide, hs5, by omega, fun x H6 hx0 hx4 hs6 b6 => ?_⟩
        have n6 : Hold nol H5 H6 := .but hs5 b6 fun _ g => g.elim
        exact ⟨x, rfl, hx0, by omega, b6 _ _ htl5 tlst, th5.hold (HoldK.but hs5 b6 fun a g => (hFT a g).1) n6, R5.hold n6, hs6.mono (by omega)⟩
      clear htl5 th5 R5 hs5
      rintro σ H6 ⟨x, rfl, hx0, hx3, htl6, th6, R6, hs6⟩
      have fresh : ∀ a, H6 a = none → FT a := fun a n => hFT' a (ne_of_none' (st_lst hs6).choose_spec n) (ne_of_none' htl6 n)
      have cst : ∀ {H7 : Hp}, StAt (B + 302 + 10 * j + 1) H7 st cl → H7 tl = some (.lst [w1, w2, w3, w4]) → ∀ ws : List V, StAt (B + 301 + 10 * (j + 1)) (upd H7 tl (.lst ws)) st cl := fun {H7} h e ws => by
        exact (h.put tlst tlcl).mono (by omega)
      have x4 : x = 0 ∨ x = 1 ∨ x = 2 ∨ x = 3 := by omega
      refine ⟨_, rfl, _, rfl, _, rfl, st, p, x, u1, u2, a1, a2, d1, d2, _, cl, rfl, R6.tp, R6.v1, R6.h1, R6.z1, R6.v2, R6.h2, R6.z2, R6.wd, hx0, hx3, hs6, by omega, fun hx1 v d H7 sv ov hs7 b7 => ?_, fun hx1 v b H7 wv ob hs7 b7 => ?_⟩
      · have n7 : Hold nol H6 H7 := .but hs6 b7 fun _ g => g.elim
        have htl7 := b7 _ _ htl6 tlst
        have th7 := th6.hold (HoldK.but hs6 b7 fun a g => (hFT a g).1) n7
        have hU : ∀ ws : List V, HoldK FT H7 (upd H7 tl (.lst ws)) := fun ws => HoldK.upd htl7 fun a g => (hFT a g).2
        have nU : ∀ ws : List V, Hold nol H7 (upd H7 tl (.lst ws)) := fun ws => (HoldK.upd (F := nol) htl7 fun _ g => g.elim).toHold
        have sv' : ∀ ws : List V, SA FT (upd H7 tl (.lst ws)) v d := fun ws => (sv.weak fresh).hold (hU ws).toHold (nU ws)
        rcases x4 with rfl | rfl | rfl | rfl
        · have t := th7.hold (hU [v, w2, w3, w4]) (nU _)
          exact ⟨_, rfl, _, rfl, tl, _, 0, 0, rfl, rfl, htl7, rfl, _, _, v, w2, w3, w4, d, e2, b3, b4, rfl, upd_same, ⟨sv' _, ov, t.s2, t.o2, t.w3, t.o3, t.w4, t.o4⟩, (R6.hold n7).hold (nU _), cst hs7 htl7 _⟩
        · have t := th7.hold (hU [w1, v, w3, w4]) (nU _)
          exact ⟨_, rfl, _, rfl, tl, _, 1, 1, rfl, rfl, htl7, rfl, _, _, w1, v, w3, w4, e1, d, b3, b4, rfl, upd_same, ⟨t.s1, t.o1, sv' _, ov, t.w3, t.o3, t.w4, t.o4⟩, (R6.hold n7).hold (nU _), cst hs7 htl7 _⟩
        · omega
        · omega
      · have n7 : Hold nol H6 H7 := .but hs6 b7 fun _ g => g.elim
        have htl7 := b7 _ _ htl6 tlst
        have th7 := th6.hold (HoldK.but hs6 b7 fun a g => (hFT a g).1) n7
        have hU : ∀ ws : List V, HoldK FT H7 (upd H7 tl (.lst ws)) := fun ws => HoldK.upd htl7 fun a g => (hFT a g).2
        have nU : ∀ ws : List V, Hold nol H7 (upd H7 tl (.lst ws)) := fun ws => (HoldK.upd (F := nol) htl7 fun _ g => g.elim).toHold
        have wv' : ∀ ws : List V, WA FT (upd H7 tl (.lst ws)) v b := fun ws => (wv.weak fresh).hold (hU ws)
        rcases x4 with rfl | rfl | rfl | rfl
        · omega
        · omega
        · have t := th7.hold (hU [w1, w2, v, w4]) (nU _)
          exact ⟨_, rfl, _, rfl, tl, _, 2, 2, rfl, rfl, htl7, rfl, _, _, w1, w2, v, w4, e1, e2, b, b4, rfl, upd_same, ⟨t.s1, t.o1, t.s2, t.o2, wv' _, ob, t.w4, t.o4⟩, (R6.hold n7).hold (nU _), cst hs7 htl7 _⟩
        · have t := th7.hold (hU [w1, w2, w3, v]) (nU _)
          exact ⟨_, rfl, _, rfl, tl, _, 3, 3, rfl, rfl, htl7, rfl, _, _, w1, w2, w3, v, e1, e2, b3, b, rfl, upd_same, ⟨t.s1, t.o1, t.s2, t.o2, t.w3, t.o3, wv' _, ob⟩, (R6.hold n7).hold (nU _), cst hs7 htl7 _⟩
    rintro σ HK ⟨v6, v7, w1, w2, w3, w4, e1, e2, b3, b4, rfl, htlK, th, hstK⟩
    clear RT k3 ok3 k4 ok4 sa th0 wk R W1 W2 sT hstT htl hst
    generalize hwf : faultW e1 e2 b3 b4 = wf
    obtain ⟨Ze, Zn, hZ, hZs, hZn, hZd⟩ : ∃ (e : PyData) (n : Nat), (∀ H', Same HK H' → Dq K H' (.ref tl) e) ∧ Small2 e n ∧ n ≤ 3000 ∧ e.depth ≤ 400 := by
      obtain ⟨f1, g1, S1⟩ := small2_of (K := K) e1 th.o1 th.s1.da
      obtain ⟨f2, g2, S2⟩ := small2_of (K := K) e2 th.o2 th.s2.da
      obtain ⟨f3, n3, g3, S3, m3, p3⟩ := kat_dq (K := K) th.o3 th.w3.ka
      obtain ⟨f4, n4, g4, S4, m4, p4⟩ := kat_dq (K := K) th.o4 th.w4.ka
      have z1 := th.s1.z
      have z2 := th.s2.z
      refine ⟨.list [f1, f2, f3, f4], _, fun H' s' => .lst (SqL.of (s' _ _ htlK)) (.cons (g1 H' (.same s')) (.cons (g2 H' (.same s')) (.cons (g3 H' s') (.cons (g4 H' s') .nil)))), (SmallAll2.cons S1 (SmallAll2.cons S2 (SmallAll2.cons S3 (SmallAll2.cons S4 SmallAll2.nil)))).list, by omega, ?_⟩
      have q1 := S1.dep
      have q2 := S2.dep
      simp only [PyData.depth, PyData.depthAll]
      omega
    have opt : ∀ o : Option Str, decide (optV o = V.non) = o.isNone := fun o => by cases o <;> rfl
    -- the fault, the text
    refine ⟨fun σ H' => σ = [some (.ref a), some (.ref st), some (.int (0 + (i : Nat))), some (.ref l), some (.ref p), some (.ref tl), v6, v7, some (optV wf), some (.str Ze.shown), v10] ∧ Same HK H', ?_, ?_⟩
    · refine ⟨_, rfl, tl, w1, w2, w3, w4, e1, e2, b3, b4, FT, rfl, htlK, th.s1, th.s2, th.w3, th.w4, fun H4 s4 => ⟨_, rfl, tl, Ze, Zn, rfl, hZ H4 s4, hZs, hZn, hZd, _, _, rfl, ?_⟩⟩
      rw [hwf]
      exact ⟨rfl, s4⟩
    rintro σ HL ⟨rfl, sL⟩
    -- what is due
    refine ⟨fun σ H' => ∃ du : Addr, σ = [some (.ref a), some (.ref st), some (.int (0 + (i : Nat))), some (.ref l), some (.ref p), some (.ref tl), v6, v7, some (optV wf), some (.str Ze.shown), some (.ref du)] ∧ Same HK H' ∧ H' du = some (.tup [.str "bad", optV wf]), ?_, ?_⟩
    · exact ⟨_, rfl, (by show 2 ≤ sizeLine; decide), fun q nq => ⟨q, rfl, sL.trans (same_upd nq), upd_same⟩⟩
    rintro σ HM ⟨du, rfl, sM, hdu⟩
    refine ⟨fun σ H' => ∃ du : Addr, σ = [some (.ref a), some (.ref st), some (.int (0 + (i : Nat))), some (.ref l), some (.ref p), some (.ref tl), v6, v7, some (optV wf), some (.str Ze.shown), some (.ref du)] ∧ Same HK H' ∧ (∀ z, wf = some z → H' du = some (.tup [.str "bad", .str z])) ∧ (wf = none → isSh e1 = true ∧ ∃ u, H' du = some (.tup [.str "made", u]) ∧ DAt nol H' u e1), ?_, ?_⟩
    · refine ⟨_, rfl, _, rfl, ?_⟩
      cases wf with
      | some z => exact iteBf rfl ⟨du, rfl, sM, (fun y e => by cases e; exact hdu), fun e => by cases e⟩
      | none =>
        have hsh : isSh e1 = true := by
          have := (fault_none hwf).1
          unfold leftB at this
          rw [Bool.and_eq_true] at this
          exact this.1
        obtain ⟨hn, hz⟩ := th.s1.n hsh
        refine iteBt rfl ⟨_, rfl, tl, _, 0, _, rfl, rfl, SqL.of (sM _ _ htlK), at_of (j := 0) (by omega) rfl, w1, e1, FT, rfl, DAt.hold (.same sM) _ th.s1.da, hsh, by omega, by omega, fun u H4 s4 hu => ⟨(by show 2 ≤ sizeLine; decide), fun q nq => ⟨q, rfl, sM.trans (s4.trans (same_upd nq)), (fun z e => by cases e), fun _ => ⟨hsh, u, upd_same, DAt.hold (.same (same_upd nq)) _ hu⟩⟩⟩⟩
    clear hdu sM
    rintro σ HM ⟨du, rfl, sM, hd1, hd2⟩
    -- what comes
    refine ⟨fun σ H' => σ = [some (.ref a), some (.ref st), some (.int (0 + (i : Nat))), some (.ref l), some (.ref p), some (.ref tl), v6, v7, some (optV wf), some (.str Ze.shown), some (.ref du)] ∧ Same HK H', ?_, ?_⟩
    · have sv : ∀ {H' : Hp}, Same HK H' → ∀ {v : V} {d : D}, SA FT HK v d → SA FT H' v d := fun s' => fun h => h.same s'
      refine ⟨_, rfl, tl, w1, w2, w3, w4, e1, e2, b3, b4, FT, rfl, sM _ _ htlK, th.s1.same sM, th.s2.same sM, th.w3.same sM, th.w4.same sM, fun q H4 s4 t1 t2 => ⟨_, rfl, _, _, rfl, ?_, fun H5 s5 => ⟨true, rfl, iteBf rfl ⟨rfl, sM.trans (s4.trans s5)⟩⟩⟩⟩
      rw [hwf] at t1 t2
      cases wf with
      | some z => exact .inr ⟨true, q, du, _, _, rfl, rfl, t1 z rfl, s4 _ _ (hd1 z rfl), .cons (eq_flat rfl 68) (.cons (eq_flat rfl 68) .nil), (by show 2 ≤ 100000; decide)⟩
      | none =>
        obtain ⟨hsh, u, h1, h2⟩ := hd2 rfl
        obtain ⟨u', h1', h2'⟩ := t2 rfl
        have hz := th.s1.z
        exact .inr ⟨true, q, du, _, _, rfl, rfl, h1', s4 _ _ h1, .cons (eq_flat rfl 68) (.cons (eq_shN 69 e1 (by omega) hsh (by omega) _ _ h2' (DAt.hold (.same s4) _ h2)) .nil), (by show 2 ≤ 100000; decide)⟩
    rintro σ HN ⟨rfl, sN⟩
    exact ⟨_, rfl, tl, Ze, Zn, rfl, hZ HN sN, hZs, hZn, hZd, _, rfl, rfl, _, rfl, iteBf (by rw [decide_eq_true rfl]; rfl) ⟨_, _, _, _, _, _, _, _, _, rfl, (hstK.same sN).mono (by omega)⟩⟩
end
end K9

namespace K9
open PySem PySem.Spec PyProof.Rows L2 C8 XI
/-- what the text says of an __init__ whose parameters are all stored -/
structure TxtI (st : Stmt) (qual : Str) (fs : List Str) : Prop where
  par : ((fnArgs st).posonlyargs ++ (fnArgs st).args).head?.map (·.arg) = some "self"
  ssu : (fnScope st).names.lookup ("super" : Str) = some .globalImplicit
  scl : (fnScope st).names.lookup ("__class__" : Str) = some .free
  sse : (fnScope st).names.lookup ("self" : Str) = some .local
  kin : (fnScope st).kind = .function
  cel : ∀ y ∈ (fnScope st).names, y.2 ≠ .cell
  nco : (fnScope st).isCoroutine = false
  nge : (fnScope st).isGenerator = false
  fie : ∀ f ∈ fs, (fnScope st).names.lookup f = some .local ∧ (f == ("__debug__" : Str)) = false ∧ f ≠ "self"
  ndf : fs.Nodup
  len : fs.length ≤ 900
  bod : ∃ (p0 p1 p2 p3 p4 p5 : Pos) (k : Nat) (tx : Str) (b : List Stmt), fnBody st = .Expr (.Call (.Attribute (.Call (.Name "super" p0) [] [] p1) "__init__" p2) [.Constant (.str tx) k p3] [] p4) p5 :: b ∧ Stores fs b ∧
    ∀ (L fI' cda' cc' : Addr), ∃ pl, eval (.Call (.Attribute (.Call (.Name "super" p0) [] [] p1) "__init__" p2) [.Constant (.str tx) k p3] [] p4) (PySem.W.ksEnv qual (fnScope st) L fI' (.ref cda') cc') = (do
      let ov ← attributeBase (.Call (.Name "super" p0) [] [] p1) "__init__" (PySem.W.ksEnv qual (fnScope st) L fI' (.ref cda') cc') (eval (.Call (.Name "super" p0) [] [] p1) (PySem.W.ksEnv qual (fnScope st) L fI' (.ref cda') cc'))
      standAt p2.atName
      let (fx, first) ← holding [ov] (getMethod ov "__init__" pl)
      callWith p4 fx first (backTo p4 (starEach [.Constant (.str tx) k p3] (PySem.W.ksEnv qual (fnScope st) L fI' (.ref cda') cc'))) []) ∧ swapsWith (.Call (.Attribute (.Call (.Name "super" p0) [] [] p1) "__init__" p2) [.Constant (.str tx) k p3] [] p4) none p5.line (PySem.W.ksEnv qual (fnScope st) L fI' (.ref cda') cc') = pure false
  bP : ∀ (kV doc pm : Value) (an : Option Addr) (cdv ct : Value) (cc : Addr) (y : Value) (us : List Value), us.length = fs.length → bindArgs (PySem.W.ksFn "__init__" qual (fnArgs st) (fnBody st) (fnScope st) .none kV doc pm an cdv ct cc) ⟨y :: us, []⟩ = pure ((("self" : Str), y) :: fs.zip us)
  bK : ∀ (kV doc pm : Value) (an : Option Addr) (cdv ct : Value) (cc : Addr) (y : Value) (ks : List Str) (ws us : List Value), ks.length = ws.length → (ks.zip ws).Perm (fs.zip us) → us.length = fs.length → ks.length = fs.length → bindArgs (PySem.W.ksFn "__init__" qual (fnArgs st) (fnBody st) (fnScope st) .none kV doc pm an cdv ct cc) ⟨[y], ks.zip ws⟩ = pure ((("self" : Str), y) :: fs.zip us)
def inCls (i : Nat) : Stmt := (clsBody (top i)).getD 0 (.Pass ⟨0, 0, 0, 0⟩)
theorem txt_BadRule : TxtI (inCls 2) "BadRule.__init__" ["word"] where
  par := by decide +kernel
  ssu := by rfl
  scl := by rfl
  sse := by rfl
  kin := by rfl
  cel := by decide +kernel
  nco := by rfl
  nge := by rfl
  fie := by decide +kernel
  ndf := by decide +kernel
  len := by decide
  bod := ⟨_, _, _, _, _, _, _, _, _, by rfl, (.cons .nil), fun L fI' cda' cc' => ⟨_, by rfl, by rfl⟩⟩
  bP := fun _ _ _ _ _ _ _ y us hl => match us, hl with | [_], _ => rfl
  bK := fun _ _ _ _ _ _ _ y ks ws us h1 hp h2 h3 => match ks, ws, us, h1, h2, h3 with
    | [k], [w], [u], _, _, _ => by
      have e := List.perm_singleton.mp hp
      obtain ⟨e1, e2⟩ := Prod.mk.inj (List.cons.inj e).1
      subst e1 e2
      rfl
theorem ec_mk {prog : Program} {K : PySem.W.Frag} {mg : Str → Option Value} {h : Heap} {x qual : Str} {st : Stmt} {C fI cc cda : Addr} {fs : List Str} (T : TxtI st qual fs) (X : K.In h) (G : h.Ns mainGlobals mg)
    {nm q : Str} {N : Addr} {bs bm : List Value} {sn : List Str} {sub : List Value} {ab : Bool} {col : Option Bool} {dd : Option Addr} {k0 k1 k2 k3 k5 : Option Value} {oc kV doc pm ct cl ccl : Value} {od an cld cdd : Option Addr} {osl csl ccs : Array (Option Value)} {vs : Array Value} {file : Str} {tf : Tok}
    (aC : PySem.W.nsIn K mainGlobals x = some (some (.ref C))) (lC : K.lookup C = some (excClassObj nm q C N bs bm true sn sub ab col dd k0 k1 k2 k3 k5 "ValueError.__new__")) (ini : PySem.W.findIn K (.ref C) "__init__" = some (some (.ref fI)))
    (lI : K.lookup fI = some ⟨oc, od, .func (PySem.W.ksFn "__init__" qual (fnArgs st) (fnBody st) (fnScope st) .none kV doc pm an (.ref cda) ct cc), osl⟩) (lc : K.lookup cc = some ⟨cl, cld, .cell (some (.ref C)), csl⟩) (ld : K.lookup cda = some ⟨ccl, cdd, .fields vs, ccs⟩)
    (hbm : PySem.HandSPX.refsVE bm = true) (hv : vs[2]? = some (.str file tf)) (hfile : ((prog.main.file : Str) == file) = true) (htop : (prog.main.scope.names.lookup ("super" : Str)).isSome = false) (su : PySem.W.nsIn K mainGlobals "super" = some none)
    (cI : PySem.W.codeIn K (.ref cda) qual = true) (sa : PySem.W.findIn K (.ref C) "__setattr__" = some (some (.builtin "object.__setattr__"))) (exC : PySem.W.subIn K (.ref C) (.type "BaseException") = some true) (tyC : PySem.W.typeIn K (.ref C) = some (.type "type")) (kC : PySem.W.keepIn K (.ref C) = true)
    (hg : PySem.W.findIn K (.ref C) "__getattribute__" = some (some (.builtin "BaseException.__getattribute__"))) (hk : PySem.W.findIn K (.ref C) "__getattr__" = some none) (hd : PySem.W.hasDictIn K C = true) (ha : PySem.W.findIn K (.ref C) "__class__" = some (some (.builtin "object.__class__")))
    (hn : PySem.W.specialIn K (.builtin "object.__class__") "__get__" = some (some (.builtin "getset_descriptor.__get__"))) (ht : PySem.W.takesIn K (.builtin "object.__class__") = some true) (hm : PySem.W.mroIn K C (.type "object") = some true)
    (sup : PySem.W.ks_superIn K C C "__init__" = some (some (.builtin "ValueError.__init__"))) (ity : PySem.W.typeIn K (.ref fI) = some (.type "function")) (opa : PySem.W.nsIn K cStatics "thirdparty.any" = some none) (suB : PySem.W.subIn K (.ref C) (.type "ValueError") = some true)
    (suC : PySem.W.mroIn K C (.ref C) = some true) (nf : ∀ f ∈ fs, PySem.W.findIn K (.ref C) f = some none) : EC prog K mg x C fs where
  ini := by
    have lk : ∀ {fd : FuncData}, (∃ oc od osl, K.lookup fI = some ⟨oc, od, .func fd, osl⟩) → fd = PySem.W.ksFn "__init__" qual (fnArgs st) (fnBody st) (fnScope st) .none kV doc pm an (.ref cda) ct cc := fun {fd} ⟨oc', od', osl', e⟩ => by
      rw [lI] at e
      cases e
      rfl
    refine ⟨fI, qual, fnArgs st, fnBody st, fnScope st, ⟨⟨oc, od, .none, kV, doc, pm, an, cda, ct, osl, cc, cl, cld, csl, ccl, cdd, ccs, vs, file, tf, lI, cI, lc, ld, hv, hfile⟩, sup, ini, ity, opa, suB, suC, T.par, htop, T.ssu, T.scl, T.sse, T.kin, T.cel, T.nco, T.nge,
      fun f hf => ⟨(T.fie f hf).1, (T.fie f hf).2.1, nf f hf, (T.fie f hf).2.2⟩, T.ndf, T.bod⟩, fun s y fd hfd us hl => ?_, fun s y fd hfd ks ws us h1 h2 h3 h4 => ?_⟩
    · rw [lk hfd]
      exact .of_eq (T.bP _ _ _ _ _ _ _ y us hl)
    · rw [lk hfd]
      exact .of_eq (T.bK _ _ _ _ _ _ _ y ks ws us h1 h2 h3 h4)
  oex := ⟨⟨nm, q, N, bs, bm, sn, sub, ab, col, dd, k0, k1, k2, k3, k5, lC, hbm⟩, sa, exC, tyC, kC⟩
  gC := PySem.W.mg_of X G aC
  su := PySem.W.mg_none_of X G su
  is := ⟨hg, hk, exC, hd, ha, hn, ht, hm⟩
  fl := T.len
end K9

namespace K9
open PySem PySem.Spec PyProof.Rows L2 C8 XE XI XR TX LamX
theorem two {A B : Prop} (a : A) (f : A → B) : B := f a
theorem def_mk {K : PySem.W.Frag} {mg : Str → Option Value} {h : Heap} {x : Str} {st : Stmt} {f : Addr} {oc kV doc pm cdv ct : Value} {od an : Option Addr} {osl : Array (Option Value)} (X : K.In h) (G : h.Ns mainGlobals mg)
    (a : PySem.W.nsIn K mainGlobals x = some (some (.ref f))) (l : K.lookup f = some ⟨oc, od, .func (PySem.W.fnOf x x (fnArgs st) (fnBody st) (fnScope st) .none kV doc pm an cdv ct), osl⟩)
    (c : PySem.W.codeIn K cdv x = true) (k : PySem.W.keepIn K (.ref f) = true) : Def K mg x st f (PySem.W.fnOf x x (fnArgs st) (fnBody st) (fnScope st) .none kV doc pm an cdv ct) :=
  ⟨⟨oc, od, .none, kV, doc, pm, an, cdv, ct, osl, rfl, l, c⟩, PySem.W.mg_of X G a, k⟩
theorem fun_mk {K : PySem.W.Frag} {x qual : Str} {st : Stmt} {f : Addr} {oc kV doc pm cdv ct : Value} {od an : Option Addr} {osl : Array (Option Value)}
    (l : K.lookup f = some ⟨oc, od, .func (PySem.W.fnOf x qual (fnArgs st) (fnBody st) (fnScope st) .none kV doc pm an cdv ct), osl⟩) (c : PySem.W.codeIn K cdv qual = true) : C8.Fun K x qual st f (PySem.W.fnOf x qual (fnArgs st) (fnBody st) (fnScope st) .none kV doc pm an cdv ct) :=
  ⟨oc, od, .none, kV, doc, pm, an, cdv, ct, osl, rfl, l, c⟩
theorem ns_mk {K : PySem.W.Frag} {mg : Str → Option Value} {h : Heap} {x : Str} {C : Addr} (X : K.In h) (G : h.Ns mainGlobals mg) (a : PySem.W.nsIn K mainGlobals x = some (some (.ref C))) : mg x = some (.ref C) := PySem.W.mg_of X G a
theorem cn_mk {K : PySem.W.Frag} {mg : Str → Option Value} {h : Heap} {x : Str} {u : Value} (X : K.In h) (G : h.Ns mainGlobals mg) (a : PySem.W.nsIn K mainGlobals x = some (some u)) : mg x = some u := PySem.W.mg_of X G a
theorem mk_mk {K : PySem.W.Frag} {mg : Str → Option Value} {x : Str} {C f : Addr} {h : Heap} (X : K.In h) (hC : mg x = some (.ref C)) (a : PySem.W.makesIn K C = true) (b : PySem.W.findIn K (.ref C) "__init__" = some (some (.ref f))) (c : PySem.W.isFn K (.ref f) = true) (d : PySem.W.keepIn K (.ref C) = true) : Mk K C f := ⟨a, b, c, d⟩
theorem me_mk {K : PySem.W.Frag} {mg : Str → Option Value} {x m : Str} {C f : Addr} {h : Heap} (X : K.In h) (hC : mg x = some (.ref C)) (b : PySem.W.findIn K (.ref C) m = some (some (.ref f))) (c : PySem.W.isFn K (.ref f) = true) (d : PySem.W.keepIn K (.ref f) = true) : Meth K C m f := ⟨b, c, d⟩
theorem fi_mk {K : PySem.W.Frag} {x qual : Str} {st : Stmt} {C f : Addr} {oc kV doc pm cdv ct : Value} {od an : Option Addr} {osl : Array (Option Value)} (M : Mk K C f)
    (l : K.lookup f = some ⟨oc, od, .func (PySem.W.fnOf x qual (fnArgs st) (fnBody st) (fnScope st) .none kV doc pm an cdv ct), osl⟩) (c : PySem.W.codeIn K cdv qual = true) : C8.Fun K x qual st f (PySem.W.fnOf x qual (fnArgs st) (fnBody st) (fnScope st) .none kV doc pm an cdv ct) := fun_mk l c
theorem fm_mk {K : PySem.W.Frag} {x qual : Str} {st : Stmt} {C f : Addr} {oc kV doc pm cdv ct : Value} {od an : Option Addr} {osl : Array (Option Value)} (M : Meth K C x f)
    (l : K.lookup f = some ⟨oc, od, .func (PySem.W.fnOf x qual (fnArgs st) (fnBody st) (fnScope st) .none kV doc pm an cdv ct), osl⟩) (c : PySem.W.codeIn K cdv qual = true) : C8.Fun K x qual st f (PySem.W.fnOf x qual (fnArgs st) (fnBody st) (fnScope st) .none kV doc pm an cdv ct) := fun_mk l c
theorem fact_mk {K : PySem.W.Frag} {mg : Str → Option Value} {x : Str} {C : Addr} {h : Heap} {A : Prop} (X : K.In h) (hC : mg x = some (.ref C)) (a : A) : A := a

theorem lr_mk {K : PySem.W.Frag} {mg : Str → Option Value} {C : Addr} {h : Heap} (X : K.In h) (hC : mg "Rule" = some (.ref C)) (a : PySem.W.plainGet K C Str.empty = true) (b : PySem.W.hasDictIn K C = true) (c : PySem.W.plainOver K C = true) (d : PySem.W.findIn K (.ref C) "__setattr__" = some (some (.builtin "object.__setattr__")))
    (e : PySem.W.findIn K (.ref C) "left" = some none) (f : PySem.W.findIn K (.ref C) "right" = some none) (g : PySem.W.findIn K (.ref C) "kinds" = some none) (i : PySem.W.findIn K (.ref C) "bars" = some none) : LR K mg C := ⟨⟨a, b, c, d⟩, e, f, g, i⟩
/-- Rule.__init__, which has two defaults -/
structure InitD (K : PySem.W.Frag) (f : Addr) (fd : FuncData) : Prop where
  fn : C8.Fun K "__init__" "Rule.__init__" sRI f fd
  bi : Binds K fd ["self", "left", "right", "kinds", "bars"] []
theorem init_mk {K : PySem.W.Frag} {C f Td : Addr} {oc kV doc pm cdv ct : Value} {od an : Option Addr} {osl : Array (Option Value)} {oc' : Value} {od' : Option Addr} {n' : Nat} {osl' : Array (Option Value)} (M : Mk K C f)
    (l : K.lookup f = some ⟨oc, od, .func (PySem.W.fnOf "__init__" "Rule.__init__" (fnArgs sRI) (fnBody sRI) (fnScope sRI) (.ref Td) kV doc pm an cdv ct), osl⟩) (c : PySem.W.codeIn K cdv "Rule.__init__" = true) (k : PySem.W.keepIn K (.ref f) = true) (t : K.lookup Td = some ⟨oc', od', .seq #[.none, .none] n', osl'⟩) : InitD K f (PySem.W.fnOf "__init__" "Rule.__init__" (fnArgs sRI) (fnBody sRI) (fnScope sRI) (.ref Td) kV doc pm an cdv ct) := by
  refine ⟨⟨oc, od, .ref Td, kV, doc, pm, an, cdv, ct, osl, rfl, l, c⟩, ?_⟩
  have F : FunD K "__init__" "Rule.__init__" (fnArgs sRI) (fnBody sRI) (fnScope sRI) [.non, .non] [] f (PySem.W.fnOf "__init__" "Rule.__init__" (fnArgs sRI) (fnBody sRI) (fnScope sRI) (.ref Td) kV doc pm an cdv ct) :=
    ⟨⟨oc, od, .ref Td, kV, doc, pm, an, cdv, ct, osl, rfl, l, c, .inr ⟨by simp, Td, _, [.none, .none], n', rfl, t, rfl, .cons rfl (.cons rfl .nil)⟩, .inl rfl⟩, k⟩
  obtain ⟨ds, v, hb⟩ := F.binds1 (ps := ["self", "left", "right", "kinds", "bars"]) 5 2 (by simp) (by rfl) (fun T kV doc pm an cdv ct us its hu hi => by
    match us, hu, its, hi with
    | [a, b, c, d, e], _, [x, y], _ => exact ⟨_, rfl, rfl⟩)
  cases v
  exact hb

theorem exm_own {K : PySem.W.Frag} {C : Addr} (a : PySem.W.subIn K (.ref C) (.type "BaseException") = some true) (ci : PySem.W.isClsIn K C = true) (ty : PySem.W.typeIn K (.ref C) = some (.type "type")) (su : PySem.W.subIn K (.ref C) (.ref C) = some true) : PySem.W.exmOne K (.ref C) (.ref C) = some true := by
  unfold PySem.W.exmOne
  rw [if_pos (by rw [a]; rfl)]
  show (if ((PySem.W.clsIn K C).isSome && PySem.W.typeIn K (.ref C) == some (.type "type")) = true then PySem.W.subIn K (.ref C) (.ref C) else none) = some true
  have ci : (PySem.W.clsIn K C).isSome = true := ci
  rw [if_pos (by rw [ci, ty]; rfl), su]
theorem xx_mk {P : Program} {K : PySem.W.Frag} {mg : Str → Option Value} {x f : Str} {C : Addr} {h : Heap} (X : K.In h) (E : EC P K mg x C [f]) (a : PySem.W.findIn K (.ref C) f = some none) (ci : PySem.W.isClsIn K C = true) (su : PySem.W.subIn K (.ref C) (.ref C) = some true) : XX K mg x f C := ⟨⟨E.is.1, E.is.2, E.oex.exC, E.is.4⟩, a, exm_own E.oex.exC ci E.oex.tyC su, E.gC⟩
structure Blt9 (mg : Str → Option Value) : Prop extends Blt7 mg where
  rep : mg "repr" = none
/-- what stands of the law itself -/
structure LawK (K : PySem.W.Frag) (mg : Str → Option Value) (f cc tb : Addr) (fd : FuncData) : Prop where
  mgf : mg "law" = some (.ref f)
  fn : ∃ (kV doc pm ct oc : Value) (an od : Option Addr) (osl : Array (Option Value)), fd = PySem.W.fnOf "law" "law" (fnArgs sLaw) (fnBody sLaw) (fnScope sLaw) .none kV doc pm an (.ref cc) ct ∧ K.lookup f = some ⟨oc, od, .func fd, osl⟩
  cod : PySem.W.codeIn K (.ref cc) "law" = true
  fld : ∃ (e : Value) (dd : Option Addr) (us : Array Value) (sl : Array (Option Value)), K.lookup cc = some ⟨e, dd, .fields us, sl⟩ ∧ us[11]? = some (.ref tb)
  non : K.lookup tb = none
  hd : PySem.W.codeHdIn K cc tb = true
theorem lawk_mk {K : PySem.W.Frag} {mg : Str → Option Value} {h : Heap} {f cc tb : Addr} {oc kV doc pm ct e : Value} {od an dd : Option Addr} {osl sl : Array (Option Value)} {us : Array Value} (X : K.In h) (G : h.Ns mainGlobals mg)
    (a : PySem.W.nsIn K mainGlobals "law" = some (some (.ref f))) (l : K.lookup f = some ⟨oc, od, .func (PySem.W.fnOf "law" "law" (fnArgs sLaw) (fnBody sLaw) (fnScope sLaw) .none kV doc pm an (.ref cc) ct), osl⟩)
    (c : PySem.W.codeIn K (.ref cc) "law" = true) (lc : K.lookup cc = some ⟨e, dd, .fields us, sl⟩) (h11 : us[11]? = some (.ref tb)) (nT : K.lookup tb = none) (hh : ∀ K' : PySem.W.Frag, K'.lookup cc = some ⟨e, dd, .fields us, sl⟩ → PySem.W.codeHdIn K' cc tb = true) :
    LawK K mg f cc tb (PySem.W.fnOf "law" "law" (fnArgs sLaw) (fnBody sLaw) (fnScope sLaw) .none kV doc pm an (.ref cc) ct) :=
  ⟨PySem.W.mg_of X G a, ⟨_, _, _, _, _, _, _, _, rfl, l⟩, c, ⟨_, _, _, _, lc, h11⟩, nT, hh K lc⟩

theorem all_ok {P : Program} {w : World} {K : PySem.W.Frag} {mg : Str → Option Value} {h : Heap} {fa C BR : Addr} (X : K.In h) (G : h.Ns mainGlobals mg) (hfa : mg "law" = some (.ref fa)) (T : Blt9 mg) (Gk : Gs mg) (L : LR K mg C) (hC : mg "Rule" = some (.ref C))
    (EB : EC P K mg "BadRule" BR ["word"]) (XB : XX K mg "BadRule" "word" BR)
    {f0 f1 f2 f3 f4 f5 f6 f7 f8 f9 f10 f11 f12 f13 f14 f15 f16 f17 f18 f19 f20 f21 f22 f23 f24 f25 f26 f27 f28 f29 f30 f31 f32 f33 f34 f35 f36 f37 f38 f39 fL cc tb g0 : Addr} {d0 d1 d2 d3 d4 d5 d6 d7 d8 d9 d10 d11 d12 d13 d14 d15 d16 d17 d18 d19 d20 d21 d22 d23 d24 d25 d26 d27 d28 d29 d30 d31 d32 d33 d34 d35 d36 d37 d38 d39 fdL h0 : FuncData} (D0 : Def K mg "is_row" sRow f0 d0) (D1 : Def K mg "is_word" sWord f1 d1) (D2 : Def K mg "is_word_list" sWL f2 d2) (D3 : Def K mg "is_hole" sHole f3 d3) (D4 : Def K mg "nodes_in_order" sNodes f4 d4) (D5 : Def K mg "filled" sFilled f5 d5) (D6 : Def K mg "as_tuples" sAsT f6 d6) (D7 : Def K mg "is_shape" sIsSh f7 d7) (D8 : Def K mg "holes_in" sHoI f8 d8) (D9 : Def K mg "labels_in" sLaI f9 d9) (D10 : Def K mg "is_left" sIsL f10 d10) (D11 : Def K mg "is_right" sIsR f11 d11) (D12 : Def K mg "are_labels" sArL f12 d12) (D13 : Def K mg "wrong_argument" sWrA f13 d13) (D14 : Def K mg "_law_fresh" sFresh f14 d14) (D15 : Def K mg "_law_take" sTake f15 d15) (D16 : Def K mg "_law_one" sOne f16 d16) (D17 : Def K mg "_law_mix" sMix f17 d17) (D18 : Def K mg "_law_same" sSame f18 d18) (D19 : Def K mg "_law_words" sWords f19 d19) (D20 : Def K mg "_law_rows" sRows f20 d20) (D21 : Def K mg "_law_many" sMany f21 d21) (D22 : Def K mg "_law_labels" sLabels f22 d22) (D23 : Def K mg "_law_tree" sTree f23 d23) (D24 : Def K mg "_law_holes" sHoles f24 d24) (D25 : Def K mg "_law_spots" sSpots f25 d25) (D26 : Def K mg "_law_shape" sShape f26 d26) (D27 : Def K mg "_law_unlike_holes" sUnl f27 d27) (D28 : Def K mg "_law_left" sLeft f28 d28) (D29 : Def K mg "_law_right" sRight f29 d29) (D30 : Def K mg "_law_rule" sRule f30 d30) (D31 : Def K mg "_law_rising" sRis f31 d31) (D32 : Def K mg "_law_is_word" sLW f32 d32) (D33 : Def K mg "_law_is_shape" sLS f33 d33) (D34 : Def K mg "_law_has_keep" sLK f34 d34) (D35 : Def K mg "_law_words_fit" sWf f35 d35) (D36 : Def K mg "_law_fault" sFt f36 d36) (D37 : Def K mg "_law_spoilt" sSp f37 d37) (D38 : Def K mg "_law_tried" sTd f38 d38) (D39 : Def K mg "_law_tuples" sLT f39 d39)
    (DL : LawK K mg fL cc tb fdL) (Mk0 : Mk K C g0) (Q0 : InitD K g0 h0)
    (e0 : d0.defaults = .none) (e1 : d1.defaults = .none) (e2 : d2.defaults = .none) (e3 : d3.defaults = .none) (e4 : d4.defaults = .none) (e5 : d5.defaults = .none) (e6 : d6.defaults = .none) (e7 : d7.defaults = .none) (e8 : d8.defaults = .none) (e9 : d9.defaults = .none) (e10 : d10.defaults = .none) (e11 : d11.defaults = .none) (e12 : d12.defaults = .none) (e13 : d13.defaults = .none) (e14 : d14.defaults = .none) (e15 : d15.defaults = .none) (e16 : d16.defaults = .none) (e17 : d17.defaults = .none) (e18 : d18.defaults = .none) (e19 : d19.defaults = .none) (e20 : d20.defaults = .none) (e21 : d21.defaults = .none) (e22 : d22.defaults = .none) (e23 : d23.defaults = .none) (e24 : d24.defaults = .none) (e25 : d25.defaults = .none) (e26 : d26.defaults = .none) (e27 : d27.defaults = .none) (e28 : d28.defaults = .none) (e29 : d29.defaults = .none) (e30 : d30.defaults = .none) (e31 : d31.defaults = .none) (e32 : d32.defaults = .none) (e33 : d33.defaults = .none) (e34 : d34.defaults = .none) (e35 : d35.defaults = .none) (e36 : d36.defaults = .none) (e37 : d37.defaults = .none) (e38 : d38.defaults = .none) (e39 : d39.defaults = .none) : XW.Knows P w K C8.CX0 "_law_script" mg fa (spLaw K) := by
  have e := hfa.symm.trans DL.mgf
  cases e
  obtain ⟨kV, doc, pm, ct, oc, an, od, osl, rfl, lk⟩ := DL.fn
  obtain ⟨e, dd, us, sl, lc, h11⟩ := DL.fld
  refine ⟨_, cc, tb, _, e, dd, us, sl, lk, rfl, rfl, lc, h11, DL.non, fun h X => PySem.W.codeHd_of_K X DL.hd, fun s v => .of_eq rfl, fun base _ _ TB hB => ?_⟩
  have b0 := D0.fn.binds (ps := ["thing"]) e0 fun _ _ _ _ _ _ us hl => match us, hl with | [_], _ => rfl
  have b1 := D1.fn.binds (ps := ["thing"]) e1 fun _ _ _ _ _ _ us hl => match us, hl with | [_], _ => rfl
  have b2 := D2.fn.binds (ps := ["thing"]) e2 fun _ _ _ _ _ _ us hl => match us, hl with | [_], _ => rfl
  have b3 := D3.fn.binds (ps := ["node"]) e3 fun _ _ _ _ _ _ us hl => match us, hl with | [_], _ => rfl
  have b4 := D4.fn.binds (ps := ["shape"]) e4 fun _ _ _ _ _ _ us hl => match us, hl with | [_], _ => rfl
  have b5 := D5.fn.binds (ps := ["shape", "contents"]) e5 fun _ _ _ _ _ _ us hl => match us, hl with | [_, _], _ => rfl
  have b6 := D6.fn.binds (ps := ["shape"]) e6 fun _ _ _ _ _ _ us hl => match us, hl with | [_], _ => rfl
  have b7 := D7.fn.binds (ps := ["thing"]) e7 fun _ _ _ _ _ _ us hl => match us, hl with | [_], _ => rfl
  have b8 := D8.fn.binds (ps := ["shape"]) e8 fun _ _ _ _ _ _ us hl => match us, hl with | [_], _ => rfl
  have b9 := D9.fn.binds (ps := ["shape"]) e9 fun _ _ _ _ _ _ us hl => match us, hl with | [_], _ => rfl
  have b10 := D10.fn.binds (ps := ["thing"]) e10 fun _ _ _ _ _ _ us hl => match us, hl with | [_], _ => rfl
  have b11 := D11.fn.binds (ps := ["thing", "holes"]) e11 fun _ _ _ _ _ _ us hl => match us, hl with | [_, _], _ => rfl
  have b12 := D12.fn.binds (ps := ["thing", "holes"]) e12 fun _ _ _ _ _ _ us hl => match us, hl with | [_, _], _ => rfl
  have b13 := D13.fn.binds (ps := ["left", "right", "kinds", "bars"]) e13 fun _ _ _ _ _ _ us hl => match us, hl with | [_, _, _, _], _ => rfl
  have b14 := D14.fn.binds (ps := ["_law_script"]) e14 fun _ _ _ _ _ _ us hl => match us, hl with | [_], _ => rfl
  have b15 := D15.fn.binds (ps := ["_law_state", "_law_many_here"]) e15 fun _ _ _ _ _ _ us hl => match us, hl with | [_, _], _ => rfl
  have b16 := D16.fn.binds (ps := ["_law_state", "_law_things"]) e16 fun _ _ _ _ _ _ us hl => match us, hl with | [_, _], _ => rfl
  have b17 := D17.fn.binds (ps := ["_law_state", "_law_things"]) e17 fun _ _ _ _ _ _ us hl => match us, hl with | [_, _], _ => rfl
  have b18 := D18.fn.binds (ps := ["_law_found", "_law_due"]) e18 fun _ _ _ _ _ _ us hl => match us, hl with | [_, _], _ => rfl
  have b19 := D19.fn.binds (ps := ["_law_state", "_law_many_here"]) e19 fun _ _ _ _ _ _ us hl => match us, hl with | [_, _], _ => rfl
  have b20 := D20.fn.binds (ps := ["_law_state", "_law_most"]) e20 fun _ _ _ _ _ _ us hl => match us, hl with | [_, _], _ => rfl
  have b21 := D21.fn.binds (ps := ["_law_rows_here", "_law_label"]) e21 fun _ _ _ _ _ _ us hl => match us, hl with | [_, _], _ => rfl
  have b22 := D22.fn.binds (ps := ["_law_rows_here"]) e22 fun _ _ _ _ _ _ us hl => match us, hl with | [_], _ => rfl
  have b23 := D23.fn.binds (ps := ["_law_state", "_law_rows_here", "_law_nodes"]) e23 fun _ _ _ _ _ _ us hl => match us, hl with | [_, _, _], _ => rfl
  have b24 := D24.fn.binds (ps := ["_law_shape_here"]) e24 fun _ _ _ _ _ _ us hl => match us, hl with | [_], _ => rfl
  have b25 := D25.fn.binds (ps := ["_law_shape_here"]) e25 fun _ _ _ _ _ _ us hl => match us, hl with | [_], _ => rfl
  have b26 := D26.fn.binds (ps := ["_law_state", "_law_rows_here", "_law_left_here", "_law_holes_here"]) e26 fun _ _ _ _ _ _ us hl => match us, hl with | [_, _, _, _], _ => rfl
  have b27 := D27.fn.binds (ps := ["_law_shape_here", "_law_words_here"]) e27 fun _ _ _ _ _ _ us hl => match us, hl with | [_, _], _ => rfl
  have b28 := D28.fn.binds (ps := ["_law_state", "_law_rows_here", "_law_most"]) e28 fun _ _ _ _ _ _ us hl => match us, hl with | [_, _, _], _ => rfl
  have b29 := D29.fn.binds (ps := ["_law_state", "_law_rows_here", "_law_left_here", "_law_most"]) e29 fun _ _ _ _ _ _ us hl => match us, hl with | [_, _, _, _], _ => rfl
  have b30 := D30.fn.binds (ps := ["_law_state", "_law_rows_here", "_law_most"]) e30 fun _ _ _ _ _ _ us hl => match us, hl with | [_, _, _], _ => rfl
  have b31 := D31.fn.binds (ps := ["_law_things"]) e31 fun _ _ _ _ _ _ us hl => match us, hl with | [_], _ => rfl
  have b32 := D32.fn.binds (ps := ["_law_x"]) e32 fun _ _ _ _ _ _ us hl => match us, hl with | [_], _ => rfl
  have b33 := D33.fn.binds (ps := ["_law_x"]) e33 fun _ _ _ _ _ _ us hl => match us, hl with | [_], _ => rfl
  have b34 := D34.fn.binds (ps := ["_law_shape_here"]) e34 fun _ _ _ _ _ _ us hl => match us, hl with | [_], _ => rfl
  have b35 := D35.fn.binds (ps := ["_law_x", "_law_holes_here"]) e35 fun _ _ _ _ _ _ us hl => match us, hl with | [_, _], _ => rfl
  have b36 := D36.fn.binds (ps := ["_law_rule_here"]) e36 fun _ _ _ _ _ _ us hl => match us, hl with | [_], _ => rfl
  have b37 := D37.fn.binds (ps := ["_law_state", "_law_rule_here", "_law_k"]) e37 fun _ _ _ _ _ _ us hl => match us, hl with | [_, _, _], _ => rfl
  have b38 := D38.fn.binds (ps := ["_law_rule_here"]) e38 fun _ _ _ _ _ _ us hl => match us, hl with | [_], _ => rfl
  have b39 := D39.fn.binds (ps := ["_law_thing"]) e39 fun _ _ _ _ _ _ us hl => match us, hl with | [_], _ => rfl
  have qRow := c_row (P := P) (w := w) (base := base) D0 b0 T.toBlt4
  have qWord := c_word (P := P) (w := w) (base := base) D1 b1 T.toBlt4 Gk
  have qWL := c_wl (P := P) (w := w) (base := base) D2 b2 T.toBlt4 qRow qWord
  have qHole := c_hole (P := P) (w := w) (base := base) D3 b3 T.toBlt4
  have qNodes := c_nodes (P := P) (w := w) (base := base) D4 b4 T.toBlt4 qHole
  have qFilled := c_filled (P := P) (w := w) (base := base) D5 b5 T.toBlt4 qNodes qHole
  have qAsT := c_asT (P := P) (w := w) (base := base) D6 b6 T.toBlt4 qFilled
  have qIsSh := c_isSh (P := P) (w := w) (base := base) D7 b7 T.toBlt4 qRow qWord
  have qHoI := c_hoI (P := P) (w := w) (base := base) D8 b8 T.toBlt4 qNodes qHole
  have qLaI := c_laI (P := P) (w := w) (base := base) D9 b9 T.toBlt4 qNodes qHole
  have qIsL := c_isL (P := P) (w := w) (base := base) D10 b10 T.toBlt4 T.set Gk qIsSh qHole qLaI qHoI
  have qIsR := c_isR (P := P) (w := w) (base := base) D11 b11 T.toBlt4 qIsSh qHoI
  have qArL := c_arL (P := P) (w := w) (base := base) D12 b12 T.toBlt4 qWL
  have qWrA := c_wrA (P := P) (w := w) (base := base) D13 b13 qIsL qIsR qHoI qArL
  have qRule := c_rI (P := P) (w := w) (base := base) Q0.fn T.toBlt7 L EB qWrA qAsT qHoI
  have qFresh := c_fresh (P := P) (w := w) (base := base) D14 b14 T.toBlt
  have qTake := c_take (P := P) (w := w) (base := base) D15 b15 T.toBlt
  have qOne := c_one (P := P) (w := w) (base := base) D16 b16 T.toBlt qTake
  have qMix := c_mix (P := P) (w := w) (base := base) D17 b17 T.toBlt qTake
  have qSame := c_same (P := P) (w := w) (base := base) D18 b18 T.toBlt2 70
  have qWords := c_words (P := P) (w := w) (base := base) D19 b19 T.toBlt qMix
  have qRows := c_rows (P := P) (w := w) (base := base) D20 b20 T.toBlt4 qTake qMix qWords
  have qMany := c_many (P := P) (w := w) (base := base) D21 b21 T.toBlt4
  have qLabels := c_labels (P := P) (w := w) (base := base) D22 b22 T.toBlt4
  have qTree := c_tree (P := P) (w := w) (base := base) D23 b23 T.toBlt4 qTake qOne qLabels qMany
  have qHoles := c_holes (P := P) (w := w) (base := base) D24 b24 T.toBlt4
  have qSpots := c_spots (P := P) (w := w) (base := base) D25 b25 T.toBlt4 30
  have qShape := c_shape (P := P) (w := w) (base := base) D26 b26 T.toBlt4 qTake qOne qMany 5
  have qUnl := c_unl (P := P) (w := w) (base := base) D27 b27 T.toBlt4 12
  have qLeft := c_left (P := P) (w := w) (base := base) D28 b28 T.toBlt4 qTake qOne qMany qWords qShape qUnl
  have qRight := c_right (P := P) (w := w) (base := base) D29 b29 T.toBlt4 T.any qTake (qTree 4) qShape (qHoles 30) qSpots
  have qDRule := c_rule (P := P) (w := w) (base := base) D30 b30 T.toBlt4 qTake qLabels qLeft qRight (qHoles 30)
  have qRis := c_ris (P := P) (w := w) (base := base) D31 b31 T.toBlt4
  have qLW := c_lw (P := P) (w := w) (base := base) D32 b32 T.toBlt4
  have qLS := c_ls (P := P) (w := w) (base := base) D33 b33 T.toBlt4 qLW 60
  have qLK := c_lk (P := P) (w := w) (base := base) D34 b34 T.toBlt7 60
  have qWf := c_wf (P := P) (w := w) (base := base) D35 b35 T.toBlt4 qLW
  have qFt := c_ft (P := P) (w := w) (base := base) D36 b36 T.toBlt7 qLS qLK (qHoles 40) qRis qWf
  have qSp := c_sp (P := P) (w := w) (base := base) D37 b37 T.toBlt4 qOne (qHoles 40)
  have qTd := c_td (P := P) (w := w) (base := base) D38 b38 T.toBlt4 L hC Mk0 qRule Q0.bi XB
  have qLT := c_lt (P := P) (w := w) (base := base) D39 b39 T.toBlt4 60
  exact c_law lk DL.cod hB { toBlt4 := T.toBlt4, rep := T.rep } qFresh qTake qRows qSame qDRule qSp qFt qLT qTd
theorem walk {l : PySem.W.OpenLaw} {q : Program} {loose : List Str} {XP : (Str → Option Value) → Heap → Prop} {YP : World → Heap → Prop} {d : DefRec} {K : Params → PySem.W.Frag} (hn : l.most = some 63) (hdf : d.params.defaults = []) (hrec : ((recsOf q).any fun e => e.name == d.name) = true) (himp : PyProof.Rows.importsNone q = true)
    (hY : ∀ (w : World) (h : Heap), YP w h → (K w.params).In h)
    (F : ∀ (w : World) (mg : Str → Option Value) (fa : Addr) (h : Heap), (K w.params).In h → h.Ns mainGlobals mg → mg d.name = some (.ref fa) → XW.Knows l.prog w (K w.params) C8.CX0 "_law_script" mg fa (spLaw (K w.params))) :
    PySem.W.WalkO q loose XP YP l.row.toRowW d [] (fun f vs => PySem.call f vs) :=
  XW.walk_ran1 (n := 63) (x := "_law_script") (CX := fun _ => C8.CX0) (sp := fun w => spLaw (K w.params)) hn (by decide) hdf hrec himp hY F (fun _ _ a _ ns _ _ hS => ⟨a, ns, rfl, hS, fun _ => rfl⟩) fun _ _ _ _ _ z => z
end K9

open PySem PySem.W PyProof.Rows
set_option maxRecDepth 100000 in
set_option maxHeartbeats 0 in
theorem PySem.Challenge.cw_secondruns_k09_rules_refused_holds : PySem.Challenge.rw_secondruns_k09_rules_refused.Holds := by
  w_on
  o_law
  k_head
  (case hw => w_witness2)
  k_fill
  refine K9.walk (l := PySem.Challenge.rw_secondruns_k09_rules_refused) rfl rfl ?RcsHere ?ImpHere (fun w h Y => PySem.W.kIn_of Y) ?F
  case RcsHere => rfl
  case ImpHere => rfl
  case F =>
    intro w mg fa h KX G hmg
    refine' K9.two (K9.def_mk (x := "is_row") (st := K9.sRow) KX G ?a1 ?l1 ?c1 ?k1) (fun D0 => ?_)
    case a1 => k_is
    case l1 => k_is
    case c1 => k_is
    case k1 => k_is
    refine' K9.two (K9.def_mk (x := "is_word") (st := K9.sWord) KX G ?a2 ?l2 ?c2 ?k2) (fun D1 => ?_)
    case a2 => k_is
    case l2 => k_is
    case c2 => k_is
    case k2 => k_is
    refine' K9.two (K9.def_mk (x := "is_word_list") (st := K9.sWL) KX G ?a3 ?l3 ?c3 ?k3) (fun D2 => ?_)
    case a3 => k_is
    case l3 => k_is
    case c3 => k_is
    case k3 => k_is
    refine' K9.two (K9.def_mk (x := "is_hole") (st := K9.sHole) KX G ?a4 ?l4 ?c4 ?k4) (fun D3 => ?_)
    case a4 => k_is
    case l4 => k_is
    case c4 => k_is
    case k4 => k_is
    refine' K9.two (K9.def_mk (x := "nodes_in_order") (st := K9.sNodes) KX G ?a5 ?l5 ?c5 ?k5) (fun D4 => ?_)
    case a5 => k_is
    case l5 => k_is
    case c5 => k_is
    case k5 => k_is
    refine' K9.two (K9.def_mk (x := "filled") (st := K9.sFilled) KX G ?a6 ?l6 ?c6 ?k6) (fun D5 => ?_)
    case a6 => k_is
    case l6 => k_is
    case c6 => k_is
    case k6 => k_is
    refine' K9.two (K9.def_mk (x := "as_tuples") (st := K9.sAsT) KX G ?a7 ?l7 ?c7 ?k7) (fun D6 => ?_)
    case a7 => k_is
    case l7 => k_is
    case c7 => k_is
    case k7 => k_is
    refine' K9.two (K9.def_mk (x := "is_shape") (st := K9.sIsSh) KX G ?a8 ?l8 ?c8 ?k8) (fun D7 => ?_)
    case a8 => k_is
    case l8 => k_is
    case c8 => k_is
    case k8 => k_is
    refine' K9.two (K9.def_mk (x := "holes_in") (st := K9.sHoI) KX G ?a9 ?l9 ?c9 ?k9) (fun D8 => ?_)
    case a9 => k_is
    case l9 => k_is
    case c9 => k_is
    case k9 => k_is
    refine' K9.two (K9.def_mk (x := "labels_in") (st := K9.sLaI) KX G ?a10 ?l10 ?c10 ?k10) (fun D9 => ?_)
    case a10 => k_is
    case l10 => k_is
    case c10 => k_is
    case k10 => k_is
    refine' K9.two (K9.def_mk (x := "is_left") (st := K9.sIsL) KX G ?a11 ?l11 ?c11 ?k11) (fun D10 => ?_)
    case a11 => k_is
    case l11 => k_is
    case c11 => k_is
    case k11 => k_is
    refine' K9.two (K9.def_mk (x := "is_right") (st := K9.sIsR) KX G ?a12 ?l12 ?c12 ?k12) (fun D11 => ?_)
    case a12 => k_is
    case l12 => k_is
    case c12 => k_is
    case k12 => k_is
    refine' K9.two (K9.def_mk (x := "are_labels") (st := K9.sArL) KX G ?a13 ?l13 ?c13 ?k13) (fun D12 => ?_)
    case a13 => k_is
    case l13 => k_is
    case c13 => k_is
    case k13 => k_is
    refine' K9.two (K9.def_mk (x := "wrong_argument") (st := K9.sWrA) KX G ?a14 ?l14 ?c14 ?k14) (fun D13 => ?_)
    case a14 => k_is
    case l14 => k_is
    case c14 => k_is
    case k14 => k_is
    refine' K9.two (K9.def_mk (x := "_law_fresh") (st := K9.sFresh) KX G ?a15 ?l15 ?c15 ?k15) (fun D14 => ?_)
    case a15 => k_is
    case l15 => k_is
    case c15 => k_is
    case k15 => k_is
    refine' K9.two (K9.def_mk (x := "_law_take") (st := K9.sTake) KX G ?a16 ?l16 ?c16 ?k16) (fun D15 => ?_)
    case a16 => k_is
    case l16 => k_is
    case c16 => k_is
    case k16 => k_is
    refine' K9.two (K9.def_mk (x := "_law_one") (st := K9.sOne) KX G ?a17 ?l17 ?c17 ?k17) (fun D16 => ?_)
    case a17 => k_is
    case l17 => k_is
    case c17 => k_is
    case k17 => k_is
    refine' K9.two (K9.def_mk (x := "_law_mix") (st := K9.sMix) KX G ?a18 ?l18 ?c18 ?k18) (fun D17 => ?_)
    case a18 => k_is
    case l18 => k_is
    case c18 => k_is
    case k18 => k_is
    refine' K9.two (K9.def_mk (x := "_law_same") (st := K9.sSame) KX G ?a19 ?l19 ?c19 ?k19) (fun D18 => ?_)
    case a19 => k_is
    case l19 => k_is
    case c19 => k_is
    case k19 => k_is
    refine' K9.two (K9.def_mk (x := "_law_words") (st := K9.sWords) KX G ?a20 ?l20 ?c20 ?k20) (fun D19 => ?_)
    case a20 => k_is
    case l20 => k_is
    case c20 => k_is
    case k20 => k_is
    refine' K9.two (K9.def_mk (x := "_law_rows") (st := K9.sRows) KX G ?a21 ?l21 ?c21 ?k21) (fun D20 => ?_)
    case a21 => k_is
    case l21 => k_is
    case c21 => k_is
    case k21 => k_is
    refine' K9.two (K9.def_mk (x := "_law_many") (st := K9.sMany) KX G ?a22 ?l22 ?c22 ?k22) (fun D21 => ?_)
    case a22 => k_is
    case l22 => k_is
    case c22 => k_is
    case k22 => k_is
    refine' K9.two (K9.def_mk (x := "_law_labels") (st := K9.sLabels) KX G ?a23 ?l23 ?c23 ?k23) (fun D22 => ?_)
    case a23 => k_is
    case l23 => k_is
    case c23 => k_is
    case k23 => k_is
    refine' K9.two (K9.def_mk (x := "_law_tree") (st := K9.sTree) KX G ?a24 ?l24 ?c24 ?k24) (fun D23 => ?_)
    case a24 => k_is
    case l24 => k_is
    case c24 => k_is
    case k24 => k_is
    refine' K9.two (K9.def_mk (x := "_law_holes") (st := K9.sHoles) KX G ?a25 ?l25 ?c25 ?k25) (fun D24 => ?_)
    case a25 => k_is
    case l25 => k_is
    case c25 => k_is
    case k25 => k_is
    refine' K9.two (K9.def_mk (x := "_law_spots") (st := K9.sSpots) KX G ?a26 ?l26 ?c26 ?k26) (fun D25 => ?_)
    case a26 => k_is
    case l26 => k_is
    case c26 => k_is
    case k26 => k_is
    refine' K9.two (K9.def_mk (x := "_law_shape") (st := K9.sShape) KX G ?a27 ?l27 ?c27 ?k27) (fun D26 => ?_)
    case a27 => k_is
    case l27 => k_is
    case c27 => k_is
    case k27 => k_is
    refine' K9.two (K9.def_mk (x := "_law_unlike_holes") (st := K9.sUnl) KX G ?a28 ?l28 ?c28 ?k28) (fun D27 => ?_)
    case a28 => k_is
    case l28 => k_is
    case c28 => k_is
    case k28 => k_is
    refine' K9.two (K9.def_mk (x := "_law_left") (st := K9.sLeft) KX G ?a29 ?l29 ?c29 ?k29) (fun D28 => ?_)
    case a29 => k_is
    case l29 => k_is
    case c29 => k_is
    case k29 => k_is
    refine' K9.two (K9.def_mk (x := "_law_right") (st := K9.sRight) KX G ?a30 ?l30 ?c30 ?k30) (fun D29 => ?_)
    case a30 => k_is
    case l30 => k_is
    case c30 => k_is
    case k30 => k_is
    refine' K9.two (K9.def_mk (x := "_law_rule") (st := K9.sRule) KX G ?a31 ?l31 ?c31 ?k31) (fun D30 => ?_)
    case a31 => k_is
    case l31 => k_is
    case c31 => k_is
    case k31 => k_is
    refine' K9.two (K9.def_mk (x := "_law_rising") (st := K9.sRis) KX G ?a32 ?l32 ?c32 ?k32) (fun D31 => ?_)
    case a32 => k_is
    case l32 => k_is
    case c32 => k_is
    case k32 => k_is
    refine' K9.two (K9.def_mk (x := "_law_is_word") (st := K9.sLW) KX G ?a33 ?l33 ?c33 ?k33) (fun D32 => ?_)
    case a33 => k_is
    case l33 => k_is
    case c33 => k_is
    case k33 => k_is
    refine' K9.two (K9.def_mk (x := "_law_is_shape") (st := K9.sLS) KX G ?a34 ?l34 ?c34 ?k34) (fun D33 => ?_)
    case a34 => k_is
    case l34 => k_is
    case c34 => k_is
    case k34 => k_is
    refine' K9.two (K9.def_mk (x := "_law_has_keep") (st := K9.sLK) KX G ?a35 ?l35 ?c35 ?k35) (fun D34 => ?_)
    case a35 => k_is
    case l35 => k_is
    case c35 => k_is
    case k35 => k_is
    refine' K9.two (K9.def_mk (x := "_law_words_fit") (st := K9.sWf) KX G ?a36 ?l36 ?c36 ?k36) (fun D35 => ?_)
    case a36 => k_is
    case l36 => k_is
    case c36 => k_is
    case k36 => k_is
    refine' K9.two (K9.def_mk (x := "_law_fault") (st := K9.sFt) KX G ?a37 ?l37 ?c37 ?k37) (fun D36 => ?_)
    case a37 => k_is
    case l37 => k_is
    case c37 => k_is
    case k37 => k_is
    refine' K9.two (K9.def_mk (x := "_law_spoilt") (st := K9.sSp) KX G ?a38 ?l38 ?c38 ?k38) (fun D37 => ?_)
    case a38 => k_is
    case l38 => k_is
    case c38 => k_is
    case k38 => k_is
    refine' K9.two (K9.def_mk (x := "_law_tried") (st := K9.sTd) KX G ?a39 ?l39 ?c39 ?k39) (fun D38 => ?_)
    case a39 => k_is
    case l39 => k_is
    case c39 => k_is
    case k39 => k_is
    refine' K9.two (K9.def_mk (x := "_law_tuples") (st := K9.sLT) KX G ?a40 ?l40 ?c40 ?k40) (fun D39 => ?_)
    case a40 => k_is
    case l40 => k_is
    case c40 => k_is
    case k40 => k_is
    refine' K9.two (K9.lawk_mk KX G ?a ?l ?c ?lc ?h11 ?nT ?hh) (fun DL => ?_)
    case a => k_is
    case l => k_is
    case c => k_is
    case lc => k_is
    case h11 => rfl
    case nT => rfl
    case hh => (intro K' e; unfold PySem.W.codeHdIn; rw [e]; rfl)
    refine' K9.two (K9.ns_mk (x := "Rule") KX G ?h42) (fun hC => ?_)
    case h42 => k_is
    refine' K9.two (K9.mk_mk KX hC ?m43a ?m43b ?m43c ?m43d) (fun Mk0 => ?_)
    case m43a => k_is
    case m43b => k_is
    case m43c => k_is
    case m43d => k_is
    refine' K9.two (K9.init_mk Mk0 ?n43a ?n43b ?n43c ?n43d) (fun Q0 => ?_)
    case n43a => k_is
    case n43b => k_is
    case n43c => k_is
    case n43d => k_is
    refine' K9.two (K9.lr_mk KX hC ?f44_0 ?f44_1 ?f44_2 ?f44_3 ?f44_4 ?f44_5 ?f44_6 ?f44_7) (fun L => ?_)
    case f44_0 => k_is
    case f44_1 => k_is
    case f44_2 => k_is
    case f44_3 => k_is
    case f44_4 => k_is
    case f44_5 => k_is
    case f44_6 => k_is
    case f44_7 => k_is
    refine' K9.two (A := XI.EC PySem.Challenge.rw_secondruns_k09_rules_refused.prog _ mg "BadRule" ?BR ["word"]) ?e45 (fun EB => ?_)
    case e45 =>
      refine' K9.ec_mk K9.txt_BadRule KX G ?aC ?lC ?ini ?lI ?lc ?ld ?hbm ?hv ?hfile ?htop ?su ?cI ?sa ?exC ?tyC ?kC ?hg ?hk ?hd ?ha ?hn ?ht ?hm ?sup ?ity ?opa ?suB ?suC ?nf
      (case aC => k_is); (case lC => k_is); (case ini => k_is); (case lI => k_is); (case lc => k_is); (case ld => k_is); (case hbm => decide +kernel); (case hv => rfl); (case hfile => decide +kernel); (case htop => decide +kernel)
      (case su => k_is); (case cI => k_is); (case sa => k_is); (case exC => k_is); (case tyC => k_is); (case kC => k_is); (case hg => k_is); (case hk => k_is); (case hd => k_is); (case ha => k_is); (case hn => k_is); (case ht => k_is); (case hm => k_is); (case sup => ks_is); (case ity => k_is); (case opa => k_is); (case suB => k_is); (case suC => k_is)
      case nf => (intro f hf; obtain rfl := List.mem_singleton.mp hf; k_is)
    refine' K9.two (K9.xx_mk KX EB ?f46_0 ?f46_1 ?f46_2) (fun XB => ?_)
    case f46_0 => k_is
    case f46_1 => k_is
    case f46_2 => k_is
    have T : K9.Blt9 mg := { len := PySem.W.mg_none_of KX G (by k_is), abs := PySem.W.mg_none_of KX G (by k_is), int := PySem.W.mg_none_of KX G (by k_is), list := PySem.W.mg_none_of KX G (by k_is), isi := PySem.W.mg_none_of KX G (by k_is), tup := PySem.W.mg_none_of KX G (by k_is), boo := PySem.W.mg_none_of KX G (by k_is), all := PySem.W.mg_none_of KX G (by k_is), zip := PySem.W.mg_none_of KX G (by k_is), ran := PySem.W.mg_none_of KX G (by k_is), enu := PySem.W.mg_none_of KX G (by k_is), str := PySem.W.mg_none_of KX G (by k_is), dic := PySem.W.mg_none_of KX G (by k_is), any := PySem.W.mg_none_of KX G (by k_is), set := PySem.W.mg_none_of KX G (by k_is), srt := PySem.W.mg_none_of KX G (by k_is), rep := PySem.W.mg_none_of KX G (by k_is) }
    refine' K9.two (K9.cn_mk (x := "LETTERS") KX G ?q47) (fun g1 => ?_)
    case q47 => k_is
    refine' K9.two (K9.cn_mk (x := "LONGEST_WORD") KX G ?q48) (fun g2 => ?_)
    case q48 => k_is
    refine' K9.two (K9.cn_mk (x := "KEEP") KX G ?q49) (fun g3 => ?_)
    case q49 => k_is
    exact K9.all_ok KX G hmg T ⟨⟨_, g1, ⟨_, rfl⟩⟩, ⟨_, g2, ⟨_, rfl⟩⟩, ⟨_, g3, ⟨_, rfl⟩⟩⟩ L hC EB XB D0 D1 D2 D3 D4 D5 D6 D7 D8 D9 D10 D11 D12 D13 D14 D15 D16 D17 D18 D19 D20 D21 D22 D23 D24 D25 D26 D27 D28 D29 D30 D31 D32 D33 D34 D35 D36 D37 D38 D39 DL Mk0 Q0 rfl rfl rfl rfl rfl rfl rfl rfl rfl rfl rfl rfl rfl rfl rfl rfl rfl rfl rfl rfl rfl rfl rfl rfl rfl rfl rfl rfl rfl rfl rfl rfl rfl rfl rfl rfl rfl rfl rfl rfl
