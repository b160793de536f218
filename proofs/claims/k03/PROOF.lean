import PyProof.Rows.All
import Wide.All
import OpenK.AllK
import Wide.FinOn
import HandS.ForMost
import HandS.Codes
import HandS.Wide
import HandS.IsInst
import HandS.ExcIs
import HandS.Zip
import HandS.Style
import HandS.DeepEq
import PyProof.NeKinds
import KE.GoesMore
import KE.GoesEnum
import HandS.Conv
import HandS.More
import KE.KDictList
import HandS.DictComp
import HandS.Star
import PySem.Challenge.RW_secondruns_k03_trees_told
set_option Elab.async false
set_option linter.all false
set_option maxRecDepth 100000
set_option maxHeartbeats 4000000
namespace KC
open PySem PySem.Spec PyProof.Rows L2 C8
def top (i : Nat) : Stmt := PySem.Challenge.pw_secondruns_k03_trees_told.main.body.getD i (.Pass ⟨0, 0, 0, 0⟩)
abbrev sFresh : Stmt := top 19
abbrev sTake : Stmt := top 20
abbrev sOne : Stmt := top 21
example : (match sFresh with | .FunctionDef (name := n) .. => n | _ => "") = ("_law_fresh" : Str) := by rfl

/-- the state of the draws, at a -/
def StAt (B : Nat) (H : Hp) (a l : Addr) : Prop := ∃ (ns : List Int) (i c h n : Int), H a = some (.lst [.ref l, .int i, .int c, .int h, .int n]) ∧ H l = some (.lst (ns.map V.int)) ∧
  0 ≤ i ∧ 0 ≤ c ∧ 0 ≤ h ∧ h < 2147483647 ∧ 0 ≤ n ∧ n ≤ B ∧ ns.length ≤ 40
/-- all but what stands at a is as it was -/
def But (a : Addr) (H H' : Hp) : Prop := ∀ b o, H b = some o → b ≠ a → H' b = some o
theorem iteBt {c : Bool} {A B : Prop} (hc : c = true) (h : A) : if c = true then A else B := by rw [if_pos hc]; exact h
theorem iteBf {c : Bool} {A B : Prop} (hc : c = false) (h : B) : if c = true then A else B := by rw [if_neg (by rw [hc]; exact Bool.false_ne_true)]; exact h
def spTake : Sp := fun vs H Q _ => ∃ (a : Addr) (m : Int) (B : Nat) (l : Addr), vs = [.ref a, .int m] ∧ 0 < m ∧ m < 1073741824 ∧ StAt B H a l ∧ B < 1000000000000000 ∧
  ∀ (d : Int) (H' : Hp), 0 ≤ d → d < m → StAt (B + 1) H' a l → But a H H' → Q (.int d) H'
theorem scTake : FnScope ["_law_state", "_law_many_here", "_law_cell", "_law_digit", "_law_one_here", "_law_two"] ["_law_state", "_law_many_here"] (fnScope sTake) := fnScope_by (by decide +kernel)
section
variable {P : Program} {w : World} {K : PySem.W.Frag} {mg : Str → Option Value} {base : Heap}
structure Blt (mg : Str → Option Value) : Prop where
  len : mg "len" = none
  abs : mg "abs" = none
  int : mg "int" = none
  list : mg "list" = none
theorem c_take {f : Addr} {fd : FuncData} (F : Def K mg "_law_take" sTake f fd) (b : Binds K fd ["_law_state", "_law_many_here"] []) (T : Blt mg) : Cal P w K mg base 1 "_law_take" spTake [] := by
  refine cal0 F b .nil scTake (fun vs H Q E h => ?_) (fun cdv A outer s H vs Q E hr h => ?_)
  · obtain ⟨a, m, B, l, rfl, _⟩ := h
    rfl
  · obtain ⟨a, m, B, l, rfl, m0, m1, ⟨ns, i, c, h, n, ha, hl, i0, c0, h0, h1, n0, n1, nl⟩, hB, k⟩ := h
    have nd := scTake.nd
    refine ⟨_, pss_cons (ps_asg (pe_op op_add (pe_ix ix_list (pv 0) pe_int fun _ _ => rfl) pe_int) (pg_sub (pv 0) pe_int set_list))
      (pss_cut (ps_while PassesOwn.never
          (pw_and (pt_cmp (pc_eqI (pe_ix ix_list (pv 0) pe_int fun _ _ => rfl) pe_int))
            (pw_and1 (pt_cmp (pc_lt (pe_ix ix_list (pv 0) pe_int fun _ _ => rfl) (pe_callB call_len_seq (by rfl) T.len PySem.boot_len (pa_cons (pe_ix ix_list (pv 0) pe_int fun _ _ => rfl) pa_nil)))))).pt
          (pss_cons (ps_set (i := 2) nd rfl (Or.inl rfl) (pe_callB call_abs (by rfl) T.abs (by decide +kernel) (pa_cons (pe_ix ix_list (pe_ix ix_list (pv 0) pe_int fun _ _ => rfl) (pe_ix ix_list (pv 0) pe_int fun _ _ => rfl) fun _ _ => rfl) pa_nil)))
          (pss_cons (ps_asg (pe_op op_add (pe_ix ix_list (pv 0) pe_int fun _ _ => rfl) pe_int) (pg_sub (pv 0) pe_int set_list))
          (pss_one (ps_if (pt_cmp (pc_ge (pv 2) (pe_op op_pow pe_int pe_int)))
            (pss_one (ps_asg (pv 2) (pg_sub (pv 0) pe_int set_list)))
            (pss_one (ps_asg (pe_op op_mod (pe_callTy call_int1 (by rfl) T.int (by decide +kernel) (pa_cons (pe_op op_add (pe_op op_add (pe_op op_mul (pe_ix ix_list (pv 0) pe_int fun _ _ => rfl) pe_int) (pv 2)) pe_int) pa_nil)) pe_int) (pg_sub (pv 0) pe_int set_list))))))))
      (pss_cons (ps_if (pt_cmp (pc_gt (pe_ix ix_list (pv 0) pe_int fun _ _ => rfl) pe_int))
          (pss_cons (ps_set (i := 3) nd rfl (Or.inl rfl) (pe_op op_mod (pe_callTy call_int1 (by rfl) T.int (by decide +kernel) (pa_cons (pe_ix ix_list (pv 0) pe_int fun _ _ => rfl) pa_nil)) (pv 1)))
          (pss_cons (ps_asg (pe_op op_fdiv (pe_ix ix_list (pv 0) pe_int fun _ _ => rfl) (pv 1)) (pg_sub (pv 0) pe_int set_list))
          (pss_one (ps_ret (pv 3))))) pss_nil)
      (pss_cons (ps_set (i := 4) nd rfl (Or.inl rfl) (pe_op op_mod (pe_callTy call_int1 (by rfl) T.int (by decide +kernel) (pa_cons (pe_op op_pow (pe_op op_add (pe_op op_add (pe_ix ix_list (pv 0) pe_int fun _ _ => rfl) (pe_op op_mul pe_int (pe_ix ix_list (pv 0) pe_int fun _ _ => rfl))) pe_int) pe_int) pa_nil)) pe_int))
      (pss_cons (ps_set (i := 5) nd rfl (Or.inl rfl) (pe_op op_mod (pe_callTy call_int1 (by rfl) T.int (by decide +kernel) (pa_cons (pe_op op_pow (pe_op op_add (pv 4) (pe_op op_mul pe_int (pe_ix ix_list (pv 0) pe_int fun _ _ => rfl))) pe_int) pa_nil)) pe_int))
      (pss_one (ps_ret (pe_op op_mod (pe_callTy call_int1 (by rfl) T.int (by decide +kernel) (pa_cons (pe_op op_fdiv (pv 5) pe_int) pa_nil)) (pv 1)))))))), ?_⟩
    have gA : ∀ xs : List V, (upd H a (.lst xs)) a = some (.lst xs) := fun _ => upd_same
    have nla : l ≠ a := ne_of hl ha (by intro z; have z' := congrArg (fun o : HO => match o with | .lst xs => xs.head? | _ => none) z; cases ns <;> cases z')
    have gl : ∀ o, (upd H a o) l = some (.lst (ns.map V.int)) := fun o => by rw [upd_ne nla]; exact hl
    have fin : ∀ (d i' c' h' : Int), 0 ≤ d → d < m → 0 ≤ i' → 0 ≤ c' → 0 ≤ h' → h' < 2147483647 → Q (.int d) (upd H a (.lst [.ref l, .int i', .int c', .int h', .int (n + 1)])) := fun d i' c' h' d0 d1 e1 e2 e3 e4 =>
      k d _ d0 d1 ⟨ns, i', c', h', n + 1, upd_same, gl _, e1, e2, e3, e4, by omega, by omega, nl⟩ fun b o e hb => by rw [upd_ne hb]; exact e
    -- _law_state[4] = _law_state[4] + 1
    refine ⟨_, rfl, a, _, 4, _, rfl, rfl, SqL.of ha, rfl, n, 1, rfl, rfl, _, rfl, a, _, 4, 4, rfl, rfl, ha, rfl, ?_⟩
    show tSeq _ _ _ _ (upd H a (.lst [.ref l, .int i, .int c, .int h, .int (n + 1)]))
    have rd : ∀ {xs : List V} {σ : L2.St} {z : Int} {v : V} {Q : VK}, σ[0]? = some (some (.ref a)) → atI xs z = some v → Q v (upd H a (.lst xs)) → tOp (rIxL K) (tVar 0) (tC (.int z)) σ (upd H a (.lst xs)) Q :=
      fun h1 h2 q => ⟨_, h1, a, _, _, _, rfl, rfl, SqL.of upd_same, h2, q⟩
    have st : ∀ {xs : List V} {σ : L2.St} {z : Int} {j : Nat} {v : V} {Q : L2.St → Hp → Prop}, σ[0]? = some (some (.ref a)) → ixN xs.length z = some j → Q σ (upd H a (.lst (xs.set j v))) → gSub (tVar 0) (tC (.int z)) rSetL v σ (upd H a (.lst xs)) Q :=
      fun h1 h2 q => ⟨_, h1, a, _, _, _, rfl, rfl, upd_same, h2, by rw [upd_upd]; exact q⟩
    -- while
    refine ⟨fun σ H' => ∃ (i c h : Int) (v2 : Option V), σ = [some (.ref a), some (.int m), v2, none, none, none] ∧ H' = upd H a (.lst [.ref l, .int i, .int c, .int h, .int (n + 1)]) ∧ 0 ≤ i ∧ 0 ≤ c ∧ 0 ≤ h ∧ h < 2147483647, ?_, ?_⟩
    · refine ⟨fun μ σ H' => ∃ (i c h : Int) (v2 : Option V), μ = ns.length - i.toNat ∧ σ = [some (.ref a), some (.int m), v2, none, none, none] ∧ H' = upd H a (.lst [.ref l, .int i, .int c, .int h, .int (n + 1)]) ∧ 0 ≤ i ∧ 0 ≤ c ∧ 0 ≤ h ∧ h < 2147483647,
        ⟨_, i, c, h, none, rfl, rfl, rfl, i0, c0, h0, h1⟩, ?_⟩
      rintro μ σ H' ⟨i, c, h, v2, rfl, rfl, rfl, i0, c0, h0, h1⟩
      refine rd rfl rfl ⟨c, 0, rfl, rfl, _, rfl, ?_⟩
      refine ite2 (fun hc => ?_) (fun hc => ?_)
      · refine rd rfl rfl (rd rfl rfl ⟨l, _, rfl, .inl (SqL.of (gl _)), i, _, rfl, rfl, _, rfl, ?_⟩)
        by_cases hi : i < ns.length
        · have hlt : i.toNat < ns.length := by omega
          have hx : atI (ns.map V.int) i = some (.int ns[i.toNat]) := at_of (j := i.toNat) (by omega) (by simp [hlt])
          refine iteBt (decide_eq_true (by rw [List.length_map]; exact hi)) ?_
          refine ⟨fun σ H' => ∃ (c h : Int) (v2 : Option V), σ = [some (.ref a), some (.int m), v2, none, none, none] ∧ H' = upd H a (.lst [.ref l, .int (i + 1), .int c, .int h, .int (n + 1)]) ∧ 0 ≤ c ∧ 0 ≤ h ∧ h < 2147483647, ?_, ?_⟩
          · rintro σ' H' ⟨c, h, v2, rfl, rfl, c0, h0, h1⟩
            exact ⟨_, by omega, i + 1, c, h, v2, rfl, rfl, rfl, by omega, c0, h0, h1⟩
          -- _law_cell = abs(..)
          refine rd rfl rfl (rd rfl rfl ⟨l, _, i, _, rfl, rfl, SqL.of (gl _), hx, _, rfl, ?_⟩)
          generalize hz : (if ns[i.toNat] < 0 then -ns[i.toNat] else ns[i.toNat]) = z
          have z0 : 0 ≤ z := by rw [← hz]; split <;> omega
          -- _law_state[1] = _law_state[1] + 1
          refine rd rfl rfl ⟨i, 1, rfl, rfl, st rfl rfl ?_⟩
          -- if
          refine ⟨_, rfl, 10, 18, rfl, rfl, ⟨by decide, by decide, by decide⟩, z, _, rfl, rfl, _, rfl, ite2 (fun _ => ?_) (fun _ => ?_)⟩
          · exact ⟨_, rfl, st rfl rfl ⟨z, h, some (.int z), rfl, rfl, z0, h0, h1⟩⟩
          · refine rd rfl rfl ⟨h, 131, rfl, rfl, .inl ⟨by omega, by omega⟩, _, rfl, _, _, rfl, rfl, _, _, rfl, rfl, .inl ⟨_, rfl, _, _, rfl, rfl, (by show (0 : Int) < 2147483647; decide), st rfl rfl ⟨c, _, some (.int z), rfl, rfl, c0, Int.emod_nonneg _ (by decide), Int.emod_lt_of_pos _ (by decide)⟩⟩⟩
        · refine iteBf (decide_eq_false (by rw [List.length_map]; exact hi)) ?_
          exact ⟨i, c, h, v2, rfl, rfl, i0, c0, h0, h1⟩
      · exact iteF ⟨i, c, h, v2, rfl, rfl, i0, c0, h0, h1⟩
    · rintro σ H' ⟨i, c, h, v2, rfl, rfl, i0, c0, h0, h1⟩
      refine rd rfl rfl ⟨c, 0, rfl, rfl, _, rfl, ite2 (fun hc => ?_) (fun hc => ?_)⟩
      · have hc : 0 < c := of_decide_eq_true hc
        refine rd rfl rfl (.inl ⟨c, rfl, _, rfl, c, m, rfl, rfl, m0, ?_⟩)
        refine rd rfl rfl ⟨_, rfl, c, m, rfl, rfl, ⟨m0, m1⟩, st rfl rfl ⟨_, rfl, ?_⟩⟩
        exact fin _ _ _ _ (Int.emod_nonneg _ (by omega)) (Int.emod_lt_of_pos _ m0) i0 (Int.ediv_nonneg c0 (by omega)) h0 h1
      · refine rd rfl rfl (rd rfl rfl ⟨7919, n + 1, rfl, rfl, .inl ⟨by decide, by decide⟩, h, _, rfl, rfl, _, 5, rfl, rfl, _, 3, rfl, rfl, ⟨by decide, by decide, by omega⟩, .inl ⟨_, rfl, _, _, rfl, rfl, (by show (0 : Int) < 1000000007; decide), ?_⟩⟩)
        generalize ho : (h + 7919 * (n + 1) + 5) ^ (3 : Int).toNat % 1000000007 = o
        have o0 : 0 ≤ o := by rw [← ho]; exact Int.emod_nonneg _ (by decide)
        have o1 : o < 1000000007 := by rw [← ho]; exact Int.emod_lt_of_pos _ (by decide)
        refine ⟨.int o, (by subst ho; rfl), rd rfl rfl ⟨31, n + 1, rfl, rfl, .inl ⟨by decide, by decide⟩, o, _, rfl, rfl, _, 3, rfl, rfl, ⟨by decide, by decide, by omega⟩, .inl ⟨_, rfl, _, _, rfl, rfl, (by show (0 : Int) < 998244353; decide), ?_⟩⟩⟩
        refine ⟨_, rfl, _, 3, rfl, rfl, ⟨by decide, by decide⟩, .inl ⟨_, rfl, _, rfl, _, m, rfl, rfl, m0, ?_⟩⟩
        exact fin _ _ _ _ (Int.emod_nonneg _ (by omega)) (Int.emod_lt_of_pos _ m0) i0 c0 h0 h1
end
end KC


namespace KC
open PySem PySem.Spec PyProof.Rows L2 C8
theorem cut40 (ns : List Int) : cutV (ns.map V.int) none (some 40) = (ns.take 40).map V.int := by
  unfold cutV HT.sIx
  simp only [show ¬ ((40 : Int) < 0) by decide, if_false, List.drop_zero, Nat.sub_zero, ← List.map_take, List.length_map]
  congr 1
  by_cases h : ns.length ≤ 40
  · rw [List.take_of_length_le h, List.take_of_length_le (by omega)]
  · congr 1
    omega
def spFresh (K : PySem.W.Frag) : Sp := fun vs H Q _ => ∃ (a : Addr) (ns : List Int), vs = [.ref a] ∧ SqL K H a (ns.map V.int) ∧ ∀ (st l : Addr) (H' : Hp), H st = none → H l = none → Same H H' → StAt 0 H' st l → Q (.ref st) H'
def spOne : Sp := fun vs H Q _ => ∃ (st th : Addr) (xs : List V) (B : Nat) (l : Addr), vs = [.ref st, .ref th] ∧ (H th = some (.lst xs) ∨ H th = some (.tup xs)) ∧ th ≠ st ∧ 0 < xs.length ∧ xs.length < 1000000 ∧ StAt B H st l ∧ B < 1000000000000000 ∧
  ∀ (v : V) (H' : Hp), v ∈ xs → StAt (B + 1) H' st l → But st H H' → Q v H'
theorem scFresh : FnScope ["_law_script"] ["_law_script"] (fnScope sFresh) := fnScope_by (by decide +kernel)
theorem scOne : FnScope ["_law_state", "_law_things"] ["_law_state", "_law_things"] (fnScope sOne) := fnScope_by (by decide +kernel)
section
variable {P : Program} {w : World} {K : PySem.W.Frag} {mg : Str → Option Value} {base : Heap}
theorem c_fresh {f : Addr} {fd : FuncData} (F : Def K mg "_law_fresh" sFresh f fd) (b : Binds K fd ["_law_script"] []) (T : Blt mg) : Cal P w K mg base 1 "_law_fresh" (spFresh K) [] := by
  refine cal0 F b .nil scFresh (fun vs H Q E h => ?_) (fun cdv A outer s H vs Q E hr h => ?_)
  · obtain ⟨a, ns, rfl, _⟩ := h
    rfl
  · obtain ⟨a, ns, rfl, hS, k⟩ := h
    refine ⟨_, pss_one (ps_ret (pe_lst (pa_cons (pe_callTy call_list_of (by rfl) T.list (by decide +kernel) (pa_cons (pe_slice sl_list (pv 0) po_none (po_some pe_int)) pa_nil))
      (pa_cons pe_int (pa_cons pe_int (pa_cons pe_int (pa_cons pe_int pa_nil))))))), ?_⟩
    refine ⟨_, rfl, 40, rfl, a, _, rfl, hS, fun p np => ⟨p, _, rfl, .inl (SqL.of upd_same), fun l nl => ⟨(by show 5 ≤ sizeLine; decide), fun st nst => ?_⟩⟩⟩
    have nl' := nl
    have npl : p ≠ l := ne_of_none upd_same nl
    rw [upd_ne npl.symm] at nl
    have nst2 : st ≠ l := fun z => by rw [z, upd_same] at nst; cases nst
    rw [upd_ne nst2] at nst
    have nst3 : st ≠ p := fun z => by rw [z, upd_same] at nst; cases nst
    rw [upd_ne nst3] at nst
    refine k st l _ nst nl (fun b o e => ?_) ⟨ns.take 40, 0, 0, 0, 0, upd_same, ?_, by decide, by decide, by decide, by decide, by decide, by decide, List.length_take_le _ _⟩
    · rw [upd_ne (ne_of_none e nst), upd_ne (ne_of_none e nl), upd_ne (ne_of_none e np)]
      exact e
    · rw [upd_ne nst2.symm, upd_same, cut40]
theorem c_one {f : Addr} {fd : FuncData} (F : Def K mg "_law_one" sOne f fd) (b : Binds K fd ["_law_state", "_law_things"] []) (T : Blt mg) (C : Cal P w K mg base 1 "_law_take" spTake []) : Cal P w K mg base 2 "_law_one" spOne [] := by
  refine cal0 F b .nil scOne (fun vs H Q E h => ?_) (fun cdv A outer s H vs Q E hr h => ?_)
  · obtain ⟨st, th, xs, B, l, rfl, _⟩ := h
    rfl
  · obtain ⟨st, th, xs, B, l, rfl, hx, ne, l0, l1, hst, hB, k⟩ := h
    refine ⟨_, pss_one (ps_ret (pe_ix ix_seq (pv 1) (pe_c C hr (Nat.le_refl _) (by rfl) (pa_cons (pv 0) (pa_cons (pe_callB call_len_seq (by rfl) T.len PySem.boot_len (pa_cons (pv 1) pa_nil)) pa_nil))) fun _ _ => rfl)), ?_⟩
    have hs : SqL K H th xs ∨ SqT K H th xs := hx.elim (fun z => .inl (SqL.of z)) fun z => .inr (SqT.of z)
    refine ⟨_, rfl, _, rfl, _, rfl, th, xs, rfl, hs, st, (xs.length : Int), B, l, rfl, by omega, by omega, hst, hB, fun d H' d0 d1 hst' but => ?_⟩
    have hd : d.toNat < xs.length := by omega
    have at' : atI xs d = some xs[d.toNat] := at_of (j := d.toNat) (by omega) (by simp [hd])
    have fin := k _ H' (List.getElem_mem hd) hst' but
    rcases hx with hx | hx
    · exact .inl ⟨th, xs, d, _, rfl, rfl, SqL.of (but _ _ hx ne), at', fin⟩
    · exact .inr (.inl ⟨th, xs, d, _, rfl, rfl, SqT.of (but _ _ hx ne), at', fin⟩)
end
end KC

namespace KC
open PySem PySem.Spec PyProof.Rows L2 C8
abbrev sSame : Stmt := top 23
/-- a dict that may be told equal to itself -/
def DicOk (kvs : List (Key × V)) : Prop := ∀ p ∈ kvs, valV kvs p.1 = some p.2 ∧ flatB p.2 = true
/-- what stands for one thing: flat, or a dict -/
def Leaf (H : Hp) (x : V) : Prop := flatV x = true ∨ ∃ a kvs, x = .ref a ∧ H a = some (.dK kvs) ∧ DicOk kvs
def Thing (H : Hp) (x : V) : Prop := Leaf H x ∨ ∃ a xs, x = .ref a ∧ (H a = some (.lst xs) ∨ H a = some (.tup xs)) ∧ (∀ y ∈ xs, flatV y = true) ∧ xs.length ≤ 10
theorem Leaf.same {H H' : Hp} {x : V} (s : Same H H') (h : Leaf H x) : Leaf H' x := h.imp id fun ⟨a, kvs, e, q, d⟩ => ⟨a, kvs, e, s _ _ q, d⟩
theorem Thing.same {H H' : Hp} {x : V} (s : Same H H') (h : Thing H x) : Thing H' x := h.imp (Leaf.same s) fun ⟨a, xs, e, q, r⟩ => ⟨a, xs, e, q.imp (s _ _) (s _ _), r⟩
theorem same_upd {H : Hp} {p : Addr} {o : HO} (np : H p = none) : Same H (upd H p o) := fun b u e => by
  rw [upd_ne (ne_of_none e np)]
  exact e
theorem pe_bt {X : Cx} {x : Str} {pos : Pos} (n : String) (hm : X.mg x = none) (hg : Gl X x := by rfl) (hv : bootBuiltins x = some (.type n) := by decide +kernel) (hn : x ≠ "__name__" := by decide) (hd : (x == ("__debug__" : Str)) = false := by decide) : PE X (.Name x pos) (tC (.ty n)) :=
  pe_bltn hg hm hv rfl hn hd
def spSame0 : Sp := fun vs H Q _ => ∃ x : V, vs = [x, x] ∧ Leaf H x ∧ ∀ H', Same H H' → Q (.bl true) H'
def spSame1 : Sp := fun vs H Q _ => ∃ x : V, vs = [x, x] ∧ Thing H x ∧ ∀ H', Same H H' → Q (.bl true) H'
theorem scSame : FnScope ["_law_found", "_law_due", "_law_x", "_law_y"] ["_law_found", "_law_due"] (fnScope sSame) := fnScope_by (by decide +kernel)
structure Blt2 (mg : Str → Option Value) : Prop extends Blt mg where
  isi : mg "isinstance" = none
  tup : mg "tuple" = none
  boo : mg "bool" = none
  all : mg "all" = none
  zip : mg "zip" = none
/-- the types of leaves -/
def leafTy : List String := ["NoneType", "bool", "int", "str", "dict"]
theorem leaf_ty {K : PySem.W.Frag} {H : Hp} {x : V} (h : Leaf H x) : ∃ T ∈ leafTy, (∀ H', Same H H' → TyX K H' x (.type T)) ∧ (scal x x = true ∨ ((T == "int" || T == "bool") = false ∧ ∃ a kvs, x = .ref a ∧ H a = some (.dK kvs) ∧ DicOk kvs)) := by
  rcases h with h | ⟨a, kvs, rfl, e, dk⟩
  · cases x with
    | non => exact ⟨"NoneType", by decide, fun _ _ => .base .non, .inl rfl⟩
    | bl b => exact ⟨"bool", by decide, fun _ _ => .base (.bl b), .inl rfl⟩
    | int i => exact ⟨"int", by decide, fun _ _ => .base (.int i), .inl rfl⟩
    | str z => exact ⟨"str", by decide, fun _ _ => .base (.str z), .inl rfl⟩
    | _ => cases h
  · exact ⟨"dict", by decide, fun H' s => .base (.dK (s _ _ e)), .inr ⟨by decide, a, kvs, rfl, e, dk⟩⟩
section
variable {P : Program} {w : World} {K : PySem.W.Frag} {mg : Str → Option Value} {base : Heap}
theorem kitLT {T : String} (h : T ∈ leafTy) : PySem.W.kitAny K (.type T) [.type "list", .type "tuple"] = some false ∧ PySem.W.kitAny K (.type T) [.type "int", .type "list", .type "tuple"] = some (T == "int" || T == "bool") ∧
    PySem.W.kitOne K (.type T) (.type "int") = some (T == "int" || T == "bool") ∧ PySem.W.kitOne K (.type T) (.type "bool") = some (T == "bool") := by
  have z : ∀ T ∈ leafTy, kitB T "list" = some false ∧ kitB T "tuple" = some false ∧ kitB T "int" = some (T == "int" || T == "bool") ∧ kitB T "bool" = some (T == "bool") := by decide +kernel
  obtain ⟨h1, h2, h3, h4⟩ := z T h
  have lt : PySem.W.kitAny K (.type T) [.type "list", .type "tuple"] = some false := kitAny_cons (kit_ty h1) (fun _ => kitAny_cons (kit_ty h2) (fun _ => kitAny_nil) fun z => by cases z) fun z => by cases z
  refine ⟨lt, kitAny_cons (kit_ty h3) (fun e => ?_) (fun e => e), kit_ty h3, kit_ty h4⟩
  rw [e]
  exact lt
theorem c_same0 {f : Addr} {fd : FuncData} (F : Def K mg "_law_same" sSame f fd) (b : Binds K fd ["_law_found", "_law_due"] []) (T : Blt2 mg) : Cal P w K mg base 1 "_law_same" spSame0 [] := by
  refine cal0 F b .nil scSame (fun vs H Q E h => ?_) (fun cdv A outer s H vs Q E hr h => ?_)
  · obtain ⟨x, rfl, _⟩ := h
    rfl
  · obtain ⟨x, rfl, hx, k⟩ := h
    have hu : (A.deeper (envOfC "_law_same" (fnScope sSame) s.heap.objs.size f cdv)).units + 64 < cLine := by have := hr.un; omega
    refine ⟨_, pss_cons (ps_if (pt_val (pe_callB call_isiT (by rfl) T.isi (by decide +kernel) (pa_cons (pv 1) (pa_cons (pe_tup (pa_cons (pe_bt "list" T.list) (pa_cons (pe_bt "tuple" T.tup) pa_nil))) pa_nil)))) pss_never pss_nil)
      (pss_cons (ps_if (pt_val (pe_callB call_isi (by rfl) T.isi (by decide +kernel) (pa_cons (pv 1) (pa_cons (pe_bt "int" T.int) pa_nil))))
          (pss_one (ps_ret (pe_and (pe_callB call_isi (by rfl) T.isi (by decide +kernel) (pa_cons (pv 0) (pa_cons (pe_bt "int" T.int) pa_nil)))
            (pe_and (pe_cmpR op_eq (pe_callB call_isi (by rfl) T.isi (by decide +kernel) (pa_cons (pv 0) (pa_cons (pe_bt "bool" T.boo) pa_nil))) (pe_callB call_isi (by rfl) T.isi (by decide +kernel) (pa_cons (pv 1) (pa_cons (pe_bt "bool" T.boo) pa_nil))) (nomark _))
              (pe_one (pe_cmpR op_eq (pv 0) (pv 1) (nomark _))))))) pss_nil)
      (pss_one (ps_ret (pe_and (pe_cmpR op_isBl (pe_callB call_isiT (by rfl) T.isi (by decide +kernel) (pa_cons (pv 0) (pa_cons (pe_tup (pa_cons (pe_bt "int" T.int) (pa_cons (pe_bt "list" T.list) (pa_cons (pe_bt "tuple" T.tup) pa_nil)))) pa_nil))) pe_bl (nomark _))
        (pe_one (pe_cmpR (op_eq.or (op_eqV hu)) (pv 0) (pv 1) (nomark _))))))), ?_⟩
    obtain ⟨Ty, hT, ty, hs⟩ := leaf_ty (K := K) hx
    obtain ⟨k1, k2, k3, k4⟩ := kitLT (K := K) hT
    refine ⟨_, rfl, (by show 2 ≤ sizeLine; decide), fun p np => ⟨x, p, [.ty "list", .ty "tuple"], _, _, false, rfl, upd_same, .cons (.ty _) (.cons (.ty _) .nil), ty _ (same_upd np), k1, false, rfl, iteF ?_⟩⟩
    have s1 : Same H (upd H p (.tup [.ty "list", .ty "tuple"])) := same_upd np
    refine ⟨_, rfl, x, .ty "int", _, _, _, rfl, .ty _, ty _ s1, k3, _, rfl, ite2 (fun hi => ?_) (fun hi => ?_)⟩
    · have hsc : scal x x = true := by
        rcases hs with z | ⟨z, _⟩
        · exact z
        · rw [z] at hi
          cases hi
      refine ⟨_, rfl, x, .ty "int", _, _, _, rfl, .ty _, ty _ s1, k3, _, rfl, iteBt hi ?_⟩
      refine ⟨_, rfl, x, .ty "bool", _, _, _, rfl, .ty _, ty _ s1, k4, _, rfl, x, .ty "bool", _, _, _, rfl, .ty _, ty _ s1, k4, rfl, _, rfl, iteBt (decide_eq_true rfl) ?_⟩
      refine ⟨_, rfl, _, rfl, hsc, ?_⟩
      rw [decide_eq_true rfl]
      exact k _ s1
    · have hi : (Ty == "int" || Ty == "bool") = false := by simpa using hi
      rw [hi] at k2
      refine ⟨_, rfl, (by show 3 ≤ sizeLine; decide), fun p2 np2 => ?_⟩
      have s2 : Same H (upd (upd H p (.tup [.ty "list", .ty "tuple"])) p2 (.tup [.ty "int", .ty "list", .ty "tuple"])) := s1.trans (same_upd np2)
      refine ⟨x, p2, [.ty "int", .ty "list", .ty "tuple"], _, _, false, rfl, upd_same, .cons (.ty _) (.cons (.ty _) (.cons (.ty _) .nil)), ty _ s2, k2, false, false, rfl, rfl, _, rfl, iteBt (decide_eq_true rfl) ?_⟩
      refine ⟨_, rfl, _, rfl, ?_⟩
      rcases hs with hsc | ⟨_, a, kvs, rfl, e, dk⟩
      · refine .inl ⟨hsc, ?_⟩
        rw [decide_eq_true rfl]
        exact k _ s2
      · refine .inr ⟨1, by decide, .inr ⟨a, a, kvs, kvs, rfl, rfl, s2 _ _ e, s2 _ _ e, rfl, fun p hp => ⟨p.2, (dk p hp).1, .inl ⟨rfl, (dk p hp).2⟩⟩⟩, k _ s2⟩
end
end KC

namespace KC
open PySem PySem.Spec PyProof.Rows L2 C8
/-! rules of my own: a list beside [], a tuple beside (), xs.extend(tuple), x not in names -/
section
variable {X : Cx}
def rNeNil (K : PySem.W.Frag) : R2 := fun x y H Q => ∃ a b xs, x = .ref a ∧ y = .ref b ∧ SqL K H a xs ∧ SqL K H b [] ∧ Q (.bl (!xs.isEmpty)) H
theorem op_neNil (hu : X.A.units + 64 < cLine) : OpR X (compareOp .NotEq) (rNeNil X.K) := by
  intro pins s σ H x y v u Q I rx ry h
  obtain ⟨a, b, xs, rfl, rfl, ha, hb, q⟩ := h
  cases rx
  cases ry
  obtain ⟨us, r1, p1, _⟩ := I.list ha
  obtain ⟨ws, r2, p2, _⟩ := I.list hb
  cases r2
  have fin : ∀ b : Bool, b = !xs.isEmpty → (EP X pins σ Q) (.bool b) s := fun b e => ⟨.bl b, H, I, rfl, by rw [e]; exact q⟩
  cases r1 with
  | nil => exact SeqAt.RcNeAt.lists (e := fun _ => true) p1.isList p2.isList rfl (by omega) (fun j h1 h2 => absurd h1 (by simp)) _ _ _ _ (fin false rfl)
  | cons r t => exact SeqAt.RcNeAt.lists_lengths p1.isList p2.isList (by simp) (by omega) _ _ _ _ (fin true rfl)
def rEqNilT (K : PySem.W.Frag) : R2 := fun x y H Q => ∃ a b xs, x = .ref a ∧ y = .ref b ∧ SqT K H a xs ∧ SqT K H b [] ∧ Q (.bl xs.isEmpty) H
theorem op_eqNilT (hu : X.A.units + 64 < cLine) : OpR X (compareOp .Eq) (rEqNilT X.K) := by
  intro pins s σ H x y v u Q I rx ry h
  obtain ⟨a, b, xs, rfl, rfl, ha, hb, q⟩ := h
  cases rx
  cases ry
  obtain ⟨us, r1, p1, _⟩ := I.tuple ha
  obtain ⟨ws, r2, p2, _⟩ := I.tuple hb
  cases r2
  have fin : ∀ b : Bool, b = xs.isEmpty → (EP X pins σ Q) (.bool b) s := fun b e => ⟨.bl b, H, I, rfl, by rw [e]; exact q⟩
  refine SeqAt.RcAt.tuples (e := fun _ => true) p1 p2 (by omega) (fun j h1 h2 => absurd h2 (by simp)) _ _ _ _ (fin _ ?_)
  cases r1 with
  | nil => rfl
  | cons r t => simp
theorem extT (l : Addr) (xs : Array Value) (n : Nat) (b : Addr) (ys : Array Value) (m : Nat) (dd : Option Addr) (sl : Array (Option Value)) (h0 : ¬(!xs.isEmpty && Builtin.List.listTooLong (xs.size + ys.size)) = true) (h1 : xs.size ≤ sizeLine) (h2 : xs.size + ys.size ≤ sizeLine + 1) :
    Meets (Builtin.«list.extend» ⟨[.ref l, .ref b], []⟩) (fun _ R s =>
      s.heap.get? l = some { cls := .type "list", dict := none, data := .seq xs n, slots := #[] } ∧
        s.heap.get? b = some { cls := .type "tuple", dict := dd, data := .seq ys m, slots := sl } ∧
          R (.ok (.ret Value.none)) { s with heap := s.heap.update l (Obj.mapSeq fun x => x ++ ys), toks := s.toks }) :=
  .of_wp fun prog w A R s h => by
    obtain ⟨hp, g0, d0, t0, o0⟩ := s
    obtain ⟨kl, kb, h⟩ := h
    have z1 := AutoSeq1.sub_tuple_tuple
    have z2 := AutoSeq1.sub_list_list
    have z3 := AutoSeq1.sub_tuple_list
    have z4 := AutoSeq1.sub_list_tuple
    have z5 : (xs ++ ys).size ≤ sizeLine + 1 := by rw [Array.size_append]; exact h2
    wp_walk using (wpAny_updateSeq kl rfl (hz := h1) (_hz' := z5)), AutoSeq1.wpAny_loadPart' kl, AutoSeq1.wpAny_loadPart' kb
    exact ⟨_, rfl, h⟩
def rExtendT (K : PySem.W.Frag) : V → List V → Hp → VK → Prop := fun x vs H Q => ∃ l b xs zs, x = .ref l ∧ vs = [.ref b] ∧ H l = some (.lst xs) ∧ SqT K H b zs ∧ xs.length + zs.length ≤ sizeLine ∧ Q .non (upd H l (.lst (xs ++ zs)))
theorem mt_extendT : MtM X "list.extend" (rExtendT X.K) := by
  intro pins s σ H x vs v us Q I rx rv h
  obtain ⟨l, b, xs, zs, rfl, rfl, hH, hB, hz, q⟩ := h
  cases rx
  obtain ⟨u, rfl, ru⟩ := rv.one
  cases ru
  obtain ⟨z, its, n, r, hl, e⟩ := I.lstM hH
  obtain ⟨its2, r2, ⟨⟨cls, dd, data, sl⟩, e2, hc, m, hd⟩, _⟩ := I.tuple hB
  simp only at hc hd
  subst hc hd
  have n1 := r.length
  have n2 := r2.length
  have hsz : its.toArray.size + its2.toArray.size ≤ sizeLine := by rw [List.size_toArray, List.size_toArray]; omega
  have hlong : ¬ (!its.toArray.isEmpty && Builtin.List.listTooLong (its.toArray.size + its2.toArray.size)) = true := by
    rw [notLongL hsz, Bool.and_false]
    exact Bool.false_ne_true
  refine call_meets F.slot_list_extend ⟨_, e, rfl⟩ F.entry_list_extend (F.args_list_extend_2 _ _)
    (extT l its.toArray n b its2.toArray m dd sl hlong (by rw [List.size_toArray]; omega) (by omega)) ⟨e, e2, ?_⟩
  refine ⟨.non, _, I.lset (its' := its ++ its2) hH e (by simp) (r.append r2) ?_, rfl, q⟩
  rw [List.length_append]
  omega
/-- x is one of these texts; x flat, a list or a tuple -/
def isOf (x : V) (ls : List Str) : Bool := match x with
  | .str z => ls.any fun y => y == z
  | _ => false
def SeqOf (K : PySem.W.Frag) (H : Hp) (x : V) : Prop := ∃ a xs, x = .ref a ∧ (SqL K H a xs ∨ SqT K H a xs)
def rNotOf (K : PySem.W.Frag) : R2 := fun x y H Q => ∃ p ls, y = .ref p ∧ (SqL K H p (ls.map V.str) ∨ SqT K H p (ls.map V.str)) ∧ (flatV x = true ∨ SeqOf K H x) ∧ Q (.bl (!isOf x ls)) H
theorem isOf_flat {x : V} (h : flatV x = true) (ls : List Str) : inV x (ls.map V.str) = isOf x ls := by
  unfold inV
  rw [List.any_map]
  cases x with
  | str z =>
    show ls.any _ = ls.any _
    congr 1
  | non => exact List.any_eq_false.mpr fun y _ => by simp [eqV]
  | bl b => exact List.any_eq_false.mpr fun y _ => by simp [eqV]
  | int b => exact List.any_eq_false.mpr fun y _ => by simp [eqV]
  | _ => cases h
theorem op_notOf (hu : X.A.units + 64 < cLine) : OpR X (compareOp .NotIn) (rNotOf X.K) := by
  intro pins s σ H x y v u Q I rx ry h
  obtain ⟨p, ls, rfl, hq, hx | ⟨a, xs, rfl, hx⟩, q⟩ := h
  · refine op_notIn_seq pins s σ H x (.ref p) v u Q I rx ry ⟨p, _, rfl, hq, hx, List.all_eq_true.mpr fun y hy => ?_, ?_⟩
    · obtain ⟨z, _, rfl⟩ := List.mem_map.mp hy
      rfl
    · rw [isOf_flat hx]
      exact q
  · cases rx
    cases ry
    have he : ∀ {us : List Value}, Vals (ls.map V.str) us → ∀ w ∈ us, SeqAt.EqAt X.A.in1 s w (.ref a) false := by
      intro us r w hw
      obtain ⟨z, t, rfl⟩ : ∃ z t, w = .str z t := by
        clear hq hx q
        induction ls generalizing us with
        | nil => cases r; cases hw
        | cons z ls ih =>
          cases r with
          | cons r t =>
            rcases List.mem_cons.mp hw with rfl | hw
            · obtain ⟨t, rfl⟩ := r
              exact ⟨z, t, rfl⟩
            · exact ih t hw
      have hu' : X.A.in1.units < cLine := by show X.A.units + 1 < cLine; omega
      rcases hx with hx | hx
      · obtain ⟨_, _, pl, _⟩ := I.list hx
        exact SeqAt.EqAt.str_list z t pl.isList hu'
      · obtain ⟨_, _, pl, _⟩ := I.tuple hx
        exact SeqAt.EqAt.str_tuple z t pl hu'
    have no : ∀ us : List Value, (us.toArray.any fun _ => false) = false := fun us => by simp
    rcases hq with hq | hq
    · obtain ⟨its, r, pl, hz⟩ := I.list hq
      refine SeqAt.notIn_listAt (fun _ => false) pl.isList (fun w hw => he r w (by simpa using hw)) ⟨.bl _, H, I, rfl, ?_⟩
      rw [no]
      exact q
    · obtain ⟨its, r, pl, hz⟩ := I.tuple hq
      refine SeqAt.notIn_tupleAt (fun _ => false) pl (fun w hw => he r w (by simpa using hw)) ⟨.bl _, H, I, rfl, ?_⟩
      rw [no]
      exact q
end
end KC

namespace KC
open PySem PySem.Spec PyProof.Rows L2 C8
abbrev sMix : Stmt := top 22
abbrev sWords : Stmt := top 24
theorem StAt.mono {B B' : Nat} {H : Hp} {a l : Addr} (h : B ≤ B') (s : StAt B H a l) : StAt B' H a l := by
  obtain ⟨ns, i, c, h0, n, e1, e2, r1, r2, r3, r4, r5, r6, r7⟩ := s
  exact ⟨ns, i, c, h0, n, e1, e2, r1, r2, r3, r4, r5, by omega, r7⟩
theorem StAt.keeps {B : Nat} {H H' : Hp} {a l : Addr} (h : StAt B H a l) (s : ∀ o, H a = some o → H' a = some o) (s' : ∀ o, H l = some o → H' l = some o) : StAt B H' a l := by
  obtain ⟨ns, i, c, h0, n, e1, e2, r⟩ := h
  exact ⟨ns, i, c, h0, n, s _ e1, s' _ e2, r⟩
theorem StAt.same {B : Nat} {H H' : Hp} {a l : Addr} (s : Same H H') (h : StAt B H a l) : StAt B H' a l := h.keeps (s _) (s _)
theorem StAt.put {B : Nat} {H : Hp} {a l p : Addr} {o : HO} (h : StAt B H a l) (h1 : p ≠ a) (h2 : p ≠ l) : StAt B (upd H p o) a l := h.keeps (fun _ e => by rw [upd_ne h1.symm]; exact e) fun _ e => by rw [upd_ne h2.symm]; exact e
theorem StAt.st {B : Nat} {H : Hp} {a l : Addr} (h : StAt B H a l) : ∃ o, H a = some o := by
  obtain ⟨ns, i, c, h0, n, e1, _⟩ := h
  exact ⟨_, e1⟩
theorem StAt.cl {B : Nat} {H : Hp} {a l : Addr} (h : StAt B H a l) : ∃ o, H l = some o := by
  obtain ⟨ns, i, c, h0, n, e1, e2, _⟩ := h
  exact ⟨_, e2⟩
theorem StAt.new {B : Nat} {H : Hp} {a l p : Addr} (h : StAt B H a l) (n : H p = none) : p ≠ a ∧ p ≠ l := by
  obtain ⟨o, e1⟩ := h.st
  obtain ⟨o', e2⟩ := h.cl
  exact ⟨(ne_of_none e1 n).symm, (ne_of_none e2 n).symm⟩
theorem But.refl {a : Addr} {H : Hp} : But a H H := fun _ _ e _ => e
theorem But.trans {a : Addr} {H H' H'' : Hp} (h : But a H H') (h' : But a H' H'') : But a H H'' := fun b o e n => h' b o (h b o e n) n
theorem Same.but {a : Addr} {H H' : Hp} (h : Same H H') : But a H H' := fun b o e _ => h b o e
theorem But.upd {a p : Addr} {o : HO} {H H' : Hp} (h : But a H H') (hp : H p = none) : But a H (upd H' p o) := fun b u e n => by
  rw [upd_ne (ne_of_none e hp)]
  exact h b u e n
theorem perm_erase : ∀ {xs : List V} {k : Nat} (h : k < xs.length), (xs[k] :: xs.eraseIdx k).Perm xs
  | x :: xs, 0, _ => List.Perm.refl _
  | x :: xs, k + 1, h => (List.Perm.swap _ _ _).trans ((perm_erase (xs := xs) (k := k) (Nat.lt_of_succ_lt_succ h)).cons x)
def spMix : Sp := fun vs H Q _ => ∃ (st th : Addr) (xs : List V) (B : Nat) (cl : Addr), vs = [.ref st, .ref th] ∧ H th = some (.lst xs) ∧ xs.length ≤ 1000 ∧ StAt B H st cl ∧ B + xs.length < 1000000000000000 ∧
  ∀ (l : Addr) (ys : List V) (H' : Hp), H l = none → ys.Perm xs → H' l = some (.lst ys) → StAt (B + xs.length) H' st cl → But st H H' → Q (.ref l) H'
abbrev NMix : List Str := ["_law_state", "_law_things", "_law_left", "_law_found"]
theorem scMix : FnScope NMix ["_law_state", "_law_things"] (fnScope sMix) := fnScope_by (by decide +kernel)
section
variable {P : Program} {w : World} {K : PySem.W.Frag} {mg : Str → Option Value} {base : Heap}
theorem c_mix {f : Addr} {fd : FuncData} (F : Def K mg "_law_mix" sMix f fd) (b : Binds K fd ["_law_state", "_law_things"] []) (T : Blt mg) (C : Cal P w K mg base 1 "_law_take" spTake []) : Cal P w K mg base 2 "_law_mix" spMix [] := by
  refine cal0 F b .nil scMix (fun vs H Q E h => ?_) (fun cdv A outer s H vs Q E hr h => ?_)
  · obtain ⟨st, th, xs, B, cl, rfl, _⟩ := h
    rfl
  · obtain ⟨st, th, xs, B, cl, rfl, hx, l1, hst, hB, k⟩ := h
    have nd := scMix.nd
    have hu : (A.deeper (envOfC "_law_mix" (fnScope sMix) s.heap.objs.size f cdv)).units + 64 < cLine := by have := hr.un; omega
    refine ⟨_, pss_cons (ps_par (i := 2) (j := 3) rfl nd rfl rfl (by decide) rfl rfl (pa_cons (pe_callTy call_list_of (by rfl) T.list (by decide +kernel) (pa_cons (pv 1) pa_nil)) (pa_cons (pe_lst pa_nil) pa_nil)) (by rfl))
      (pss_cons (ps_while PassesOwn.never (pt_cmpR (op_neNil hu) (pv 2) (pe_lst pa_nil) (nomark _))
        (pss_one (ps_expr (pe_bm PySem.F.plainAttrs_list PySem.F.slot_list_append PySem.F.type_list_append mt_append (pv 3) (pa_cons
          (pe_bm PySem.F.plainAttrs_list PySem.F.slot_list_pop PySem.F.type_list_pop mt_popAt (pv 2) (pa_cons (pe_c C hr (Nat.le_refl _) (by rfl) (pa_cons (pv 0) (pa_cons (pe_callB call_len_seq (by rfl) T.len PySem.boot_len (pa_cons (pv 2) pa_nil)) pa_nil))) pa_nil)) pa_nil)))))
      (pss_one (ps_ret (pv 3)))), ?_⟩
    refine ⟨_, rfl, th, xs, rfl, .inl (SqL.of hx), fun L nL => ⟨(by show 0 ≤ sizeLine; decide), fun Fd nF => ⟨_, _, rfl, ?_⟩⟩⟩
    have nLF : L ≠ Fd := ne_of_none upd_same nF
    have nF : H Fd = none := by rw [upd_ne nLF.symm] at nF; exact nF
    obtain ⟨La, Lc⟩ := hst.new nL
    obtain ⟨Fa, Fc⟩ := hst.new nF
    let Iv : Nat → L2.St → Hp → Prop := fun m σ H' => ∃ xl yf : List V, xl.length = m ∧ σ = [some (.ref st), some (.ref th), some (.ref L), some (.ref Fd)] ∧ H' L = some (.lst xl) ∧ H' Fd = some (.lst yf) ∧ (xl ++ yf).Perm xs ∧ StAt (B + yf.length) H' st cl ∧ But st H H'
    refine ⟨Iv, ⟨xs.length, xs, [], rfl, rfl, by rw [upd_ne nLF, upd_same], upd_same, by simp, (hst.put La Lc).put Fa Fc, (Same.but fun b o e => ?_)⟩, ?_⟩
    · rw [upd_ne (ne_of_none e nF), upd_ne (ne_of_none e nL)]
      exact e
    rintro m σ H1 ⟨xl, yf, rfl, rfl, hL, hF, hp, hs1, hb1⟩
    have hlen := hp.length_eq
    rw [List.length_append] at hlen
    refine ⟨_, rfl, (by show 0 ≤ sizeLine; decide), fun p np => ⟨L, p, xl, rfl, rfl, SqL.of (by rw [upd_ne (ne_of_none hL np)]; exact hL), SqL.of upd_same, _, rfl, ?_⟩⟩
    have pL := ne_of_none hL np
    have pF := ne_of_none hF np
    obtain ⟨pa, pc⟩ := hs1.new np
    have hs2 : StAt (B + yf.length) (upd H1 p (.lst [])) st cl := hs1.put pa pc
    have hb2 : But st H (upd H1 p (.lst [])) := hb1.trans (Same.but fun b o e => by rw [upd_ne (ne_of_none e np)]; exact e)
    have hL2 : (upd H1 p (.lst [])) L = some (.lst xl) := by rw [upd_ne pL]; exact hL
    have hF2 : (upd H1 p (.lst [])) Fd = some (.lst yf) := by rw [upd_ne pF]; exact hF
    generalize upd H1 p (.lst []) = H2 at hs2 hb2 hL2 hF2
    cases hxl : xl with
    | nil =>
      subst hxl
      refine iteBf rfl ⟨_, rfl, ?_⟩
      exact k Fd yf H2 nF hp hF2 (hs2.mono (by simp at hlen; omega)) hb2
    | cons x0 xt =>
      rw [← hxl]
      have hpos : 0 < xl.length := by rw [hxl]; exact Nat.succ_pos _
      refine iteBt (by rw [hxl]; rfl) ?_
      refine ⟨Iv (xl.length - 1), fun σ' H' hI => ⟨_, by omega, hI⟩, ?_⟩
      refine ⟨_, rfl, .inl ⟨rfl, _, SqL.of hF2⟩, _, rfl, .inl ⟨rfl, _, SqL.of hL2⟩, _, rfl, _, rfl, L, xl, rfl, .inl (SqL.of hL2), ?_⟩
      refine ⟨st, xl.length, B + yf.length, cl, rfl, by omega, by omega, hs2, by omega, fun d H3 d0 d1 hs3 hb3 => ?_⟩
      have hL3 := hb3 _ _ hL2 La
      have hF3 := hb3 _ _ hF2 Fa
      have hd : d.toNat < xl.length := by omega
      refine ⟨L, xl, d, d.toNat, xl[d.toNat], rfl, rfl, hL3, by omega, by omega, seqIndex_of d0 d1, by simp [hd], ?_⟩
      have hF4 : (upd H3 L (.lst (xl.eraseIdx d.toNat))) Fd = some (.lst yf) := by rw [upd_ne nLF.symm]; exact hF3
      refine ⟨Fd, yf, _, rfl, rfl, hF4, by rw [sizeLine_eq]; omega, ?_⟩
      refine ⟨_, _, ?_, rfl, by rw [upd_ne nLF, upd_same], upd_same, ?_, ?_, ?_⟩
      · rw [List.length_eraseIdx, if_pos hd]
      · refine List.Perm.trans ?_ hp
        rw [← List.append_assoc]
        refine (List.perm_append_comm).trans ?_
        rw [← List.append_assoc]
        refine List.Perm.append_right _ ?_
        exact perm_erase hd
      · rw [List.length_append]
        exact ((hs3.put La Lc).put Fa Fc)
      · exact ((hb2.trans hb3).upd nL).upd nF
end
end KC

namespace KC
open PySem PySem.Spec PyProof.Rows L2 C8
abbrev sRows : Stmt := top 25
def menu : List Str := ["a", "b", "f", "g", "one", "neg", "add", "x", "y", "zz", "abcdefgh", "above", "bar", "kind"]
def spWords : Sp := fun vs H Q _ => ∃ (st : Addr) (n : Int) (B : Nat) (cl : Addr), vs = [.ref st, .int n] ∧ 0 ≤ n ∧ n ≤ 14 ∧ StAt B H st cl ∧ B + 14 < 1000000000000000 ∧
  ∀ (l : Addr) (ws : List Str) (H' : Hp), H l = none → H' l = some (.lst (ws.map V.str)) → ws.length = n.toNat → ws.Nodup → (∀ z ∈ ws, z ∈ menu) → StAt (B + 14) H' st cl → But st H H' → Q (.ref l) H'
theorem scWords : FnScope ["_law_state", "_law_many_here", "_law_some"] ["_law_state", "_law_many_here"] (fnScope sWords) := fnScope_by (by decide +kernel)
theorem cutTo {xs : List V} {n : Int} (h : 0 ≤ n) : cutV xs none (some n) = xs.take n.toNat := by
  unfold cutV HT.sIx
  dsimp only
  rw [if_neg (by omega), List.drop_zero, Nat.sub_zero]
  by_cases hl : n.toNat ≤ xs.length
  · rw [Nat.min_eq_left hl]
  · rw [Nat.min_eq_right (by omega), List.take_of_length_le (Nat.le_refl _), List.take_of_length_le (by omega)]
theorem cutFrom {xs : List V} {n : Int} (h : 0 ≤ n) : cutV xs (some n) none = xs.drop n.toNat := by
  unfold cutV HT.sIx
  dsimp only
  rw [if_neg (by omega)]
  by_cases hl : n.toNat ≤ xs.length
  · rw [Nat.min_eq_left hl, List.take_of_length_le (by rw [List.length_drop]; omega)]
  · rw [Nat.min_eq_right (by omega), List.drop_eq_nil_of_le (Nat.le_refl _), List.drop_eq_nil_of_le (by omega), List.take_nil]
theorem unmap {α : Type} {f : α → V} {g : V → α} (hg : ∀ a, g (f a) = a) {ys : List V} {xs : List α} (h : ys.Perm (xs.map f)) : ∃ zs : List α, ys = zs.map f ∧ zs.Perm xs := by
  have back : ∀ l : List α, (l.map f).map g = l := fun l => by
    rw [List.map_map]
    induction l with
    | nil => rfl
    | cons a l ih => rw [List.map_cons, ih]; exact congrArg (· :: l) (hg a)
  refine ⟨ys.map g, ?_, by have := h.map g; rw [back] at this; exact this⟩
  rw [List.map_map]
  have m : ∀ y ∈ ys, f (g y) = y := fun y hy => by
    obtain ⟨z, _, e⟩ := List.mem_map.mp (h.subset hy)
    rw [← e, hg]
  clear h
  induction ys with
  | nil => rfl
  | cons y ys ih =>
    rw [List.map_cons, ← ih fun y' hy' => m y' (List.mem_cons_of_mem _ hy')]
    exact congrArg (· :: ys) (m y List.mem_cons_self).symm
def strOf : V → Str
  | .str z => z
  | _ => ""
/-- what was not there isn't there: at an address that is free behind -/
theorem But.free {H H' : Hp} {st p : Addr} (h : But st H H') (n : H' p = none) (ne : p ≠ st) : H p = none := by
  cases e : H p with
  | none => rfl
  | some o =>
    have := h p o e ne
    rw [n] at this
    cases this
theorem same_free {H H' : Hp} {p : Addr} (h : Same H H') (n : H' p = none) : H p = none := by
  cases e : H p with
  | none => rfl
  | some o =>
    have := h p o e
    rw [n] at this
    cases this
section
variable {P : Program} {w : World} {K : PySem.W.Frag} {mg : Str → Option Value} {base : Heap}
theorem c_words {f : Addr} {fd : FuncData} (F : Def K mg "_law_words" sWords f fd) (b : Binds K fd ["_law_state", "_law_many_here"] []) (T : Blt mg) (C : Cal P w K mg base 2 "_law_mix" spMix []) : Cal P w K mg base 3 "_law_words" spWords [] := by
  refine cal0 F b .nil scWords (fun vs H Q E h => ?_) (fun cdv A outer s H vs Q E hr h => ?_)
  · obtain ⟨st, n, B, cl, rfl, _⟩ := h
    rfl
  · obtain ⟨st, n, B, cl, rfl, n0, n1, hst, hB, k⟩ := h
    have nd := scWords.nd
    refine ⟨_, pss_cons (ps_set (i := 2) nd rfl (Or.inl rfl) (pe_lst (pa_cons pe_str (pa_cons pe_str (pa_cons pe_str (pa_cons pe_str (pa_cons pe_str (pa_cons pe_str (pa_cons pe_str (pa_cons pe_str (pa_cons pe_str (pa_cons pe_str (pa_cons pe_str (pa_cons pe_str (pa_cons pe_str (pa_cons pe_str pa_nil))))))))))))))))
      (pss_one (ps_ret (pe_slice sl_list (pe_c C hr (Nat.le_refl _) (by rfl) (pa_cons (pv 0) (pa_cons (pv 2) pa_nil))) po_none (po_some (pv 1))))), ?_⟩
    refine ⟨(by show 14 ≤ sizeLine; decide), fun m nm => ?_⟩
    obtain ⟨ma, mc⟩ := hst.new nm
    refine ⟨_, rfl, _, rfl, st, m, menu.map V.str, B, cl, rfl, upd_same, by decide, hst.put ma mc, hB, fun L ys H1 nL hp hL hs hb => ?_⟩
    obtain ⟨zs, rfl, hz⟩ := unmap (g := strOf) (fun _ => rfl) hp
    refine ⟨_, rfl, n, rfl, L, _, rfl, SqL.of hL, fun p np => ?_⟩
    rw [cutTo n0, ← List.map_take]
    obtain ⟨pa, pc⟩ := hs.new np
    have npH : H p = none := same_free (same_upd nm) (hb.free np pa)
    refine k p _ _ npH upd_same ?_ ((hz.symm.nodup (by decide +kernel)).sublist (List.take_sublist _ _)) (fun z hm => hz.subset (List.mem_of_mem_take hm)) (hs.put pa pc) ?_
    · rw [List.length_take, hz.length_eq]
      show min n.toNat 14 = n.toNat
      omega
    · exact (Same.but (same_upd nm)).trans (hb.trans (Same.but (same_upd np)))
end
end KC

namespace KC
open PySem PySem.Spec PyProof.Rows L2 C8
theorem lc_gen {J : It} {g : TG} {tt : TT} {te : TE} {vs : List Nat} {σ : L2.St} {H1 : Hp} {D : Addr} {Qd : Hp → Prop} (n : Nat) (Pv : Nat → Hp → Prop) (h0 : Pv 0 (upd H1 D (.lst []))) (hgo : ∀ i H, i < n → Pv i H → J.go i H) (hst : ∀ H, Pv n H → J.stop n H)
    (hs : ∀ i H x H', i < n → Pv i H → J.yld i H x H' → g x (wipe σ vs) H' fun σ2 H2 => wipe σ2 vs = wipe σ vs ∧ tt σ2 H2 fun b H3 =>
      if b = true then te σ2 H3 fun y H4 => ∃ acc, H4 D = some (.lst acc) ∧ acc.length < sizeLine ∧ Pv (i + 1) (upd H4 D (.lst (acc ++ [y]))) else Pv (i + 1) H3) (hd : ∀ H, Pv n H → Qd H) :
    ∃ W : Nat → Nat → Hp → Prop, (∃ m, W 0 m (upd H1 D (.lst []))) ∧ ∀ i m H, W i m H →
      (J.stop i H ∧ Qd H) ∨ (J.go i H ∧ ∃ Nx : Hp → Prop, (∀ H', Nx H' → ∃ m', m' < m ∧ W (i + 1) m' H') ∧ ∀ x H', J.yld i H x H' → g x (wipe σ vs) H' fun σ2 H2 => wipe σ2 vs = wipe σ vs ∧ tt σ2 H2 fun b H3 =>
        if b = true then te σ2 H3 fun y H4 => ∃ acc, H4 D = some (.lst acc) ∧ acc.length < sizeLine ∧ Nx (upd H4 D (.lst (acc ++ [y]))) else Nx H3) := by
  refine ⟨fun i m H => m + i = n ∧ Pv i H, ⟨n, rfl, h0⟩, ?_⟩
  rintro i m H ⟨hm, p⟩
  by_cases hi : i < n
  · exact .inr ⟨hgo i H hi p, Pv (i + 1), fun H' p' => ⟨m - 1, by omega, by omega, p'⟩, fun x H' y => hs i H x H' hi p y⟩
  · obtain rfl : i = n := by omega
    exact .inl ⟨hst H p, hd H p⟩
theorem for_gen {J : It} {g : TG} {tb : TS} {D : Ends} {σ : L2.St} {H : Hp} (n : Nat) (Pv : Nat → L2.St → Hp → Prop) (h0 : Pv 0 σ H) (hgo : ∀ i σ H, i < n → Pv i σ H → J.go i H) (hst : ∀ σ H, Pv n σ H → J.stop n H)
    (hs : ∀ i σ H x H', i < n → Pv i σ H → J.yld i H x H' → g x σ H' fun σ2 H2 => tb { D with nx := Pv (i + 1), ct := Pv (i + 1), bk := D.nx } σ2 H2) (hd : ∀ σ H, Pv n σ H → D.nx σ H) :
    ∃ W : Nat → Nat → L2.St → Hp → Prop, (∃ m, W 0 m σ H) ∧ ∀ i m σ H, W i m σ H →
      (J.stop i H ∧ D.nx σ H) ∨ (J.go i H ∧ ∃ N : L2.St → Hp → Prop, (∀ σ' H', N σ' H' → ∃ m', m' < m ∧ W (i + 1) m' σ' H') ∧ ∀ x H', J.yld i H x H' → g x σ H' fun σ2 H2 => tb { D with nx := N, ct := N, bk := D.nx } σ2 H2) := by
  refine ⟨fun i m σ H => m + i = n ∧ Pv i σ H, ⟨n, rfl, h0⟩, ?_⟩
  rintro i m σ H ⟨hm, p⟩
  by_cases hi : i < n
  · exact .inr ⟨hgo i σ H hi p, Pv (i + 1), fun σ' H' p' => ⟨m - 1, by omega, by omega, p'⟩, fun x H' y => hs i σ H x H' hi p y⟩
  · obtain rfl : i = n := by omega
    exact .inl ⟨hst σ H p, hd σ H p⟩
structure Blt4 (mg : Str → Option Value) : Prop extends Blt2 mg where
  ran : mg "range" = none
  enu : mg "enumerate" = none
  str : mg "str" = none
  dic : mg "dict" = none
/-- a row of a language -/
abbrev Rw := Str × Int
def RowV (H : Hp) (v : V) (r : Rw) : Prop := ∃ t, v = .ref t ∧ H t = some (.tup [.str r.1, .int r.2])
def RowsAt (H : Hp) (l : Addr) (rs : List Rw) : Prop := ∃ vs, H l = some (.lst vs) ∧ Paired (RowV H) vs rs
structure RowsOk (rs : List Rw) : Prop where
  len : rs.length ≤ 14
  nd : (rs.map (·.1)).Nodup
  mem : ∀ r ∈ rs, r.1 ∈ menu ∧ 0 ≤ r.2 ∧ r.2 ≤ 2
  leaf : ∃ r ∈ rs, r.2 = 0
theorem RowV.but {B : Nat} {H H' : Hp} {st cl : Addr} (hs : StAt B H st cl) (hb : But st H H') {v : V} {r : Rw} (h : RowV H v r) : RowV H' v r := by
  obtain ⟨t, e, q⟩ := h
  obtain ⟨ns, i, c, h0, n, e1, _⟩ := hs
  exact ⟨t, e, hb _ _ q (ne_of q e1 (by intro z; cases z))⟩
theorem RowV.same {H H' : Hp} (s : Same H H') {v : V} {r : Rw} (h : RowV H v r) : RowV H' v r := by
  obtain ⟨t, e, q⟩ := h
  exact ⟨t, e, s _ _ q⟩
theorem RowsAt.but {B : Nat} {H H' : Hp} {st cl l : Addr} (hs : StAt B H st cl) (hb : But st H H') {rs : List Rw} (h : RowsAt H l rs) : RowsAt H' l rs := by
  obtain ⟨vs, e, p⟩ := h
  refine ⟨vs, hb _ _ e (fun z => ?_), Paired.mono (fun _ _ q => q.but hs hb) p⟩
  obtain ⟨ns, i, c, h0, n, e1, _⟩ := hs
  rw [z, e1] at e
  cases e
  cases p with
  | cons _ p =>
    cases p with
    | cons q _ =>
      obtain ⟨t, z, _⟩ := q
      cases z
theorem RowsAt.same {H H' : Hp} {l : Addr} (s : Same H H') {rs : List Rw} (h : RowsAt H l rs) : RowsAt H' l rs := by
  obtain ⟨vs, e, p⟩ := h
  exact ⟨vs, s _ _ e, Paired.mono (fun _ _ q => q.same s) p⟩
theorem paired_perm {α β : Type} {R : α → β → Prop} {ys xs : List α} (h : ys.Perm xs) : ∀ {rs : List β}, Paired R xs rs → ∃ ps : List β, ps.Perm rs ∧ Paired R ys ps := by
  induction h with
  | nil => intro rs p; exact ⟨rs, .refl _, p⟩
  | cons a _ ih =>
    intro rs p
    cases p with
    | cons q t =>
      obtain ⟨ps, e, p'⟩ := ih t
      exact ⟨_ :: ps, e.cons _, .cons q p'⟩
  | swap a b l =>
    intro rs p
    cases p with
    | cons q t =>
      cases t with
      | cons q' t =>
        exact ⟨_ :: _ :: _, .swap _ _ _, .cons q' (.cons q t)⟩
  | trans _ _ ih1 ih2 =>
    intro rs p
    obtain ⟨ps, e, p'⟩ := ih2 p
    obtain ⟨qs, e', p''⟩ := ih1 p'
    exact ⟨qs, e'.trans e, p''⟩
theorem RowsOk.perm {rs ps : List Rw} (h : RowsOk rs) (p : ps.Perm rs) : RowsOk ps where
  len := by rw [p.length_eq]; exact h.len
  nd := (p.map _).nodup_iff.mpr h.nd
  mem := fun r hr => h.mem r (p.subset hr)
  leaf := by
    obtain ⟨r, hr, e⟩ := h.leaf
    exact ⟨r, p.symm.subset hr, e⟩
def spRows : Sp := fun vs H Q _ => ∃ (st : Addr) (m : Int) (B : Nat) (cl : Addr), vs = [.ref st, .int m] ∧ 1 ≤ m ∧ m ≤ 13 ∧ StAt B H st cl ∧ B + 50 < 1000000000000000 ∧
  ∀ (l : Addr) (rs : List Rw) (H' : Hp), H l = none → RowsAt H' l rs → RowsOk rs → StAt (B + 50) H' st cl → But st H H' → Q (.ref l) H'
abbrev NRows : List Str := ["_law_state", "_law_most", "_law_words_here", "_law_found", "_law_many_here", "_law_k", "_law_word"]
theorem scRows : FnScope NRows ["_law_state", "_law_most"] (fnScope sRows) := fnScope_by (by decide +kernel)
section
variable {P : Program} {w : World} {K : PySem.W.Frag} {mg : Str → Option Value} {base : Heap}
theorem c_rows {f : Addr} {fd : FuncData} (F : Def K mg "_law_rows" sRows f fd) (b : Binds K fd ["_law_state", "_law_most"] []) (T : Blt4 mg) (C : Cal P w K mg base 1 "_law_take" spTake []) (CM : Cal P w K mg base 2 "_law_mix" spMix []) (CW : Cal P w K mg base 3 "_law_words" spWords []) : Cal P w K mg base 4 "_law_rows" spRows [] := by
  refine cal0 F b .nil scRows (fun vs H Q E h => ?_) (fun cdv A outer s H vs Q E hr h => ?_)
  · obtain ⟨st, m, B, cl, rfl, _⟩ := h
    rfl
  · obtain ⟨st, m, B, cl, rfl, m0, m1, hst, hB, k⟩ := h
    have nd := scRows.nd
    refine ⟨_, pss_cons (ps_set (i := 2) nd rfl (by first | exact Or.inl rfl | exact Or.inr rfl) (pe_c CW hr (by decide) (by rfl) (pa_cons (pv 0) (pa_cons (pe_op op_add pe_int (pe_c C hr (by decide) (by rfl) (pa_cons (pv 0) (pa_cons (pv 1) pa_nil)))) pa_nil))))
      (pss_cons (ps_set (i := 3) nd rfl (Or.inl rfl) (pe_lst (pa_cons (pe_tup (pa_cons (pe_ix ix_list (pv 2) pe_int fun _ _ => rfl) (pa_cons pe_int pa_nil))) pa_nil)))
      (pss_cut (ps_setLc (i := 4) (own := [("_law_k", 5)]) (g := gName 5) (tt := tYes) rfl nd rfl rfl (by rfl) (pi_list (pe_slice sl_list (pv 2) (po_some pe_int) po_none)) (blkOk_by (N := NRows) (sc := fnScope sRows) (by decide +kernel)) (fun _ _ _ _ _ => pg_name (i := 5) nd rfl (Or.inl rfl)) (fun _ _ _ _ _ => pts_nil)
          (fun _ _ _ _ _ => pe_c C hr (by decide) (by rfl) (pa_cons (pv 0) (pa_cons pe_int pa_nil))))
      (pss_cut (ps_for PassesOwn.never rfl (pi_enum (by rfl) T.enu (pa_cons (pe_slice sl_list (pv 2) (po_some pe_int) po_none) pa_nil)) (pg_tup rfl (pgs_cons (pg_name (i := 5) nd rfl (Or.inl rfl)) (pgs_cons (pg_name (i := 6) nd rfl (Or.inl rfl)) pgs_nil)))
          (pss_one (ps_expr (pe_bm PySem.F.plainAttrs_list PySem.F.slot_list_append PySem.F.type_list_append mt_append (pv 3) (pa_cons (pe_tup (pa_cons (pv 6) (pa_cons
            (pe_ifExp (pw_or (pt_cmp (pc_lt (pe_ix ix_list (pv 4) (pv 5) fun _ _ => rfl) pe_int)) (pw_or1 (pt_cmpR op_notIn_seq pe_int (pe_slice sl_list (pv 4) po_none (po_some (pv 5))) (by rfl)))).pt
              (pe_ix ix_list (pv 4) (pv 5) fun _ _ => rfl) pe_int) pa_nil))) pa_nil)))))
      (pss_one (ps_ret (pe_c CM hr (by decide) (by rfl) (pa_cons (pv 0) (pa_cons (pv 3) pa_nil)))))))), ?_⟩
    refine ⟨_, rfl, _, rfl, _, rfl, st, m, B, cl, rfl, by omega, by omega, hst, by omega, fun d H1 d0 d1 hs1 hb1 => ⟨1, d, rfl, rfl, st, 1 + d, B + 1, cl, rfl, by omega, by omega, hs1, by omega, fun wl ws H2 nwl hwl hwn hwd hwm hs2 hb2 => ?_⟩⟩
    obtain ⟨w0, wr, rfl⟩ : ∃ w0 wr, ws = w0 :: wr := by
      cases ws with
      | nil => simp at hwn; omega
      | cons a t => exact ⟨a, t, rfl⟩
    obtain ⟨wa, wc⟩ := hs1.new nwl
    have nwlH : H wl = none := hb1.free nwl wa
    have hwr : wr.length ≤ 13 := by rw [List.length_cons] at hwn; omega
    refine ⟨_, rfl, wl, _, 0, .str w0, rfl, rfl, SqL.of hwl, at_of (j := 0) (by omega) rfl, (by show 2 ≤ sizeLine; decide), fun t0 nt0 => ⟨(by show 1 ≤ sizeLine; decide), fun fd nfd => ?_⟩⟩
    obtain ⟨ta, tc⟩ := hs2.new nt0
    have e1 : H2 fd = none := by rw [upd_ne (ne_of_none upd_same nfd).symm] at nfd; exact nfd
    have fdt : fd ≠ t0 := (ne_of_none upd_same nfd).symm
    obtain ⟨fa, fc⟩ := hs2.new e1
    have fwl : fd ≠ wl := (ne_of_none hwl e1).symm
    have twl : t0 ≠ wl := (ne_of_none hwl nt0).symm
    have nfdH : H fd = none := hb1.free (hb2.free e1 fa) fa
    have ntH : H t0 = none := hb1.free (hb2.free nt0 ta) ta
    have hb3 : But st H (upd (upd H2 t0 (.tup [.str w0, .int 0])) fd (.lst [.ref t0])) := ((hb1.trans hb2).upd ntH).upd nfdH
    have hs3 : StAt (B + 1 + 14) (upd (upd H2 t0 (.tup [.str w0, .int 0])) fd (.lst [.ref t0])) st cl := (hs2.put ta tc).put fa fc
    have h3w : (upd (upd H2 t0 (.tup [.str w0, .int 0])) fd (.lst [.ref t0])) wl = some (.lst ((w0 :: wr).map V.str)) := by rw [upd_ne fwl.symm, upd_ne twl.symm]; exact hwl
    have h3f : (upd (upd H2 t0 (.tup [.str w0, .int 0])) fd (.lst [.ref t0])) fd = some (.lst [.ref t0]) := upd_same
    have h3t : (upd (upd H2 t0 (.tup [.str w0, .int 0])) fd (.lst [.ref t0])) t0 = some (.tup [.str w0, .int 0]) := by rw [upd_ne fdt.symm]; exact upd_same
    generalize upd (upd H2 t0 (.tup [.str w0, .int 0])) fd (.lst [.ref t0]) = H3 at hb3 hs3 h3w h3f h3t
    have drop1 : ((w0 :: wr).map V.str).drop (1 : Int).toNat = wr.map V.str := rfl
    -- the numbers
    refine ⟨fun σ H' => ∃ (ml : Addr) (ns : List Int), σ = [some (.ref st), some (.int m), some (.ref wl), some (.ref fd), some (.ref ml), none, none] ∧ H' ml = some (.lst (ns.map V.int)) ∧ ns.length = wr.length ∧ (∀ n ∈ ns, 0 ≤ n ∧ n ≤ 2) ∧
        H' wl = some (.lst ((w0 :: wr).map V.str)) ∧ H' fd = some (.lst [.ref t0]) ∧ H' t0 = some (.tup [.str w0, .int 0]) ∧ StAt (B + 30) H' st cl ∧ But st H H' ∧ H ml = none ∧ ml ≠ fd, ?_, ?_⟩
    · refine ⟨_, rfl, 1, rfl, wl, _, rfl, SqL.of h3w, fun p np => ⟨p, rfl, ⟨_, SqL.of upd_same⟩, fun D nD => ?_⟩⟩
      rw [cutFrom (by decide), drop1] at nD ⊢
      obtain ⟨pa, pc⟩ := hs3.new np
      have npH : H p = none := hb3.free np pa
      have Dp : D ≠ p := (ne_of_none upd_same nD).symm
      have nD3 : H3 D = none := by rw [upd_ne Dp] at nD; exact nD
      obtain ⟨Da, Dc⟩ := hs3.new nD3
      have nDH : H D = none := hb3.free nD3 Da
      have kp : ∀ {q : Addr} {o : HO}, H3 q = some o → (upd (upd H3 p (.lst (wr.map V.str))) D (.lst [])) q = some o := fun e => by rw [upd_ne (ne_of_none e nD3), upd_ne (ne_of_none e np)]; exact e
      refine lc_gen (J := Itl K p) wr.length (fun i H' => ∃ ns : List Int, ns.length = i ∧ (∀ n ∈ ns, 0 ≤ n ∧ n ≤ 2) ∧ H' D = some (.lst (ns.map V.int)) ∧ H' p = some (.lst (wr.map V.str)) ∧
        H' wl = some (.lst ((w0 :: wr).map V.str)) ∧ H' fd = some (.lst [.ref t0]) ∧ H' t0 = some (.tup [.str w0, .int 0]) ∧ StAt (B + 15 + i) H' st cl ∧ But st H H')
        ⟨[], rfl, (fun n hn => by cases hn), upd_same, by rw [upd_ne Dp.symm]; exact upd_same, kp h3w, kp h3f, kp h3t, (hs3.put pa pc).put Da Dc, (hb3.upd npH).upd nDH⟩
        (fun i H' hi ⟨ns, _, _, _, hp, _⟩ => ⟨_, .str (wr.getD i ""), SqL.of hp, by rw [List.getElem?_map, List.getElem?_eq_getElem hi, List.getD_eq_getElem?_getD, List.getElem?_eq_getElem hi]; rfl⟩)
        (fun H' ⟨ns, _, _, _, hp, _⟩ => ⟨_, SqL.of hp, by rw [List.length_map]; exact Nat.le_refl _⟩) (fun i H' v H'' hi ⟨ns, hn, hm, hD, hp, h4w, h4f, h4t, hs4, hb4⟩ yl => ?_) (fun H' ⟨ns, hn, hm, hD, hp, h4w, h4f, h4t, hs4, hb4⟩ => ⟨D, ns, rfl, hD, hn, hm, h4w, h4f, h4t, hs4.mono (by omega), hb4, nDH, (ne_of_none h3f nD3).symm⟩)
      obtain ⟨rfl, _⟩ := yl
      refine ⟨rfl, ?_⟩
      unfold tYes
      dsimp only
      rw [if_pos rfl]
      refine ⟨_, rfl, st, 3, B + 15 + i, cl, rfl, by decide, by decide, hs4, by omega, fun x H5 x0 x1 hs5 hb5 => ⟨_, hb5 _ _ hD Da, by rw [List.length_map, sizeLine_eq]; omega, ns ++ [x], ?_⟩⟩
      have kq : ∀ {q : Addr} {o : HO}, H'' q = some o → q ≠ st → q ≠ D → (upd H5 D (.lst (ns.map V.int ++ [V.int x]))) q = some o := fun e n1 n2 => by rw [upd_ne n2]; exact hb5 _ _ e n1
      refine ⟨by simp [hn], fun n hn' => ?_, by rw [upd_same, List.map_append]; rfl, kq hp pa Dp.symm, kq h4w wa (ne_of_none h3w nD3), kq h4f fa (ne_of_none h3f nD3), kq h4t ta (ne_of_none h3t nD3), (hs5.mono (by omega)).put Da Dc, (hb4.trans hb5).upd nDH⟩
      rcases List.mem_append.mp hn' with h | h
      · exact hm n h
      · rw [List.mem_singleton.mp h]; omega
    rintro σ' H4 ⟨ml, ns, rfl, h4m, hnl, hnm, h4w, h4f, h4t, hs4, hb4, nmlH, mlfd⟩
    have mla : ml ≠ st := by
      obtain ⟨o, e⟩ := hst.st
      exact (ne_of_none e nmlH).symm
    -- the rows
    refine ⟨fun σ H' => ∃ (v5 v6 : Option V) (vs : List V) (rs : List Rw), σ = [some (.ref st), some (.int m), some (.ref wl), some (.ref fd), some (.ref ml), v5, v6] ∧ H' fd = some (.lst vs) ∧ Paired (RowV H') vs rs ∧ rs.map (·.1) = w0 :: wr ∧ (∀ r ∈ rs, 0 ≤ r.2 ∧ r.2 ≤ 2) ∧ (w0, 0) ∈ rs ∧ StAt (B + 30) H' st cl ∧ But st H H', ?_, ?_⟩
    · refine ⟨_, rfl, 1, rfl, wl, _, rfl, SqL.of h4w, fun p np => ⟨p, _, rfl, SqL.of upd_same, ?_⟩⟩
      rw [cutFrom (by decide), drop1]
      obtain ⟨pa, pc⟩ := hs4.new np
      have npH : H p = none := hb4.free np pa
      have kp : ∀ {q : Addr} {o : HO}, H4 q = some o → (upd H4 p (.lst (wr.map V.str))) q = some o := fun e => by rw [upd_ne (ne_of_none e np)]; exact e
      refine for_gen (J := Ite K p) wr.length (fun i σ H' => ∃ (v5 v6 : Option V) (vs : List V) (rs : List Rw), σ = [some (.ref st), some (.int m), some (.ref wl), some (.ref fd), some (.ref ml), v5, v6] ∧ H' fd = some (.lst vs) ∧ Paired (RowV H') vs rs ∧ rs.map (·.1) = w0 :: wr.take i ∧ (∀ r ∈ rs, 0 ≤ r.2 ∧ r.2 ≤ 2) ∧ (w0, 0) ∈ rs ∧
          StAt (B + 30) H' st cl ∧ But st H H' ∧ H' ml = some (.lst (ns.map V.int)) ∧ H' p = some (.lst (wr.map V.str)))
        ⟨none, none, _, [(w0, 0)], rfl, kp h4f, .cons ⟨t0, rfl, kp h4t⟩ .nil, by rw [List.take_zero]; rfl, (fun r hr => by rw [List.mem_singleton.mp hr]; exact ⟨Int.le_refl _, by show (0 : Int) ≤ 2; decide⟩), List.mem_singleton.mpr rfl, hs4.put pa pc, hb4.upd npH, kp h4m, upd_same⟩
        (fun i σ H' hi ⟨_, _, _, _, _, _, _, _, _, _, _, _, _, hp⟩ => ⟨_, .str (wr.getD i ""), SqL.of hp, by rw [List.getElem?_map, List.getElem?_eq_getElem hi, List.getD_eq_getElem?_getD, List.getElem?_eq_getElem hi]; rfl⟩)
        (fun σ H' ⟨_, _, _, _, _, _, _, _, _, _, _, _, _, hp⟩ => ⟨_, SqL.of hp, by rw [List.length_map]; exact Nat.le_refl _⟩) ?_ (fun σ H' ⟨v5, v6, vs, rs, e, hf, hp, hr, hr2, hr0, hs, hb, _⟩ => ⟨v5, v6, vs, rs, e, hf, hp, by rw [hr, List.take_of_length_le (Nat.le_refl _)], hr2, hr0, hs, hb⟩)
      rintro i σ H5 v H6 hi ⟨v5, v6, vs, rs, rfl, hf, hp, hr, hr2, hr0, hs5, hb5, hm5, hp5⟩ ⟨T', x, rfl, nT, rfl, hx⟩
      have hx := hx _ (SqL.of hp5)
      rw [List.getElem?_map, List.getElem?_eq_getElem hi] at hx
      obtain rfl := Option.some.inj hx
      obtain ⟨Ta, Tc⟩ := hs5.new nT
      have nTH : H T' = none := hb5.free nT Ta
      refine ⟨T', [.int (i : Nat), .str wr[i]], rfl, SqT.of upd_same, rfl, .int (i : Nat), [.str wr[i]], rfl, .str wr[i], [], rfl, rfl, ?_⟩
      have hs6 := hs5.put (o := .tup [.int (i : Nat), .str wr[i]]) Ta Tc
      have hb6 := hb5.upd (o := .tup [.int (i : Nat), .str wr[i]]) nTH
      have hf6 : (upd H5 T' (.tup [.int (i : Nat), .str wr[i]])) fd = some (.lst vs) := by rw [upd_ne (ne_of_none hf nT)]; exact hf
      have hm6 : (upd H5 T' (.tup [.int (i : Nat), .str wr[i]])) ml = some (.lst (ns.map V.int)) := by rw [upd_ne (ne_of_none hm5 nT)]; exact hm5
      have hp6 : (upd H5 T' (.tup [.int (i : Nat), .str wr[i]])) p = some (.lst (wr.map V.str)) := by rw [upd_ne (ne_of_none hp5 nT)]; exact hp5
      have hpr : Paired (RowV (upd H5 T' (.tup [.int (i : Nat), .str wr[i]]))) vs rs := Paired.mono (fun _ _ q => q.same (same_upd nT)) hp
      generalize upd H5 T' (.tup [.int (i : Nat), .str wr[i]]) = H6 at hs6 hb6 hf6 hm6 hp6 hpr
      have hin : i < ns.length := by omega
      have hat : atI (ns.map V.int) ((i : Nat) : Int) = some (.int ns[i]) := at_of (j := i) (by omega) (by simp [hin])
      have hvl : vs.length = rs.length := Paired.length hpr
      have hrl : rs.length = i + 1 := by
        have := congrArg List.length hr
        rw [List.length_map, List.length_cons, List.length_take] at this
        omega
      -- what is appended, in any heap that holds these
      have fin : ∀ (H7 : Hp) (z : Int), Same H6 H7 → 0 ≤ z ∧ z ≤ 2 → ∀ q, H7 q = none → ∃ (l : Addr) (xs : List V) (y : V), V.ref fd = .ref l ∧ [V.ref q] = [y] ∧ (upd H7 q (.tup [.str wr[i], .int z])) l = some (.lst xs) ∧ xs.length < sizeLine ∧
          (∃ (v5 v6 : Option V) (vs : List V) (rs : List Rw), [some (V.ref st), some (.int m), some (.ref wl), some (.ref fd), some (.ref ml), some (.int (i : Nat)), some (.str wr[i])] = [some (.ref st), some (.int m), some (.ref wl), some (.ref fd), some (.ref ml), v5, v6] ∧ (upd (upd H7 q (.tup [.str wr[i], .int z])) l (.lst (xs ++ [y]))) fd = some (.lst vs) ∧ Paired (RowV (upd (upd H7 q (.tup [.str wr[i], .int z])) l (.lst (xs ++ [y])))) vs rs ∧ rs.map (·.1) = w0 :: wr.take (i + 1) ∧ (∀ r ∈ rs, 0 ≤ r.2 ∧ r.2 ≤ 2) ∧ (w0, 0) ∈ rs ∧
          StAt (B + 30) (upd (upd H7 q (.tup [.str wr[i], .int z])) l (.lst (xs ++ [y]))) st cl ∧ But st H (upd (upd H7 q (.tup [.str wr[i], .int z])) l (.lst (xs ++ [y]))) ∧ (upd (upd H7 q (.tup [.str wr[i], .int z])) l (.lst (xs ++ [y]))) ml = some (.lst (ns.map V.int)) ∧ (upd (upd H7 q (.tup [.str wr[i], .int z])) l (.lst (xs ++ [y]))) p = some (.lst (wr.map V.str))) := by
        intro H7 z s7 hz q nq
        have hf7 := s7 _ _ hf6
        have qf : q ≠ fd := (ne_of_none hf7 nq).symm
        obtain ⟨qa, qc⟩ := (hs6.same s7).new nq
        have kq : ∀ {a : Addr} {o : HO}, H6 a = some o → a ≠ fd → (upd (upd H7 q (.tup [.str wr[i], .int z])) fd (.lst (vs ++ [.ref q]))) a = some o := fun e n => by rw [upd_ne n, upd_ne (ne_of_none (s7 _ _ e) nq)]; exact s7 _ _ e
        refine ⟨fd, vs, _, rfl, rfl, by rw [upd_ne qf.symm]; exact hf7, by rw [hvl, sizeLine_eq]; omega, _, _, _, rs ++ [(wr[i], z)], rfl, upd_same, ?_, ?_, ?_, ?_, ((hs6.same s7).put qa qc).put fa fc, ((hb6.trans (Same.but s7)).upd (hb6.free (same_free s7 nq) qa)).upd nfdH, kq hm6 mlfd, kq hp6 (ne_of_none h4f np).symm⟩
        · refine Paired.snoc (Paired.mono (fun _ _ q' => ?_) hpr) ⟨q, rfl, by rw [upd_ne qf]; exact upd_same⟩
          obtain ⟨t, e, et⟩ := q'
          exact ⟨t, e, kq et (ne_of et hf6 (by intro z; cases z))⟩
        · rw [List.map_append, hr, List.take_succ_eq_append_getElem hi]
          rfl
        · intro r hr'
          rcases List.mem_append.mp hr' with h | h
          · exact hr2 r h
          · rw [List.mem_singleton.mp h]; exact hz
        · exact List.mem_append_left _ hr0
      refine ⟨_, rfl, .inl ⟨rfl, _, SqL.of hf6⟩, _, rfl, _, rfl, _, rfl, ml, _, _, _, rfl, rfl, SqL.of hm6, hat, ns[i], 2, rfl, rfl, ?_⟩
      have hz := hnm ns[i] (List.getElem_mem hin)
      have val : ∀ H7, Same H6 H7 → ∀ q, H7 q = none → True := fun _ _ _ _ => trivial
      refine ⟨_, rfl, ite2 (fun _ => ?_) (fun _ => ?_)⟩
      · refine iteBt rfl ⟨_, rfl, _, rfl, ml, _, _, _, rfl, rfl, SqL.of hm6, hat, (by show 2 ≤ sizeLine; decide), fun q nq => fin H6 _ (fun b o e => e) hz q nq⟩
      · refine ⟨_, rfl, _, rfl, _, rfl, ml, _, rfl, SqL.of hm6, fun q nq => ?_⟩
        rw [cutTo (by omega), ← List.map_take]
        refine ⟨q, _, rfl, .inl (SqL.of upd_same), rfl, List.all_eq_true.mpr fun y hy => ?_, ?_⟩
        · obtain ⟨z, _, rfl⟩ := List.mem_map.mp hy
          rfl
        have s7 : Same H6 (upd H6 q (.lst ((ns.take (((i : Nat) : Int)).toNat).map V.int))) := same_upd nq
        generalize upd H6 q (.lst ((ns.take (((i : Nat) : Int)).toNat).map V.int)) = H7 at s7
        refine ⟨_, rfl, ite2 (fun _ => ?_) (fun _ => ?_)⟩
        · exact ⟨_, rfl, _, rfl, ml, _, _, _, rfl, rfl, SqL.of (s7 _ _ hm6), hat, (by show 2 ≤ sizeLine; decide), fun q nq => fin H7 _ s7 hz q nq⟩
        · exact ⟨(by show 2 ≤ sizeLine; decide), fun q nq => fin H7 1 s7 ⟨by decide, by decide⟩ q nq⟩
    · rintro σ' H5 ⟨v5, v6, vs, rs, rfl, hf, hp, hr, hr2, hr0, hs5, hb5⟩
      have hl := congrArg List.length hr
      rw [List.length_map, List.length_cons] at hl
      have hv := Paired.length hp
      refine ⟨_, rfl, _, rfl, st, fd, vs, B + 30, cl, rfl, hf, by omega, hs5, by omega, fun l ys H6 nl hperm hl6 hs6 hb6 => ?_⟩
      obtain ⟨ps, hps, hp2⟩ := paired_perm hperm hp
      refine k l ps H6 (hb5.free nl (hs5.new nl).1) ⟨ys, hl6, Paired.mono (fun _ _ q => q.but hs5 hb6) hp2⟩ (RowsOk.perm ⟨by omega, by rw [hr]; exact hwd, fun r hr' => ⟨hwm _ (by rw [← hr]; exact List.mem_map_of_mem hr'), hr2 r hr'⟩, ⟨_, hr0, rfl⟩⟩ hps) (hs6.mono (by omega)) (hb5.trans hb6)
end
end KC

namespace KC
open PySem PySem.Spec PyProof.Rows L2 C8
abbrev sMany : Stmt := top 26
abbrev sLabels : Stmt := top 27
inductive D where
  | fl (x : V)
  | emp
  | sq (xs : List D)
mutual
def sz : D → Nat
  | .fl _ => 1
  | .emp => 1
  | .sq xs => 1 + szs xs
def szs : List D → Nat
  | [] => 0
  | x :: xs => sz x + szs xs
end
def many (rs : List Rw) (z : Str) : Option Int := ((rs ++ [(("keep" : Str), (1 : Int))]).find? fun r => r.1 == z).map (·.2)
mutual
def isT (rs : List Rw) : D → Bool
  | .sq (.fl (.str z) :: cs) => match many rs z with
    | some m => decide ((cs.length : Int) = m) && isTs rs cs
    | none => false
  | _ => false
def isTs (rs : List Rw) : List D → Bool
  | [] => true
  | x :: xs => isT rs x && isTs rs xs
end
def hdOk : List D → Bool
  | .emp :: _ => false
  | _ => true
mutual
/-- v stands for the data d; F: where its lists may stand -/
def DAt (F : Addr → Prop) (H : Hp) : V → D → Prop
  | v, .fl x => v = x ∧ flatV x = true
  | v, .emp => ∃ a, v = .ref a ∧ H a = some (.dK [])
  | v, .sq xs => ∃ a vs, v = .ref a ∧ (H a = some (.tup vs) ∨ (F a ∧ H a = some (.lst vs))) ∧ hdOk xs = true ∧ DAts F H vs xs
def DAts (F : Addr → Prop) (H : Hp) : List V → List D → Prop
  | [], [] => True
  | v :: vs, d :: ds => DAt F H v d ∧ DAts F H vs ds
  | _, _ => False
end
structure Hold (F : Addr → Prop) (H H' : Hp) : Prop where
  tup : ∀ a vs, H a = some (.tup vs) → H' a = some (.tup vs)
  dic : ∀ a, H a = some (.dK []) → H' a = some (.dK [])
  lst : ∀ a vs, F a → H a = some (.lst vs) → H' a = some (.lst vs)
mutual
theorem DAt.hold {F : Addr → Prop} {H H' : Hp} (h : Hold F H H') : ∀ (d : D) {v : V}, DAt F H v d → DAt F H' v d
  | .fl x, _, e => e
  | .emp, _, ⟨a, e, q⟩ => ⟨a, e, h.dic a q⟩
  | .sq xs, _, ⟨a, vs, e, q, o, k⟩ => ⟨a, vs, e, q.imp (h.tup a vs) fun ⟨e, q⟩ => ⟨e, h.lst a vs e q⟩, o, DAts.hold h xs k⟩
theorem DAts.hold {F : Addr → Prop} {H H' : Hp} (h : Hold F H H') : ∀ (ds : List D) {vs : List V}, DAts F H vs ds → DAts F H' vs ds
  | [], [], _ => trivial
  | d :: ds, v :: vs, ⟨k, t⟩ => ⟨DAt.hold h d k, DAts.hold h ds t⟩
  | [], _ :: _, k => k
  | _ :: _, [], k => k
end
mutual
theorem DAt.weak {F G : Addr → Prop} {H : Hp} (h : ∀ a, F a → G a) : ∀ (d : D) {v : V}, DAt F H v d → DAt G H v d
  | .fl x, _, e => e
  | .emp, _, e => e
  | .sq xs, _, ⟨a, vs, e, q, o, k⟩ => ⟨a, vs, e, q.imp id fun ⟨e, q⟩ => ⟨h _ e, q⟩, o, DAts.weak h xs k⟩
theorem DAts.weak {F G : Addr → Prop} {H : Hp} (h : ∀ a, F a → G a) : ∀ (ds : List D) {vs : List V}, DAts F H vs ds → DAts G H vs ds
  | [], [], _ => trivial
  | d :: ds, v :: vs, ⟨k, t⟩ => ⟨DAt.weak h d k, DAts.weak h ds t⟩
  | [], _ :: _, k => k
  | _ :: _, [], k => k
end
/-- tuples alone; lists too, other than this one -/
def nol : Addr → Prop := fun _ => False
def oth (st : Addr) : Addr → Prop := fun a => a ≠ st
theorem Hold.same {F : Addr → Prop} {H H' : Hp} (s : Same H H') : Hold F H H' := ⟨fun a _ => s a _, fun a => s a _, fun a _ _ => s a _⟩
theorem Hold.but {F : Addr → Prop} {B : Nat} {H H' : Hp} {st cl : Addr} (hs : StAt B H st cl) (hb : But st H H') (hF : ∀ a, F a → a ≠ st) : Hold F H H' := by
  obtain ⟨ns, i, c, h0, n, e1, _⟩ := hs
  refine ⟨fun a vs e => hb _ _ e (ne_of e e1 (by intro z; cases z)), fun a e => hb _ _ e (ne_of e e1 (by intro z; cases z)), fun a vs e q => hb _ _ q (hF a e)⟩
abbrev keepR : Rw := ("keep", 1)
def nums (rs : List Rw) : List Rw := rs ++ [keepR]
def labs (rs : List Rw) : List Str := (nums rs).map (·.1)
def kvOf (r : Rw) : Key × V := (Sum.inr r.1, V.int r.2)
theorem labs_nd {rs : List Rw} (h : RowsOk rs) : (labs rs).Nodup := by
  unfold labs nums
  rw [List.map_append]
  refine List.nodup_append.mpr ⟨h.nd, by simp, fun a ha b hb e => ?_⟩
  have hb := List.mem_singleton.mp hb
  subst e hb
  obtain ⟨r, hr, e⟩ := List.mem_map.mp ha
  have := (h.mem r hr).1
  rw [e] at this
  revert this
  decide +kernel
theorem valV_rows (z : Str) : ∀ rs : List Rw, valV (rs.map kvOf) (Sum.inr z) = (rs.find? fun r => r.1 == z).map fun r => V.int r.2
  | [] => rfl
  | r :: rs => by
    rw [List.map_cons, List.find?_cons]
    by_cases e : r.1 = z
    · rw [valV_pos (p := kvOf r) (by show Sum.inr r.1 = _; rw [e]), show (r.1 == z) = true from beq_iff_eq.mpr e]
      rfl
    · rw [valV_neg (p := kvOf r) (by show ¬ (Sum.inr r.1 = (Sum.inr z : Key)); intro h; exact e (Sum.inr.inj h)), show (r.1 == z) = false from beq_eq_false_iff_ne.mpr e]
      exact valV_rows z rs
theorem valV_nums (rs : List Rw) (z : Str) : valV ((nums rs).map kvOf) (Sum.inr z) = (many rs z).map V.int := by
  rw [valV_rows]
  unfold many nums
  rw [Option.map_map]
  rfl
theorem merge_nd : ∀ {more acc : List (Key × V)}, ((acc ++ more).map (·.1)).Nodup → mergeK acc more = acc ++ more
  | [], acc, _ => by rw [List.append_nil]; rfl
  | p :: more, acc, h => by
    have e : putK acc p.1 p.2 = acc ++ [p] := putK_new p.2 (by
      unfold valV
      rw [List.find?_eq_none.mpr fun q hq => ?_]
      · rfl
      · rw [decide_eq_true_eq]
        intro e
        rw [List.map_append, List.nodup_append] at h
        exact h.2.2 _ (List.mem_map_of_mem hq) _ (List.mem_map_of_mem List.mem_cons_self) e)
    show mergeK (putK acc p.1 p.2) more = _
    rw [e, merge_nd (by rw [List.append_assoc]; exact h), List.append_assoc]
    rfl
theorem merge_nums {rs : List Rw} (h : RowsOk rs) : mergeK [] ((nums rs).map kvOf) = (nums rs).map kvOf := by
  refine merge_nd ?_
  rw [List.nil_append, List.map_map]
  have e : (nums rs).map ((·.1) ∘ kvOf) = (labs rs).map (Sum.inr : Str → Key) := by unfold labs; rw [List.map_map]; rfl
  rw [e]
  exact List.Pairwise.map _ (fun a b h e => h (Sum.inr.inj e)) (labs_nd h)
theorem paired_get {α β : Type} {R : α → β → Prop} {xs : List α} {ys : List β} (h : Paired R xs ys) : ∀ {i : Nat} {x : α}, xs[i]? = some x → ∃ y, ys[i]? = some y ∧ R x y := by
  induction h with
  | nil => intro i x e; cases e
  | cons q p ih =>
    intro i x e
    cases i with
    | zero => cases e; exact ⟨_, rfl, q⟩
    | succ i => exact ih e
theorem getD_at {xs : List V} {i : Nat} (h : i < xs.length) : xs[i]? = some (xs.getD i .non) := by rw [List.getD_eq_getElem?_getD, List.getElem?_eq_getElem h] <;> rfl
theorem many_mem {rs : List Rw} (h : RowsOk rs) {r : Rw} (hr : r ∈ nums rs) : many rs r.1 = some r.2 := by
  have nd := labs_nd h
  unfold labs at nd
  unfold many
  show ((nums rs).find? _).map _ = _
  generalize nums rs = l at hr nd
  induction l with
  | nil => cases hr
  | cons q l ih =>
    rw [List.map_cons, List.nodup_cons] at nd
    rw [List.find?_cons]
    rcases List.mem_cons.mp hr with rfl | hr
    · rw [show (r.1 == r.1) = true from beq_self_eq_true _]
      rfl
    · rw [show (q.1 == r.1) = false from beq_eq_false_iff_ne.mpr fun e => nd.1 (by rw [e]; exact List.mem_map_of_mem hr)]
      exact ih hr nd.2
theorem many_lab {rs : List Rw} (h : RowsOk rs) {z : Str} (hz : z ∈ labs rs) : ∃ n, many rs z = some n ∧ 0 ≤ n ∧ n ≤ 2 := by
  obtain ⟨r, hr, rfl⟩ := List.mem_map.mp hz
  refine ⟨r.2, many_mem h hr, ?_⟩
  rcases List.mem_append.mp hr with h' | h'
  · exact (h.mem r h').2
  · rw [List.mem_singleton.mp h']; exact ⟨by decide, by decide⟩
theorem many_some {rs : List Rw} {z : Str} {n : Int} (e : many rs z = some n) : z ∈ labs rs := by
  unfold many at e
  cases e' : ((rs ++ [(("keep" : Str), (1 : Int))]).find? fun r => r.1 == z) with
  | none => rw [e'] at e; cases e
  | some r =>
    have := List.find?_some e'
    have hm := List.mem_of_find?_eq_some e'
    rw [← beq_iff_eq.mp this]
    exact List.mem_map_of_mem hm
def spMany : Sp := fun vs H Q _ => ∃ (l : Addr) (z : Str) (rs : List Rw) (n : Int), vs = [.ref l, .str z] ∧ RowsAt H l rs ∧ RowsOk rs ∧ many rs z = some n ∧ ∀ H', Same H H' → Q (.int n) H'
def spLabels : Sp := fun vs H Q _ => ∃ (l : Addr) (rs : List Rw), vs = [.ref l] ∧ RowsAt H l rs ∧ RowsOk rs ∧ ∀ q H', H q = none → Same H H' → H' q = some (.lst ((labs rs).map V.str)) → Q (.ref q) H'
theorem scMany : FnScope ["_law_rows_here", "_law_label"] ["_law_rows_here", "_law_label"] (fnScope sMany) := fnScope_by (by decide +kernel)
abbrev NLab : List Str := ["_law_rows_here", "_law_label", "_law_many_here"]
theorem scLabels : FnScope NLab ["_law_rows_here"] (fnScope sLabels) := fnScope_by (by decide +kernel)
section
variable {P : Program} {w : World} {K : PySem.W.Frag} {mg : Str → Option Value} {base : Heap}
theorem rows_refs {H : Hp} {vs : List V} {rs : List Rw} (h : Paired (RowV H) vs rs) : ∃ ts : List Addr, vs = ts.map V.ref ∧ Paired (fun t (kv : Key × V) => SqT K H t [kV kv.1, kv.2]) ts (rs.map kvOf) := by
  induction h with
  | nil => exact ⟨[], rfl, .nil⟩
  | cons q _ ih =>
    obtain ⟨ts, rfl, p⟩ := ih
    obtain ⟨t, rfl, e⟩ := q
    exact ⟨t :: ts, rfl, .cons (SqT.of e) p⟩
theorem c_many {f : Addr} {fd : FuncData} (F : Def K mg "_law_many" sMany f fd) (b : Binds K fd ["_law_rows_here", "_law_label"] []) (T : Blt4 mg) : Cal P w K mg base 1 "_law_many" spMany [] := by
  refine cal0 F b .nil scMany (fun vs H Q E h => ?_) (fun cdv A outer s H vs Q E hr h => ?_)
  · obtain ⟨l, z, rs, n, rfl, _⟩ := h
    rfl
  · obtain ⟨l, z, rs, n, rfl, ⟨us, hl, hp⟩, ok, hn, k⟩ := h
    have hu : (A.deeper (envOfC "_law_many" (fnScope sMany) s.heap.objs.size f cdv)).units + 1 < cLine := by have := hr.un; omega
    refine ⟨_, pss_one (ps_ret (pe_dget hu (pe_callTy (call_dictP rfl) (by rfl) T.dic (by decide +kernel) (pa_cons (pe_op op_cat (pe_callTy call_list_of (by rfl) T.list (by decide +kernel) (pa_cons (pv 0) pa_nil)) (pe_lst (pa_cons (pe_tup (pa_cons pe_str (pa_cons pe_int pa_nil))) pa_nil))) pa_nil)) (pv 1) (fun _ _ => rfl))), ?_⟩
    have hlen := Paired.length hp
    have hok := ok.len
    refine ⟨_, rfl, l, us, rfl, .inl (SqL.of hl), fun p np => ⟨(by show 2 ≤ sizeLine; decide), fun t nt => ⟨(by show 1 ≤ sizeLine; decide), fun q nq => ?_⟩⟩⟩
    have s1 : Same H (upd H p (.lst us)) := same_upd np
    have s2 : Same _ _ := s1.trans (same_upd nt (o := .tup [.str "keep", .int 1]))
    have s3 := s2.trans (same_upd nq (o := .lst [.ref t]))
    have tp : t ≠ p := (ne_of_none upd_same nt).symm
    have qt : q ≠ t := (ne_of_none upd_same nq).symm
    have qp : q ≠ p := (ne_of_none (by rw [upd_ne tp.symm]; exact upd_same) nq).symm
    have hp' : (upd (upd (upd H p (.lst us)) t (.tup [.str "keep", .int 1])) q (.lst [.ref t])) p = some (.lst us) := by rw [upd_ne qp.symm, upd_ne tp.symm]; exact upd_same
    have ht' : (upd (upd (upd H p (.lst us)) t (.tup [.str "keep", .int 1])) q (.lst [.ref t])) t = some (.tup [.str "keep", .int 1]) := by rw [upd_ne qt.symm]; exact upd_same
    refine ⟨p, q, us, [.ref t], rfl, rfl, hp', upd_same, by rw [hlen, sizeLine_eq]; simp; omega, fun c nc => ?_⟩
    generalize upd (upd (upd H p (.lst us)) t (.tup [.str "keep", .int 1])) q (.lst [.ref t]) = H1 at s3 hp' ht' nc
    have s4 := s3.trans (same_upd nc (o := .lst (us ++ [.ref t])))
    obtain ⟨ts, ets, pts⟩ := rows_refs (K := K) (H := upd H1 c (.lst (us ++ [.ref t]))) (Paired.mono (fun _ _ q => q.same s4) hp)
    refine ⟨c, ts ++ [t], (nums rs).map kvOf, rfl, SqL.of (by rw [upd_same, ets, List.map_append]; rfl), ?_, fun d nd => ?_⟩
    · unfold nums
      rw [List.map_append]
      exact Paired.snoc pts (SqT.of (by rw [upd_ne (ne_of_none ht' nc)]; exact ht'))
    · refine ⟨.str z, rfl, d, .int n, rfl, ?_, k _ (s4.trans (same_upd nd))⟩
      have g := DGet.k (k := Sum.inr z) (a := d) (H := upd (upd H1 c (.lst (us ++ [.ref t]))) d (.dK (mergeK [] ((nums rs).map kvOf)))) upd_same
      rw [merge_nums ok, valV_nums, hn] at g
      rw [merge_nums ok]
      exact g
theorem c_labels {f : Addr} {fd : FuncData} (F : Def K mg "_law_labels" sLabels f fd) (b : Binds K fd ["_law_rows_here"] []) (T : Blt4 mg) : Cal P w K mg base 1 "_law_labels" spLabels [] := by
  refine cal0 F b .nil scLabels (fun vs H Q E h => ?_) (fun cdv A outer s H vs Q E hr h => ?_)
  · obtain ⟨l, rs, rfl, _⟩ := h
    rfl
  · obtain ⟨l, rs, rfl, ⟨us, hl, hp⟩, ok, k⟩ := h
    have nd := scLabels.nd
    refine ⟨_, pss_one (ps_ret (pe_op op_cat (pe_lc (own := [("_law_label", 1), ("_law_many_here", 2)]) (g := gTup K 2 (gCons (gName 1) (gCons (gName 2) gNil))) (tt := tYes) rfl nd (pi_list (pv 0)) (blkOk_by (N := NLab) (sc := fnScope sLabels) (by decide +kernel))
        (fun _ _ _ _ _ => pg_tup rfl (pgs_cons (pg_name (i := 1) nd rfl (Or.inl rfl)) (pgs_cons (pg_name (i := 2) nd rfl (Or.inl rfl)) pgs_nil))) (fun _ _ _ _ _ => pts_nil) (fun _ _ _ _ _ => pv 1)) (pe_lst (pa_cons pe_str pa_nil)))), ?_⟩
    have hlen := Paired.length hp
    have hok := ok.len
    refine ⟨_, rfl, l, rfl, ⟨us, SqL.of hl⟩, fun D nD => ?_⟩
    refine lc_gen (J := Itl K l) rs.length (fun i H' => H' D = some (.lst ((rs.take i).map fun r => V.str r.1)) ∧ Same H H') ⟨upd_same, same_upd nD⟩ (fun i H' hi ⟨_, sm⟩ => ⟨us, us.getD i .non, SqL.of (sm _ _ hl), by rw [List.getD_eq_getElem?_getD, List.getElem?_eq_getElem (by omega)]; rfl⟩)
      (fun H' ⟨_, sm⟩ => ⟨us, SqL.of (sm _ _ hl), by omega⟩) (fun i H' v H'' hi ⟨hD, sm⟩ yl => ?_) (fun H' ⟨hD, sm⟩ => ?_)
    · obtain ⟨rfl, hx⟩ := yl
      have hx := hx _ (SqL.of (sm _ _ hl))
      obtain ⟨r, hr, t, rfl, ht⟩ := paired_get hp hx
      refine ⟨t, [.str r.1, .int r.2], rfl, SqT.of (sm _ _ ht), rfl, .str r.1, [.int r.2], rfl, .int r.2, [], rfl, rfl, rfl, ?_⟩
      unfold tYes
      dsimp only
      rw [if_pos rfl]
      refine ⟨_, rfl, _, hD, by rw [List.length_map, List.length_take, sizeLine_eq]; omega, ?_, fun b o e => by rw [upd_ne (ne_of_none e nD)]; exact sm _ _ e⟩
      obtain ⟨hlt, e⟩ := List.getElem?_eq_some_iff.mp hr
      rw [upd_same, List.take_succ_eq_append_getElem hlt, List.map_append, e]
      rfl
    · rw [List.take_of_length_le (Nat.le_refl _)] at hD
      refine ⟨(by show 1 ≤ sizeLine; decide), fun q nq => ⟨D, q, _, _, rfl, rfl, by rw [upd_ne (ne_of_none hD nq)]; exact hD, upd_same, by rw [List.length_map, sizeLine_eq]; simp; omega, fun c nc => ?_⟩⟩
      have s2 : Same H _ := sm.trans ((same_upd nq (o := .lst [.str "keep"])).trans (same_upd nc (o := .lst ((rs.map fun r => V.str r.1) ++ [.str "keep"]))))
      refine k c _ (same_free (sm.trans (same_upd nq)) nc) s2 (by rw [upd_same]; unfold labs nums; rw [List.map_append, List.map_append, List.map_map]; rfl)
end
end KC

namespace KC
open PySem PySem.Spec PyProof.Rows L2 C8
abbrev sTree : Stmt := top 28
def manyD (rs : List Rw) (z : Str) : Int := (many rs z).getD 0
theorem manyD_of {rs : List Rw} {z : Str} {n : Int} (e : many rs z = some n) : manyD rs z = n := by unfold manyD; rw [e]; rfl
def spTree (N : Nat) : Sp := fun vs H Q _ => ∃ (st l : Addr) (n : Int) (rs : List Rw) (B : Nat) (cl : Addr), vs = [.ref st, .ref l, .int n] ∧ 1 ≤ n ∧ n ≤ N ∧ n ≤ 1000 ∧ RowsAt H l rs ∧ RowsOk rs ∧ StAt B H st cl ∧ B + 3 * n.toNat < 1000000000000000 ∧
  ∀ (v : V) (t : D) (H' : Hp), DAt nol H' v t → isT rs t = true → (sz t : Int) ≤ 2 * n → StAt (B + 3 * n.toNat) H' st cl → But st H H' → Q v H'
abbrev NTree : List Str := ["_law_state", "_law_rows_here", "_law_nodes", "_law_fits", "_law_more", "_law_label", "_law_many_here", "_law_some", "_law_first"]
theorem scTree : FnScope NTree ["_law_state", "_law_rows_here", "_law_nodes"] (fnScope sTree) := fnScope_by (by decide +kernel)
theorem new_tree {F : Addr → Prop} {H : Hp} {p : Addr} {z : Str} {vs : List V} {cs : List D} (np : H p = none) (h : DAts F H vs cs) : DAt F (upd H p (.tup (.str z :: vs))) (.ref p) (.sq (.fl (.str z) :: cs)) :=
  ⟨p, _, rfl, .inl upd_same, rfl, ⟨rfl, rfl⟩, DAts.hold (.same (same_upd np)) cs h⟩
theorem isT_leaf {rs : List Rw} {z : Str} (e : many rs z = some 0) : isT rs (.sq [.fl (.str z)]) = true := by rw [isT, e]; rfl
theorem isT_one {rs : List Rw} {z : Str} {t : D} (e : many rs z = some 1) (h : isT rs t = true) : isT rs (.sq [.fl (.str z), t]) = true := by
  rw [isT, e]
  show (_ && isTs rs [t]) = true
  rw [isTs, isTs, h]
  rfl
theorem isT_two {rs : List Rw} {z : Str} {t u : D} (e : many rs z = some 2) (h : isT rs t = true) (h' : isT rs u = true) : isT rs (.sq [.fl (.str z), t, u]) = true := by
  rw [isT, e]
  show (_ && isTs rs [t, u]) = true
  rw [isTs, isTs, isTs, h, h']
  rfl
section
variable {P : Program} {w : World} {K : PySem.W.Frag} {mg : Str → Option Value} {base : Heap}
theorem tree_step {k : Nat} {N : Nat} {f : Addr} {fd : FuncData} (F : Def K mg "_law_tree" sTree f fd) (b : Binds K fd ["_law_state", "_law_rows_here", "_law_nodes"] []) (T : Blt4 mg) (hk : 2 ≤ k) (C : Cal P w K mg base 1 "_law_take" spTake []) (CO : Cal P w K mg base 2 "_law_one" spOne [])
    (CL : Cal P w K mg base 1 "_law_labels" spLabels []) (CM : Cal P w K mg base 1 "_law_many" spMany []) (CT : Cal P w K mg base k "_law_tree" (spTree N) []) : Cal P w K mg base (k + 1) "_law_tree" (spTree (N + 1)) [] := by
  refine cal0 F b .nil scTree (fun vs H Q E h => ?_) (fun cdv A outer s H vs Q E hr h => ?_)
  · obtain ⟨st, l, n, rs, B, cl, rfl, _⟩ := h
    rfl
  · obtain ⟨st, l, n, rs, B, cl, rfl, n0, n1, n9, hR, ok, hst, hB, k⟩ := h
    have nd := scTree.nd
    have hu : (A.deeper (envOfC "_law_tree" (fnScope sTree) s.heap.objs.size f cdv)).units + 64 < cLine := by have := hr.un; omega
    refine ⟨_, pss_cut (ps_setLc (i := 3) (own := [("_law_label", 5)]) (g := gName 5) rfl nd rfl rfl (by rfl) (pi_list (pe_c CL hr (by omega) (by rfl) (pa_cons (pv 1) pa_nil))) (blkOk_by (N := NTree) (sc := fnScope sTree) (by decide +kernel)) (fun _ _ _ _ _ => pg_name (i := 5) nd rfl (Or.inl rfl))
          (fun _ _ _ _ _ => pts_one (pt_cmp (pc_lt (pe_c CM hr (by omega) (by rfl) (pa_cons (pv 1) (pa_cons (pv 5) pa_nil))) (pv 2)))) (fun _ _ _ _ _ => pv 5))
      (pss_cut (ps_setLc (i := 4) (own := [("_law_label", 5)]) (g := gName 5) rfl nd rfl rfl (by rfl) (pi_list (pv 3)) (blkOk_by (N := NTree) (sc := fnScope sTree) (by decide +kernel)) (fun _ _ _ _ _ => pg_name (i := 5) nd rfl (Or.inl rfl))
          (fun _ _ _ _ _ => pts_one (pw_and (pt_cmp (pc_gt (pe_c CM hr (by omega) (by rfl) (pa_cons (pv 1) (pa_cons (pv 5) pa_nil))) pe_int)) (pw_and1 (pt_cmpR op_ne (pv 5) pe_str (nomark _)))).pt) (fun _ _ _ _ _ => pv 5))
      (pss_cut (ps_if (pw_and (pt_cmpR (op_neNil hu) (pv 4) (pe_lst pa_nil) (nomark _)) (pw_and1 (pt_cmp (pc_gt (pe_c C hr (by omega) (by rfl) (pa_cons (pv 0) (pa_cons pe_int pa_nil))) pe_int)))).pt
          (pss_one (ps_set (i := 3) nd rfl (Or.inl rfl) (pv 4))) pss_nil)
      (pss_cons (ps_set (i := 5) nd rfl (Or.inl rfl) (pe_c CO hr (by omega) (by rfl) (pa_cons (pv 0) (pa_cons (pv 3) pa_nil))))
      (pss_cons (ps_set (i := 6) nd rfl (Or.inl rfl) (pe_c CM hr (by omega) (by rfl) (pa_cons (pv 1) (pa_cons (pv 5) pa_nil))))
      (pss_cons (ps_if (pt_cmp (pc_eqI (pv 6) pe_int))
          (pss_cons (ps_set (i := 7) nd rfl (Or.inl rfl) (pe_op op_add pe_int (pe_c C hr (by omega) (by rfl) (pa_cons (pv 0) (pa_cons (pe_op op_sub (pv 2) pe_int) pa_nil)))))
          (pss_cons (ps_set (i := 8) nd rfl (Or.inl rfl) (pe_c CT hr (Nat.le_refl _) (by rfl) (pa_cons (pv 0) (pa_cons (pv 1) (pa_cons (pv 7) pa_nil)))))
          (pss_one (ps_ret (pe_tup (pa_cons (pv 5) (pa_cons (pv 8) (pa_cons (pe_c CT hr (Nat.le_refl _) (by rfl) (pa_cons (pv 0) (pa_cons (pv 1) (pa_cons (pe_op op_sub (pe_op op_sub (pv 2) pe_int) (pv 7)) pa_nil)))) pa_nil))))))))
          pss_nil)
      (pss_one (ps_ret (pe_ifExp (pt_cmp (pc_eqI (pv 6) pe_int)) (pe_tup (pa_cons (pv 5) pa_nil))
          (pe_tup (pa_cons (pv 5) (pa_cons (pe_c CT hr (Nat.le_refl _) (by rfl) (pa_cons (pv 0) (pa_cons (pv 1) (pa_cons (pe_op op_sub (pv 2) pe_int) pa_nil)))) pa_nil))))))))))), ?_⟩
    have hla : (labs rs).length ≤ 15 := by unfold labs nums; rw [List.length_map, List.length_append]; have := ok.len; simp; omega
    let pf : Str → Bool := fun z => decide (manyD rs z < n)
    -- what fits
    refine ⟨fun σ H' => ∃ ft : Addr, σ = [some (.ref st), some (.ref l), some (.int n), some (.ref ft), none, none, none, none, none] ∧ H' ft = some (.lst (((labs rs).filter pf).map V.str)) ∧ H ft = none ∧ Same H H', ?_, ?_⟩
    · refine ⟨_, rfl, l, rs, rfl, hR, ok, fun q H1 nq s1 hq => ⟨q, rfl, ⟨_, SqL.of hq⟩, fun Da nDa => ?_⟩⟩
      have nDH : H Da = none := same_free s1 nDa
      refine lc_gen (J := Itl K q) (labs rs).length (fun i H' => H' Da = some (.lst ((((labs rs).take i).filter pf).map V.str)) ∧ Same H1 H') ⟨upd_same, same_upd nDa⟩ (fun i H' hi ⟨_, sm⟩ => ⟨_, .str (labs rs)[i], SqL.of (sm _ _ hq), by rw [List.getElem?_map, List.getElem?_eq_getElem hi]; rfl⟩)
        (fun H' ⟨_, sm⟩ => ⟨_, SqL.of (sm _ _ hq), by rw [List.length_map]; exact Nat.le_refl _⟩) (fun i H' v H'' hi ⟨hD, sm⟩ yl => ?_) (fun H' ⟨hD, sm⟩ => ⟨Da, rfl, by rw [hD, List.take_of_length_le (Nat.le_refl _)], nDH, s1.trans sm⟩)
      obtain ⟨rfl, hx⟩ := yl
      have hx := hx _ (SqL.of (sm _ _ hq))
      rw [List.getElem?_map, List.getElem?_eq_getElem hi] at hx
      obtain rfl := Option.some.inj hx
      obtain ⟨m, hm, _⟩ := many_lab ok (List.getElem_mem hi)
      refine ⟨rfl, _, rfl, _, rfl, l, (labs rs)[i], rs, m, rfl, hR.same (s1.trans sm), ok, hm, fun H3 s3 => ⟨_, rfl, m, n, rfl, rfl, _, rfl, ?_⟩⟩
      have hpf : pf (labs rs)[i] = decide (m < n) := by show decide (manyD rs (labs rs)[i] < n) = _; rw [manyD_of hm]
      have tk : ((labs rs).take (i + 1)).filter pf = ((labs rs).take i).filter pf ++ (if decide (m < n) = true then [(labs rs)[i]] else []) := by
        rw [List.take_succ_eq_append_getElem hi, List.filter_append, List.filter_cons, hpf]
        rfl
      have hD3 := s3 _ _ hD
      refine ite2 (fun c => ?_) (fun c => ?_)
      · rw [if_pos c] at tk
        refine ⟨_, rfl, _, hD3, ?_, ?_, fun b o e => by rw [upd_ne (ne_of_none e nDa)]; exact s3 _ _ (sm _ _ e)⟩
        · rw [List.length_map, sizeLine_eq]
          have := List.length_filter_le pf ((labs rs).take i)
          have := List.length_take_le i (labs rs)
          omega
        · rw [upd_same, tk, List.map_append]
          rfl
      · rw [if_neg c, List.append_nil] at tk
        exact ⟨by rw [tk]; exact hD3, sm.trans s3⟩
    rintro σ' H1 ⟨ft, rfl, hf, nft, s1⟩
    have hfs : ∀ z ∈ (labs rs).filter pf, ∃ m, many rs z = some m ∧ 0 ≤ m ∧ m ≤ 2 ∧ m < n := fun z hz => by
      obtain ⟨h1, h2⟩ := List.mem_filter.mp hz
      obtain ⟨m, hm, m0, m2⟩ := many_lab ok h1
      have h2 : decide (manyD rs z < n) = true := h2
      rw [manyD_of hm] at h2
      exact ⟨m, hm, m0, m2, of_decide_eq_true h2⟩
    have hlf : ((labs rs).filter pf).length ≤ 15 := Nat.le_trans (List.length_filter_le _ _) hla
    have hne : (labs rs).filter pf ≠ [] := by
      obtain ⟨r, hr, r0⟩ := ok.leaf
      have hm := many_mem ok (r := r) (List.mem_append_left _ hr)
      have : r.1 ∈ (labs rs).filter pf := List.mem_filter.mpr ⟨List.mem_map_of_mem (List.mem_append_left _ hr), by show decide (manyD rs r.1 < n) = true; rw [manyD_of hm, r0]; exact decide_eq_true (by omega)⟩
      intro e
      rw [e] at this
      cases this
    generalize (labs rs).filter pf = fs at hf hfs hlf hne
    -- what grows
    refine ⟨fun σ H' => ∃ (mr : Addr) (ms : List Str), σ = [some (.ref st), some (.ref l), some (.int n), some (.ref ft), some (.ref mr), none, none, none, none] ∧ H' mr = some (.lst (ms.map V.str)) ∧ (∀ z ∈ ms, z ∈ fs) ∧ ms.length ≤ 15 ∧ H mr = none ∧ Same H1 H', ?_, ?_⟩
    · refine ⟨_, rfl, ft, rfl, ⟨_, SqL.of hf⟩, fun Da nDa => ?_⟩
      have nDH : H Da = none := same_free s1 nDa
      refine lc_gen (J := Itl K ft) fs.length (fun i H' => ∃ ms : List Str, H' Da = some (.lst (ms.map V.str)) ∧ (∀ z ∈ ms, z ∈ fs) ∧ ms.length ≤ i ∧ Same H1 H') ⟨[], upd_same, (fun z hz => by cases hz), Nat.le_refl _, same_upd nDa⟩ (fun i H' hi ⟨_, _, _, _, sm⟩ => ⟨_, .str fs[i], SqL.of (sm _ _ hf), by rw [List.getElem?_map, List.getElem?_eq_getElem hi]; rfl⟩)
        (fun H' ⟨_, _, _, _, sm⟩ => ⟨_, SqL.of (sm _ _ hf), by rw [List.length_map]; exact Nat.le_refl _⟩) (fun i H' v H'' hi ⟨ms, hD, hms, hml, sm⟩ yl => ?_) (fun H' ⟨ms, hD, hms, hml, sm⟩ => ⟨Da, ms, rfl, hD, hms, by omega, nDH, sm⟩)
      obtain ⟨rfl, hx⟩ := yl
      have hx := hx _ (SqL.of (sm _ _ hf))
      rw [List.getElem?_map, List.getElem?_eq_getElem hi] at hx
      obtain rfl := Option.some.inj hx
      obtain ⟨m, hm, _⟩ := hfs _ (List.getElem_mem hi)
      refine ⟨rfl, _, rfl, _, rfl, l, fs[i], rs, m, rfl, hR.same (s1.trans sm), ok, hm, fun H3 s3 => ⟨m, 0, rfl, rfl, _, rfl, ?_⟩⟩
      have hD3 := s3 _ _ hD
      have no : ∃ ms : List Str, H3 Da = some (.lst (ms.map V.str)) ∧ (∀ z ∈ ms, z ∈ fs) ∧ ms.length ≤ i + 1 ∧ Same H1 H3 := ⟨ms, hD3, hms, by omega, sm.trans s3⟩
      refine ite2 (fun _ => ?_) (fun _ => iteF no)
      refine ⟨_, rfl, rfl, _, rfl, ?_⟩
      refine ite2 (fun _ => ?_) (fun _ => no)
      refine ⟨_, rfl, _, hD3, by rw [List.length_map, sizeLine_eq]; omega, ms ++ [fs[i]], by rw [upd_same, List.map_append]; rfl, fun z hz => ?_, by simp; omega, fun b o e => by rw [upd_ne (ne_of_none e nDa)]; exact s3 _ _ (sm _ _ e)⟩
      rcases List.mem_append.mp hz with h | h
      · exact hms z h
      · rw [List.mem_singleton.mp h]; exact List.getElem_mem hi
    rintro σ' H2 ⟨mr, ms, rfl, hm, hms, hml, nmr, s2⟩
    have s12 := s1.trans s2
    have hst2 := hst.same s12
    -- which of the two
    refine ⟨fun σ H' => ∃ (g : Addr) (gs : List Str) (v4 : Option V), σ = [some (.ref st), some (.ref l), some (.int n), some (.ref g), v4, none, none, none, none] ∧ H' g = some (.lst (gs.map V.str)) ∧ gs ≠ [] ∧ gs.length ≤ 15 ∧ (∀ z ∈ gs, z ∈ fs) ∧ g ≠ st ∧ StAt (B + 1) H' st cl ∧ But st H H', ?_, ?_⟩
    · have fst : ft ≠ st := (hst.new nft).1
      have mst : mr ≠ st := (hst.new nmr).1
      refine ⟨_, rfl, (by show 0 ≤ sizeLine; decide), fun p np => ⟨mr, p, _, rfl, rfl, SqL.of (by rw [upd_ne (ne_of_none hm np)]; exact hm), SqL.of upd_same, _, rfl, ?_⟩⟩
      have s3 : Same H2 (upd H2 p (.lst [])) := same_upd np
      generalize upd H2 p (.lst []) = H3 at s3
      have stay : ∀ H4, But st H3 H4 → StAt (B + 1) H4 st cl → ∃ (g : Addr) (gs : List Str) (v4 : Option V), ([some (V.ref st), some (.ref l), some (.int n), some (.ref ft), some (.ref mr), none, none, none, none] : L2.St) = [some (.ref st), some (.ref l), some (.int n), some (.ref g), v4, none, none, none, none] ∧ H4 g = some (.lst (gs.map V.str)) ∧ gs ≠ [] ∧ gs.length ≤ 15 ∧ (∀ z ∈ gs, z ∈ fs) ∧ g ≠ st ∧ StAt (B + 1) H4 st cl ∧ But st H H4 :=
        fun H4 b4 t4 => ⟨ft, fs, _, rfl, b4 _ _ (s3 _ _ (s2 _ _ hf)) fst, hne, hlf, fun z hz => hz, fst, t4, (Same.but (s12.trans s3)).trans b4⟩
      refine ite2 (fun c => ?_) (fun _ => ?_)
      · refine ⟨_, rfl, st, 8, B, cl, rfl, by decide, by decide, hst2.same s3, by omega, fun d H4 _ _ hs4 hb4 => ⟨d, 0, rfl, rfl, _, rfl, ite2 (fun _ => ⟨_, rfl, ?_⟩) (fun _ => stay H4 hb4 hs4)⟩⟩
        refine ⟨mr, ms, _, rfl, hb4 _ _ (s3 _ _ hm) mst, ?_, hml, hms, mst, hs4, (Same.but (s12.trans s3)).trans hb4⟩
        intro e
        rw [e] at c
        cases c
      · exact iteF (stay H3 .refl ((hst2.same s3).mono (by omega)))
    rintro σ' H3 ⟨g, gs, v4, rfl, hg, gne, gl, hgs, gst, hs3, hb3⟩
    have hgl : 0 < gs.length := List.length_pos_iff.mpr gne
    refine ⟨_, rfl, _, rfl, st, g, gs.map V.str, B + 1, cl, rfl, .inl hg, gst, by rw [List.length_map]; exact hgl, by rw [List.length_map]; omega, hs3, by omega, fun v H4 hv hs4 hb4 => ?_⟩
    obtain ⟨z, hz, rfl⟩ := List.mem_map.mp hv
    obtain ⟨m, hmz, m0, m2, mn⟩ := hfs z (hgs z hz)
    have hb := hb3.trans hb4
    refine ⟨_, rfl, _, rfl, l, z, rs, m, rfl, hR.but hst hb, ok, hmz, fun H5 s5 => ?_⟩
    have hs5 := hs4.same s5
    have hb5 := hb.trans (Same.but s5)
    have hR5 := hR.but hst hb5
    refine ⟨_, rfl, m, 2, rfl, rfl, _, rfl, ite2 (fun c => ?_) (fun c => ?_)⟩
    · obtain rfl : m = 2 := of_decide_eq_true c
      refine ⟨_, rfl, _, rfl, n, 2, rfl, rfl, st, n - 2, B + 1 + 1, cl, rfl, by omega, by omega, hs5, by omega, fun d H6 d0 d1 hs6 hb6 => ⟨1, d, rfl, rfl, ?_⟩⟩
      have hb06 := hb5.trans hb6
      refine ⟨_, rfl, _, rfl, _, rfl, st, l, 1 + d, rs, B + 1 + 1 + 1, cl, rfl, by omega, by omega, by omega, hR.but hst hb06, ok, hs6, by omega, fun v1 t1 H7 k1 i1 z1 hs7 hb7 => ?_⟩
      have hb07 := hb06.trans hb7
      refine ⟨_, rfl, _, rfl, _, rfl, _, rfl, _, rfl, n, 1, rfl, rfl, _, rfl, n - 1, 1 + d, rfl, rfl, st, l, n - 1 - (1 + d), rs, _, cl, rfl, by omega, by omega, by omega, hR.but hst hb07, ok, hs7, by omega, fun v2 t2 H8 k2 i2 z2 hs8 hb8 => ⟨(by show 3 ≤ sizeLine; decide), fun p np => ?_⟩⟩
      obtain ⟨pa, pc⟩ := hs8.new np
      refine k _ _ _ (new_tree np (cs := [t1, t2]) ⟨DAt.hold (.but hs7 hb8 fun _ h => h.elim) _ k1, k2, trivial⟩) (isT_two hmz i1 i2) ?_ ((hs8.mono (by omega)).put pa pc) ((hb07.trans hb8).trans (Same.but (same_upd np)))
      show ((1 + (1 + (sz t1 + (sz t2 + 0))) : Nat) : Int) ≤ _
      omega
    · have c : m ≠ 2 := fun e => c (decide_eq_true e)
      refine ⟨_, rfl, m, 0, rfl, rfl, _, rfl, ite2 (fun c0 => ?_) (fun c0 => ?_)⟩
      · obtain rfl : m = 0 := of_decide_eq_true c0
        refine ⟨_, rfl, (by show 1 ≤ sizeLine; decide), fun p np => ?_⟩
        obtain ⟨pa, pc⟩ := hs5.new np
        refine k _ _ _ (new_tree np (cs := []) trivial) (isT_leaf hmz) ?_ ((hs5.mono (by omega)).put pa pc) (hb5.trans (Same.but (same_upd np)))
        show ((1 + (1 + 0) : Nat) : Int) ≤ _
        omega
      · have c0 : m ≠ 0 := fun e => c0 (decide_eq_true e)
        obtain rfl : m = 1 := by omega
        refine ⟨_, rfl, _, rfl, _, rfl, _, rfl, n, 1, rfl, rfl, st, l, n - 1, rs, B + 1 + 1, cl, rfl, by omega, by omega, by omega, hR5, ok, hs5, by omega, fun v1 t1 H7 k1 i1 z1 hs7 hb7 => ⟨(by show 2 ≤ sizeLine; decide), fun p np => ?_⟩⟩
        obtain ⟨pa, pc⟩ := hs7.new np
        refine k _ _ _ (new_tree np (cs := [t1]) ⟨k1, trivial⟩) (isT_one hmz i1) ?_ ((hs7.mono (by omega)).put pa pc) ((hb5.trans hb7).trans (Same.but (same_upd np)))
        show ((1 + (1 + (sz t1 + 0)) : Nat) : Int) ≤ _
        omega
theorem c_tree {f : Addr} {fd : FuncData} (F : Def K mg "_law_tree" sTree f fd) (b : Binds K fd ["_law_state", "_law_rows_here", "_law_nodes"] []) (T : Blt4 mg) (C : Cal P w K mg base 1 "_law_take" spTake []) (CO : Cal P w K mg base 2 "_law_one" spOne [])
    (CL : Cal P w K mg base 1 "_law_labels" spLabels []) (CM : Cal P w K mg base 1 "_law_many" spMany []) : ∀ N : Nat, Cal P w K mg base (3 + N) "_law_tree" (spTree N) []
  | 0 => by
    have no : ∀ {vs H Q E}, spTree 0 vs H Q E → False := fun ⟨_, _, n, _, _, _, _, h1, h2, _⟩ => by omega
    exact cal0 F b .nil scTree (fun vs H Q E h => (no h).elim) (fun cdv A outer s H vs Q E hr h => (no h).elim)
  | N + 1 => tree_step F b T (Nat.le_trans (by decide) (Nat.le_add_right 3 N)) C CO CL CM (c_tree F b T C CO CL CM N)
end
end KC

/-! for i, x in enumerate(a tuple); a walk over a list or a tuple -/
namespace XE
open PySem PySem.Spec PySem.W PyProof.Rows L2
theorem enum_new {v : Value} {o : Obj} {B0 : Heap → Prop} (B : Begins v o B0) :
    Meets (Builtin.«enumerate.__new__» ⟨[.type "enumerate", v], []⟩) (fun _ R s => B0 s.heap ∧ R (.ok (.ret (.ref (s.heap.push o).objs.size)))
      { s with heap := (s.heap.push o).push { cls := .type "enumerate", data := .fields #[.none, .bool false, .ref s.heap.objs.size, rawInt 0, .none, .none] } }) :=
  .of_wp fun prog w A R s hh => by
    obtain ⟨hp, ge, dr, tk, os⟩ := s
    obtain ⟨hb, hh⟩ := hh
    have hsb := sub_enumerate
    have go : ∀ {A' : Around} {E Q : Value → Shared → Prop}, Q (.ref hp.objs.size) ⟨hp.push o, ge, dr, tk, os⟩ → wpAny (model prog w) A' (pyIter v) Q E ⟨hp, ge, dr, tk, os⟩ := fun q => B.iter prog w _ _ ⟨hp, ge, dr, tk, os⟩ _ hb q
    wp_walk using go
    refine wpAny_stack_any fun st => wpAny_pure ?_
    split
    · rename_i cc _ _ _ _ _
      cases (cc == Value.type "enumerate") <;> (wp_walk using go; exact ⟨_, rfl, hh⟩)
    · wp_walk using go
      exact ⟨_, rfl, hh⟩
section
variable {prog : Program} {w : World} {A : Around} {E : Value → Shared → Prop} {s : Shared}
theorem enum_call {v : Value} {o : Obj} {B0 : Heap → Prop} {Q : Value → Shared → Prop} (B : Begins v o B0) (hb : B0 s.heap)
    (hq : ∀ h', IsEnum h' (s.heap.objs.size + 1) s.heap.objs.size 0 .none → h'.get? s.heap.objs.size = some o → (∀ b ob, s.heap.get? b = some ob → h'.get? b = some ob) → Q (.ref (s.heap.objs.size + 1)) { s with heap := h' }) :
    wpAny (model prog w) A (call (.type "enumerate") [v]) Q E s := by
  refine callType_new F.called_enumerate (by decide) (F.typeCall_enumerate_1 _) (F.newCall_enumerate_1 _) (fun obj => F.args_object_init_2 obj _) F.entry_enumerate_new (enum_new B) ⟨hb, ?_⟩
  have z1 : (s.heap.push o).objs.size = s.heap.objs.size + 1 := Heap.size_push ..
  show _ ∧ _
  rw [z1]
  have z2 := Heap.get?_push_size (s.heap.push o) (o := { cls := .type "enumerate", data := .fields #[.none, .bool false, .ref s.heap.objs.size, rawInt 0, .none, .none] }) rfl
  rw [z1] at z2
  exact ⟨⟨_, z2, rfl⟩, hq _ z2 (Heap.get?_push_of_some _ (Heap.get?_push_size _ B.free)) fun b ob x => Heap.get?_push_of_some _ (Heap.get?_push_of_some _ x)⟩
theorem enum_endT {e it t : Addr} {i : Nat} {c : Int} {items : Array Value} {old : Value} {Q : Option Value → Shared → Prop} (h0 : A.in1.handled = none) (k1 : IsEnum s.heap e it c old) (k2 : s.heap.IsTupleIter it t i) (pt : s.heap.IsTuple t items) (hx : items[i]? = none)
    (hq : ∀ h', Heap.ExtBut it s.heap h' → Q none { s with heap := h' }) : wpAny (model prog w) A (pyNext (.ref e)) Q E s := by
  have ty : s.TypeIs (.ref e) "enumerate" := ⟨_, k1, rfl⟩
  unfold pyNext
  refine wpAny_bind (wpAny_attempt (wpAny_callSpecial?_slot (name := Str.ofString "__next__") ty F.slot_enumerate_next (wpAny_call_entry F.slot_enumerate_next ty F.entry_enumerate_next ?_ (F.args_enumerate_next_1 _))))
  show wpAny _ _ (field (.ref e) 2 >>= _) _ _ _
  refine wpAny_bind (wpAny_field k1 rfl (x := .ref it) rfl ?_)
  refine wpAny_bind (wpAny_nextOf_tuple_end h0 k2 pt hx fun h' y he' hx' => ?_)
  obtain ⟨o, ho, hc⟩ := hx'
  exact wpAny_bind (wpAny_isInstance (T := "StopIteration") (b := true) ⟨o, ho, hc⟩ isSubtype_stop (wpAny_pure (hq _ he')))
end
/-- the tuple at a, each item in a new pair with its number -/
def IteT (K : PySem.W.Frag) (a : Addr) : It :=
  ⟨fun i H => ∃ (xs : List V) (x : V), SqT K H a xs ∧ xs[i]? = some x,
    fun i H v H' => ∃ T x, v = .ref T ∧ H T = none ∧ H' = upd H T (.tup [.int (i : Nat), x]) ∧ ∀ xs, SqT K H a xs → xs[i]? = some x,
    fun i H => ∃ xs : List V, SqT K H a xs ∧ xs.length ≤ i⟩
theorem turn_enumT {P : Program} {w : World} {K : PySem.W.Frag} {elts : List Expr} {kk : Nat} {tpos : Pos} (a e it : Addr) :
    Turn P w K (.Tuple elts kk tpos) (IteT K a) [e, it] e (fun i h => (∃ old, IsEnum h e it ((i : Nat) : Int) old) ∧ h.IsTupleIter it a i ∧ e ≠ it ∧ a ≠ it ∧ e ≠ a) where
  mem := by simp
  obj := fun i h st b hb => by
    obtain ⟨⟨old, k1⟩, ⟨o, ho, hc, hd⟩, _⟩ := st
    rcases List.mem_cons.mp hb with rfl | hb
    · exact ⟨_, k1, fun v q => nomatch q⟩
    · obtain rfl := List.mem_singleton.mp hb
      exact ⟨o, ho, fun v q => by rw [hd] at q; cases q⟩
  keep := fun i h h' st k => by
    obtain ⟨⟨old, k1⟩, k2, k3⟩ := st
    exact ⟨⟨old, k e (by simp) _ k1⟩, k2.at fun o q => k it (by simp) o q, k3⟩
  item := by
    intro X hP hw hK hc i pins s σ H E I hf st hg
    subst hP hw hK
    obtain ⟨⟨old, k1⟩, k2, k3, k4, k5⟩ := st
    obtain ⟨xs, x, hq, hx⟩ := hg
    obtain ⟨its, rv, pt, hz⟩ := I.tuple hq
    obtain ⟨u, hu, ru⟩ := rv.get hx
    have l1 : e < s.heap.objs.size := Heap.lt_size k1
    have l2 : it < s.heap.objs.size := by obtain ⟨_, q, _⟩ := k2; exact Heap.lt_size q
    have lu : i < its.toArray.size := by rw [List.size_toArray]; exact (List.getElem?_eq_some_iff.mp hu).1
    refine wpAny_pyNext_enum_itemD (Draws.tuple (A := X.A.in1) (show X.A.in1.handled = none from I.ok.hd hc) it a k4 its.toArray) k1 ⟨k2, pt⟩ lu k3 (by simp [k3, k5]) fun y h' tk hy ho st' hT hsz hk => ?_
    obtain rfl : u = y := by
      have : its.toArray[i]? = some u := by simpa using hu
      rw [this] at hy
      exact Option.some.inj hy
    refine ⟨_, rfl, wpAny_letOwnedTupleGo_enum (s := { s with heap := h', toks := tk + 1 }) ho fun h'' he' sb => ?_⟩
    have hT2 : h''.get? s.heap.objs.size = some { cls := .type "tuple", data := .seq #[.int i tk, u] } := (sb.2 _ (Nat.ne_of_gt l1)).trans hT
    have nw : ObjOk X.prog X.w (upd H s.heap.objs.size (.tup [.int (i : Nat), x])) h'' s.heap.objs.size (.tup [.int (i : Nat), x]) :=
      ⟨by show 2 ≤ sizeLine; decide, [.int i tk, u], .cons ⟨_, rfl⟩ (.cons ru .nil), ⟨_, hT2, rfl, _, rfl⟩⟩
    have I1 : Inv X pins σ (upd H s.heap.objs.size (.tup [.int (i : Nat), x])) { s with heap := h'', toks := tk + 1 } :=
      I.turnedNew (ch := [e, it]) (fun b ob hb q => (sb.2 b (fun z => hb (by simp [z]))).trans (hk b ob (fun z => hb (by simp [z])) (fun z => hb (by simp [z])) q)) hf (Nat.le_refl _) nw
    refine ⟨.ref s.heap.objs.size, _, I1, rfl, ⟨_, x, rfl, I.hok.fresh (Nat.le_refl _), rfl, fun ys hy => by rw [I.tuple_inj hy hq]; exact hx⟩, ⟨⟨u, ?_⟩, st'.1.at fun o q => (sb.2 it (Ne.symm k3)).trans q, k3, k4, k5⟩, fun b hb => ?_⟩
    · rw [show ((i + 1 : Nat) : Int) = (i : Int) + 1 by omega]
      exact he'
    · have hb' : b < s.heap.objs.size := by
        rcases List.mem_cons.mp hb with rfl | hb
        · exact l1
        · obtain rfl := List.mem_singleton.mp hb
          exact l2
      rw [upd_ne (Nat.ne_of_lt hb')]
      exact (hf b hb).1
  done := by
    intro X hP hw hK hc i pins s σ H E I hf st hg
    subst hP hw hK
    obtain ⟨⟨old, k1⟩, k2, k3, k4, k5⟩ := st
    obtain ⟨xs, hq, hx⟩ := hg
    obtain ⟨its, rv, pt, hz⟩ := I.tuple hq
    obtain ⟨f0, f1, f2, f3, f4, f5⟩ := hf it (by simp)
    have hl := rv.length
    exact enum_endT (show X.A.in1.handled = none from I.ok.hd hc) k1 k2 pt (by simp; omega) fun h' eb => ⟨rfl, I.turned (t' := s.toks) (fun b o hb q => eb b o hb q) f0 f1 f3 f4 f5⟩
  self := fun A i s Q E st h => by
    obtain ⟨⟨_, k1⟩, _⟩ := st
    exact wpAny_pyIter_enum k1 h
def iEnumT (K : PySem.W.Frag) (ta : TA) : TI := fun σ H R => ta σ H fun vs H1 => ∃ a xs, vs = [.ref a] ∧ SqT K H1 a xs ∧ R (IteT K a) H1
theorem pi_enumT {X : Cx} {e : Expr} {ta : TA} {p pos tpos : Pos} {elts : List Expr} {kk : Nat} (hg : Gl X "enumerate") (hm : X.mg "enumerate" = none) (ha : PA X [e] ta) (hs : starEach [e] X.env = [(false, eval e X.env)] := by rfl) :
    PI X (.Tuple elts kk tpos) (.Call (.Name "enumerate" p) [e] [] pos) (iEnumT X.K ta) := by
  refine ⟨fun pins s σ H R I h => ?_⟩
  refine Call_ (ld_blt I hg hm boot_enumerate (PyProof.Rows.callWith_type1 (thn (ha.run pos pins s σ H _ I h) fun us s1 ⟨vs, H1, I1, r1, q1⟩ => ?_) hs rfl))
  obtain ⟨a, xs, rfl, hq, q⟩ := q1
  cases r1 with
  | cons r rr =>
    cases rr
    cases r
    obtain ⟨its, rv, pt, hz⟩ := I1.tuple hq
    refine enum_call (begins_tuple a its.toArray) pt fun h' he hit hk => wpAny_pyIter_enum he ?_
    have I2 : Inv X pins σ H1 { s1 with heap := h' } := I1.kept (t' := s1.toks) hk
    have al : a < s1.heap.objs.size := by obtain ⟨_, q, _⟩ := pt; exact Heap.lt_size q
    refine ⟨s1.heap.objs.size + 1, [s1.heap.objs.size + 1, s1.heap.objs.size], _, _, H1, rfl, I2, turn_enumT a (s1.heap.objs.size + 1) s1.heap.objs.size, ⟨⟨.none, he⟩, ⟨_, hit, rfl, rfl⟩, Nat.succ_ne_self _, Nat.ne_of_lt al, Ne.symm (Nat.ne_of_lt (Nat.lt_succ_of_lt al))⟩, fun b hb => ?_, q⟩
    have hle : s1.heap.objs.size ≤ b := by
      rcases List.mem_cons.mp hb with rfl | hb
      · exact Nat.le_add_right _ _
      · obtain rfl := List.mem_singleton.mp hb
        exact Nat.le_refl _
    exact I1.fpOk hle (I1.hok.fresh hle)
theorem PI.or {X : Cx} {tg e : Expr} {wi wi' : TI} (h : PI X tg e wi) (h' : PI X tg e wi') : PI X tg e (fun σ H R => wi σ H R ∨ wi' σ H R) := ⟨fun pins s σ H R I q => q.elim (h.run pins s σ H R I) (h'.run pins s σ H R I)⟩
end XE

namespace KC
open PySem PySem.Spec PyProof.Rows L2 C8 XE
abbrev sPlaces : Stmt := top 29
def InT : D → List Int → Prop
  | _, [] => True
  | .sq cs, k :: p => 0 ≤ k ∧ ∃ c, cs[k.toNat + 1]? = some c ∧ InT c p
  | _, _ :: _ => False
def PlV (H : Hp) (v : V) (p : List Int) : Prop := ∃ a, v = .ref a ∧ H a = some (.tup (p.map V.int))
theorem PlV.same {H H' : Hp} (s : Same H H') {v : V} {p : List Int} (h : PlV H v p) : PlV H' v p := by
  obtain ⟨a, e, q⟩ := h
  exact ⟨a, e, s _ _ q⟩
/-- a tree: its label, its children -/
theorem isT_inv {rs : List Rw} {t : D} (h : isT rs t = true) : ∃ z cs m, t = .sq (.fl (.str z) :: cs) ∧ many rs z = some m ∧ (cs.length : Int) = m ∧ isTs rs cs = true := by
  unfold isT at h
  split at h
  · rename_i z cs
    split at h
    · rename_i m hm
      rw [Bool.and_eq_true] at h
      exact ⟨z, cs, m, rfl, hm, of_decide_eq_true h.1, h.2⟩
    · cases h
  · cases h
theorem isTs_get {rs : List Rw} : ∀ {cs : List D}, isTs rs cs = true → ∀ {i : Nat} {c : D}, cs[i]? = some c → isT rs c = true
  | [], _, i, c, e => by cases e
  | x :: xs, h, i, c, e => by
    rw [isTs, Bool.and_eq_true] at h
    cases i with
    | zero => cases e; exact h.1
    | succ i => exact isTs_get h.2 e
theorem szs_get : ∀ {cs : List D} {i : Nat} {c : D}, cs[i]? = some c → sz c ≤ szs cs
  | [], i, c, e => by cases e
  | x :: xs, i, c, e => by
    rw [szs]
    cases i with
    | zero => cases e; omega
    | succ i => have := szs_get (cs := xs) (i := i) e; omega
theorem szs_app : ∀ (a b : List D), szs (a ++ b) = szs a + szs b
  | [], b => by rw [List.nil_append, szs, Nat.zero_add]
  | x :: a, b => by rw [List.cons_append, szs, szs, szs_app a b, Nat.add_assoc]
theorem sz_pos : ∀ d : D, 1 ≤ sz d
  | .fl _ => Nat.le_refl _
  | .emp => Nat.le_refl _
  | .sq xs => by rw [sz]; omega
theorem len_szs : ∀ cs : List D, cs.length ≤ szs cs
  | [] => Nat.le_refl _
  | x :: xs => by rw [szs, List.length_cons]; have := len_szs xs; have := sz_pos x; omega
theorem DAts.len {F : Addr → Prop} {H : Hp} : ∀ {ds : List D} {vs : List V}, DAts F H vs ds → vs.length = ds.length
  | [], [], _ => rfl
  | d :: ds, v :: vs, ⟨_, t⟩ => congrArg (· + 1) (DAts.len t)
  | [], _ :: _, k => (show False from k).elim
  | _ :: _, [], k => (show False from k).elim
theorem DAts.get {F : Addr → Prop} {H : Hp} : ∀ {ds : List D} {vs : List V}, DAts F H vs ds → ∀ {i : Nat} {v : V}, vs[i]? = some v → ∃ d, ds[i]? = some d ∧ DAt F H v d
  | [], [], _, i, v, e => by cases e
  | d :: ds, v :: vs, ⟨k, t⟩, i, v', e => by
    cases i with
    | zero => cases e; exact ⟨d, rfl, k⟩
    | succ i => exact DAts.get t e
  | [], _ :: _, k, _, _, _ => (show False from k).elim
  | _ :: _, [], k, _, _, _ => (show False from k).elim
/-- a tree's cell -/
theorem DAt.tree {rs : List Rw} {H : Hp} {v : V} {t : D} (h : DAt nol H v t) (ht : isT rs t = true) : ∃ a z cvs cs m, v = .ref a ∧ H a = some (.tup (.str z :: cvs)) ∧ t = .sq (.fl (.str z) :: cs) ∧ DAts nol H cvs cs ∧ many rs z = some m ∧ (cs.length : Int) = m ∧ isTs rs cs = true := by
  obtain ⟨z, cs, m, rfl, hm, hl, hs⟩ := isT_inv ht
  obtain ⟨a, vs, rfl, q, _, k⟩ := h
  have q : H a = some (.tup vs) := q.elim id fun e => e.1.elim
  cases vs with
  | nil => exact (show False from k).elim
  | cons v0 cvs =>
    obtain ⟨⟨e, _⟩, k⟩ := k
    subst e
    exact ⟨a, z, cvs, cs, m, rfl, q, rfl, k, hm, hl, hs⟩
theorem paired_app {α β : Type} {R : α → β → Prop} {a c : List α} {b d : List β} (h : Paired R a b) (h' : Paired R c d) : Paired R (a ++ c) (b ++ d) := by
  induction h with
  | nil => exact h'
  | cons q _ ih => exact .cons q ih
def spPlaces (N : Nat) : Sp := fun vs H Q _ => ∃ (v : V) (t : D) (rs : List Rw), vs = [v] ∧ DAt nol H v t ∧ isT rs t = true ∧ sz t ≤ N ∧ sz t ≤ 1000 ∧
  ∀ (l : Addr) (ws : List V) (ps : List (List Int)) (H' : Hp), H l = none → Same H H' → H' l = some (.lst ws) → Paired (PlV H') ws ps → ps ≠ [] → ps.length ≤ sz t → (∀ p ∈ ps, InT t p ∧ p.length ≤ sz t) → Q (.ref l) H'
abbrev NPl : List Str := ["_law_tree_here", "_law_found", "_law_k", "_law_child", "_law_place"]
theorem scPlaces : FnScope NPl ["_law_tree_here"] (fnScope sPlaces) := fnScope_by (by decide +kernel)
section
variable {P : Program} {w : World} {K : PySem.W.Frag} {mg : Str → Option Value} {base : Heap}
theorem places_step {k : Nat} {N : Nat} {f : Addr} {fd : FuncData} (F : Def K mg "_law_places" sPlaces f fd) (b : Binds K fd ["_law_tree_here"] []) (T : Blt4 mg) (CP : Cal P w K mg base k "_law_places" (spPlaces N) []) : Cal P w K mg base (k + 1) "_law_places" (spPlaces (N + 1)) [] := by
  refine cal0 F b .nil scPlaces (fun vs H Q E h => ?_) (fun cdv A outer s H vs Q E hr h => ?_)
  · obtain ⟨v, t, rs, rfl, _⟩ := h
    rfl
  · obtain ⟨v, t, rs, rfl, hv, ht, h0, h1, kk⟩ := h
    have nd := scPlaces.nd
    refine ⟨_, pss_cons (ps_set (i := 1) nd rfl (Or.inl rfl) (pe_lst (pa_cons (pe_tup pa_nil) pa_nil)))
      (pss_cons (ps_for PassesOwn.never rfl (pi_enumT (by rfl) T.enu (pa_cons (pe_slice sl_tup (pv 0) (po_some pe_int) po_none) pa_nil)) (pg_tup rfl (pgs_cons (pg_name (i := 2) nd rfl (by first | exact Or.inl rfl | exact Or.inr rfl)) (pgs_cons (pg_name (i := 3) nd rfl (by first | exact Or.inl rfl | exact Or.inr rfl)) pgs_nil)))
          (pss_one (ps_expr (pe_bm PySem.F.plainAttrs_list PySem.F.slot_list_extend PySem.F.type_list_extend mt_extend (pv 1) (pa_cons
            (pe_lc (own := [("_law_place", 4)]) (g := gName 4) (tt := tYes) rfl nd (pi_list (pe_c CP hr (Nat.le_refl _) (by rfl) (pa_cons (pv 3) pa_nil))) (blkOk_by (N := NPl) (sc := fnScope sPlaces) (by decide +kernel)) (fun _ _ _ _ _ => pg_name (i := 4) nd rfl (Or.inl rfl)) (fun _ _ _ _ _ => pts_nil)
              (fun _ _ _ _ _ => pe_op (show OpR _ (binaryOp .Add) (rCatT K) from op_catT) (pe_tup (pa_cons (pv 2) pa_nil)) (pv 4))) pa_nil)))))
      (pss_one (ps_ret (pv 1)))), ?_⟩
    obtain ⟨a, z, cvs, cs, m, rfl, ha, rfl, hcs, hm, hl, hts⟩ := hv.tree ht
    have hcl := hcs.len
    have hsz : sz (.sq (.fl (.str z) :: cs)) = 2 + szs cs := by rw [sz, szs, sz]; omega
    rw [hsz] at h0 h1
    refine ⟨(by show 0 ≤ sizeLine; decide), fun e0 ne0 => ⟨(by show 1 ≤ sizeLine; decide), fun fd nfd => ?_⟩⟩
    have fe : fd ≠ e0 := (ne_of_none upd_same nfd).symm
    have nfH : H fd = none := by rw [upd_ne fe] at nfd; exact nfd
    have s1 : Same H (upd (upd H e0 (.tup [])) fd (.lst [.ref e0])) := (same_upd ne0).trans (same_upd nfd)
    have hf1 : (upd (upd H e0 (.tup [])) fd (.lst [.ref e0])) fd = some (.lst [.ref e0]) := upd_same
    have he1 : (upd (upd H e0 (.tup [])) fd (.lst [.ref e0])) e0 = some (.tup []) := by rw [upd_ne fe.symm]; exact upd_same
    generalize upd (upd H e0 (.tup [])) fd (.lst [.ref e0]) = H1 at s1 hf1 he1
    refine ⟨_, rfl, 1, rfl, a, _, rfl, SqT.of (s1 _ _ ha), (fun z => by have := z.1; unfold HT.sIx at this; simp at this), fun p np => ?_⟩
    rw [cutFrom (by decide)]
    have cut1 : (V.str z :: cvs).drop (1 : Int).toNat = cvs := rfl
    rw [cut1]
    refine ⟨p, _, rfl, SqT.of upd_same, ?_⟩
    have npH : H p = none := same_free s1 np
    refine for_gen (J := IteT K p) cvs.length (fun i σ H' => ∃ (v2 v3 : Option V) (ws : List V) (ps : List (List Int)), σ = [some (.ref a), some (.ref fd), v2, v3, none] ∧ H' fd = some (.lst ws) ∧ Paired (PlV H') ws ps ∧ ps ≠ [] ∧ ps.length ≤ 1 + szs (cs.take i) ∧
        (∀ q ∈ ps, InT (.sq (.fl (.str z) :: cs)) q ∧ q.length ≤ 1 + szs cs) ∧ Same H H' ∧ H' p = some (.tup cvs))
      ⟨none, none, _, [[]], rfl, by rw [upd_ne (ne_of_none hf1 np)]; exact hf1, .cons ⟨e0, rfl, by rw [upd_ne (ne_of_none he1 np)]; exact he1⟩ .nil, (by simp), by simp, (fun q hq => by rw [List.mem_singleton.mp hq]; exact ⟨trivial, Nat.zero_le _⟩), s1.trans (same_upd np), upd_same⟩
      (fun i σ H' hi ⟨_, _, _, _, _, _, _, _, _, _, _, hp⟩ => ⟨_, _, SqT.of hp, List.getElem?_eq_getElem hi⟩) (fun σ H' ⟨_, _, _, _, _, _, _, _, _, _, _, hp⟩ => ⟨_, SqT.of hp, Nat.le_refl _⟩) ?_
      (fun σ H' ⟨v2, v3, ws, ps, e, hf, hpw, hne, hpl, hin, sm, _⟩ => by
        subst e
        refine ⟨_, rfl, kk fd ws ps H' nfH sm hf hpw hne ?_ fun q hq => ⟨(hin q hq).1, ?_⟩⟩
        · rw [hsz, hcl, List.take_of_length_le (Nat.le_refl _)] at *; omega
        · have := (hin q hq).2; rw [hsz]; omega)
    rintro i σ H2 v H3 hi ⟨v2, v3, ws, ps, rfl, hf, hpw, hne, hpl, hin, sm, hp⟩ ⟨T', x, rfl, nT, rfl, hx⟩
    have hx := hx _ (SqT.of hp)
    obtain ⟨c, hc, hxc⟩ := hcs.get hx
    obtain ⟨hci, ec⟩ := List.getElem?_eq_some_iff.mp hc
    refine ⟨T', [.int (i : Nat), x], rfl, SqT.of upd_same, rfl, .int (i : Nat), [x], rfl, x, [], rfl, rfl, ?_⟩
    have s3 : Same H2 (upd H2 T' (.tup [.int (i : Nat), x])) := same_upd nT
    generalize upd H2 T' (.tup [.int (i : Nat), x]) = H3 at s3
    have hf3 := s3 _ _ hf
    have szc := szs_get hc
    refine ⟨_, rfl, .inl ⟨rfl, _, SqL.of hf3⟩, _, rfl, x, c, rs, rfl, DAt.hold (.same (sm.trans s3)) _ hxc, isTs_get hts hc, by omega, by omega, fun l us qs H4 nl s4 hl4 hpu qne ql qin => ⟨l, rfl, ⟨_, SqL.of hl4⟩, fun Da nDa => ?_⟩⟩
    have hul := Paired.length hpu
    have nDH : H Da = none := same_free (sm.trans (s3.trans s4)) nDa
    have hf4 := s4 _ _ hf3
    have tki : szs (cs.take (i + 1)) = szs (cs.take i) + sz c := by
      rw [List.take_succ_eq_append_getElem hci, szs_app, ec]
      show _ + (sz c + 0) = _
      omega
    have tkl : szs (cs.take i) + szs (cs.drop i) = szs cs := by rw [← szs_app, List.take_append_drop]
    refine lc_gen (J := Itl K l) us.length (fun j H' => ∃ ys, H' Da = some (.lst ys) ∧ Paired (PlV H') ys ((qs.take j).map fun q => (i : Int) :: q) ∧ Same H4 H') ⟨[], upd_same, .nil, same_upd nDa⟩
      (fun j H' hj ⟨_, _, _, sm'⟩ => ⟨_, _, SqL.of (sm' _ _ hl4), List.getElem?_eq_getElem hj⟩) (fun H' ⟨_, _, _, sm'⟩ => ⟨_, SqL.of (sm' _ _ hl4), Nat.le_refl _⟩) (fun j H' v H'' hj ⟨ys, hD, hpy, sm'⟩ yl => ?_) (fun H' ⟨ys, hD, hpy, sm'⟩ => ?_)
    · obtain ⟨rfl, hy⟩ := yl
      have hy := hy _ (SqL.of (sm' _ _ hl4))
      obtain ⟨q, hq, hqv⟩ := paired_get hpu hy
      obtain ⟨qa, rfl, hqa⟩ := hqv
      have hyl := Paired.length hpy
      obtain ⟨hqj, eq'⟩ := List.getElem?_eq_some_iff.mp hq
      rw [List.length_map, List.length_take] at hyl
      have fin : ∀ (H9 : Hp) (ta : Addr), Same H'' H9 → H9 ta = some (.tup (((i : Int) :: q).map V.int)) → ∃ acc, H9 Da = some (.lst acc) ∧ acc.length < sizeLine ∧ ∃ ys, (upd H9 Da (.lst (acc ++ [.ref ta]))) Da = some (.lst ys) ∧ Paired (PlV (upd H9 Da (.lst (acc ++ [.ref ta])))) ys ((qs.take (j + 1)).map fun q => (i : Int) :: q) ∧ Same H4 (upd H9 Da (.lst (acc ++ [.ref ta]))) := by
        intro H9 ta s9 ht9
        have hD9 := s9 _ _ hD
        have tD : ∀ {b : Addr} {xs : List V}, H9 b = some (.tup xs) → (upd H9 Da (.lst (ys ++ [.ref ta]))) b = some (.tup xs) := fun e => by rw [upd_ne (ne_of e hD9 (by intro z; cases z))]; exact e
        refine ⟨ys, hD9, by rw [sizeLine_eq]; omega, _, upd_same, ?_, fun b o e => by rw [upd_ne (ne_of_none e nDa)]; exact s9 _ _ (sm' _ _ e)⟩
        rw [List.take_succ_eq_append_getElem hqj, List.map_append, eq']
        refine Paired.snoc (Paired.mono (fun _ _ ⟨a', e, q'⟩ => ⟨a', e, tD (s9 _ _ q')⟩) hpy) ⟨ta, rfl, tD ht9⟩
      refine ⟨rfl, ?_⟩
      unfold tYes
      dsimp only
      rw [if_pos rfl]
      refine ⟨_, rfl, (by show 1 ≤ sizeLine; decide), fun ta nta => ⟨_, rfl, ta, qa, _, _, rfl, rfl, SqT.of upd_same, SqT.of (by rw [upd_ne (ne_of_none (sm' _ _ hqa) nta)]; exact sm' _ _ hqa), by simp, ?_, fun e => ?_, fun e tb ntb => ?_⟩⟩
      · rw [List.length_map]
        have := (qin q (List.mem_of_getElem? hq)).2
        show 1 + q.length ≤ sizeLine
        rw [sizeLine_eq]; omega
      · refine fin _ ta (same_upd nta) ?_
        have : q = [] := List.map_eq_nil_iff.mp e
        rw [this]
        exact upd_same
      · exact fin _ tb ((same_upd nta).trans (same_upd ntb)) upd_same
    · have hyl := Paired.length hpy
      rw [List.length_map, hul, List.take_of_length_le (Nat.le_refl _)] at hyl
      rw [hul, List.take_of_length_le (Nat.le_refl _)] at hpy
      have hwl := Paired.length hpw
      have hf5 := sm' _ _ hf4
      refine ⟨fd, Da, ws, ys, rfl, rfl, hf5, hD, by rw [sizeLine_eq]; omega, ?_⟩
      have tF : ∀ {b : Addr} {xs : List V}, H' b = some (.tup xs) → (upd H' fd (.lst (ws ++ ys))) b = some (.tup xs) := fun e => by rw [upd_ne (ne_of e hf5 (by intro z; cases z))]; exact e
      have s5 : Same H2 H' := s3.trans (s4.trans sm')
      refine ⟨_, _, _, ps ++ qs.map (fun q => (i : Int) :: q), rfl, upd_same, ?_, ?_, ?_, ?_, fun b o e => by rw [upd_ne (ne_of_none e nfH)]; exact s5 _ _ (sm _ _ e), tF (s5 _ _ hp)⟩
      · exact paired_app (Paired.mono (fun _ _ ⟨a', e, q'⟩ => ⟨a', e, tF (s5 _ _ q')⟩) hpw) (Paired.mono (fun _ _ ⟨a', e, q'⟩ => ⟨a', e, tF q'⟩) hpy)
      · intro e; exact hne (List.append_eq_nil_iff.mp e).1
      · rw [List.length_append, List.length_map, tki]; omega
      · intro q hq
        rcases List.mem_append.mp hq with h | h
        · exact hin q h
        · obtain ⟨q', hq', rfl⟩ := List.mem_map.mp h
          have := qin q' hq'
          refine ⟨⟨by omega, c, ?_, this.1⟩, by rw [List.length_cons]; omega⟩
          simpa using hc
theorem c_places {f : Addr} {fd : FuncData} (F : Def K mg "_law_places" sPlaces f fd) (b : Binds K fd ["_law_tree_here"] []) (T : Blt4 mg) : ∀ N : Nat, Cal P w K mg base (1 + N) "_law_places" (spPlaces N) []
  | 0 => by
    have no : ∀ {vs H Q E}, spPlaces 0 vs H Q E → False := fun ⟨_, t, _, _, _, _, h, _⟩ => by have := sz_pos t; omega
    exact cal0 F b .nil scPlaces (fun vs H Q E h => (no h).elim) (fun cdv A outer s H vs Q E hr h => (no h).elim)
  | N + 1 => places_step F b T (c_places F b T N)
end
end KC

namespace KC
open PySem PySem.Spec PyProof.Rows L2 C8 XE
abbrev sAt : Stmt := top 30
abbrev sPut : Stmt := top 31
def spAt (N : Nat) : Sp := fun vs H Q _ => ∃ (v : V) (pv : V) (t : D) (p : List Int) (rs : List Rw), vs = [v, pv] ∧ PlV H pv p ∧ DAt nol H v t ∧ isT rs t = true ∧ InT t p ∧ p.length < N ∧ p.length ≤ 1000 ∧
  ∀ (v' : V) (t' : D) (H' : Hp), Same H H' → DAt nol H' v' t' → isT rs t' = true → sz t' ≤ sz t → Q v' H'
def spPut (N : Nat) : Sp := fun vs H Q _ => ∃ (st : Addr) (v pv u : V) (t : D) (p : List Int) (rs : List Rw) (d : D), vs = [v, pv, u] ∧ PlV H pv p ∧ DAt nol H v t ∧ isT rs t = true ∧ InT t p ∧ p.length < N ∧ p.length ≤ 1000 ∧ DAt (oth st) H u d ∧ RowsOk rs ∧
  ∀ (v' : V) (d' : D) (H' : Hp), Same H H' → DAt (oth st) H' v' d' → sz d' ≤ sz t + sz d → Q v' H'
theorem scAt : FnScope ["_law_tree_here", "_law_place"] ["_law_tree_here", "_law_place"] (fnScope sAt) := fnScope_by (by decide +kernel)
theorem scPut : FnScope ["_law_tree_here", "_law_place", "_law_other", "_law_k"] ["_law_tree_here", "_law_place", "_law_other"] (fnScope sPut) := fnScope_by (by decide +kernel)
theorem not_whole {n : Nat} {i : Int} {o : Option Int} (h : 0 < i) (hn : 0 < n) : ¬ (HT.sIx n 0 (some i) = 0 ∧ HT.sIx n n o = n) := by
  intro z
  have z := z.1
  unfold HT.sIx at z
  dsimp only at z
  rw [if_neg (by omega)] at z
  omega
theorem not_whole_hi {n : Nat} {i : Int} {o : Option Int} (h : 0 ≤ i) (hn : i < n) : ¬ (HT.sIx n 0 o = 0 ∧ HT.sIx n n (some i) = n) := by
  intro z
  have z := z.2
  unfold HT.sIx at z
  dsimp only at z
  rw [if_neg (by omega)] at z
  omega
section
variable {P : Program} {w : World} {K : PySem.W.Frag} {mg : Str → Option Value} {base : Heap}
theorem at_step {k : Nat} {N : Nat} {f : Addr} {fd : FuncData} (F : Def K mg "_law_at" sAt f fd) (b : Binds K fd ["_law_tree_here", "_law_place"] []) (T : Blt4 mg) (CA : Cal P w K mg base k "_law_at" (spAt N) []) : Cal P w K mg base (k + 1) "_law_at" (spAt (N + 1)) [] := by
  refine cal0 F b .nil scAt (fun vs H Q E h => ?_) (fun cdv A outer s H vs Q E hr h => ?_)
  · obtain ⟨v, pv, t, p, rs, rfl, _⟩ := h
    rfl
  · obtain ⟨v, pl, t, p, rs, rfl, hp, hv, ht, hin, hN, h1, kk⟩ := h
    have hu : (A.deeper (envOfC "_law_at" (fnScope sAt) s.heap.objs.size f cdv)).units + 64 < cLine := by have := hr.un; omega
    refine ⟨_, pss_one (ps_ret (pe_ifExp (pt_cmpR (op_eqNilT hu) (pv 1) (pe_tup pa_nil) (nomark _)) (pv 0)
      (pe_c CA hr (Nat.le_refl _) (by rfl) (pa_cons (pe_ix ix_tup (pv 0) (pe_op op_add (pe_ix ix_tup (pv 1) pe_int fun _ _ => rfl) pe_int) fun _ _ => rfl) (pa_cons (pe_slice sl_tup (pv 1) (po_some pe_int) po_none) pa_nil))))), ?_⟩
    obtain ⟨a, rfl, ha⟩ := hp
    refine ⟨_, rfl, (by show 0 ≤ sizeLine; decide), fun e ne => ⟨a, e, _, rfl, rfl, SqT.of (by rw [upd_ne (ne_of_none ha ne)]; exact ha), SqT.of upd_same, _, rfl, ?_⟩⟩
    have s1 : Same H (upd H e (.tup [])) := same_upd ne
    generalize upd H e (.tup []) = H1 at s1
    cases p with
    | nil => exact iteBt rfl ⟨_, rfl, kk v t H1 s1 (DAt.hold (.same s1) _ hv) ht (Nat.le_refl _)⟩
    | cons i p =>
      refine iteBf rfl ?_
      obtain ⟨b, z, cvs, cs, m, rfl, hb, rfl, hcs, hm, hl, hts⟩ := hv.tree ht
      have hcl := hcs.len
      obtain ⟨i0, c, hc, hin'⟩ := hin
      have hc : cs[i.toNat]? = some c := by simpa using hc
      obtain ⟨hlt, _⟩ := List.getElem?_eq_some_iff.mp hc
      have hx : cvs[i.toNat]? = some cvs[i.toNat] := List.getElem?_eq_getElem (by omega)
      obtain ⟨c', hc', hxc⟩ := hcs.get hx
      rw [hc] at hc'
      obtain rfl := Option.some.inj hc'
      refine ⟨_, rfl, _, rfl, a, _, 0, .int i, rfl, rfl, SqT.of (s1 _ _ ha), at_of (j := 0) (by omega) rfl, i, 1, rfl, rfl, b, _, i + 1, cvs[i.toNat], rfl, rfl, SqT.of (s1 _ _ hb), at_of (j := i.toNat + 1) (by omega) (by simpa using hx), ?_⟩
      refine ⟨_, rfl, 1, rfl, a, _, rfl, SqT.of (s1 _ _ ha), not_whole (by decide) (by simp), fun q nq => ?_⟩
      rw [cutFrom (by decide)]
      have s2 := s1.trans (same_upd nq (o := .tup (((i :: p).map V.int).drop (1 : Int).toNat)))
      refine ⟨_, .ref q, c, p, rs, rfl, ⟨q, rfl, upd_same⟩, DAt.hold (.same s2) _ hxc, isTs_get hts hc, hin', by rw [List.length_cons] at hN; omega, by rw [List.length_cons] at h1; omega, fun v' t' H' s' hv' ht' hz => kk v' t' H' (s2.trans s') hv' ht' ?_⟩
      have := szs_get hc
      rw [sz, szs]
      omega
theorem c_at {f : Addr} {fd : FuncData} (F : Def K mg "_law_at" sAt f fd) (b : Binds K fd ["_law_tree_here", "_law_place"] []) (T : Blt4 mg) : ∀ N : Nat, Cal P w K mg base (1 + N) "_law_at" (spAt N) []
  | 0 => by
    have no : ∀ {vs H Q E}, spAt 0 vs H Q E → False := fun ⟨_, _, _, _, _, _, _, _, _, _, h, _⟩ => by omega
    exact cal0 F b .nil scAt (fun vs H Q E h => (no h).elim) (fun cdv A outer s H vs Q E hr h => (no h).elim)
  | N + 1 => at_step F b T (c_at F b T N)
theorem DAts.app {F : Addr → Prop} {H : Hp} : ∀ {ds es : List D} {vs us : List V}, DAts F H vs ds → DAts F H us es → DAts F H (vs ++ us) (ds ++ es)
  | [], es, [], us, _, h => h
  | d :: ds, es, v :: vs, us, ⟨k, t⟩, h => ⟨k, DAts.app t h⟩
  | [], _, _ :: _, _, k, _ => (show False from k).elim
  | _ :: _, _, [], _, k, _ => (show False from k).elim
theorem DAts.take {F : Addr → Prop} {H : Hp} : ∀ {ds : List D} {vs : List V} (n : Nat), DAts F H vs ds → DAts F H (vs.take n) (ds.take n)
  | _, _, 0, _ => trivial
  | [], [], n + 1, _ => trivial
  | d :: ds, v :: vs, n + 1, ⟨k, t⟩ => ⟨k, DAts.take n t⟩
  | [], _ :: _, _ + 1, k => (show False from k).elim
  | _ :: _, [], _ + 1, k => (show False from k).elim
theorem DAts.drop {F : Addr → Prop} {H : Hp} : ∀ {ds : List D} {vs : List V} (n : Nat), DAts F H vs ds → DAts F H (vs.drop n) (ds.drop n)
  | _, _, 0, k => k
  | [], [], n + 1, _ => trivial
  | d :: ds, v :: vs, n + 1, ⟨_, t⟩ => DAts.drop n t
  | [], _ :: _, _ + 1, k => (show False from k).elim
  | _ :: _, [], _ + 1, k => (show False from k).elim
theorem put_step {k : Nat} {N : Nat} {f : Addr} {fd : FuncData} (F : Def K mg "_law_put" sPut f fd) (b : Binds K fd ["_law_tree_here", "_law_place", "_law_other"] []) (T : Blt4 mg) (CP : Cal P w K mg base k "_law_put" (spPut N) []) : Cal P w K mg base (k + 1) "_law_put" (spPut (N + 1)) [] := by
  refine cal0 F b .nil scPut (fun vs H Q E h => ?_) (fun cdv A outer s H vs Q E hr h => ?_)
  · obtain ⟨st, v, pv, u, t, p, rs, d, rfl, _⟩ := h
    rfl
  · obtain ⟨st, v, pl, u, t, p, rs, d, rfl, hp, hv, ht, hin, hN, h1, hd, ok, kk⟩ := h
    have nd := scPut.nd
    have hu : (A.deeper (envOfC "_law_put" (fnScope sPut) s.heap.objs.size f cdv)).units + 64 < cLine := by have := hr.un; omega
    refine ⟨_, pss_cons (ps_if (pt_cmpR (op_eqNilT hu) (pv 1) (pe_tup pa_nil) (nomark _)) (pss_one (ps_ret (pv 2))) pss_nil)
      (pss_cons (ps_set (i := 3) nd rfl (Or.inl rfl) (pe_op op_add (pe_ix ix_tup (pv 1) pe_int fun _ _ => rfl) pe_int))
      (pss_one (ps_ret (pe_op op_catT (pe_op op_catT (pe_slice sl_tup (pv 0) po_none (po_some (pv 3)))
          (pe_tup (pa_cons (pe_c CP hr (Nat.le_refl _) (by rfl) (pa_cons (pe_ix ix_tup (pv 0) (pv 3) fun _ _ => rfl) (pa_cons (pe_slice sl_tup (pv 1) (po_some pe_int) po_none) (pa_cons (pv 2) pa_nil)))) pa_nil)))
        (pe_slice sl_tup (pv 0) (po_some (pe_op op_add (pv 3) pe_int)) po_none))))), ?_⟩
    obtain ⟨a, rfl, ha⟩ := hp
    refine ⟨_, rfl, (by show 0 ≤ sizeLine; decide), fun e ne => ⟨a, e, _, rfl, rfl, SqT.of (by rw [upd_ne (ne_of_none ha ne)]; exact ha), SqT.of upd_same, _, rfl, ?_⟩⟩
    have s1 : Same H (upd H e (.tup [])) := same_upd ne
    generalize upd H e (.tup []) = H1 at s1
    cases p with
    | nil => exact iteBt rfl ⟨_, rfl, kk u d H1 s1 (DAt.hold (.same s1) _ hd) (by omega)⟩
    | cons i p =>
      refine iteBf rfl ?_
      obtain ⟨b, z, cvs, cs, m, rfl, hb, rfl, hcs, hm, hl, hts⟩ := hv.tree ht
      have hcl := hcs.len
      obtain ⟨i0, c, hc, hin'⟩ := hin
      have hc : cs[i.toNat]? = some c := by simpa using hc
      obtain ⟨hlt, ec⟩ := List.getElem?_eq_some_iff.mp hc
      have hx : cvs[i.toNat]? = some cvs[i.toNat] := List.getElem?_eq_getElem (by omega)
      obtain ⟨c', hc', hxc⟩ := hcs.get hx
      rw [hc] at hc'
      obtain rfl := Option.some.inj hc'
      have hm2 : m ≤ 2 := by obtain ⟨m', e, _, h⟩ := many_lab ok (many_some hm); rw [hm] at e; cases e; exact h
      have hnl : (i + 1).toNat = i.toNat + 1 := by omega
      refine ⟨_, rfl, a, _, 0, .int i, rfl, rfl, SqT.of (s1 _ _ ha), at_of (j := 0) (by omega) rfl, i, 1, rfl, rfl, ?_⟩
      refine ⟨_, rfl, _, rfl, i + 1, rfl, b, _, rfl, SqT.of (s1 _ _ hb), not_whole_hi (by omega) (by rw [List.length_cons]; omega), fun q nq => ?_⟩
      rw [cutTo (by omega), hnl, List.take_succ_cons]
      have s2 := s1.trans (same_upd nq (o := .tup (.str z :: cvs.take i.toNat)))
      have hq2 : (upd H1 q (.tup (.str z :: cvs.take i.toNat))) q = some (.tup (.str z :: cvs.take i.toNat)) := upd_same
      generalize upd H1 q (.tup (.str z :: cvs.take i.toNat)) = H2 at s2 hq2
      refine ⟨_, rfl, _, rfl, b, _, i + 1, cvs[i.toNat], rfl, rfl, SqT.of (s2 _ _ hb), at_of (j := i.toNat + 1) (by omega) (by simpa using hx), _, rfl, 1, rfl, a, _, rfl, SqT.of (s2 _ _ ha), not_whole (by decide) (by simp), fun r nr => ?_⟩
      rw [cutFrom (by decide)]
      have s3 := s2.trans (same_upd nr (o := .tup (((i :: p).map V.int).drop (1 : Int).toNat)))
      refine ⟨_, rfl, st, _, .ref r, u, c, p, rs, d, rfl, ⟨r, rfl, upd_same⟩, DAt.hold (.same s3) _ hxc, isTs_get hts hc, hin', by rw [List.length_cons] at hN; omega, by rw [List.length_cons] at h1; omega, DAt.hold (.same s3) _ hd, ok, fun v' d' H' s' hv' hz => ⟨(by show 1 ≤ sizeLine; decide), fun x nx => ?_⟩⟩
      have s4 : Same H2 H' := (same_upd nr).trans s'
      have hq4 := s4 _ _ hq2
      have hb4 := s4 _ _ (s2 _ _ hb)
      refine ⟨q, x, _, _, rfl, rfl, SqT.of (by rw [upd_ne (ne_of_none hq4 nx)]; exact hq4), SqT.of upd_same, by simp, by rw [sizeLine_eq]; simp; omega, (fun e => by cases e), fun _ y ny => ?_⟩
      have s5 : Same H' (upd (upd H' x (.tup [v'])) y (.tup ((.str z :: cvs.take i.toNat) ++ [v']))) := (same_upd nx).trans (same_upd ny)
      have hy5 : (upd (upd H' x (.tup [v'])) y (.tup ((.str z :: cvs.take i.toNat) ++ [v']))) y = some (.tup ((.str z :: cvs.take i.toNat) ++ [v'])) := upd_same
      generalize upd (upd H' x (.tup [v'])) y (.tup ((.str z :: cvs.take i.toNat) ++ [v'])) = H5 at s5 hy5
      refine ⟨_, rfl, _, rfl, i + 1, 1, rfl, rfl, i + 1 + 1, rfl, b, _, rfl, SqT.of (s5 _ _ hb4), not_whole (by omega) (by simp), fun r2 nr2 => ?_⟩
      rw [cutFrom (by omega), show (i + 1 + 1).toNat = i.toNat + 1 + 1 by omega, List.drop_succ_cons]
      have s6 := s5.trans (same_upd nr2 (o := .tup (cvs.drop (i.toNat + 1))))
      have hy6 : (upd H5 r2 (.tup (cvs.drop (i.toNat + 1)))) y = some (.tup ((.str z :: cvs.take i.toNat) ++ [v'])) := by rw [upd_ne (ne_of_none hy5 nr2)]; exact hy5
      have s06 : Same H (upd H5 r2 (.tup (cvs.drop (i.toNat + 1)))) := s2.trans (s4.trans s6)
      have hr6 : (upd H5 r2 (.tup (cvs.drop (i.toNat + 1)))) r2 = some (.tup (cvs.drop (i.toNat + 1))) := upd_same
      generalize upd H5 r2 (.tup (cvs.drop (i.toNat + 1))) = H6 at s6 hy6 s06 hr6
      have wk : DAts (oth st) H6 cvs cs := DAts.hold (.same s06) _ (DAts.weak (fun _ h => h.elim) _ hcs)
      have all : DAts (oth st) H6 (cvs.take i.toNat ++ [v'] ++ cvs.drop (i.toNat + 1)) (cs.take i.toNat ++ [d'] ++ cs.drop (i.toNat + 1)) := DAts.app (DAts.app (DAts.take _ wk) ⟨DAt.hold (.same s6) _ hv', trivial⟩) (DAts.drop _ wk)
      have size : sz (.sq (.fl (.str z) :: (cs.take i.toNat ++ [d'] ++ cs.drop (i.toNat + 1)))) ≤ sz (.sq (.fl (.str z) :: cs)) + sz d := by
        show 1 + (1 + szs (cs.take i.toNat ++ [d'] ++ cs.drop (i.toNat + 1))) ≤ 1 + (1 + szs cs) + sz d
        rw [szs_app, szs_app, show szs [d'] = sz d' + 0 from rfl]
        have e1 : szs cs = szs (cs.take i.toNat) + szs (cs.drop i.toNat) := by rw [← szs_app, List.take_append_drop]
        rw [List.drop_eq_getElem_cons hlt, szs, ec] at e1
        omega
      have fin : ∀ (H7 : Hp) (c : Addr), Same H6 H7 → H7 c = some (.tup (.str z :: (cvs.take i.toNat ++ [v'] ++ cvs.drop (i.toNat + 1)))) → Q (.ref c) H7 := fun H7 c s7 hc7 =>
        kk _ (.sq (.fl (.str z) :: (cs.take i.toNat ++ [d'] ++ cs.drop (i.toNat + 1)))) H7 (s06.trans s7) ⟨c, _, rfl, .inl hc7, rfl, ⟨rfl, rfl⟩, DAts.hold (.same s7) _ all⟩ size
      refine ⟨y, r2, _, _, rfl, rfl, SqT.of hy6, SqT.of hr6, by simp, by rw [sizeLine_eq]; simp; omega, fun e => ?_, fun _ c nc => fin _ c (same_upd nc) (by rw [upd_same]; simp)⟩
      refine fin H6 y (fun b o e => e) ?_
      rw [e, List.append_nil]
      exact hy6
theorem c_put {f : Addr} {fd : FuncData} (F : Def K mg "_law_put" sPut f fd) (b : Binds K fd ["_law_tree_here", "_law_place", "_law_other"] []) (T : Blt4 mg) : ∀ N : Nat, Cal P w K mg base (1 + N) "_law_put" (spPut N) []
  | 0 => by
    have no : ∀ {vs H Q E}, spPut 0 vs H Q E → False := fun ⟨_, _, _, _, _, _, _, _, _, _, _, _, _, h, _⟩ => by omega
    exact cal0 F b .nil scPut (fun vs H Q E h => (no h).elim) (fun cdv A outer s H vs Q E hr h => (no h).elim)
  | N + 1 => put_step F b T (c_put F b T N)
end
end KC

namespace KC
open PySem PySem.Spec PyProof.Rows L2 C8 XE
abbrev sLoose : Stmt := top 32
def isSq : D → Bool
  | .sq _ => true
  | _ => false
def isSt : D → Bool
  | .fl (.str _) => true
  | _ => false
theorem d_ty {K : PySem.W.Frag} {F : Addr → Prop} {H : Hp} {v : V} : ∀ {d : D}, DAt F H v d → ∃ T, (∀ H', Same H H' → TyX K H' v (.type T)) ∧ PySem.W.kitAny K (.type T) [.type "list", .type "tuple"] = some (isSq d) ∧ PySem.W.kitOne K (.type T) (.type "str") = some (isSt d) := by
  have z : ∀ T ∈ ["NoneType", "bool", "int", "str", "dict", "list", "tuple"], kitB T "list" = some (T == "list") ∧ kitB T "tuple" = some (T == "tuple") ∧ kitB T "str" = some (T == "str") := by decide +kernel
  have mk : ∀ (T : String) (b c : Bool), T ∈ ["NoneType", "bool", "int", "str", "dict", "list", "tuple"] → (T == "list" || T == "tuple") = b → (T == "str") = c → PySem.W.kitAny K (.type T) [.type "list", .type "tuple"] = some b ∧ PySem.W.kitOne K (.type T) (.type "str") = some c := by
    intro T b c hT e1 e2
    obtain ⟨h1, h2, h3⟩ := z T hT
    refine ⟨kitAny_cons (kit_ty h1) (fun e => ?_) (fun e => ?_), by rw [kit_ty h3, e2]⟩
    · rw [e, Bool.false_or] at e1
      exact kitAny_cons (b := (T == "tuple")) (kit_ty h2) (fun e' => by rw [← e1, e']; exact kitAny_nil) fun e' => by rw [← e1, e']
    · rw [e] at e1
      rw [← e1]; rfl
  intro d h
  cases d with
  | fl x =>
    obtain ⟨rfl, fx⟩ := h
    cases v with
    | non => exact ⟨"NoneType", fun _ _ => .base .non, mk _ _ _ (by decide) rfl rfl⟩
    | bl b => exact ⟨"bool", fun _ _ => .base (.bl b), mk _ _ _ (by decide) rfl rfl⟩
    | int i => exact ⟨"int", fun _ _ => .base (.int i), mk _ _ _ (by decide) rfl rfl⟩
    | str z => exact ⟨"str", fun _ _ => .base (.str z), mk _ _ _ (by decide) rfl rfl⟩
    | _ => cases fx
  | emp =>
    obtain ⟨a, rfl, q⟩ := h
    exact ⟨"dict", fun H' s => .base (.dK (s _ _ q)), mk _ _ _ (by decide) rfl rfl⟩
  | sq xs =>
    obtain ⟨a, vs, rfl, q, _⟩ := h
    rcases q with q | ⟨_, q⟩
    · exact ⟨"tuple", fun H' s => .base (.tup (s _ _ q)), mk _ _ _ (by decide) rfl rfl⟩
    · exact ⟨"list", fun H' s => .base (.lst (s _ _ q)), mk _ _ _ (by decide) rfl rfl⟩
def spLoose (N : Nat) : Sp := fun vs H Q _ => ∃ (st : Addr) (v : V) (d : D) (B : Nat) (cl : Addr), vs = [.ref st, v] ∧ DAt (oth st) H v d ∧ sz d ≤ N ∧ sz d ≤ 1000 ∧ StAt B H st cl ∧ B + sz d < 1000000000000000 ∧
  ∀ (v' : V) (H' : Hp), DAt (fun a => H a = none) H' v' d → StAt (B + sz d) H' st cl → But st H H' → Q v' H'
abbrev NLo : List Str := ["_law_state", "_law_thing", "_law_found", "_law_x"]
theorem scLoose : FnScope NLo ["_law_state", "_law_thing"] (fnScope sLoose) := fnScope_by (by decide +kernel)
theorem szs_take_succ {xs : List D} {i : Nat} (h : i < xs.length) : szs (xs.take (i + 1)) = szs (xs.take i) + sz xs[i] := by
  rw [List.take_succ_eq_append_getElem h, szs_app]
  rfl
theorem szs_take_le (xs : List D) (i : Nat) : szs (xs.take i) ≤ szs xs := by
  have : szs (xs.take i) + szs (xs.drop i) = szs xs := by rw [← szs_app, List.take_append_drop]
  omega
section
variable {P : Program} {w : World} {K : PySem.W.Frag} {mg : Str → Option Value} {base : Heap}
theorem loose_step {k : Nat} {N : Nat} {f : Addr} {fd : FuncData} (F : Def K mg "_law_loose" sLoose f fd) (b : Binds K fd ["_law_state", "_law_thing"] []) (T : Blt4 mg) (hk : 1 ≤ k) (C : Cal P w K mg base 1 "_law_take" spTake []) (CL : Cal P w K mg base k "_law_loose" (spLoose N) []) : Cal P w K mg base (k + 1) "_law_loose" (spLoose (N + 1)) [] := by
  refine cal0 F b .nil scLoose (fun vs H Q E h => ?_) (fun cdv A outer s H vs Q E hr h => ?_)
  · obtain ⟨st, v, d, B, cl, rfl, _⟩ := h
    rfl
  · obtain ⟨st, v, d, B, cl, rfl, hv, h0, h1, hst, hB, kk⟩ := h
    have nd := scLoose.nd
    refine ⟨_, pss_cons (ps_if (pt_val (pe_callB call_isiT (by rfl) T.isi (by decide +kernel) (pa_cons (pv 1) (pa_cons (pe_tup (pa_cons (pe_bt "list" T.list) (pa_cons (pe_bt "tuple" T.tup) pa_nil))) pa_nil))))
        (pss_cut (ps_setLc (i := 2) (own := [("_law_x", 3)]) (g := gName 3) (tt := tYes) rfl nd rfl rfl (by rfl) (PI.or (pi_list (pv 1)) (pi_tup (pv 1))) (blkOk_by (N := NLo) (sc := fnScope sLoose) (by decide +kernel)) (fun _ _ _ _ _ => pg_name (i := 3) nd rfl (Or.inl rfl)) (fun _ _ _ _ _ => pts_nil)
            (fun _ _ _ _ _ => pe_c CL hr (Nat.le_refl _) (by rfl) (pa_cons (pv 0) (pa_cons (pv 3) pa_nil))))
        (pss_one (ps_ret (pe_ifExp (pt_cmp (pc_eqI (pe_c C hr hk (by rfl) (pa_cons (pv 0) (pa_cons pe_int pa_nil))) pe_int)) (pv 2) (pe_callTy call_tuple_of (by rfl) T.tup (by decide +kernel) (pa_cons (pv 2) pa_nil))))))
        pss_nil)
      (pss_one (ps_ret (pv 1))), ?_⟩
    obtain ⟨Ty, ty, k1, _⟩ := d_ty (K := K) hv
    refine ⟨_, rfl, (by show 2 ≤ sizeLine; decide), fun p np => ⟨v, p, [.ty "list", .ty "tuple"], _, _, isSq d, rfl, upd_same, .cons (.ty _) (.cons (.ty _) .nil), ty _ (same_upd np), k1, isSq d, rfl, ?_⟩⟩
    have s1 : Same H (upd H p (.tup [.ty "list", .ty "tuple"])) := same_upd np
    generalize upd H p (.tup [.ty "list", .ty "tuple"]) = H1 at s1
    have hs1 := hst.same s1
    cases d with
    | fl x => exact iteF ⟨_, rfl, kk v H1 (DAt.hold (.same s1) (.fl x) hv) (hs1.mono (by omega)) (Same.but s1)⟩
    | emp => exact iteF ⟨_, rfl, kk v H1 (DAt.hold (.same s1) .emp hv) (hs1.mono (by omega)) (Same.but s1)⟩
    | sq xs =>
      obtain ⟨a, vs, rfl, q, ho, hxs⟩ := hv
      have hlen := hxs.len
      have hll := len_szs xs
      have hsz : sz (.sq xs) = 1 + szs xs := rfl
      rw [hsz] at h0 h1 hB
      refine iteT ?_
      refine ⟨fun σ H' => ∃ (Dd : Addr) (ys : List V), σ = [some (.ref st), some (.ref a), some (.ref Dd), none] ∧ H' Dd = some (.lst ys) ∧ DAts (fun a => H a = none) H' ys xs ∧ StAt (B + szs xs) H' st cl ∧ But st H H' ∧ H Dd = none, ?_, ?_⟩
      · -- the walk, over a list or a tuple
        have walk : ∀ (J : It), (∀ i H', i < xs.length → But st H H' → J.go i H') → (∀ H', But st H H' → J.stop xs.length H') → (∀ i H' x H'', But st H H' → J.yld i H' x H'' → H'' = H' ∧ vs[i]? = some x) → ∀ Da, H1 Da = none →
            ∃ W : Nat → Nat → Hp → Prop, (∃ m, W 0 m (upd H1 Da (.lst []))) ∧ ∀ i m H', W i m H' → (J.stop i H' ∧ gName 2 (.ref Da) (start NLo [V.ref st, V.ref a]) H' fun σ H' => ∃ (Dd : Addr) (ys : List V), σ = [some (.ref st), some (.ref a), some (.ref Dd), none] ∧ H' Dd = some (.lst ys) ∧ DAts (fun a => H a = none) H' ys xs ∧ StAt (B + szs xs) H' st cl ∧ But st H H' ∧ H Dd = none) ∨
              (J.go i H' ∧ ∃ Nx : Hp → Prop, (∀ H'', Nx H'' → ∃ m', m' < m ∧ W (i + 1) m' H'') ∧ ∀ x H'', J.yld i H' x H'' → gName 3 x (wipe (start NLo [V.ref st, V.ref a]) [3]) H'' fun σ2 H2 => wipe σ2 [3] = wipe (start NLo [V.ref st, V.ref a]) [3] ∧ tYes σ2 H2 fun b H3 =>
                if b = true then tCall (spLoose N) [] C8.E0 (tCons (tVar 0) (tCons (tVar 3) tNil)) σ2 H3 fun y H4 => ∃ acc, H4 Da = some (.lst acc) ∧ acc.length < sizeLine ∧ Nx (upd H4 Da (.lst (acc ++ [y]))) else Nx H3) := by
          intro J jgo jst jyl Da nDa
          have nDH : H Da = none := same_free s1 nDa
          obtain ⟨Ds, Dc⟩ := hst.new nDH
          refine lc_gen (J := J) xs.length (fun i H' => ∃ ys, H' Da = some (.lst ys) ∧ DAts (fun a => H a = none ∧ a ≠ Da) H' ys (xs.take i) ∧ StAt (B + szs (xs.take i)) H' st cl ∧ But st H H') ⟨[], upd_same, trivial, (hs1.put Ds Dc).mono (Nat.le_add_right _ _), (Same.but s1).upd nDH⟩
            (fun i H' hi ⟨_, _, _, _, bb⟩ => jgo i H' hi bb) (fun H' ⟨_, _, _, _, bb⟩ => jst H' bb) (fun i H' x H'' hi ⟨ys, hD, hys, hs, bb⟩ yl => ?_) (fun H' ⟨ys, hD, hys, hs, bb⟩ => ?_)
          · obtain ⟨rfl, hx⟩ := jyl i H' x H'' bb yl
            obtain ⟨dd, hd, hxd⟩ := hxs.get hx
            obtain ⟨_, ed⟩ := List.getElem?_eq_some_iff.mp hd
            have hts := szs_take_succ hi
            have htl := szs_take_le xs (i + 1)
            rw [ed] at hts
            refine ⟨rfl, ?_⟩
            unfold tYes
            dsimp only
            rw [if_pos rfl]
            refine ⟨_, rfl, _, rfl, st, x, dd, B + szs (xs.take i), cl, rfl, DAt.hold (.but hst bb fun _ h => h) _ hxd, by omega, by omega, hs, by omega, fun v' H5 hv' hs5 b5 => ?_⟩
            have hD5 := b5 _ _ hD Ds
            have hyl := hys.len
            rw [List.length_take] at hyl
            have bb5 := bb.trans b5
            refine ⟨ys, hD5, by rw [sizeLine_eq]; omega, ys ++ [v'], upd_same, ?_, by rw [hts, ← Nat.add_assoc]; exact hs5.put Ds Dc, bb5.upd nDH⟩
            rw [List.take_succ_eq_append_getElem hi, ed]
            have keepD : ∀ {G : Addr → Prop}, (∀ a, G a → a ≠ Da) → Hold G H5 (upd H5 Da (.lst (ys ++ [v']))) := fun hG => ⟨fun a _ e => by rw [upd_ne (ne_of e hD5 (by intro z; cases z))]; exact e, fun a e => by rw [upd_ne (ne_of e hD5 (by intro z; cases z))]; exact e, fun a _ g e => by rw [upd_ne (hG a g)]; exact e⟩
            refine DAts.app (DAts.hold (keepD fun a g => g.2) _ (DAts.hold (.but hs b5 fun a g => (hst.new g.1).1) _ hys)) ⟨?_, trivial⟩
            have nn : ∀ a, H'' a = none → H a = none ∧ a ≠ Da := fun a g => ⟨bb.free g (hs.new g).1, fun z => by rw [z, hD] at g; cases g⟩
            exact DAt.hold (keepD fun a g => g.2) _ (DAt.weak nn _ hv')
          · rw [List.take_of_length_le (Nat.le_refl _)] at hys hs
            exact ⟨Da, ys, rfl, hD, DAts.weak (fun _ g => g.1) _ hys, hs, bb, nDH⟩
        have stt : ∀ {o : HO} {H' : Hp}, But st H H' → H a = some o → a ≠ st → H' a = some o := fun bb e n => bb _ _ e n
        rcases q with q | ⟨hF, q⟩
        · have ne : a ≠ st := by
            obtain ⟨ns, i, c, h0, n, e1, _⟩ := hst
            exact ne_of q e1 (by intro z; cases z)
          refine .inr ⟨_, rfl, a, rfl, ⟨_, SqT.of (s1 _ _ q)⟩, walk (Itt K a) (fun i H' hi bb => ⟨vs, vs.getD i .non, SqT.of (bb _ _ q ne), getD_at (by omega)⟩) (fun H' bb => ⟨vs, SqT.of (bb _ _ q ne), by omega⟩) (fun i H' x H'' bb yl => ⟨yl.1, yl.2 _ (SqT.of (bb _ _ q ne))⟩)⟩
        · refine .inl ⟨_, rfl, a, rfl, ⟨_, SqL.of (s1 _ _ q)⟩, walk (Itl K a) (fun i H' hi bb => ⟨vs, vs.getD i .non, SqL.of (bb _ _ q hF), getD_at (by omega)⟩) (fun H' bb => ⟨vs, SqL.of (bb _ _ q hF), by omega⟩) (fun i H' x H'' bb yl => ⟨yl.1, yl.2 _ (SqL.of (bb _ _ q hF))⟩)⟩
      · rintro σ H2 ⟨Dd, ys, rfl, hD, hys, hs, bb, nD⟩
        obtain ⟨Ds, Dc⟩ := hst.new nD
        refine ⟨_, rfl, st, 2, B + szs xs, cl, rfl, by decide, by decide, hs, by omega, fun dg H3 _ _ hs3 b3 => ⟨dg, 0, rfl, rfl, _, rfl, ?_⟩⟩
        have hD3 := b3 _ _ hD Ds
        have hs3 : StAt (B + sz (.sq xs)) H3 st cl := by rw [hsz, Nat.add_comm 1, ← Nat.add_assoc]; exact hs3
        have hy3 := DAts.hold (.but hs b3 fun a g => (hst.new g).1) _ hys
        refine ite2 (fun _ => ?_) (fun _ => ?_)
        · exact ⟨_, rfl, kk _ H3 ⟨Dd, ys, rfl, .inr ⟨nD, hD3⟩, ho, hy3⟩ hs3 (bb.trans b3)⟩
        · refine ⟨_, rfl, Dd, ys, rfl, .inl ⟨SqL.of hD3, fun l nl => ?_⟩⟩
          obtain ⟨la, lc⟩ := hs3.new nl
          exact kk _ _ ⟨l, ys, rfl, .inl upd_same, ho, DAts.hold (.same (same_upd nl)) _ hy3⟩ (hs3.put la lc) ((bb.trans b3).trans (Same.but (same_upd nl)))
theorem c_loose {f : Addr} {fd : FuncData} (F : Def K mg "_law_loose" sLoose f fd) (b : Binds K fd ["_law_state", "_law_thing"] []) (T : Blt4 mg) (C : Cal P w K mg base 1 "_law_take" spTake []) : ∀ N : Nat, Cal P w K mg base (1 + N) "_law_loose" (spLoose N) []
  | 0 => by
    have no : ∀ {vs H Q E}, spLoose 0 vs H Q E → False := fun ⟨_, _, d, _, _, _, _, h, _⟩ => by have := sz_pos d; omega
    exact cal0 F b .nil scLoose (fun vs H Q E h => (no h).elim) (fun cdv A outer s H vs Q E hr h => (no h).elim)
  | N + 1 => loose_step F b T (Nat.le_add_right 1 N) C (c_loose F b T C N)
end
end KC

namespace KC
open PySem PySem.Spec PyProof.Rows L2 C8 XE
abbrev sIsT : Stmt := top 33
def spIsT (N : Nat) : Sp := fun vs H Q _ => ∃ (l : Addr) (v : V) (d : D) (rs : List Rw) (F : Addr → Prop), vs = [.ref l, v] ∧ RowsAt H l rs ∧ RowsOk rs ∧ DAt F H v d ∧ sz d ≤ N ∧ sz d ≤ 1000 ∧ ∀ H', Same H H' → Q (.bl (isT rs d)) H'
abbrev NIs : List Str := ["_law_rows_here", "_law_x", "_law_child"]
theorem scIsT : FnScope NIs ["_law_rows_here", "_law_x"] (fnScope sIsT) := fnScope_by (by decide +kernel)
theorem isT_no {rs : List Rw} {z : Str} {cs : List D} (h : z ∉ labs rs) : isT rs (.sq (.fl (.str z) :: cs)) = false := by
  cases e : many rs z with
  | some m => exact absurd (many_some e) h
  | none => rw [isT, e]
theorem isT_yes {rs : List Rw} {z : Str} {cs : List D} {m : Int} (e : many rs z = some m) : isT rs (.sq (.fl (.str z) :: cs)) = (decide ((cs.length : Int) = m) && isTs rs cs) := by rw [isT, e]
theorem isT_odd {rs : List Rw} {d : D} {cs : List D} (h : isSt d = false) : isT rs (.sq (d :: cs)) = false := by
  unfold isT
  split
  · rename_i e
    cases e
    cases h
  · rfl
theorem isTs_all (rs : List Rw) : ∀ cs : List D, (cs.map (isT rs)).all id = isTs rs cs
  | [] => rfl
  | c :: cs => by rw [List.map_cons, List.all_cons, isTs_all rs cs, isTs]; rfl
theorem inV_lab {rs : List Rw} (z : Str) : inV (.str z) ((labs rs).map V.str) = decide (z ∈ labs rs) := by
  rw [isOf_flat rfl]
  unfold isOf
  by_cases h : z ∈ labs rs
  · rw [decide_eq_true h]
    exact List.any_eq_true.mpr ⟨z, h, beq_self_eq_true z⟩
  · rw [decide_eq_false h]
    exact List.any_eq_false.mpr fun y hy e => h (by rw [← beq_iff_eq.mp e]; exact hy)
section
variable {P : Program} {w : World} {K : PySem.W.Frag} {mg : Str → Option Value} {base : Heap}
theorem isT_step {k : Nat} {N : Nat} {f : Addr} {fd : FuncData} (F : Def K mg "_law_is_tree" sIsT f fd) (b : Binds K fd ["_law_rows_here", "_law_x"] []) (T : Blt4 mg) (hk : 1 ≤ k) (CM : Cal P w K mg base 1 "_law_many" spMany []) (CL : Cal P w K mg base 1 "_law_labels" spLabels [])
    (CI : Cal P w K mg base k "_law_is_tree" (spIsT N) []) : Cal P w K mg base (k + 1) "_law_is_tree" (spIsT (N + 1)) [] := by
  refine cal0 F b .nil scIsT (fun vs H Q E h => ?_) (fun cdv A outer s H vs Q E hr h => ?_)
  · obtain ⟨l, v, d, rs, F, rfl, _⟩ := h
    rfl
  · obtain ⟨l, v, d, rs, G, rfl, hR, ok, hv, h0, h1, kk⟩ := h
    have nd := scIsT.nd
    refine ⟨_, pss_cons (ps_if (pw_or (pt_not (pt_val (pe_callB call_isiT (by rfl) T.isi (by decide +kernel) (pa_cons (pv 1) (pa_cons (pe_tup (pa_cons (pe_bt "list" T.list) (pa_cons (pe_bt "tuple" T.tup) pa_nil))) pa_nil)))))
          (pw_or (pt_cmp (pc_eqI (pe_callB call_len_seq (by rfl) T.len PySem.boot_len (pa_cons (pv 1) pa_nil)) pe_int))
          (pw_or (pt_not (pt_val (pe_callB call_isi (by rfl) T.isi (by decide +kernel) (pa_cons (pe_ix ix_seq (pv 1) pe_int fun _ _ => rfl) (pa_cons (pe_bt "str" T.str) pa_nil)))))
          (pw_or1 (pt_cmpR op_notIn_seq (pe_ix ix_seq (pv 1) pe_int fun _ _ => rfl) (pe_c CL hr hk (by rfl) (pa_cons (pv 0) pa_nil)) (by rfl)))))).pt
        (pss_one (ps_ret pe_bl)) pss_nil)
      (pss_one (ps_ret (pe_and (pe_cmpR op_eq (pe_callB call_len_seq (by rfl) T.len PySem.boot_len (pa_cons (pv 1) pa_nil)) (pe_op op_add (pe_c CM hr hk (by rfl) (pa_cons (pv 0) (pa_cons (pe_ix ix_seq (pv 1) pe_int fun _ _ => rfl) pa_nil))) pe_int) (nomark _))
        (pe_one (pe_callB (cr_all rfl) (by rfl) T.all (by decide +kernel) (pa_cons (pe_lc (own := [("_law_child", 2)]) (g := gName 2) (tt := tYes) rfl nd
            (PI.or (pi_list (pe_slice (SlR.or sl_list sl_tup) (pv 1) (po_some pe_int) po_none)) (pi_tup (pe_slice (SlR.or sl_list sl_tup) (pv 1) (po_some pe_int) po_none))) (blkOk_by (N := NIs) (sc := fnScope sIsT) (by decide +kernel))
            (fun _ _ _ _ _ => pg_name (i := 2) nd rfl (Or.inl rfl)) (fun _ _ _ _ _ => pts_nil) (fun _ _ _ _ _ => pe_c CI hr (Nat.le_refl _) (by rfl) (pa_cons (pv 0) (pa_cons (pv 2) pa_nil)))) pa_nil)))))), ?_⟩
    obtain ⟨Ty, ty, k1, _⟩ := d_ty (K := K) hv
    refine ⟨_, rfl, (by show 2 ≤ sizeLine; decide), fun p np => ⟨v, p, [.ty "list", .ty "tuple"], _, _, isSq d, rfl, upd_same, .cons (.ty _) (.cons (.ty _) .nil), ty _ (same_upd np), k1, isSq d, rfl, ?_⟩⟩
    have s1 : Same H (upd H p (.tup [.ty "list", .ty "tuple"])) := same_upd np
    generalize upd H p (.tup [.ty "list", .ty "tuple"]) = H1 at s1
    cases d with
    | fl x => exact iteBt rfl (iteBt rfl (kk H1 s1))
    | emp => exact iteBt rfl (iteBt rfl (kk H1 s1))
    | sq xs =>
      refine iteBf rfl ?_
      obtain ⟨a, vs, rfl, q, ho, hxs⟩ := hv
      have hlen := hxs.len
      have hll := len_szs xs
      have hsz : sz (.sq xs) = 1 + szs xs := rfl
      rw [hsz] at h0 h1
      have sq : ∀ {H'}, Same H H' → SqL K H' a vs ∨ SqT K H' a vs := fun s => q.elim (fun e => .inr (SqT.of (s _ _ e))) fun e => .inl (SqL.of (s _ _ e.2))
      refine ⟨_, rfl, a, vs, rfl, sq s1, (vs.length : Int), 0, rfl, rfl, _, rfl, ?_⟩
      cases xs with
      | nil =>
        have : vs = [] := List.length_eq_zero_iff.mp hlen
        subst this
        exact iteBt (decide_eq_true rfl) (iteBt rfl (kk H1 s1))
      | cons d0 cs =>
        cases vs with
        | nil => cases hlen
        | cons v0 cvs =>
          obtain ⟨hv0, hcs⟩ := hxs
          have hcl := hcs.len
          have hsz2 : szs (d0 :: cs) = sz d0 + szs cs := rfl
          rw [hsz2] at h0 h1
          refine iteBf (decide_eq_false (by rw [List.length_cons]; omega)) ?_
          have ix0 : ∀ {H'} {Q : VK}, Same H H' → Q v0 H' → rIx K (.ref a) (.int 0) H' Q := fun s h => (sq s).elim (fun e => .inl ⟨a, _, 0, v0, rfl, rfl, e, at_of (j := 0) (by omega) rfl, h⟩) fun e => .inr (.inl ⟨a, _, 0, v0, rfl, rfl, e, at_of (j := 0) (by omega) rfl, h⟩)
          obtain ⟨T0, ty0, _, k0⟩ := d_ty (K := K) hv0
          refine ⟨_, rfl, ix0 s1 ⟨v0, .ty "str", _, _, isSt d0, rfl, .ty _, ty0 _ s1, k0, isSt d0, rfl, ?_⟩⟩
          by_cases hst : isSt d0 = true
          · obtain ⟨z, rfl⟩ : ∃ z, d0 = .fl (.str z) := by
              cases d0 with
              | fl x => cases x with
                | str z => exact ⟨z, rfl⟩
                | _ => cases hst
              | _ => cases hst
            obtain ⟨rfl, _⟩ := hv0
            refine iteBf rfl ⟨_, rfl, ix0 s1 ⟨_, rfl, l, rs, rfl, hR.same s1, ok, fun q2 H2 nq2 s2 hq2 => ⟨q2, _, rfl, .inl (SqL.of hq2), rfl, List.all_eq_true.mpr fun y hy => ?_, ?_⟩⟩⟩
            · obtain ⟨y', _, rfl⟩ := List.mem_map.mp hy
              rfl
            rw [if_pos rfl, inV_lab]
            have s12 := s1.trans s2
            by_cases hz : z ∈ labs rs
            · obtain ⟨m, hm, m0, m2⟩ := many_lab ok hz
              rw [decide_eq_true hz]
              refine ⟨_, rfl, iteBf rfl ?_⟩
              refine ⟨_, rfl, a, _, rfl, sq s12, _, rfl, _, rfl, ix0 s12 ⟨l, z, rs, m, rfl, hR.same s12, ok, hm, fun H3 s3 => ⟨m, 1, rfl, rfl, rfl, ?_⟩⟩⟩
              have s13 := s12.trans s3
              have hdec : decide (V.int ((V.str z :: cvs).length : Nat) = V.int (m + 1)) = decide ((cs.length : Int) = m) := by
                rw [decide_eq_decide]
                constructor
                · intro e
                  have e := V.int.inj e
                  rw [List.length_cons] at e
                  omega
                · intro e
                  rw [List.length_cons, hcl]
                  congr 1
                  omega
              rw [hdec]
              refine ⟨_, rfl, ite2 (fun c => ?_) (fun c => ?_)⟩
              · -- the children
                have hit : isT rs (.sq (.fl (.str z) :: cs)) = isTs rs cs := by rw [isT_yes hm, c, Bool.true_and]
                rw [hit] at kk
                have walk : ∀ (J : It) (H4 : Hp), Same H H4 → (∀ i H', i < cs.length → Same H4 H' → J.go i H') → (∀ H', Same H4 H' → J.stop cs.length H') → (∀ i H' x H'', Same H4 H' → J.yld i H' x H'' → H'' = H' ∧ cvs[i]? = some x) → ∀ Da, H4 Da = none →
                    ∃ W : Nat → Nat → Hp → Prop, (∃ m, W 0 m (upd H4 Da (.lst []))) ∧ ∀ i m H', W i m H' → (J.stop i H' ∧ (tNil (start NIs [V.ref l, V.ref a]) H' fun xs H5 => rAll K (.ref Da :: xs) H5 Q)) ∨
                      (J.go i H' ∧ ∃ Nx : Hp → Prop, (∀ H'', Nx H'' → ∃ m', m' < m ∧ W (i + 1) m' H'') ∧ ∀ x H'', J.yld i H' x H'' → gName 2 x (wipe (start NIs [V.ref l, V.ref a]) [2]) H'' fun σ2 H2 => wipe σ2 [2] = wipe (start NIs [V.ref l, V.ref a]) [2] ∧ tYes σ2 H2 fun b H3 =>
                        if b = true then tCall (spIsT N) [] C8.E0 (tCons (tVar 0) (tCons (tVar 2) tNil)) σ2 H3 fun y H4 => ∃ acc, H4 Da = some (.lst acc) ∧ acc.length < sizeLine ∧ Nx (upd H4 Da (.lst (acc ++ [y]))) else Nx H3) := by
                  intro J H4 s4 jgo jst jyl Da nDa
                  refine lc_gen (J := J) cs.length (fun i H' => H' Da = some (.lst (((cs.take i).map (isT rs)).map V.bl)) ∧ Same H4 H') ⟨upd_same, same_upd nDa⟩ (fun i H' hi ⟨_, sm⟩ => jgo i H' hi sm) (fun H' ⟨_, sm⟩ => jst H' sm) (fun i H' x H'' hi ⟨hD, sm⟩ yl => ?_) (fun H' ⟨hD, sm⟩ => ?_)
                  · obtain ⟨rfl, hx⟩ := jyl i H' x H'' sm yl
                    obtain ⟨dd, hd, hxd⟩ := hcs.get hx
                    obtain ⟨_, ed⟩ := List.getElem?_eq_some_iff.mp hd
                    have szd := szs_get hd
                    have hcs9 := len_szs cs
                    refine ⟨rfl, ?_⟩
                    unfold tYes
                    dsimp only
                    rw [if_pos rfl]
                    have s5 := s4.trans sm
                    refine ⟨_, rfl, _, rfl, l, x, dd, rs, G, rfl, hR.same s5, ok, DAt.hold (.same s5) _ hxd, by omega, by omega, fun H6 s6 => ⟨_, s6 _ _ hD, by rw [List.length_map, List.length_map, List.length_take, sizeLine_eq]; omega, ?_, fun b o e => by rw [upd_ne (ne_of_none e nDa)]; exact s6 _ _ (sm _ _ e)⟩⟩
                    rw [upd_same, List.take_succ_eq_append_getElem hi, ed, List.map_append, List.map_append]
                    rfl
                  · rw [List.take_of_length_le (Nat.le_refl _)] at hD
                    refine ⟨Da, cs.map (isT rs), rfl, SqL.of hD, ?_⟩
                    rw [isTs_all]
                    exact kk _ (s4.trans sm)
                have cut1 : (V.str z :: cvs).drop (1 : Int).toNat = cvs := rfl
                rcases q with q | ⟨_, q⟩
                · refine .inr ⟨_, rfl, 1, rfl, .inr ⟨a, _, rfl, SqT.of (s13 _ _ q), not_whole (by decide) (by simp), fun r nr => ⟨r, rfl, ⟨_, SqT.of upd_same⟩, ?_⟩⟩⟩
                  rw [cutFrom (by decide), cut1]
                  refine walk (Itt K r) _ (s13.trans (same_upd nr)) (fun i H' hi sm => ⟨cvs, cvs.getD i .non, SqT.of (sm _ _ upd_same), getD_at (by omega)⟩) (fun H' sm => ⟨cvs, SqT.of (sm _ _ upd_same), by omega⟩) (fun i H' x H'' sm yl => ⟨yl.1, yl.2 _ (SqT.of (sm _ _ upd_same))⟩)
                · refine .inl ⟨_, rfl, 1, rfl, .inl ⟨a, _, rfl, SqL.of (s13 _ _ q), fun r nr => ⟨r, rfl, ⟨_, SqL.of upd_same⟩, ?_⟩⟩⟩
                  rw [cutFrom (by decide), cut1]
                  refine walk (Itl K r) _ (s13.trans (same_upd nr)) (fun i H' hi sm => ⟨cvs, cvs.getD i .non, SqL.of (sm _ _ upd_same), getD_at (by omega)⟩) (fun H' sm => ⟨cvs, SqL.of (sm _ _ upd_same), by omega⟩) (fun i H' x H'' sm yl => ⟨yl.1, yl.2 _ (SqL.of (sm _ _ upd_same))⟩)
              · have c : decide ((cs.length : Int) = m) = false := by simpa using c
                have : isT rs (.sq (.fl (.str z) :: cs)) = false := by rw [isT_yes hm, c, Bool.false_and]
                rw [this] at kk
                exact kk _ s13
            · rw [decide_eq_false hz]
              refine ⟨_, rfl, iteBt rfl ?_⟩
              have := kk _ s12
              rw [isT_no hz] at this
              exact this
          · have hst : isSt d0 = false := by simpa using hst
            rw [hst]
            refine iteBt rfl (iteBt rfl ?_)
            have := kk _ s1
            rw [isT_odd hst] at this
            exact this
theorem c_isT {f : Addr} {fd : FuncData} (F : Def K mg "_law_is_tree" sIsT f fd) (b : Binds K fd ["_law_rows_here", "_law_x"] []) (T : Blt4 mg) (CM : Cal P w K mg base 1 "_law_many" spMany []) (CL : Cal P w K mg base 1 "_law_labels" spLabels []) : ∀ N : Nat, Cal P w K mg base (1 + N) "_law_is_tree" (spIsT N) []
  | 0 => by
    have no : ∀ {vs H Q E}, spIsT 0 vs H Q E → False := fun ⟨_, _, d, _, _, _, _, _, _, h, _⟩ => by have := sz_pos d; omega
    exact cal0 F b .nil scIsT (fun vs H Q E h => (no h).elim) (fun cdv A outer s H vs Q E hr h => (no h).elim)
  | N + 1 => isT_step F b T (Nat.le_add_right 1 N) CM CL (c_isT F b T CM CL N)
end
end KC

namespace KC
open PySem PySem.Spec PyProof.Rows L2 C8 XE
abbrev sSpoilt : Stmt := top 34
def spSpoilt : Sp := fun vs H Q _ => ∃ (st l : Addr) (v : V) (t : D) (rs : List Rw) (B : Nat) (cl : Addr), vs = [.ref st, .ref l, v] ∧ RowsAt H l rs ∧ RowsOk rs ∧ DAt nol H v t ∧ isT rs t = true ∧ sz t ≤ 1000 ∧ StAt B H st cl ∧ B + 20 < 1000000000000000 ∧
  ∀ (v' : V) (d : D) (H' : Hp), DAt (oth st) H' v' d → sz d ≤ sz t + 10 → StAt (B + 20) H' st cl → But st H H' → Q v' H'
theorem scSpoilt : FnScope ["_law_state", "_law_rows_here", "_law_part", "_law_way"] ["_law_state", "_law_rows_here", "_law_part"] (fnScope sSpoilt) := fnScope_by (by decide +kernel)
theorem cutLast {x : V} {xs : List V} : cutV (x :: xs) none (some (-1)) = (x :: xs).take xs.length := by
  unfold cutV HT.sIx
  dsimp only
  rw [if_pos (by decide), List.drop_zero, Nat.sub_zero, List.length_cons]
  congr 1
  omega
theorem not_whole_last {n : Nat} (h : 0 < n) : ¬ (HT.sIx n 0 none = 0 ∧ HT.sIx n n (some (-1)) = n) := by
  intro z
  have z := z.2
  unfold HT.sIx at z
  dsimp only at z
  rw [if_pos (by decide)] at z
  omega
theorem szs_take (cs : List D) (n : Nat) : szs (cs.take n) ≤ szs cs := szs_take_le cs n
section
variable {P : Program} {w : World} {K : PySem.W.Frag} {mg : Str → Option Value} {base : Heap}
theorem c_spoilt {k : Nat} {f : Addr} {fd : FuncData} (F : Def K mg "_law_spoilt" sSpoilt f fd) (b : Binds K fd ["_law_state", "_law_rows_here", "_law_part"] []) (T : Blt4 mg) (hk : 2 ≤ k) (C : Cal P w K mg base 1 "_law_take" spTake []) (CO : Cal P w K mg base 2 "_law_one" spOne [])
    (CL : Cal P w K mg base 1 "_law_labels" spLabels []) (CT : Cal P w K mg base k "_law_tree" (spTree 3) []) : Cal P w K mg base (k + 1) "_law_spoilt" spSpoilt [] := by
  refine cal0 F b .nil scSpoilt (fun vs H Q E h => ?_) (fun cdv A outer s H vs Q E hr h => ?_)
  · obtain ⟨st, l, v, t, rs, B, cl, rfl, _⟩ := h
    rfl
  · obtain ⟨st, l, v, t, rs, B, cl, rfl, hR, ok, hv, ht, h1, hst, hB, kk⟩ := h
    have nd := scSpoilt.nd
    refine ⟨_, pss_cons (ps_set (i := 3) nd rfl (Or.inl rfl) (pe_c C hr (by omega) (by rfl) (pa_cons (pv 0) (pa_cons pe_int pa_nil))))
      (pss_cons (ps_if (pt_cmp (pc_eqI (pv 3) pe_int)) (pss_one (ps_ret (pe_op op_catT (pv 2) (pe_tup (pa_cons (pe_tup (pa_cons (pe_ix ix_tup (pv 2) pe_int fun _ _ => rfl) pa_nil)) pa_nil))))) pss_nil)
      (pss_cons (ps_if (pt_cmp (pc_eqI (pv 3) pe_int)) (pss_one (ps_ret (pe_slice sl_tup (pv 2) po_none (po_some (pe_un un_neg pe_int))))) pss_nil)
      (pss_cons (ps_if (pt_cmp (pc_eqI (pv 3) pe_int)) (pss_one (ps_ret (pe_op op_catT (pe_tup (pa_cons (pe_c CO hr (by omega) (by rfl) (pa_cons (pv 0) (pa_cons (pe_op op_cat
            (pe_lst (pa_cons pe_str (pa_cons pe_str (pa_cons pe_non (pa_cons pe_int (pa_cons (pe_tup (pa_cons pe_str pa_nil)) (pa_cons pe_bl pa_nil))))))) (pe_c CL hr (by omega) (by rfl) (pa_cons (pv 1) pa_nil))) pa_nil))) pa_nil))
            (pe_slice sl_tup (pv 2) (po_some pe_int) po_none)))) pss_nil)
      (pss_cons (ps_if (pt_cmp (pc_eqI (pv 3) pe_int)) (pss_one (ps_ret (pe_c CO hr (by omega) (by rfl) (pa_cons (pv 0) (pa_cons (pe_lst (pa_cons pe_non (pa_cons pe_int (pa_cons pe_str (pa_cons (pe_ix ix_tup (pv 2) pe_int fun _ _ => rfl)
            (pa_cons pe_dnewK (pa_cons pe_bl (pa_cons (pe_lst pa_nil) (pa_cons (pe_lst (pa_cons (pe_lst pa_nil) pa_nil)) pa_nil))))))))) pa_nil))))) pss_nil)
      (pss_one (ps_ret (pe_c CT hr (Nat.le_refl _) (by rfl) (pa_cons (pv 0) (pa_cons (pv 1) (pa_cons pe_int pa_nil)))))))))), ?_⟩
    obtain ⟨a, z, cvs, cs, m, rfl, ha, rfl, hcs, hm, hl, hts⟩ := hv.tree ht
    have hcl := hcs.len
    have hm2 : m ≤ 2 := by obtain ⟨m', e, _, h⟩ := many_lab ok (many_some hm); rw [hm] at e; cases e; exact h
    have hla : (labs rs).length ≤ 15 := by unfold labs nums; rw [List.length_map, List.length_append]; have := ok.len; simp; omega
    have hsz : sz (.sq (.fl (.str z) :: cs)) = 1 + (1 + szs cs) := rfl
    rw [hsz] at h1 kk
    refine ⟨_, rfl, st, 6, B, cl, rfl, by decide, by decide, hst, by omega, fun w1 H1 w0 w6 hs1 b1 => ?_⟩
    have ne : a ≠ st := by
      obtain ⟨ns, i, c, h0, n, e1, _⟩ := hst
      exact ne_of ha e1 (by intro z; cases z)
    have ha1 := b1 _ _ ha ne
    have hc1 : DAts nol H1 cvs cs := DAts.hold (.but hst b1 fun _ h => h.elim) _ hcs
    have wk : DAts (oth st) H1 cvs cs := DAts.weak (fun _ h => h.elim) _ hc1
    have hat : atI (V.str z :: cvs) 0 = some (.str z) := at_of (j := 0) (by omega) rfl
    refine ⟨_, rfl, w1, 0, rfl, rfl, _, rfl, ite2 (fun _ => ?_) (fun _ => ?_)⟩
    · -- one child more
      refine ⟨_, rfl, _, rfl, a, _, 0, _, rfl, rfl, SqT.of ha1, hat, (by show 1 ≤ sizeLine; decide), fun p np => ⟨(by show 1 ≤ sizeLine; decide), fun q nq => ?_⟩⟩
      have s2 : Same H1 (upd (upd H1 p (.tup [.str z])) q (.tup [.ref p])) := (same_upd np).trans (same_upd nq)
      have hp2 : (upd (upd H1 p (.tup [.str z])) q (.tup [.ref p])) p = some (.tup [.str z]) := by rw [upd_ne (ne_of_none upd_same nq)]; exact upd_same
      have hq2 : (upd (upd H1 p (.tup [.str z])) q (.tup [.ref p])) q = some (.tup [.ref p]) := upd_same
      generalize upd (upd H1 p (.tup [.str z])) q (.tup [.ref p]) = H2 at s2 hp2 hq2
      refine ⟨a, q, _, _, rfl, rfl, SqT.of (s2 _ _ ha1), SqT.of hq2, by simp, by rw [sizeLine_eq]; simp; omega, (fun e => by cases e), fun _ c nc => ?_⟩
      have s3 := s2.trans (same_upd nc (o := .tup ((.str z :: cvs) ++ [.ref p])))
      obtain ⟨c1, c2⟩ := (hs1.same s2).new nc
      have hx : DAt (oth st) (upd H2 c (.tup ((.str z :: cvs) ++ [.ref p]))) (.ref p) (.sq [.fl (.str z)]) := ⟨p, [.str z], rfl, .inl (by rw [upd_ne (ne_of_none hp2 nc)]; exact hp2), rfl, ⟨rfl, rfl⟩, trivial⟩
      refine kk _ (.sq (.fl (.str z) :: (cs ++ [.sq [.fl (.str z)]]))) _ ⟨c, _, rfl, .inl upd_same, rfl, ⟨rfl, rfl⟩, DAts.app (DAts.hold (.same s3) _ wk) ⟨hx, trivial⟩⟩ ?_
        ((hs1.same s3).mono (by omega)) (b1.trans (Same.but s3))
      show 1 + (1 + szs (cs ++ [.sq [.fl (.str z)]])) ≤ _
      rw [szs_app, show szs [.sq [.fl (.str z)]] = 2 from rfl]
      omega
    refine ⟨_, rfl, w1, 1, rfl, rfl, _, rfl, ite2 (fun _ => ?_) (fun _ => ?_)⟩
    · -- the last child away
      refine ⟨_, rfl, _, rfl, -1, rfl, a, _, rfl, SqT.of ha1, not_whole_last (by simp), fun c nc => ?_⟩
      rw [cutLast]
      have s3 := same_upd nc (o := .tup ((.str z :: cvs).take cvs.length))
      have all : DAts (oth st) H1 (.str z :: cvs) (.fl (.str z) :: cs) := ⟨⟨rfl, rfl⟩, wk⟩
      refine kk _ (.sq ((.fl (.str z) :: cs).take cvs.length)) _ ⟨c, _, rfl, .inl upd_same, ?_, DAts.hold (.same s3) _ (DAts.take _ all)⟩ ?_ ((hs1.same s3).mono (by omega)) (b1.trans (Same.but s3))
      · cases cvs.length <;> rfl
      · have := szs_take (.fl (.str z) :: cs) cvs.length
        have e : szs (.fl (.str z) :: cs) = 1 + szs cs := rfl
        show 1 + szs _ ≤ _
        omega
    refine ⟨_, rfl, w1, 2, rfl, rfl, _, rfl, ite2 (fun _ => ?_) (fun _ => ?_)⟩
    · -- another label
      refine ⟨_, rfl, (by show 1 ≤ sizeLine; decide), fun p np => ⟨(by show 6 ≤ sizeLine; decide), fun q nq => ⟨_, rfl, l, rs, rfl, (hR.but hst b1).same ((same_upd np).trans (same_upd nq)), ok, fun lb H2 nlb s2 hlb => ?_⟩⟩⟩
      have s12 : Same H1 H2 := ((same_upd np).trans (same_upd nq)).trans s2
      have hp2 : H2 p = some (.tup [.str "a"]) := s2 _ _ (by rw [upd_ne (ne_of_none upd_same nq)]; exact upd_same)
      refine ⟨q, lb, _, _, rfl, rfl, s2 _ _ upd_same, hlb, by rw [List.length_map, sizeLine_eq]; simp; omega, fun c nc => ?_⟩
      have s13 := s12.trans (same_upd nc (o := .lst ([.str "qq", .str "", .non, .int 5, .ref p, .bl true] ++ (labs rs).map V.str)))
      have hp3 : (upd H2 c (.lst ([.str "qq", .str "", .non, .int 5, .ref p, .bl true] ++ (labs rs).map V.str))) p = some (.tup [.str "a"]) := by rw [upd_ne (ne_of_none hp2 nc)]; exact hp2
      have cst := ((hs1.same s12).new nc).1
      refine ⟨st, c, _, B + 1, cl, rfl, .inl upd_same, cst, by simp, by rw [List.length_append, List.length_map]; simp; omega, hs1.same s13, by omega, fun v H4 hv hs4 b4 => ⟨(by show 1 ≤ sizeLine; decide), fun t nt => ?_⟩⟩
      have pst : p ≠ st := (hs1.new np).1
      have hp4 := b4 _ _ hp3 pst
      obtain ⟨d0, hd0, dz, dh⟩ : ∃ d0 : D, DAt (oth st) H4 v d0 ∧ sz d0 ≤ 2 ∧ ∀ ds, hdOk (d0 :: ds) = true := by
        rcases List.mem_append.mp hv with h | h
        · have cases6 : v = .str "qq" ∨ v = .str "" ∨ v = .non ∨ v = .int 5 ∨ v = .ref p ∨ v = .bl true := by simpa using h
          rcases cases6 with rfl | rfl | rfl | rfl | rfl | rfl
          · exact ⟨.fl (.str "qq"), ⟨rfl, rfl⟩, by decide, fun _ => rfl⟩
          · exact ⟨.fl (.str ""), ⟨rfl, rfl⟩, by decide, fun _ => rfl⟩
          · exact ⟨.fl .non, ⟨rfl, rfl⟩, by decide, fun _ => rfl⟩
          · exact ⟨.fl (.int 5), ⟨rfl, rfl⟩, by decide, fun _ => rfl⟩
          · exact ⟨.sq [.fl (.str "a")], ⟨p, _, rfl, .inl hp4, rfl, ⟨rfl, rfl⟩, trivial⟩, Nat.le_refl _, fun _ => rfl⟩
          · exact ⟨.fl (.bl true), ⟨rfl, rfl⟩, by decide, fun _ => rfl⟩
        · obtain ⟨y, _, rfl⟩ := List.mem_map.mp h
          exact ⟨.fl (.str y), ⟨rfl, rfl⟩, Nat.le_succ 1, fun _ => rfl⟩
      have ha4 := b4 _ _ (s13 _ _ ha1) ne
      have s5 := same_upd nt (o := .tup [v])
      refine ⟨_, rfl, 1, rfl, a, _, rfl, SqT.of (s5 _ _ ha4), not_whole (by decide) (by simp), fun r nr => ?_⟩
      rw [cutFrom (by decide), show (V.str z :: cvs).drop (1 : Int).toNat = cvs from rfl]
      have s6 := s5.trans (same_upd nr (o := .tup cvs))
      have ht6 : (upd (upd H4 t (.tup [v])) r (.tup cvs)) t = some (.tup [v]) := by rw [upd_ne (ne_of_none upd_same nr)]; exact upd_same
      have hr6 : (upd (upd H4 t (.tup [v])) r (.tup cvs)) r = some (.tup cvs) := upd_same
      generalize upd (upd H4 t (.tup [v])) r (.tup cvs) = H6 at s6 ht6 hr6
      have wk6 : DAts (oth st) H6 cvs cs := DAts.hold (.same s6) _ (DAts.hold (.but (hs1.same s13) b4 fun _ h => h) _ (DAts.hold (.same s13) _ wk))
      have hd6 := DAt.hold (.same s6) _ hd0
      have fin : ∀ (H7 : Hp) (y : Addr), Same H6 H7 → H7 y = some (.tup (v :: cvs)) → Q (.ref y) H7 := fun H7 y s7 hy => by
        refine kk _ (.sq (d0 :: cs)) _ ⟨y, _, rfl, .inl hy, dh cs, DAt.hold (.same s7) _ hd6, DAts.hold (.same s7) _ wk6⟩ ?_ ((hs4.same (s6.trans s7)).mono (by omega)) (((b1.trans (Same.but s13)).trans b4).trans (Same.but (s6.trans s7)))
        show 1 + (sz d0 + szs cs) ≤ _
        omega
      refine ⟨t, r, _, _, rfl, rfl, SqT.of ht6, SqT.of hr6, by simp, by rw [sizeLine_eq]; simp; omega, fun e => ?_, fun _ y ny => fin _ y (same_upd ny) upd_same⟩
      refine fin H6 t (fun b o e => e) ?_
      rw [e]
      exact ht6
    refine ⟨_, rfl, w1, 3, rfl, rfl, _, rfl, ite2 (fun _ => ?_) (fun _ => ?_)⟩
    · -- another thing
      refine ⟨_, rfl, _, rfl, a, _, 0, _, rfl, rfl, SqT.of ha1, hat, fun e1 n1 => ⟨(by show 0 ≤ sizeLine; decide), fun e2 n2 => ⟨(by show 0 ≤ sizeLine; decide), fun e3 n3 => ⟨(by show 1 ≤ sizeLine; decide), fun e4 n4 => ⟨(by show 8 ≤ sizeLine; decide), fun e5 n5 => ?_⟩⟩⟩⟩⟩
      have s2 := same_upd n1 (o := .dK [])
      have h11 : (upd H1 e1 (.dK [])) e1 = some (.dK []) := upd_same
      generalize upd H1 e1 (.dK []) = H2 at s2 h11 n2 n3 n4 n5 ⊢
      have s3 := same_upd n2 (o := .lst [])
      have h22 : (upd H2 e2 (.lst [])) e2 = some (.lst []) := upd_same
      generalize upd H2 e2 (.lst []) = H3 at s3 h22 n3 n4 n5 ⊢
      have s4 := same_upd n3 (o := .lst [])
      have h33 : (upd H3 e3 (.lst [])) e3 = some (.lst []) := upd_same
      generalize upd H3 e3 (.lst []) = H4 at s4 h33 n4 n5 ⊢
      have s5 := same_upd n4 (o := .lst [.ref e3])
      have h44 : (upd H4 e4 (.lst [.ref e3])) e4 = some (.lst [.ref e3]) := upd_same
      generalize upd H4 e4 (.lst [.ref e3]) = H5 at s5 h44 n5 ⊢
      have s6 := same_upd n5 (o := .lst [.non, .int 5, .str "a", .str z, .ref e1, .bl true, .ref e2, .ref e4])
      have h55 : (upd H5 e5 (.lst [.non, .int 5, .str "a", .str z, .ref e1, .bl true, .ref e2, .ref e4])) e5 = some (.lst [.non, .int 5, .str "a", .str z, .ref e1, .bl true, .ref e2, .ref e4]) := upd_same
      generalize upd H5 e5 (.lst [.non, .int 5, .str "a", .str z, .ref e1, .bl true, .ref e2, .ref e4]) = H6 at s6 h55 ⊢
      have t5 : Same H1 H5 := s2.trans (s3.trans (s4.trans s5))
      have t6 := t5.trans s6
      have st5 := ((hs1.same t5).new n5).1
      have st4 := ((hs1.same (s2.trans (s3.trans s4))).new n4).1
      have st3 := ((hs1.same (s2.trans s3)).new n3).1
      have st2 := ((hs1.same s2).new n2).1
      have st1 := (hs1.new n1).1
      refine ⟨st, e5, _, B + 1, cl, rfl, .inl h55, st5, by simp, by simp, hs1.same t6, by omega, fun v H7 hv hs7 b7 => ?_⟩
      have fin : ∀ d : D, DAt (oth st) H7 v d → sz d ≤ 3 → Q v H7 := fun d hd hz => kk v d H7 hd (by omega) (hs7.mono (by omega)) ((b1.trans (Same.but t6)).trans b7)
      have cases8 : v = .non ∨ v = .int 5 ∨ v = .str "a" ∨ v = .str z ∨ v = .ref e1 ∨ v = .bl true ∨ v = .ref e2 ∨ v = .ref e4 := by simpa using hv
      have k1 := b7 _ _ (s6 _ _ (s5 _ _ (s4 _ _ (s3 _ _ h11)))) st1
      have k2 := b7 _ _ (s6 _ _ (s5 _ _ (s4 _ _ h22))) st2
      have k3 := b7 _ _ (s6 _ _ (s5 _ _ h33)) st3
      have k4 := b7 _ _ (s6 _ _ h44) st4
      rcases cases8 with rfl | rfl | rfl | rfl | rfl | rfl | rfl | rfl
      · exact fin (.fl .non) ⟨rfl, rfl⟩ (by decide)
      · exact fin (.fl (.int 5)) ⟨rfl, rfl⟩ (by decide)
      · exact fin (.fl (.str "a")) ⟨rfl, rfl⟩ (by decide)
      · exact fin (.fl (.str z)) ⟨rfl, rfl⟩ (by show 1 ≤ 3; decide)
      · exact fin .emp ⟨e1, rfl, k1⟩ (by decide)
      · exact fin (.fl (.bl true)) ⟨rfl, rfl⟩ (by decide)
      · exact fin (.sq []) ⟨e2, [], rfl, .inr ⟨st2, k2⟩, rfl, trivial⟩ (by decide)
      · exact fin (.sq [.sq []]) ⟨e4, _, rfl, .inr ⟨st4, k4⟩, rfl, ⟨e3, [], rfl, .inr ⟨st3, k3⟩, rfl, trivial⟩, trivial⟩ (by decide)
    · refine ⟨_, rfl, _, rfl, st, l, 3, rs, B + 1, cl, rfl, by decide, by decide, by decide, hR.but hst b1, ok, hs1, ?_, fun v t H2 k1 i1 z1 hs2 b2 => ?_⟩
      · show B + 1 + 9 < _
        omega
      · exact kk v t H2 (DAt.weak (fun _ h => h.elim) _ k1) (by omega) (hs2.mono (by show B + 1 + 9 ≤ _; omega)) (b1.trans b2)
end
end KC

/-! tuple(d), d a dict: its keys -/
namespace XD
open PySem PySem.Spec PySem.W PyProof.Rows L2
section
variable {prog : Program} {w : World} {A : Around} {E : Value → Shared → Prop} {s : Shared} {T : String} {r d : Addr} {n : Nat} {Pn : Nat → Value → Prop} {OK : Heap → Prop}
theorem coll {Q : List Value → Shared → Prop} (K : KdlSrc prog w T r d n Pn OK) (h0 : A.handled = none) (hok : OK s.heap) (hn : n ≤ sizeLine)
    (hq : ∀ (h' : Heap) (tk : Nat) (acc : Array Value), (∀ b o, s.heap.get? b = some o → h'.get? b = some o) → ItemsOf Pn acc n → Q acc.toList { s with heap := h', toks := tk }) : wpAny (model prog w) A (collect (.ref r)) Q E s := by
  unfold collect
  refine wpAny_bind (wpAny_runValue (codeAny_builtin PySem.F.entry_proto_collect ?_))
  rw [Around.under_plainId PySem.F.plain_proto_collect _]
  show wpAny _ A.in1 (newList [] >>= fun l => again (.builtin "list.__iadd__" ⟨[l, .ref r], []⟩)) _ _ s
  refine wpAny_bind (wpAny_newObj_type ?_)
  refine wpAny_pure ⟨plainId_quiet PySem.F.plain_list_iadd _, codeAny_builtin PySem.F.entry_list_iadd ?_⟩
  rw [Around.under_plainId PySem.F.plain_list_iadd _]
  have lt := K.there _ hok
  have hS : (s.heap.push { cls := .type "list", data := .seq ([] : List Value).toArray }).get? s.heap.objs.size = some { cls := .type "list", data := .seq #[] 0 } := Heap.get?_push_size _ rfl
  refine wpAny_mono (kdl_extend (A := A) (R := fun rr s' => rr = .ok (.ret (.ref s.heap.objs.size)) ∧ ∃ (h' : Heap) (tk : Nat) (acc : Array Value) (c' : Nat), s' = { s with heap := h', toks := tk } ∧ (∀ b o, s.heap.get? b = some o → h'.get? b = some o) ∧
      h'.get? s.heap.objs.size = some { cls := .type "list", dict := none, data := .seq acc c', slots := #[] } ∧ ItemsOf Pn acc n)
    (s := { s with heap := s.heap.push { cls := .type "list", data := .seq ([] : List Value).toArray } }) K h0 (K.keep _ _ hok fun b _ o e => Heap.get?_push_of_some _ e) s.heap.objs.size (Nat.ne_of_gt lt.1) (Nat.ne_of_gt lt.2) (.ref s.heap.objs.size) 0 hS
    (fun h' tk acc c' hk e hi => ⟨rfl, h', tk, acc, c', rfl, fun b o q => hk b o (Nat.ne_of_lt (Heap.lt_size q)) (Heap.get?_push_of_some _ q), e, hi⟩) hn) (fun fin s' h => ?_) (fun e s' h => ?_)
  · have last : ∀ {s'' : Shared}, (∃ (h' : Heap) (tk : Nat) (acc : Array Value) (c' : Nat), s'' = { s with heap := h', toks := tk } ∧ (∀ b o, s.heap.get? b = some o → h'.get? b = some o) ∧ h'.get? s.heap.objs.size = some { cls := .type "list", dict := none, data := .seq acc c', slots := #[] } ∧ ItemsOf Pn acc n) →
        wpAny (model prog w) A (load s.heap.objs.size >>= fun o => match o.data with | .seq xs _ => pure xs.toList | _ => unsupported "internal:collect") Q E s'' := by
      rintro s'' ⟨h', tk, acc, c', rfl, hk, hS', hi⟩
      exact wpAny_bind (wpAny_load hS' (wpAny_pure (hq h' tk acc hk hi)))
    cases fin with
    | done f =>
      obtain ⟨e, z⟩ := h
      cases e
      exact last z
    | again c' =>
      refine ⟨h.1, codeAny_mono h.2 fun rr s'' hr' => ?_⟩
      obtain ⟨rfl, z⟩ := hr'
      exact last z
  · exact absurd h.1 (by simp)
theorem tupNew {Q1 : Value → Shared → Prop} (K : KdlSrc prog w "dict" r d n Pn OK) (h0 : A.handled = none) (hok : OK s.heap) (hn : n ≤ sizeLine)
    (hq : ∀ (h' : Heap) (tk : Nat) (acc : Array Value), (∀ b o, s.heap.get? b = some o → h'.get? b = some o) → ItemsOf Pn acc n → Q1 (.ref h'.objs.size) { s with heap := h'.push { cls := .type "tuple", data := .seq acc }, toks := tk }) :
    codeAny (model prog w) A (.call (.builtin "tuple.__new__") ⟨[.type "tuple", .ref r], []⟩) (wants Q1 E) s := by
  refine codeAny_of_tree ?_
  show wpAny _ A.in1 (do checkBuiltinCall "tuple.__new__" ⟨[.type "tuple", .ref r], []⟩; again (.builtin "tuple.__new__" ⟨[.type "tuple", .ref r], []⟩)) _ _ s
  refine wpAny_bind (wpAny_of_eq (PySem.F.newCall_tuple_1 _) (wpAny_pure ⟨plainId_quiet PySem.F.plain_tuple_new _, codeAny_builtin PySem.F.entry_tuple_new ?_⟩))
  rw [Around.under_plainId PySem.F.plain_tuple_new _]
  have z1 := sub_tuple_self
  have z2 := init_tuple_lookup
  have z3 := madeHere_tuple
  have ty : s.TypeIs (.ref r) "dict" := K.type s hok
  have h1 : A.in1.handled = none := h0
  wp_walk using wpAny_typeOf ty, coll (A := A.in1) K h1 hok hn
  intro h' tk acc hk hacc
  show wpAny _ _ (Builtin.Tuple.tupleExact acc.toList.toArray >>= fun v => ret v) _ _ _
  unfold Builtin.Tuple.tupleExact
  have ez : acc.toList.toArray = acc := by simp
  rw [ez]
  refine wpAny_bind (wpAny_newObj_type (wpAny_pure ?_) (by show acc.size ≤ sizeLine; rw [hacc.1]; exact hn))
  exact hq h' tk acc hk hacc
theorem tup_call {Q : Value → Shared → Prop} (K : KdlSrc prog w "dict" r d n Pn OK) (h0 : A.handled = none) (hok : OK s.heap) (hn : n ≤ sizeLine)
    (hq : ∀ (h' : Heap) (tk : Nat) (acc : Array Value), (∀ b o, s.heap.get? b = some o → h'.get? b = some o) → ItemsOf Pn acc n → Q (.ref h'.objs.size) { s with heap := h'.push { cls := .type "tuple", data := .seq acc }, toks := tk }) :
    wpAny (model prog w) A (call (.type "tuple") [.ref r]) Q E s := by
  refine callType_codes (Q₁ := fun obj s1 => s1.TypeIs obj "tuple" ∧ Q obj s1) PySem.F.called_tuple (PySem.F.typeCall_tuple_1 _) PySem.F.entry_object_init
    (tupNew (A := A.in1) K h0 hok hn fun h' tk acc hk hacc => ⟨⟨_, Heap.get?_push_size _ rfl, rfl⟩, hq h' tk acc hk hacc⟩) fun obj s1 h1 => ?_
  exact ⟨h1.1, PySem.F.args_object_init_2 obj _, object_init_meets PySem.F.called_tuple.init.lookup PySem.F.called_tuple.made (by decide) prog w A.in1 _ s1 ⟨h1.1, rfl, h1.2⟩⟩
end
section
variable {X : Cx}
def rTupD (K : PySem.W.Frag) : List V → Hp → VK → Prop := fun xs H Q => ∃ (a : Addr) (kvs : List (Key × V)), xs = [.ref a] ∧ H a = some (.dK kvs) ∧ ∀ p, H p = none → Q (.ref p) (upd H p (.tup (kvs.map fun kv => kV kv.1)))
theorem call_tupleD (hc : X.calm = true) : CallR X (.type "tuple") (rTupD X.K) := by
  intro pins s σ H xs us Q I r q
  obtain ⟨a, kvs, rfl, hd, q⟩ := q
  obtain ⟨u, rfl, rx⟩ := vals1 r
  cases rx
  obtain ⟨z, lo, vs, rel, dd⟩ := dk_rd I.hok (.inl hd)
  obtain ⟨ep, hat⟩ := dd.dictAt
  have same_keys : (kvs.map fun kv => kV kv.1) = vs.map fun p => kV p.1 := by
    have kk := congrArg (List.map kV) rel.keys
    rw [List.map_map, List.map_map] at kk; exact kk
  refine tup_call (kdl_dict (knd := mixKind X.prog X.w) (kvs := vs) (ep := ep) lo) (I.ok.hd hc) hat (by rw [← rel.length]; exact z) fun h' tk acc hk hacc => ?_
  have got : Vals (vs.map fun p => kV p.1) acc.toList := keys_at (by rw [Array.length_toList]; exact hacc.1) fun j v e => hacc.2 j v (by rw [← Array.getElem?_toList]; exact e)
  have I1 : Inv X pins σ H { s with heap := h', toks := tk } := I.kept (t' := tk) hk
  have nw : ObjOk X.prog X.w (upd H h'.objs.size (.tup (kvs.map fun kv => kV kv.1))) (h'.push { cls := .type "tuple", data := .seq acc }) h'.objs.size (.tup (kvs.map fun kv => kV kv.1)) :=
    ⟨by rw [List.length_map]; exact z, acc.toList, by rw [same_keys]; exact got, by rw [Array.toArray_toList]; exact IsTup.new _ _⟩
  exact ⟨.ref h'.objs.size, _, I1.laid (t' := tk) (fun c o e => Heap.get?_push_of_some _ e) (Nat.le_refl _) nw, rfl, q _ (I1.hok.fresh (Nat.le_refl _))⟩
end
end XD

namespace KC
open PySem PySem.Spec PyProof.Rows L2 C8 XE
abbrev sNum : Stmt := top 9
abbrev sRow : Stmt := top 10
abbrev sWord : Stmt := top 11
abbrev sLab : Stmt := top 14
abbrev sWrong : Stmt := top 15
def letters : Str := "abcdefghijklmnopqrstuvwxyz"
structure Gs (mg : Str → Option Value) : Prop where
  let_ : ∃ u, mg "LETTERS" = some u ∧ RelV (.str letters) u
  lon : ∃ u, mg "LONGEST_WORD" = some u ∧ RelV (.int 8) u
  kee : ∃ u, mg "KEEP" = some u ∧ RelV (.str "keep") u
theorem menu_ok : ∀ z ∈ menu, 1 ≤ z.length ∧ z.length ≤ 8 ∧ z ≠ ("keep" : Str) ∧ ∀ c ∈ z.cps.toList, c ∈ letters.cps.toList := by decide +kernel
def spNum : Sp := fun vs H Q _ => ∃ i : Int, vs = [.int i] ∧ Q (.bl true) H
def spRow (K : PySem.W.Frag) : Sp := fun vs H Q _ => ∃ (v : V) (T : String) (b : Bool), vs = [v] ∧ (∀ H', Same H H' → TyX K H' v (.type T)) ∧ PySem.W.kitAny K (.type T) [.type "list", .type "tuple"] = some b ∧ ∀ H', Same H H' → Q (.bl b) H'
def spWord : Sp := fun vs H Q _ => ∃ z : Str, vs = [.str z] ∧ z ∈ menu ∧ ∀ H', Same H H' → Q (.bl true) H'
def spLab : Sp := fun vs H Q _ => ∃ (a : Addr) (z : Str) (n : Int), vs = [.ref a] ∧ H a = some (.tup [.str z, .int n]) ∧ z ∈ menu ∧ 0 ≤ n ∧ n ≤ 2 ∧ ∀ H', Same H H' → Q (.bl true) H'
def spWrong : Sp := fun vs H Q _ => ∃ (l : Addr) (rs : List Rw), vs = [.ref l] ∧ RowsAt H l rs ∧ RowsOk rs ∧ ∀ H', Same H H' → Q .non H'
theorem scNum : FnScope ["thing"] ["thing"] (fnScope sNum) := fnScope_by (by decide +kernel)
theorem scRow : FnScope ["thing"] ["thing"] (fnScope sRow) := fnScope_by (by decide +kernel)
theorem scWord : FnScope ["thing", "letter"] ["thing"] (fnScope sWord) := fnScope_by (by decide +kernel)
theorem scLab : FnScope ["row", "label", "number"] ["row"] (fnScope sLab) := fnScope_by (by decide +kernel)
theorem scWrong : FnScope ["rows", "earlier", "index", "row"] ["rows"] (fnScope sWrong) := fnScope_by (by decide +kernel)
section
variable {P : Program} {w : World} {K : PySem.W.Frag} {mg : Str → Option Value} {base : Heap}
theorem c_num {f : Addr} {fd : FuncData} (F : Def K mg "is_number" sNum f fd) (b : Binds K fd ["thing"] []) (T : Blt4 mg) : Cal P w K mg base 1 "is_number" spNum [] := by
  refine cal0 F b .nil scNum (fun vs H Q E h => ?_) (fun cdv A outer s H vs Q E hr h => ?_)
  · obtain ⟨i, rfl, _⟩ := h
    rfl
  · obtain ⟨i, rfl, k⟩ := h
    refine ⟨_, pss_one (ps_ret (pe_and (pe_callB call_isi (by rfl) T.isi (by decide +kernel) (pa_cons (pv 0) (pa_cons (pe_bt "int" T.int) pa_nil))) (pe_one (pe_not (pe_callB call_isi (by rfl) T.isi (by decide +kernel) (pa_cons (pv 0) (pa_cons (pe_bt "bool" T.boo) pa_nil))))))), ?_⟩
    exact ⟨_, rfl, _, .ty "int", _, _, true, rfl, .ty _, .base (.int i), kit_ty (by decide +kernel), true, rfl, iteBt rfl ⟨_, rfl, _, .ty "bool", _, _, false, rfl, .ty _, .base (.int i), kit_ty (by decide +kernel), false, rfl, k⟩⟩
theorem c_row {f : Addr} {fd : FuncData} (F : Def K mg "is_row" sRow f fd) (b : Binds K fd ["thing"] []) (T : Blt4 mg) : Cal P w K mg base 1 "is_row" (spRow K) [] := by
  refine cal0 F b .nil scRow (fun vs H Q E h => ?_) (fun cdv A outer s H vs Q E hr h => ?_)
  · obtain ⟨v, Ty, b, rfl, _⟩ := h
    rfl
  · obtain ⟨v, Ty, bb, rfl, ty, kt, k⟩ := h
    refine ⟨_, pss_one (ps_ret (pe_callB call_isiT (by rfl) T.isi (by decide +kernel) (pa_cons (pv 0) (pa_cons (pe_tup (pa_cons (pe_bt "list" T.list) (pa_cons (pe_bt "tuple" T.tup) pa_nil))) pa_nil)))), ?_⟩
    exact ⟨_, rfl, (by show 2 ≤ sizeLine; decide), fun p np => ⟨v, p, [.ty "list", .ty "tuple"], _, _, bb, rfl, upd_same, .cons (.ty _) (.cons (.ty _) .nil), ty _ (same_upd np), kt, k _ (same_upd np)⟩⟩
theorem c_word {f : Addr} {fd : FuncData} (F : Def K mg "is_word" sWord f fd) (b : Binds K fd ["thing"] []) (T : Blt4 mg) (G : Gs mg) : Cal P w K mg base 1 "is_word" spWord [] := by
  refine cal0 F b .nil scWord (fun vs H Q E h => ?_) (fun cdv A outer s H vs Q E hr h => ?_)
  · obtain ⟨z, rfl, _⟩ := h
    rfl
  · obtain ⟨z, rfl, hz, k⟩ := h
    have nd := scWord.nd
    obtain ⟨l1, l8, _, hc⟩ := menu_ok z hz
    refine ⟨_, pss_cons (ps_if (pw_or (pt_not (pt_val (pe_callB call_isi (by rfl) T.isi (by decide +kernel) (pa_cons (pv 0) (pa_cons (pe_bt "str" T.str) pa_nil)))))
          (pw_or (pt_cmp (pc_lt (pe_callB call_len_str (by rfl) T.len PySem.boot_len (pa_cons (pv 0) pa_nil)) pe_int))
          (pw_or1 (pt_cmp (pc_gt (pe_callB call_len_str (by rfl) T.len PySem.boot_len (pa_cons (pv 0) pa_nil)) (pe_gc (by rfl) G.lon)))))).pt pss_never pss_nil)
      (pss_one (ps_ret (pe_callB (cr_all rfl) (by rfl) T.all (by decide +kernel) (pa_cons (pe_lc (own := [("letter", 1)]) (g := gName 1) (tt := tYes) rfl nd (pi_str (pv 0)) (blkOk_by (N := ["thing", "letter"]) (sc := fnScope sWord) (by decide +kernel))
          (fun _ _ _ _ _ => pg_name (i := 1) nd rfl (Or.inl rfl)) (fun _ _ _ _ _ => pts_nil) (fun _ _ _ _ _ => pe_cmpR op_in_sign (pv 1) (pe_gc (by rfl) G.let_) (by rfl))) pa_nil)))), ?_⟩
    have hls : z.length ≤ sizeLine := by rw [sizeLine_eq]; omega
    refine ⟨_, rfl, _, .ty "str", _, _, true, rfl, .ty _, .base (.str z), kit_ty (by decide +kernel), true, rfl, iteBf rfl ?_⟩
    refine ⟨_, rfl, z, rfl, hls, z.length, 1, rfl, rfl, _, rfl, iteBf (decide_eq_false (by omega)) ?_⟩
    refine ⟨_, rfl, z, rfl, hls, z.length, 8, rfl, rfl, _, rfl, iteBf (decide_eq_false (by omega)) ?_⟩
    refine ⟨_, rfl, z, rfl, fun Da nDa => ?_⟩
    have hlz : z.cps.size = z.length := rfl
    refine lc_gen (J := Its z) z.cps.size (fun i H' => H' Da = some (.lst ((List.replicate i true).map V.bl)) ∧ Same H H') ⟨upd_same, same_upd nDa⟩ (fun i H' hi _ => hi) (fun H' _ => Nat.le_refl _) (fun i H' x H'' hi ⟨hD, sm⟩ yl => ?_) (fun H' ⟨hD, sm⟩ => ?_)
    · obtain ⟨rfl, c, hcc, rfl⟩ := yl
      refine ⟨rfl, ?_⟩
      unfold tYes
      dsimp only
      rw [if_pos rfl]
      have hm : c ∈ letters.cps.toList := hc c (by
        have : z.cps.toList[i]? = some c := by rw [Array.getElem?_toList]; exact hcc
        exact List.mem_of_getElem? this)
      refine ⟨_, rfl, c, letters, rfl, rfl, _, hD, by rw [List.length_map, List.length_replicate, sizeLine_eq]; omega, ?_, fun b o e => by rw [upd_ne (ne_of_none e nDa)]; exact sm _ _ e⟩
      rw [upd_same, decide_eq_true hm, List.replicate_succ', List.map_append]
      rfl
    · refine ⟨Da, List.replicate z.cps.size true, rfl, SqL.of hD, ?_⟩
      rw [show (List.replicate z.cps.size true).all id = true from List.all_eq_true.mpr fun b hb => (List.mem_replicate.mp hb).2]
      exact k _ sm
theorem c_lab {f : Addr} {fd : FuncData} (F : Def K mg "is_label_row" sLab f fd) (b : Binds K fd ["row"] []) (T : Blt4 mg) (G : Gs mg) (CR : Cal P w K mg base 1 "is_row" (spRow K) []) (CW : Cal P w K mg base 1 "is_word" spWord []) (CN : Cal P w K mg base 1 "is_number" spNum []) : Cal P w K mg base 2 "is_label_row" spLab [] := by
  refine cal0 F b .nil scLab (fun vs H Q E h => ?_) (fun cdv A outer s H vs Q E hr h => ?_)
  · obtain ⟨a, z, n, rfl, _⟩ := h
    rfl
  · obtain ⟨a, z, n, rfl, ha, hz, n0, n2, k⟩ := h
    have nd := scLab.nd
    obtain ⟨_, _, nk, _⟩ := menu_ok z hz
    refine ⟨_, pss_cons (ps_if (pw_or (pt_not (pt_val (pe_c CR hr (by decide) (by rfl) (pa_cons (pv 0) pa_nil)))) (pw_or1 (pt_cmp (pc_neI (pe_callB call_len_seq (by rfl) T.len PySem.boot_len (pa_cons (pv 0) pa_nil)) pe_int)))).pt pss_never pss_nil)
      (pss_cons (ps_asg (pv 0) (pg_tup rfl (pgs_cons (pg_name (i := 1) nd rfl (Or.inl rfl)) (pgs_cons (pg_name (i := 2) nd rfl (Or.inl rfl)) pgs_nil))))
      (pss_cons (ps_if (pw_or (pt_not (pt_val (pe_c CW hr (by decide) (by rfl) (pa_cons (pv 1) pa_nil)))) (pw_or1 (pt_cmpR op_eq (pv 1) (pe_gc (by rfl) G.kee) (nomark _)))).pt pss_never pss_nil)
      (pss_one (ps_ret (pe_and (pe_c CN hr (by decide) (by rfl) (pa_cons (pv 2) pa_nil)) (pe_one (pe_chain op_le op_le pe_int (pv 2) pe_int))))))), ?_⟩
    refine ⟨_, rfl, _, "tuple", true, rfl, (fun H' s => .base (.tup (s _ _ ha))), kitAny_cons (b := false) (kit_ty (by decide +kernel)) (fun _ => kitAny_cons (b := true) (kit_ty (by decide +kernel)) (fun z => by cases z) fun _ => rfl) (fun z => by cases z), fun H1 s1 => ⟨true, rfl, iteBf rfl ?_⟩⟩
    refine ⟨_, rfl, a, _, rfl, .inr (SqT.of (s1 _ _ ha)), 2, 2, rfl, rfl, _, rfl, iteBf rfl ?_⟩
    refine ⟨_, rfl, a, [.str z, .int n], rfl, SqT.of (s1 _ _ ha), rfl, .str z, [.int n], rfl, .int n, [], rfl, rfl, ?_⟩
    refine ⟨_, rfl, z, rfl, hz, fun H2 s2 => ⟨true, rfl, iteBf rfl ?_⟩⟩
    refine ⟨_, rfl, rfl, _, rfl, iteBf (decide_eq_false fun e => nk (V.str.inj e)) ?_⟩
    refine ⟨_, rfl, n, rfl, true, rfl, iteBt rfl ?_⟩
    refine ⟨_, rfl, 0, n, rfl, rfl, _, rfl, iteBt (decide_eq_true n0) ⟨n, 2, rfl, rfl, ?_⟩⟩
    show Q (.bl (decide (n ≤ 2))) H2
    rw [decide_eq_true n2]
    exact k _ (s1.trans s2)
theorem c_wrong {f : Addr} {fd : FuncData} (F : Def K mg "wrong_row" sWrong f fd) (b : Binds K fd ["rows"] []) (T : Blt4 mg) (CR : Cal P w K mg base 1 "is_row" (spRow K) []) (CL : Cal P w K mg base 2 "is_label_row" spLab []) : Cal P w K mg base 3 "wrong_row" spWrong [] := by
  refine cal0 F b .nil scWrong (fun vs H Q E h => ?_) (fun cdv A outer s H vs Q E hr h => ?_)
  · obtain ⟨l, rs, rfl, _⟩ := h
    rfl
  · obtain ⟨l, rs, rfl, hR, ok, k⟩ := h
    have nd := scWrong.nd
    refine ⟨_, pss_cons (ps_if (pt_not (pt_val (pe_c CR hr (by decide) (by rfl) (pa_cons (pv 0) pa_nil)))) pss_never pss_nil)
      (pss_cons (ps_set (i := 1) nd rfl (Or.inl rfl) (pe_lst pa_nil))
      (pss_cons (ps_for PassesOwn.never rfl (pi_enum (by rfl) T.enu (pa_cons (pv 0) pa_nil)) (pg_tup rfl (pgs_cons (pg_name (i := 2) nd rfl (Or.inl rfl)) (pgs_cons (pg_name (i := 3) nd rfl (Or.inl rfl)) pgs_nil)))
          (pss_cons (ps_if (pw_or (pt_not (pt_val (pe_c CL hr (by decide) (by rfl) (pa_cons (pv 3) pa_nil)))) (pw_or1 (pt_cmpR op_in_seq (pe_ix ix_tup (pv 3) pe_int fun _ _ => rfl) (pv 1) (by rfl)))).pt pss_never pss_nil)
          (pss_one (ps_expr (pe_bm PySem.F.plainAttrs_list PySem.F.slot_list_append PySem.F.type_list_append mt_append (pv 1) (pa_cons (pe_ix ix_tup (pv 3) pe_int fun _ _ => rfl) pa_nil))))))
      (pss_cons (ps_if (pt_cmpR op_notIn_seq pe_int (pe_lc (own := [("row", 3)]) (g := gName 3) (tt := tYes) rfl nd (pi_list (pv 0)) (blkOk_by (N := ["rows", "earlier", "index", "row"]) (sc := fnScope sWrong) (by decide +kernel))
          (fun _ _ _ _ _ => pg_name (i := 3) nd rfl (Or.inl rfl)) (fun _ _ _ _ _ => pts_nil) (fun _ _ _ _ _ => pe_ix (show IxR _ (rIxT K) from ix_tup) (pv 3) pe_int fun _ _ => rfl)) (by rfl)) pss_never pss_nil)
      (pss_one (ps_ret pe_non))))), ?_⟩
    obtain ⟨us, hl, hp⟩ := hR
    have hlen := Paired.length hp
    have hok := ok.len
    refine ⟨_, rfl, _, "list", true, rfl, (fun H' s => .base (.lst (s _ _ hl))), kitAny_cons (b := true) (kit_ty (by decide +kernel)) (fun z => by cases z) (fun _ => rfl), fun H1 s1 => ⟨true, rfl, iteBf rfl ?_⟩⟩
    refine ⟨(by show 0 ≤ sizeLine; decide), fun e ne => ⟨_, rfl, l, us, rfl, SqL.of ?_, ?_⟩⟩
    · rw [upd_ne (ne_of_none (s1 _ _ hl) ne)]
      exact s1 _ _ hl
    have neH : H e = none := same_free s1 ne
    have le : l ≠ e := ne_of_none hl neH
    refine for_gen (J := Ite K l) rs.length (fun i σ H' => ∃ (v2 v3 : Option V), σ = [some (.ref l), some (.ref e), v2, v3] ∧ H' e = some (.lst (((rs.take i).map (·.1)).map V.str)) ∧ Same H H') ⟨none, none, rfl, upd_same, s1.trans (same_upd ne)⟩
      (fun i σ H' hi ⟨_, _, _, _, sm⟩ => ⟨us, us.getD i .non, SqL.of (sm _ _ hl), getD_at (by omega)⟩) (fun σ H' ⟨_, _, _, _, sm⟩ => ⟨us, SqL.of (sm _ _ hl), by omega⟩) ?_ ?_
    · rintro i σ H2 v H3 hi ⟨v2, v3, rfl, he, sm⟩ ⟨T', x, rfl, nT, rfl, hx⟩
      have hx := hx _ (SqL.of (sm _ _ hl))
      obtain ⟨r, hr', t, rfl, ht⟩ := paired_get hp hx
      obtain ⟨hlt, er⟩ := List.getElem?_eq_some_iff.mp hr'
      have hrm : r ∈ rs := List.mem_of_getElem? hr'
      obtain ⟨m1, m2, m3⟩ := ok.mem r hrm
      refine ⟨T', [.int (i : Nat), .ref t], rfl, SqT.of upd_same, rfl, .int (i : Nat), [.ref t], rfl, .ref t, [], rfl, rfl, ?_⟩
      have s3 : Same H2 (upd H2 T' (.tup [.int (i : Nat), .ref t])) := same_upd nT
      generalize upd H2 T' (.tup [.int (i : Nat), .ref t]) = H3 at s3
      refine ⟨_, rfl, t, r.1, r.2, rfl, s3 _ _ (sm _ _ ht), m1, m2, m3, fun H4 s4 => ⟨true, rfl, iteBf rfl ?_⟩⟩
      have ht4 := s4 _ _ (s3 _ _ (sm _ _ ht))
      have he4 := s4 _ _ (s3 _ _ he)
      have hat : atI [V.str r.1, .int r.2] 0 = some (.str r.1) := at_of (j := 0) (by omega) rfl
      refine ⟨_, rfl, t, _, 0, _, rfl, rfl, SqT.of ht4, hat, _, rfl, e, _, rfl, .inl (SqL.of he4), rfl, List.all_eq_true.mpr fun y hy => ?_, ?_⟩
      · obtain ⟨z, _, rfl⟩ := List.mem_map.mp hy
        rfl
      have no : inV (.str r.1) (((rs.take i).map (·.1)).map V.str) = false := by
        rw [isOf_flat rfl]
        refine List.any_eq_false.mpr fun y hy hh => ?_
        have hh := beq_iff_eq.mp hh
        have nd' := ok.nd
        rw [← List.take_append_drop i rs, List.map_append, List.drop_eq_getElem_cons hlt, er, List.map_cons] at nd'
        exact (List.nodup_append.mp nd').2.2 y hy r.1 List.mem_cons_self hh
      rw [if_neg (by decide), no]
      refine ⟨_, rfl, iteBf rfl ?_⟩
      refine ⟨_, rfl, .inl ⟨rfl, _, SqL.of he4⟩, _, rfl, t, _, 0, _, rfl, rfl, SqT.of ht4, hat, e, _, _, rfl, rfl, he4, by rw [List.length_map, List.length_map, List.length_take, sizeLine_eq]; omega, _, _, rfl, ?_, fun b o q => by rw [upd_ne (ne_of_none q neH)]; exact s4 _ _ (s3 _ _ (sm _ _ q))⟩
      rw [upd_same, List.take_succ_eq_append_getElem hlt, er, List.map_append, List.map_append]
      rfl
    · rintro σ H2 ⟨v2, v3, rfl, he, sm⟩
      refine ⟨_, rfl, l, rfl, ⟨us, SqL.of (sm _ _ hl)⟩, fun Da nDa => ?_⟩
      refine lc_gen (J := Itl K l) rs.length (fun i H' => H' Da = some (.lst (((rs.take i).map (·.2)).map V.int)) ∧ Same H2 H') ⟨upd_same, same_upd nDa⟩ (fun i H' hi ⟨_, sm'⟩ => ⟨us, us.getD i .non, SqL.of (sm' _ _ (sm _ _ hl)), getD_at (by omega)⟩)
        (fun H' ⟨_, sm'⟩ => ⟨us, SqL.of (sm' _ _ (sm _ _ hl)), by omega⟩) (fun i H' v H'' hi ⟨hD, sm'⟩ yl => ?_) (fun H' ⟨hD, sm'⟩ => ?_)
      · obtain ⟨rfl, hx⟩ := yl
        have hx := hx _ (SqL.of (sm' _ _ (sm _ _ hl)))
        obtain ⟨r, hr', t, rfl, ht⟩ := paired_get hp hx
        obtain ⟨hlt, er⟩ := List.getElem?_eq_some_iff.mp hr'
        refine ⟨rfl, ?_⟩
        unfold tYes
        dsimp only
        rw [if_pos rfl]
        refine ⟨_, rfl, t, _, 1, _, rfl, rfl, SqT.of (sm' _ _ (sm _ _ ht)), at_of (j := 1) (by omega) rfl, _, hD, by rw [List.length_map, List.length_map, List.length_take, sizeLine_eq]; omega, ?_, fun b o q => by rw [upd_ne (ne_of_none q nDa)]; exact sm' _ _ q⟩
        rw [upd_same, List.take_succ_eq_append_getElem hlt, er, List.map_append, List.map_append]
        rfl
      · rw [List.take_of_length_le (Nat.le_refl _)] at hD
        refine ⟨Da, _, rfl, .inl (SqL.of hD), rfl, List.all_eq_true.mpr fun y hy => ?_, ?_⟩
        · obtain ⟨z, _, rfl⟩ := List.mem_map.mp hy
          rfl
        have yes : inV (.int 0) ((rs.map (·.2)).map V.int) = true := by
          obtain ⟨r, hr', r0⟩ := ok.leaf
          refine List.any_eq_true.mpr ⟨.int 0, List.mem_map.mpr ⟨0, List.mem_map.mpr ⟨r, hr', r0⟩, rfl⟩, rfl⟩
        rw [if_pos rfl, yes]
        exact ⟨_, rfl, iteBf rfl (k _ (sm.trans sm'))⟩
end
end KC

namespace KC
open PySem PySem.Spec PyProof.Rows L2 C8 XE XD
def mth (j : Nat) : Stmt := match top 17 with
  | .ClassDef (body := b) .. => b.getD j (.Pass ⟨0, 0, 0, 0⟩)
  | _ => .Pass ⟨0, 0, 0, 0⟩
abbrev sInit : Stmt := mth 0
abbrev sNode : Stmt := mth 4
abbrev sTr : Stmt := mth 5
abbrev NIn : List Str := ["self", "rows", "wrong", "row", "label", "number"]
theorem scInit : FnScope NIn ["self", "rows"] (fnScope sInit) := fnScope_by (by decide +kernel)
theorem scNode : FnScope ["self", "thing"] ["self", "thing"] (fnScope sNode) := fnScope_by (by decide +kernel)
theorem scTr : FnScope ["self", "thing", "waiting", "node"] ["self", "thing"] (fnScope sTr) := fnScope_by (by decide +kernel)
def LangAt (H : Hp) (x C : Addr) (rs : List Rw) : Prop := ∃ dx rt nt lt, H x = some (.ins C dx [("rows", .ref rt), ("numbers", .ref nt), ("labels", .ref lt)]) ∧ H nt = some (.dK ((nums rs).map kvOf)) ∧ H lt = some (.tup ((labs rs).map V.str))
structure LC (K : PySem.W.Frag) (mg : Str → Option Value) (C : Addr) : Prop where
  cls : Cls K C
  rows : NoAttr K C "rows"
  numbers : NoAttr K C "numbers"
  labels : NoAttr K C "labels"
def spInit (C : Addr) : Sp := fun vs H Q _ => ∃ (x l dx : Addr) (rs : List Rw), vs = [.ref x, .ref l] ∧ H x = some (.ins C dx []) ∧ RowsAt H l rs ∧ RowsOk rs ∧
  ∀ H', (∀ b o, H b = some o → b ≠ x → H' b = some o) → LangAt H' x C rs → Q .non H'
section
variable {P : Program} {w : World} {K : PySem.W.Frag} {mg : Str → Option Value} {base : Heap}
theorem c_init {C f : Addr} {fd : FuncData} (M : Mk K C f) (hm : mg "Language" = some (.ref C)) (F : C8.Fun K "__init__" "Language.__init__" sInit f fd) (b : Binds K fd ["self", "rows"] []) (T : Blt4 mg) (G : Gs mg) (L : LC K mg C) (CW : Cal P w K mg base 3 "wrong_row" spWrong []) : Mak P w K mg base 4 "Language" C (spInit C) [] := by
  refine mak0 M hm F b .nil scInit (fun vs H Q E h => ?_) (fun cdv A outer s H vs Q E hr h => ?_)
  · obtain ⟨x, l, dx, rs, rfl, _⟩ := h
    rfl
  · obtain ⟨x, l, dx, rs, rfl, hx, hR, ok, k⟩ := h
    have nd := scInit.nd
    refine ⟨_, pss_cons (ps_set (i := 2) nd rfl (Or.inl rfl) (pe_c CW hr (by decide) (by rfl) (pa_cons (pv 1) pa_nil)))
      (pss_cons (ps_if (pt_cmp (pc_notN (pv 2))) pss_never pss_nil)
      (pss_cut (ps_fld (pv 0) (pe_callTy call_tuple_of (by rfl) T.tup (by decide +kernel) (pa_cons (pe_lc (own := [("row", 3)]) (g := gName 3) (tt := tYes) rfl nd (pi_list (pv 1)) (blkOk_by (N := NIn) (sc := fnScope sInit) (by decide +kernel))
          (fun _ _ _ _ _ => pg_name (i := 3) nd rfl (Or.inl rfl)) (fun _ _ _ _ _ => pts_nil)
          (fun _ _ _ _ _ => pe_tup (pa_cons (pe_ix (show IxR _ (rIxT K) from ix_tup) (pv 3) pe_int fun _ _ => rfl) (pa_cons (pe_ix (show IxR _ (rIxT K) from ix_tup) (pv 3) pe_int fun _ _ => rfl) pa_nil)))) pa_nil)) rfl)
      (pss_cut (ps_fld (pv 0) (pe_dc (own := [("label", 4), ("number", 5)]) (g := gTup K 2 (gCons (gName 4) (gCons (gName 5) gNil))) (tt := tYes) rfl nd (pi_tup (pe_tup (StX.pa_star (pe_fld (pv 0) rfl) (pa_cons (pe_tup (pa_cons (pe_gc (by rfl) G.kee) (pa_cons pe_int pa_nil))) pa_nil))))
          (blkOk_by (N := NIn) (sc := fnScope sInit) (by decide +kernel)) (fun _ _ _ _ _ => pg_tup rfl (pgs_cons (pg_name (i := 4) nd rfl (Or.inl rfl)) (pgs_cons (pg_name (i := 5) nd rfl (Or.inl rfl)) pgs_nil))) (fun _ _ _ _ _ => pts_nil) (fun _ _ _ _ _ => pv 4) (fun _ _ _ _ _ => pv 5)) rfl)
      (pss_one (ps_fld (pv 0) (pe_callTy (call_tupleD rfl) (by rfl) T.tup (by decide +kernel) (pa_cons (pe_fld (pv 0) rfl) pa_nil)) rfl))))), ?_⟩
    refine ⟨_, rfl, l, rs, rfl, hR, ok, fun H1 s1 => ⟨_, rfl, _, rfl, iteBf (by rfl) ?_⟩⟩
    obtain ⟨us, hl, hp⟩ := hR.same s1
    have hlen := Paired.length hp
    have hok := ok.len
    have hx1 := s1 _ _ hx
    refine ⟨fun σ H' => ∃ (rt : Addr) (ws : List V), σ = [some (.ref x), some (.ref l), some .non, none, none, none] ∧ H' x = some (.ins C dx [("rows", .ref rt)]) ∧ H' rt = some (.tup ws) ∧ Paired (RowV H') ws rs ∧ ∀ b o, H b = some o → b ≠ x → H' b = some o, ?_, ?_⟩
    · refine ⟨_, rfl, l, rfl, ⟨us, SqL.of hl⟩, fun Da nDa => ?_⟩
      refine lc_gen (J := Itl K l) rs.length (fun i H' => ∃ ws, H' Da = some (.lst ws) ∧ Paired (RowV H') ws (rs.take i) ∧ Same H1 H') ⟨[], upd_same, .nil, same_upd nDa⟩ (fun i H' hi ⟨_, _, _, sm⟩ => ⟨us, us.getD i .non, SqL.of (sm _ _ hl), getD_at (by omega)⟩)
        (fun H' ⟨_, _, _, sm⟩ => ⟨us, SqL.of (sm _ _ hl), by omega⟩) (fun i H' v H'' hi ⟨ws, hD, hw, sm⟩ yl => ?_) (fun H' ⟨ws, hD, hw, sm⟩ => ?_)
      · obtain ⟨rfl, hv⟩ := yl
        have hv := hv _ (SqL.of (sm _ _ hl))
        obtain ⟨r, hr', t, rfl, ht⟩ := paired_get hp hv
        obtain ⟨hlt, er⟩ := List.getElem?_eq_some_iff.mp hr'
        have ht' := sm _ _ ht
        refine ⟨rfl, ?_⟩
        unfold tYes
        dsimp only
        rw [if_pos rfl]
        refine ⟨_, rfl, t, _, 0, .str r.1, rfl, rfl, SqT.of ht', at_of (j := 0) (by omega) rfl, _, rfl, t, _, 1, .int r.2, rfl, rfl, SqT.of ht', at_of (j := 1) (by omega) rfl, (by show 2 ≤ sizeLine; decide), fun p np => ?_⟩
        have pD : p ≠ Da := (ne_of_none hD np).symm
        have hwl := Paired.length hw
        rw [List.length_take] at hwl
        refine ⟨ws, by rw [upd_ne pD.symm]; exact hD, by rw [sizeLine_eq]; omega, ws ++ [.ref p], upd_same, ?_, fun b o q => by rw [upd_ne (ne_of_none q nDa), upd_ne (ne_of_none (sm _ _ q) np)]; exact sm _ _ q⟩
        rw [List.take_succ_eq_append_getElem hlt, er]
        refine Paired.snoc (Paired.mono (fun _ _ ⟨t', e, q⟩ => ⟨t', e, ?_⟩) hw) ⟨p, rfl, by rw [upd_ne pD]; exact upd_same⟩
        rw [upd_ne (ne_of q hD (by intro z; cases z)), upd_ne (ne_of_none q np)]
        exact q
      · rw [List.take_of_length_le (Nat.le_refl _)] at hw
        refine ⟨Da, ws, rfl, .inl ⟨SqL.of hD, fun rt nrt => ?_⟩⟩
        have s2 : Same H1 (upd H' rt (.tup ws)) := sm.trans (same_upd nrt)
        have hw2 : Paired (RowV (upd H' rt (.tup ws))) ws rs := Paired.mono (fun _ _ q => q.same (same_upd nrt)) hw
        have hr2 : (upd H' rt (.tup ws)) rt = some (.tup ws) := upd_same
        generalize upd H' rt (.tup ws) = H2 at s2 hw2 hr2
        have hx2 := s2 _ _ hx1
        have keep : ∀ {q : Addr} {vs : List V}, H2 q = some (.tup vs) → (upd H2 x (.ins C dx [("rows", .ref rt)])) q = some (.tup vs) := fun e => by rw [upd_ne (ne_of e hx2 (by intro z; cases z))]; exact e
        refine ⟨_, rfl, x, C, dx, _, rfl, hx2, L.cls, L.rows, by decide, rt, ws, rfl, upd_same, keep hr2, Paired.mono (fun _ _ ⟨t', e, q⟩ => ⟨t', e, keep q⟩) hw2, fun b o e ne => ?_⟩
        rw [upd_ne ne]
        exact s2 _ _ (s1 _ _ e)
    rintro σ H2 ⟨rt, ws, rfl, hx2, hrt, hw, b2⟩
    refine ⟨fun σ H' => ∃ nt, σ = [some (.ref x), some (.ref l), some .non, none, none, none] ∧ H' x = some (.ins C dx [("rows", .ref rt), ("numbers", .ref nt)]) ∧ H' nt = some (.dK ((nums rs).map kvOf)) ∧ ∀ b o, H b = some o → b ≠ x → H' b = some o, ?_, ?_⟩
    · have hwl := Paired.length hw
      refine ⟨_, rfl, x, C, dx, _, _, rfl, hx2, L.cls, L.rows, rfl, rt, ws, rfl, .inl (SqT.of hrt), (by show 2 ≤ sizeLine; decide), fun kt nkt => ⟨by rw [List.length_append, sizeLine_eq]; simp; omega, fun it nit => ⟨it, rfl, ⟨_, SqT.of upd_same⟩, fun Da nDa => ?_⟩⟩⟩
      have s3 : Same H2 (upd (upd H2 kt (.tup [.str "keep", .int 1])) it (.tup (ws ++ [.ref kt]))) := (same_upd nkt).trans (same_upd nit)
      have hk3 : (upd (upd H2 kt (.tup [.str "keep", .int 1])) it (.tup (ws ++ [.ref kt]))) kt = some (.tup [.str "keep", .int 1]) := by rw [upd_ne (ne_of_none upd_same nit)]; exact upd_same
      have hi3 : (upd (upd H2 kt (.tup [.str "keep", .int 1])) it (.tup (ws ++ [.ref kt]))) it = some (.tup (ws ++ [.ref kt])) := upd_same
      have hp3 : Paired (RowV (upd (upd H2 kt (.tup [.str "keep", .int 1])) it (.tup (ws ++ [.ref kt])))) (ws ++ [.ref kt]) (nums rs) := Paired.snoc (Paired.mono (fun _ _ q => q.same s3) hw) ⟨kt, rfl, hk3⟩
      generalize upd (upd H2 kt (.tup [.str "keep", .int 1])) it (.tup (ws ++ [.ref kt])) = H3 at s3 hi3 hp3 nDa ⊢
      have hnl := Paired.length hp3
      have hnn : (nums rs).length = rs.length + 1 := by unfold nums; rw [List.length_append]; rfl
      refine dc_tup (xs := ws ++ [.ref kt]) (fun i H' => H' Da = some (.dK (((nums rs).take i).map kvOf)) ∧ Same H3 H') ⟨upd_same, same_upd nDa⟩ (fun i H' _ ⟨_, sm⟩ => SqT.of (sm _ _ hi3)) (fun i v H' hv ⟨hD, sm⟩ => ?_) (fun H' ⟨hD, sm⟩ => ?_)
      · obtain ⟨r, hr', t, rfl, ht⟩ := paired_get hp3 hv
        obtain ⟨hlt, er⟩ := List.getElem?_eq_some_iff.mp hr'
        refine ⟨t, [.str r.1, .int r.2], rfl, SqT.of (sm _ _ ht), rfl, .str r.1, [.int r.2], rfl, .int r.2, [], rfl, rfl, rfl, ?_⟩
        unfold tYes
        dsimp only
        rw [if_pos rfl]
        refine ⟨_, rfl, _, rfl, _, Sum.inr r.1, rfl, hD, by rw [List.length_map, List.length_take, sizeLine_eq]; omega, ?_, fun b o q => by rw [upd_ne (ne_of_none q nDa)]; exact sm _ _ q⟩
        have new : valV (((nums rs).take i).map kvOf) (Sum.inr r.1) = none := by
          rw [valV_rows]
          rw [List.find?_eq_none.mpr fun q hq => ?_]
          · rfl
          · intro e
            have e := beq_iff_eq.mp e
            have nd' := labs_nd ok
            unfold labs at nd'
            rw [← List.take_append_drop i (nums rs), List.map_append, List.drop_eq_getElem_cons hlt, er, List.map_cons] at nd'
            exact (List.nodup_append.mp nd').2.2 q.1 (List.mem_map_of_mem hq) r.1 List.mem_cons_self e
        rw [upd_same, putK_new _ new, List.take_succ_eq_append_getElem hlt, er, List.map_append]
        rfl
      · rw [hnl, List.take_of_length_le (Nat.le_refl _)] at hD
        have hx4 := sm _ _ (s3 _ _ hx2)
        refine ⟨_, rfl, x, C, dx, _, rfl, hx4, L.cls, L.numbers, by simp, Da, rfl, upd_same, ?_, fun b o e ne => ?_⟩
        · rw [upd_ne (ne_of hD hx4 (by intro z; cases z))]
          exact hD
        · rw [upd_ne ne]
          exact sm _ _ (s3 _ _ (b2 _ _ e ne))
    rintro σ H3 ⟨nt, rfl, hx3, hn3, b3⟩
    refine ⟨_, rfl, x, C, dx, _, _, rfl, hx3, L.cls, L.numbers, rfl, nt, _, rfl, hn3, fun lt nlt => ?_⟩
    have ek : ((nums rs).map kvOf).map (fun kv => kV kv.1) = (labs rs).map V.str := by unfold labs; rw [List.map_map, List.map_map]; rfl
    rw [ek]
    have hx4 : (upd H3 lt (.tup ((labs rs).map V.str))) x = some (.ins C dx [("rows", .ref rt), ("numbers", .ref nt)]) := by rw [upd_ne (ne_of_none hx3 nlt)]; exact hx3
    have hn4 : (upd H3 lt (.tup ((labs rs).map V.str))) nt = some (.dK ((nums rs).map kvOf)) := by rw [upd_ne (ne_of_none hn3 nlt)]; exact hn3
    have hl4 : (upd H3 lt (.tup ((labs rs).map V.str))) lt = some (.tup ((labs rs).map V.str)) := upd_same
    have b4 : ∀ b o, H b = some o → b ≠ x → (upd H3 lt (.tup ((labs rs).map V.str))) b = some o := fun b o e ne => by rw [upd_ne (ne_of_none (b3 _ _ e ne) nlt)]; exact b3 _ _ e ne
    generalize upd H3 lt (.tup ((labs rs).map V.str)) = H4 at hx4 hn4 hl4 b4 ⊢
    refine ⟨_, rfl, x, C, dx, _, rfl, hx4, L.cls, L.labels, by simp, k _ (fun b o e ne => by rw [upd_ne ne]; exact b4 _ _ e ne) ⟨dx, rt, nt, lt, upd_same, ?_, ?_⟩⟩
    · rw [upd_ne (ne_of hn4 hx4 (by intro z; cases z))]; exact hn4
    · rw [upd_ne (ne_of hl4 hx4 (by intro z; cases z))]; exact hl4
end
end KC

namespace KC
open PySem PySem.Spec PyProof.Rows L2 C8 XE XD
def nodeB (rs : List Rw) : D → Bool
  | .sq (.fl (.str z) :: cs) => match many rs z with
    | some m => decide ((cs.length : Int) = m)
    | none => false
  | _ => false
theorem nodeB_of {rs : List Rw} {z : Str} {cs : List D} {m : Int} (hm : many rs z = some m) : nodeB rs (.sq (.fl (.str z) :: cs)) = decide ((cs.length : Int) = m) := by
  show (match many rs z with | some m => decide ((cs.length : Int) = m) | none => false) = _
  rw [hm]
theorem nodeB_inv {rs : List Rw} {d : D} (h : nodeB rs d = true) : ∃ z cs m, d = .sq (.fl (.str z) :: cs) ∧ many rs z = some m ∧ isT rs d = isTs rs cs := by
  unfold nodeB at h
  split at h
  · rename_i z cs
    split at h
    · rename_i m hm
      exact ⟨z, cs, m, rfl, hm, by rw [isT_yes hm, h, Bool.true_and]⟩
    · cases h
  · cases h
theorem nodeB_no {rs : List Rw} {d : D} (h : nodeB rs d = false) : isT rs d = false := by
  cases e : isT rs d with
  | false => rfl
  | true =>
    obtain ⟨z, cs, m, rfl, hm, hl, _⟩ := isT_inv e
    rw [nodeB_of hm] at h
    exact absurd hl (of_decide_eq_false h)
theorem isTs_app (rs : List Rw) : ∀ a b : List D, isTs rs (a ++ b) = (isTs rs a && isTs rs b)
  | [], b => by rw [List.nil_append, isTs, Bool.true_and]
  | x :: a, b => by rw [List.cons_append, isTs, isTs, isTs_app rs a b, Bool.and_assoc]
theorem DAts.snoc_inv {F : Addr → Prop} {H : Hp} : ∀ {xs : List V} {y : V} {ds : List D}, DAts F H (xs ++ [y]) ds → ∃ es e, ds = es ++ [e] ∧ DAts F H xs es ∧ DAt F H y e
  | [], y, [], k => (show False from k).elim
  | [], y, [d], ⟨k, _⟩ => ⟨[], d, rfl, trivial, k⟩
  | [], y, d :: d' :: ds, ⟨_, k⟩ => (show False from k).elim
  | x :: xs, y, [], k => (show False from k).elim
  | x :: xs, y, d :: ds, ⟨k, t⟩ => by
    obtain ⟨es, e, rfl, h1, h2⟩ := DAts.snoc_inv (xs := xs) (y := y) (ds := ds) t
    exact ⟨d :: es, e, rfl, ⟨k, h1⟩, h2⟩
theorem LangAt.same {H H' : Hp} {x C : Addr} {rs : List Rw} (s : Same H H') (h : LangAt H x C rs) : LangAt H' x C rs := by
  obtain ⟨dx, rt, nt, lt, e1, e2, e3⟩ := h
  exact ⟨dx, rt, nt, lt, s _ _ e1, s _ _ e2, s _ _ e3⟩
def spNode (C : Addr) : Sp := fun vs H Q _ => ∃ (x : Addr) (v : V) (d : D) (rs : List Rw) (F : Addr → Prop), vs = [.ref x, v] ∧ LangAt H x C rs ∧ RowsOk rs ∧ DAt F H v d ∧ ∀ H', Same H H' → Q (.bl (nodeB rs d)) H'
def spTr (C : Addr) : Sp := fun vs H Q _ => ∃ (x : Addr) (v : V) (d : D) (rs : List Rw) (F : Addr → Prop), vs = [.ref x, v] ∧ LangAt H x C rs ∧ RowsOk rs ∧ DAt F H v d ∧ sz d ≤ 1000 ∧ ∀ H', Same H H' → Q (.bl (isT rs d)) H'
theorem isOf_lab {rs : List Rw} {v : V} : isOf v (labs rs) = true → ∃ z, v = .str z ∧ z ∈ labs rs := by
  intro h
  unfold isOf at h
  split at h
  · rename_i z
    obtain ⟨y, hy, e⟩ := List.any_eq_true.mp h
    exact ⟨z, rfl, by rw [← beq_iff_eq.mp e]; exact hy⟩
  · cases h
section
variable {P : Program} {w : World} {K : PySem.W.Frag} {mg : Str → Option Value} {base : Heap}
theorem c_node {C f : Addr} {fd : FuncData} (M : Meth K C "is_node" f) (F : C8.Fun K "is_node" "Language.is_node" sNode f fd) (b : Binds K fd ["self", "thing"] []) (T : Blt4 mg) (L : LC K mg C) (CR : Cal P w K mg base 1 "is_row" (spRow K) []) : Met P w K mg base 2 C "is_node" (spNode C) [] := by
  refine met0 L.cls M F b scNode (fun vs H Q E h => ?_) (fun cdv A outer s H vs Q E hr h => ?_)
  · obtain ⟨x, v, d, rs, G, rfl, _⟩ := h
    rfl
  · obtain ⟨x, v, d, rs, G, rfl, hL, ok, hv, k⟩ := h
    have hu : (A.deeper (envOfC "Language.is_node" (fnScope sNode) s.heap.objs.size f cdv)).units + 64 < cLine := by have := hr.un; omega
    have hu1 : (A.deeper (envOfC "Language.is_node" (fnScope sNode) s.heap.objs.size f cdv)).units + 1 < cLine := by omega
    refine ⟨_, pss_cons (ps_if (pw_or (pt_not (pt_val (pe_c CR hr (by decide) (by rfl) (pa_cons (pv 1) pa_nil))))
          (pw_or (pt_cmp (pc_eqI (pe_callB call_len_seq (by rfl) T.len PySem.boot_len (pa_cons (pv 1) pa_nil)) pe_int))
          (pw_or1 (pt_cmpR (op_notOf hu) (pe_ix ix_seq (pv 1) pe_int fun _ _ => rfl) (pe_fld (pv 0) rfl) (by rfl))))).pt (pss_one (ps_ret pe_bl)) pss_nil)
      (pss_one (ps_ret (pe_cmpR op_eq (pe_callB call_len_seq (by rfl) T.len PySem.boot_len (pa_cons (pv 1) pa_nil))
        (pe_op op_add (pe_dget hu1 (pe_fld (pv 0) rfl) (pe_ix ix_seq (pv 1) pe_int fun _ _ => rfl) (fun _ _ => rfl)) pe_int) (nomark _)))), ?_⟩
    obtain ⟨Ty, ty, k1, _⟩ := d_ty (K := K) hv
    refine ⟨_, rfl, v, Ty, isSq d, rfl, ty, k1, fun H1 s1 => ⟨isSq d, rfl, ?_⟩⟩
    cases d with
    | fl x => exact iteBt rfl (iteBt rfl (k H1 s1))
    | emp => exact iteBt rfl (iteBt rfl (k H1 s1))
    | sq xs =>
      refine iteBf rfl ?_
      obtain ⟨a, vs, rfl, q, ho, hxs⟩ := hv
      have hlen := hxs.len
      have sq : ∀ {H'}, Same H H' → SqL K H' a vs ∨ SqT K H' a vs := fun s => q.elim (fun e => .inr (SqT.of (s _ _ e))) fun e => .inl (SqL.of (s _ _ e.2))
      refine ⟨_, rfl, a, vs, rfl, sq s1, (vs.length : Int), 0, rfl, rfl, _, rfl, ?_⟩
      cases xs with
      | nil =>
        have : vs = [] := List.length_eq_zero_iff.mp hlen
        subst this
        exact iteBt (decide_eq_true rfl) (iteBt rfl (k H1 s1))
      | cons d0 cs =>
        cases vs with
        | nil => cases hlen
        | cons v0 cvs =>
          obtain ⟨hv0, hcs⟩ := hxs
          have hcl := hcs.len
          refine iteBf (decide_eq_false (by rw [List.length_cons]; omega)) ?_
          have ix0 : ∀ {H'} {Q : VK}, Same H H' → Q v0 H' → rIx K (.ref a) (.int 0) H' Q := fun s h => (sq s).elim (fun e => .inl ⟨a, _, 0, v0, rfl, rfl, e, at_of (j := 0) (by omega) rfl, h⟩) fun e => .inr (.inl ⟨a, _, 0, v0, rfl, rfl, e, at_of (j := 0) (by omega) rfl, h⟩)
          obtain ⟨dx, rt, nt, lt, hx1, hn1, hl1⟩ := hL.same s1
          have kind : flatV v0 = true ∨ SeqOf K H1 v0 := by
            cases d0 with
            | fl y => exact .inl (by obtain ⟨e, f⟩ := hv0; rw [e]; exact f)
            | emp => cases ho
            | sq ys =>
              obtain ⟨b, us, e, q', _⟩ := hv0
              exact .inr ⟨b, us, e, q'.elim (fun e => .inr (SqT.of (s1 _ _ e))) fun e => .inl (SqL.of (s1 _ _ e.2))⟩
          refine ⟨_, rfl, ix0 s1 ⟨_, rfl, x, C, dx, _, _, rfl, hx1, L.cls, L.labels, rfl, lt, labs rs, rfl, .inr (SqT.of hl1), kind, _, rfl, ?_⟩⟩
          cases hof : isOf v0 (labs rs) with
          | false =>
            refine iteBt rfl ?_
            have : nodeB rs (.sq (d0 :: cs)) = false := by
              cases e : nodeB rs (.sq (d0 :: cs)) with
              | false => rfl
              | true =>
                obtain ⟨z, cs', m, e', hm, _⟩ := nodeB_inv e
                cases e'
                obtain ⟨rfl, _⟩ := hv0
                have z1 : isOf (.str z) (labs rs) = true := List.any_eq_true.mpr ⟨z, many_some hm, beq_self_eq_true z⟩
                rw [z1] at hof
                cases hof
            have kk := k H1 s1
            rw [this] at kk
            exact kk
          | true =>
            refine iteBf rfl ?_
            obtain ⟨z, rfl, hz⟩ := isOf_lab hof
            obtain ⟨m, hm, _⟩ := many_lab ok hz
            have ed : d0 = .fl (.str z) := by
              cases d0 with
              | fl y => exact congrArg D.fl hv0.1.symm
              | emp => cases ho
              | sq ys => obtain ⟨b, us, e, _⟩ := hv0; cases e
            subst ed
            refine ⟨_, rfl, a, _, rfl, sq s1, _, rfl, x, C, dx, _, _, rfl, hx1, L.cls, L.numbers, rfl, _, rfl, ix0 s1 ⟨nt, .int m, rfl, ?_, m, 1, rfl, rfl, rfl, ?_⟩⟩
            · have g := DGet.k (k := Sum.inr z) hn1
              rw [valV_nums, hm] at g
              exact g
            · have kk := k H1 s1
              have e : nodeB rs (.sq (.fl (.str z) :: cs)) = decide (V.int ((V.str z :: cvs).length : Nat) = V.int (m + 1)) := by
                rw [nodeB_of hm, decide_eq_decide]
                constructor
                · intro e
                  rw [List.length_cons, hcl]
                  congr 1
                  omega
                · intro e
                  have e := V.int.inj e
                  rw [List.length_cons] at e
                  omega
              rw [e] at kk
              exact kk
theorem c_tr {C f : Addr} {fd : FuncData} (M : Meth K C "is_tree" f) (F : C8.Fun K "is_tree" "Language.is_tree" sTr f fd) (b : Binds K fd ["self", "thing"] []) (T : Blt4 mg) (L : LC K mg C) (CN : Met P w K mg base 2 C "is_node" (spNode C) []) : Met P w K mg base 3 C "is_tree" (spTr C) [] := by
  refine met0 L.cls M F b scTr (fun vs H Q E h => ?_) (fun cdv A outer s H vs Q E hr h => ?_)
  · obtain ⟨x, v, d, rs, G, rfl, _⟩ := h
    rfl
  · obtain ⟨x, v, d, rs, G, rfl, hL, ok, hv, h1, k⟩ := h
    have nd := scTr.nd
    refine ⟨_, pss_cons (ps_set (i := 2) nd rfl (Or.inl rfl) (pe_lst (pa_cons (pv 1) pa_nil)))
      (pss_cons (ps_while PassesOwn.never (pt_truth (pv 2) (by intro _; rfl))
        (pss_cons (ps_set (i := 3) nd rfl (Or.inl rfl) (pe_bm0 PySem.F.plainAttrs_list PySem.F.slot_list_pop PySem.F.type_list_pop mt_pop (pv 2)))
        (pss_cons (ps_if (pt_not (pt_val (pe_mt CN hr (by decide) (pv 0) (pa_cons (pv 3) pa_nil)))) (pss_one (ps_ret pe_bl)) pss_nil)
        (pss_one (ps_expr (pe_bm PySem.F.plainAttrs_list PySem.F.slot_list_extend PySem.F.type_list_extend (MtR.or mt_extend mt_extendT) (pv 2) (pa_cons (pe_slice (SlR.or sl_list sl_tup) (pv 3) (po_some pe_int) po_none) pa_nil)))))))
      (pss_one (ps_ret pe_bl))), ?_⟩
    refine ⟨_, rfl, (by show 1 ≤ sizeLine; decide), fun W nW => ?_⟩
    have s1 : Same H (upd H W (.lst [v])) := same_upd nW
    let Iv : Nat → L2.St → Hp → Prop := fun m σ H' => ∃ (xs : List V) (ds : List D) (v3 : Option V), szs ds = m ∧ σ = [some (.ref x), some v, some (.ref W), v3] ∧ H' W = some (.lst xs) ∧ DAts G H xs ds ∧ Same H H' ∧ isT rs d = isTs rs ds ∧ m ≤ 1000
    refine ⟨Iv, ⟨sz d, [v], [d], none, rfl, rfl, upd_same, ⟨hv, trivial⟩, s1, by rw [isTs, isTs, Bool.and_true], h1⟩, ?_⟩
    rintro m σ H1 ⟨xs, ds, v3, rfl, rfl, hW, hxs, sm, hT, hm⟩
    have hlen := hxs.len
    have hll := len_szs ds
    refine ⟨_, rfl, !xs.isEmpty, .inl ⟨xs, SqL.of hW, rfl⟩, ?_⟩
    cases hxe : xs.isEmpty with
    | true =>
      have e : xs = [] := List.isEmpty_iff.mp hxe
      subst e
      have : ds = [] := List.length_eq_zero_iff.mp hlen.symm
      subst this
      refine iteBf rfl ?_
      have kk := k H1 sm
      rw [hT, isTs] at kk
      exact kk
    | false =>
      refine iteBt rfl ?_
      have hne : xs ≠ [] := fun e => by rw [e] at hxe; cases hxe
      obtain ⟨ys, y, rfl⟩ : ∃ ys y, xs = ys ++ [y] := ⟨xs.dropLast, xs.getLast hne, (List.dropLast_concat_getLast hne).symm⟩
      obtain ⟨es, e, rfl, hys, hy⟩ := DAts.snoc_inv hxs
      have hsz : szs (es ++ [e]) = szs es + sz e := by rw [szs_app]; rfl
      rw [hsz] at hm hll
      refine ⟨fun σ' H' => ∃ m' < szs (es ++ [e]), Iv m' σ' H', fun σ' H' ⟨m', hl, hi⟩ => ⟨m', hl, hi⟩, ?_⟩
      refine ⟨_, rfl, .inl ⟨rfl, _, SqL.of hW⟩, W, _, y, rfl, rfl, hW, by simp, ?_⟩
      rw [List.dropLast_concat]
      have hW2 : (upd H1 W (.lst ys)) W = some (.lst ys) := upd_same
      have sm2 : Same H (upd H1 W (.lst ys)) := fun b o q => by rw [upd_ne (ne_of_none q nW)]; exact sm _ _ q
      generalize upd H1 W (.lst ys) = H2 at hW2 sm2 ⊢
      refine ⟨_, rfl, ?_⟩
      obtain ⟨dx, rt, nt, lt, hx2, hn2, hl2⟩ := hL.same sm2
      refine ⟨x, dx, _, rfl, hx2, rfl, _, rfl, x, y, e, rs, G, rfl, ⟨dx, rt, nt, lt, hx2, hn2, hl2⟩, ok, DAt.hold (.same sm2) _ hy, fun H3 s3 => ⟨nodeB rs e, rfl, ?_⟩⟩
      cases hb : nodeB rs e with
      | false =>
        refine iteBt rfl ?_
        have kk := k H3 (sm2.trans s3)
        rw [hT, isTs_app, isTs, nodeB_no hb, Bool.false_and, Bool.and_false] at kk
        exact kk
      | true =>
        refine iteBf rfl ?_
        obtain ⟨z, cs, m, rfl, hmz, hTe⟩ := nodeB_inv hb
        obtain ⟨a, vs, rfl, q, _, hvs⟩ := hy
        cases vs with
        | nil => exact (show False from hvs).elim
        | cons v0 cvs =>
          obtain ⟨_, hcs⟩ := hvs
          have hcl := hcs.len
          have hcz := len_szs cs
          have hez : sz (.sq (.fl (.str z) :: cs)) = 1 + (1 + szs cs) := rfl
          have hyl := hys.len
          have hes := len_szs es
          have s03 := sm2.trans s3
          have hW3 := s3 _ _ hW2
          rw [hez] at hsz hm
          have fin : ∀ (H4 : Hp) (l : Addr) (zs : List V), Same H3 H4 → zs = cvs → ∃ m' < szs (es ++ [.sq (.fl (.str z) :: cs)]), Iv m' [some (.ref x), some v, some (.ref W), some (.ref a)] (upd H4 W (.lst (ys ++ zs))) := by
            intro H4 l zs s4 e
            subst e
            refine ⟨szs (es ++ cs), by rw [hsz, szs_app]; omega, ys ++ zs, es ++ cs, _, rfl, rfl, upd_same, DAts.app hys hcs, fun b o q => by rw [upd_ne (ne_of_none q nW)]; exact s4 _ _ (s03 _ _ q), ?_, by rw [szs_app]; omega⟩
            rw [hT, isTs_app, isTs_app, isTs, isTs, hTe, Bool.and_true]
          have cut1 : (v0 :: cvs).drop (1 : Int).toNat = cvs := rfl
          refine ⟨_, rfl, .inl ⟨rfl, _, SqL.of hW3⟩, _, rfl, 1, rfl, ?_⟩
          rcases q with q | ⟨_, q⟩
          · refine .inr ⟨a, _, rfl, SqT.of (s03 _ _ q), not_whole (by decide) (by simp), fun r nr => .inr ?_⟩
            rw [cutFrom (by decide), cut1]
            exact ⟨W, r, ys, cvs, rfl, rfl, by rw [upd_ne (ne_of_none hW3 nr)]; exact hW3, SqT.of upd_same, by rw [sizeLine_eq]; omega, fin _ r cvs (same_upd nr) rfl⟩
          · refine .inl ⟨a, _, rfl, SqL.of (s03 _ _ q), fun r nr => .inl ?_⟩
            rw [cutFrom (by decide), cut1]
            exact ⟨W, r, ys, cvs, rfl, rfl, by rw [upd_ne (ne_of_none hW3 nr)]; exact hW3, upd_same, by rw [sizeLine_eq]; omega, fin _ r cvs (same_upd nr) rfl⟩
end
end KC

namespace KC
open PySem PySem.Spec PyProof.Rows L2 C8 XE XD
abbrev sLaw : Stmt := top 35
abbrev NL : List Str := ["_law_script", "_law_state", "_law_turn", "_law_rows_here", "_law_language", "_law_tree_here", "_law_again", "_law_place", "_law_thing", "_law_odd"]
theorem scLaw : FnScope NL ["_law_script"] (fnScope sLaw) := fnScope_by (by decide +kernel)
def spLaw (K : PySem.W.Frag) : Sp := fun vs H Q _ => ∃ (a : Addr) (ns : List Int), vs = [.ref a] ∧ SqL K H a (ns.map V.int) ∧ ∀ H', Q (.bl true) H'
theorem LangAt.but {B : Nat} {H H' : Hp} {st cl x C : Addr} {rs : List Rw} (hs : StAt B H st cl) (hb : But st H H') (h : LangAt H x C rs) : LangAt H' x C rs := by
  obtain ⟨dx, rt, nt, lt, e1, e2, e3⟩ := h
  obtain ⟨ns, i, c, h0, n, e, _⟩ := hs
  exact ⟨dx, rt, nt, lt, hb _ _ e1 (ne_of e1 e (by intro z; cases z)), hb _ _ e2 (ne_of e2 e (by intro z; cases z)), hb _ _ e3 (ne_of e3 e (by intro z; cases z))⟩
theorem PlV.but {B : Nat} {H H' : Hp} {st cl : Addr} (hs : StAt B H st cl) (hb : But st H H') {v : V} {p : List Int} (h : PlV H v p) : PlV H' v p := by
  obtain ⟨a, e, q⟩ := h
  obtain ⟨ns, i, c, h0, n, e1, _⟩ := hs
  exact ⟨a, e, hb _ _ q (ne_of q e1 (by intro z; cases z))⟩
/-- what a turn holds -/
structure Ho (C st cl l x : Addr) (tv : V) (t : D) (rs : List Rw) (B : Nat) (H : Hp) : Prop where
  rows : RowsAt H l rs
  lang : LangAt H x C rs
  tree : DAt nol H tv t
  st : StAt B H st cl
theorem Ho.but {C st cl l x : Addr} {tv : V} {t : D} {rs : List Rw} {B B' : Nat} {H H' : Hp} (h : Ho C st cl l x tv t rs B H) (b : But st H H') (s : StAt B' H' st cl) : Ho C st cl l x tv t rs B' H' :=
  ⟨h.rows.but h.st b, h.lang.but h.st b, DAt.hold (.but h.st b fun _ h => h.elim) _ h.tree, s⟩
theorem Ho.same {C st cl l x : Addr} {tv : V} {t : D} {rs : List Rw} {B : Nat} {H H' : Hp} (h : Ho C st cl l x tv t rs B H) (s : Same H H') : Ho C st cl l x tv t rs B H' := h.but (Same.but s) (h.st.same s)
theorem Ho.mono {C st cl l x : Addr} {tv : V} {t : D} {rs : List Rw} {B B' : Nat} {H : Hp} (h : Ho C st cl l x tv t rs B H) (le : B ≤ B') : Ho C st cl l x tv t rs B' H := ⟨h.rows, h.lang, h.tree, h.st.mono le⟩
theorem paired_mem {α β : Type} {R : α → β → Prop} {xs : List α} {ys : List β} (h : Paired R xs ys) {x : α} (hx : x ∈ xs) : ∃ y ∈ ys, R x y := by
  obtain ⟨i, hi⟩ := List.getElem?_of_mem hx
  obtain ⟨y, hy, r⟩ := paired_get h hi
  exact ⟨y, List.mem_of_getElem? hy, r⟩
section
variable {P : Program} {w : World} {K : PySem.W.Frag} {mg : Str → Option Value} {base : Heap}
theorem c_law {C f : Addr} {fd : FuncData} (F : Def K mg "law" sLaw f fd) (b : Binds K fd ["_law_script"] []) (T : Blt4 mg) (cFresh : Cal P w K mg base 1 "_law_fresh" (spFresh K) []) (cTake : Cal P w K mg base 1 "_law_take" spTake []) (cOne : Cal P w K mg base 2 "_law_one" spOne [])
    (cSame : Cal P w K mg base 1 "_law_same" spSame0 []) (cRows : Cal P w K mg base 4 "_law_rows" spRows []) (cTree : Cal P w K mg base 15 "_law_tree" (spTree 12) []) (cPlaces : Cal P w K mg base 25 "_law_places" (spPlaces 24) []) (cAt : Cal P w K mg base 26 "_law_at" (spAt 25) [])
    (cPut : Cal P w K mg base 26 "_law_put" (spPut 25) []) (cLoose : Cal P w K mg base 61 "_law_loose" (spLoose 60) []) (cIsT : Cal P w K mg base 61 "_law_is_tree" (spIsT 60) []) (cSp : Cal P w K mg base 7 "_law_spoilt" spSpoilt []) (cMake : Mak P w K mg base 4 "Language" C (spInit C) [])
    (cTr : Met P w K mg base 3 C "is_tree" (spTr C) []) : FnOk P w K mg base C8.CX0 65 f fd ["_law_script"] (spLaw K) := by
  refine fn0 F.fn scLaw (fun vs H Q E h => ?_) (fun cdv A' outer s H vs Q E hr h => ?_)
  · obtain ⟨a, ns, rfl, _⟩ := h
    rfl
  · obtain ⟨a, ns, rfl, hS, k⟩ := h
    have nd := scLaw.nd
    refine ⟨_, pss_cons (ps_set (i := 1) nd rfl (Or.inl rfl) (pe_c cFresh hr (by decide) (by rfl) (pa_cons (pv 0) pa_nil)))
      (pss_cons (ps_for PassesOwn.never rfl (pi_range1 (by rfl) T.ran (pa_cons pe_int pa_nil)) (pg_name (i := 2) nd rfl (Or.inl rfl))
        (pss_cons (ps_set (i := 3) nd rfl (Or.inl rfl) (pe_c cRows hr (by decide) (by rfl) (pa_cons (pv 1) (pa_cons pe_int pa_nil))))
        (pss_cut (ps_par (i := 4) (j := 5) rfl nd rfl rfl (by decide) rfl rfl (pa_cons (pe_mk cMake hr (by decide) (by rfl) (pa_cons (pv 3) pa_nil))
            (pa_cons (pe_c cTree hr (by decide) (by rfl) (pa_cons (pv 1) (pa_cons (pv 3) (pa_cons (pe_op op_add pe_int (pe_c cTake hr (by decide) (by rfl) (pa_cons (pv 1) (pa_cons pe_int pa_nil)))) pa_nil)))) pa_nil)) (by rfl))
        (pss_cut (ps_if (pw_or (pt_cmpR op_notBl (pe_mt cTr hr (by decide) (pv 4) (pa_cons (pe_c cLoose hr (by decide) (by rfl) (pa_cons (pv 1) (pa_cons (pv 5) pa_nil))) pa_nil)) pe_bl (nomark _))
            (pw_or1 (pt_cmpR op_notBl (pe_mt cTr hr (by decide) (pv 4) (pa_cons (pv 5) pa_nil)) pe_bl (nomark _)))).pt pss_never pss_nil)
        (pss_cut (ps_for PassesOwn.never rfl (pi_range1 (by rfl) T.ran (pa_cons pe_int pa_nil)) (pg_name (i := 6) nd rfl (Or.inl rfl))
          (pss_cons (ps_set (i := 7) nd rfl (Or.inl rfl) (pe_c cOne hr (by decide) (by rfl) (pa_cons (pv 1) (pa_cons (pe_c cPlaces hr (by decide) (by rfl) (pa_cons (pv 5) pa_nil)) pa_nil))))
          (pss_cons (ps_set (i := 8) nd rfl (Or.inl rfl) (pe_c cPut hr (by decide) (by rfl) (pa_cons (pv 5) (pa_cons (pv 7) (pa_cons (pe_c cSp hr (by decide) (by rfl) (pa_cons (pv 1) (pa_cons (pv 3) (pa_cons (pe_c cAt hr (by decide) (by rfl) (pa_cons (pv 5) (pa_cons (pv 7) pa_nil))) pa_nil)))) pa_nil)))))
          (pss_one (ps_if (pt_not (pt_val (pe_c cSame hr (by decide) (by rfl) (pa_cons (pe_mt cTr hr (by decide) (pv 4) (pa_cons (pe_c cLoose hr (by decide) (by rfl) (pa_cons (pv 1) (pa_cons (pv 8) pa_nil))) pa_nil)) (pa_cons (pe_c cIsT hr (by decide) (by rfl) (pa_cons (pv 3) (pa_cons (pv 8) pa_nil))) pa_nil))))) pss_never pss_nil)))))
        (pss_one (ps_for PassesOwn.never rfl (pi_list (pe_lst (pa_cons pe_non (pa_cons pe_int (pa_cons pe_str (pa_cons (pe_ix ix_tup (pv 5) pe_int fun _ _ => rfl) (pa_cons (pe_tup pa_nil) (pa_cons pe_dnewK (pa_cons (pe_tup (pa_cons (pv 5) pa_nil)) (pa_cons pe_bl pa_nil)))))))))) (pg_name (i := 9) nd rfl (Or.inl rfl))
          (pss_one (ps_if (pt_not (pt_val (pe_c cSame hr (by decide) (by rfl) (pa_cons (pe_mt cTr hr (by decide) (pv 4) (pa_cons (pv 9) pa_nil)) (pa_cons (pe_c cIsT hr (by decide) (by rfl) (pa_cons (pv 3) (pa_cons (pv 9) pa_nil))) pa_nil))))) pss_never pss_nil)))))))))
      (pss_one (ps_ret pe_bl))), ?_⟩
    refine ⟨_, rfl, a, ns, rfl, hS, fun st cl H0 nst ncl s0 hst0 => ?_⟩
    refine ⟨8, rfl, by decide, by decide, for_gen (J := Itr 0 8) 8 (fun i σ H' => ∃ v2 v3 v4 v5 v6 v7 v8 v9 : Option V, σ = [some (.ref a), some (.ref st), v2, v3, v4, v5, v6, v7, v8, v9] ∧ StAt (400 * i) H' st cl) ⟨_, _, _, _, _, _, _, _, rfl, hst0⟩
      (fun i σ H' hi _ => hi) (fun σ H' _ => Nat.le_refl _) ?_ (fun σ H' _ => k H')⟩
    rintro i σ H1 v H2 hi ⟨v2, v3, v4, v5, v6, v7, v8, v9, rfl, hst⟩ ⟨rfl, rfl⟩
    refine ⟨_, rfl, st, 4, 400 * i, cl, rfl, by decide, by decide, hst, by omega, fun l rs H1 nl hR ok hs1 b1 => ?_⟩
    -- the language and the tree
    refine ⟨fun σ H' => ∃ (x : Addr) (tv : V) (t : D), σ = [some (.ref a), some (.ref st), some (.int (0 + (i : Nat))), some (.ref l), some (.ref x), some tv, v6, v7, v8, v9] ∧ Ho C st cl l x tv t rs (400 * i + 90) H' ∧ isT rs t = true ∧ sz t ≤ 24, ?_, ?_⟩
    · refine ⟨_, rfl, fun x dx nx ndx ne => ?_⟩
      have sx : Same H1 (upd (upd H1 dx (.own x)) x (.ins C dx [])) := fun b o e => by rw [upd_ne (ne_of_none e nx), upd_ne (ne_of_none e ndx)]; exact e
      refine ⟨x, l, dx, rs, rfl, upd_same, hR.same sx, ok, fun H3 kp hL => ⟨rfl, ?_⟩⟩
      have s13 : Same H1 H3 := fun b o e => kp _ _ (sx _ _ e) (ne_of_none e nx)
      have hs3 := hs1.same s13
      refine ⟨_, rfl, _, rfl, _, rfl, st, 12, _, cl, rfl, by decide, by decide, hs3, by omega, fun d H4 d0 d1 hs4 b4 => ⟨1, d, rfl, rfl, st, l, 1 + d, rs, _, cl, rfl, by omega, by omega, by omega, (hR.same s13).but hs3 b4, ok, hs4, by omega, fun tv t H5 ht it zt hs5 b5 => ?_⟩⟩
      refine ⟨_, _, rfl, x, tv, t, rfl, ⟨((hR.same s13).but hs3 b4).but hs4 b5, (hL.but hs3 b4).but hs4 b5, ht, hs5.mono (by omega)⟩, it, by omega⟩
    rintro σ H3 ⟨x, tv, t, rfl, ho3, hit, hzt⟩
    -- the tree is one
    refine ⟨fun σ H' => σ = [some (.ref a), some (.ref st), some (.int (0 + (i : Nat))), some (.ref l), some (.ref x), some tv, v6, v7, v8, v9] ∧ Ho C st cl l x tv t rs (400 * i + 120) H', ?_, ?_⟩
    · obtain ⟨dx, rt, nt, lt, hx, hn, hl⟩ := ho3.lang
      have wk : DAt (oth st) H3 tv t := DAt.weak (fun _ h => h.elim) _ ho3.tree
      refine ⟨_, rfl, x, dx, _, rfl, hx, rfl, _, rfl, _, rfl, st, tv, t, _, cl, rfl, wk, by omega, by omega, ho3.st, by omega, fun v' H4 hv' hs4 b4 => ?_⟩
      have ho4 := ho3.but b4 hs4
      refine ⟨x, v', t, rs, _, rfl, ho4.lang, ok, hv', by omega, fun H5 s5 => ?_⟩
      rw [hit]
      refine ⟨true, true, rfl, rfl, _, rfl, iteBf (by rw [decide_eq_true rfl]; rfl) ?_⟩
      have ho5 := ho4.same s5
      obtain ⟨dx, rt, nt, lt, hx, hn, hl⟩ := ho5.lang
      refine ⟨_, rfl, x, dx, _, rfl, hx, rfl, _, rfl, x, tv, t, rs, _, rfl, ho5.lang, ok, ho5.tree, by omega, fun H6 s6 => ?_⟩
      rw [hit]
      exact ⟨true, true, rfl, rfl, _, rfl, iteBf (by rw [decide_eq_true rfl]; rfl) ⟨rfl, (ho5.same s6).mono (by omega)⟩⟩
    rintro σ H4 ⟨rfl, ho4⟩
    -- three things that may be none
    refine ⟨fun σ H' => ∃ v6 v7 v8 : Option V, σ = [some (.ref a), some (.ref st), some (.int (0 + (i : Nat))), some (.ref l), some (.ref x), some tv, v6, v7, v8, v9] ∧ Ho C st cl l x tv t rs (400 * i + 400) H', ?_, ?_⟩
    · refine ⟨3, rfl, by decide, by decide, for_gen (J := Itr 0 3) 3 (fun j σ H' => ∃ v6 v7 v8 : Option V, σ = [some (.ref a), some (.ref st), some (.int (0 + (i : Nat))), some (.ref l), some (.ref x), some tv, v6, v7, v8, v9] ∧ Ho C st cl l x tv t rs (400 * i + 120 + 90 * j) H') ⟨_, _, _, rfl, ho4⟩
        (fun j σ H' hj _ => hj) (fun σ H' _ => Nat.le_refl _) ?_ (fun σ H' ⟨v6, v7, v8, e, ho⟩ => ⟨v6, v7, v8, e, ho.mono (by omega)⟩)⟩
      rintro j σ H5 v H6 hj ⟨v6, v7, v8, rfl, ho5⟩ ⟨rfl, rfl⟩
      refine ⟨_, rfl, _, rfl, tv, t, rs, rfl, ho5.tree, hit, hzt, by omega, fun l2 ws ps H6 nl2 s6 hl2 hpw pne pl pin => ?_⟩
      have ho6 := ho5.same s6
      have hwl := Paired.length hpw
      have hpp : 0 < ps.length := List.length_pos_iff.mpr pne
      refine ⟨st, l2, ws, _, cl, rfl, .inl hl2, (ho5.st.new nl2).1, by omega, by omega, ho6.st, by omega, fun pv' H7 hpv hs7 b7 => ?_⟩
      obtain ⟨p, hp, hpv⟩ := paired_mem hpw hpv
      obtain ⟨hin, hpl⟩ := pin p hp
      have ho7 := ho6.but b7 hs7
      have hpv7 := hpv.but ho6.st b7
      refine ⟨_, rfl, _, rfl, _, rfl, _, rfl, _, rfl, _, rfl, tv, pv', t, p, rs, rfl, hpv7, ho7.tree, hit, hin, by omega, by omega, fun v' t' H8 s8 hv8 it8 z8 => ?_⟩
      have ho8 := ho7.same s8
      refine ⟨st, l, v', t', rs, _, cl, rfl, ho8.rows, ok, hv8, it8, by omega, ho8.st, by omega, fun u d H9 hu9 zu hs9 b9 => ?_⟩
      have ho9 := ho8.but b9 hs9
      have hpv9 := (hpv7.same s8).but ho8.st b9
      refine ⟨st, tv, pv', u, t, p, rs, d, rfl, hpv9, ho9.tree, hit, hin, by omega, by omega, hu9, ok, fun th d' H10 s10 hth zth => ?_⟩
      have ho10 := ho9.same s10
      obtain ⟨dx, rt, nt, lt, hx, hn, hl⟩ := ho10.lang
      refine ⟨_, rfl, x, dx, _, rfl, hx, rfl, _, rfl, _, rfl, st, th, d', _, cl, rfl, hth, by omega, by omega, ho10.st, by omega, fun v11 H11 hv11 hs11 b11 => ?_⟩
      have ho11 := ho10.but b11 hs11
      have hth11 := DAt.hold (.but ho10.st b11 fun _ h => h) _ hth
      refine ⟨x, v11, d', rs, _, rfl, ho11.lang, ok, hv11, by omega, fun H12 s12 => ?_⟩
      have ho12 := ho11.same s12
      refine ⟨_, rfl, _, rfl, l, th, d', rs, _, rfl, ho12.rows, ok, DAt.hold (.same s12) _ hth11, by omega, by omega, fun H13 s13 => ?_⟩
      have ho13 := ho12.same s13
      exact ⟨_, rfl, .inl rfl, fun H14 s14 => ⟨true, rfl, iteBf rfl ⟨_, _, _, rfl, (ho13.same s14).mono (by omega)⟩⟩⟩
    rintro σ H5 ⟨v6, v7, v8, rfl, ho5⟩
    -- things that are odd
    obtain ⟨ta, z, cvs, cs, m, rfl, hta, rfl, hcs, hm, hml, hts⟩ := ho5.tree.tree hit
    refine ⟨_, rfl, ta, _, 0, _, rfl, rfl, SqT.of hta, at_of (j := 0) (by omega) rfl, (by show 0 ≤ sizeLine; decide), fun e1 n1 e2 n2 => ⟨_, rfl, (by show 1 ≤ sizeLine; decide), fun e3 n3 => ⟨(by show 8 ≤ sizeLine; decide), fun e4 n4 => ?_⟩⟩⟩
    have s2 := same_upd n1 (o := .tup [])
    have h11 : (upd H5 e1 (.tup [])) e1 = some (.tup []) := upd_same
    generalize upd H5 e1 (.tup []) = H6 at s2 h11 n2 n3 n4 ⊢
    have s3 := same_upd n2 (o := .dK [])
    have h22 : (upd H6 e2 (.dK [])) e2 = some (.dK []) := upd_same
    generalize upd H6 e2 (.dK []) = H7 at s3 h22 n3 n4 ⊢
    have s4 := same_upd n3 (o := .tup [.ref ta])
    have h33 : (upd H7 e3 (.tup [.ref ta])) e3 = some (.tup [.ref ta]) := upd_same
    generalize upd H7 e3 (.tup [.ref ta]) = H8 at s4 h33 n4 ⊢
    have s5 := same_upd n4 (o := .lst [.non, .int 5, .str "one", .str z, .ref e1, .ref e2, .ref e3, .bl true])
    have h44 : (upd H8 e4 (.lst [.non, .int 5, .str "one", .str z, .ref e1, .ref e2, .ref e3, .bl true])) e4 = some (.lst [.non, .int 5, .str "one", .str z, .ref e1, .ref e2, .ref e3, .bl true]) := upd_same
    generalize upd H8 e4 (.lst [.non, .int 5, .str "one", .str z, .ref e1, .ref e2, .ref e3, .bl true]) = H9 at s5 h44 ⊢
    have t9 : Same H5 H9 := s2.trans (s3.trans (s4.trans s5))
    have ho9 := ho5.same t9
    have odd : ∀ v ∈ ([.non, .int 5, .str "one", .str z, .ref e1, .ref e2, .ref e3, .bl true] : List V), ∃ d : D, DAt nol H9 v d ∧ sz d ≤ 26 := by
      intro v hv
      have cases8 : v = .non ∨ v = .int 5 ∨ v = .str "one" ∨ v = .str z ∨ v = .ref e1 ∨ v = .ref e2 ∨ v = .ref e3 ∨ v = .bl true := by simpa using hv
      rcases cases8 with rfl | rfl | rfl | rfl | rfl | rfl | rfl | rfl
      · exact ⟨.fl .non, ⟨rfl, rfl⟩, by decide⟩
      · exact ⟨.fl (.int 5), ⟨rfl, rfl⟩, by decide⟩
      · exact ⟨.fl (.str "one"), ⟨rfl, rfl⟩, by decide⟩
      · exact ⟨.fl (.str z), ⟨rfl, rfl⟩, by show 1 ≤ 26; decide⟩
      · exact ⟨.sq [], ⟨e1, [], rfl, .inl (s5 _ _ (s4 _ _ (s3 _ _ h11))), rfl, trivial⟩, by decide⟩
      · exact ⟨.emp, ⟨e2, rfl, s5 _ _ (s4 _ _ h22)⟩, by decide⟩
      · refine ⟨.sq [.sq (.fl (.str z) :: cs)], ⟨e3, _, rfl, .inl (s5 _ _ h33), rfl, ho9.tree, trivial⟩, ?_⟩
        show 1 + (sz (.sq (.fl (.str z) :: cs)) + 0) ≤ 26
        omega
      · exact ⟨.fl (.bl true), ⟨rfl, rfl⟩, by decide⟩
    refine ⟨e4, rfl, ⟨_, SqL.of h44⟩, for_gen (J := Itl K e4) 8 (fun j σ H' => ∃ v9 : Option V, σ = [some (.ref a), some (.ref st), some (.int (0 + (i : Nat))), some (.ref l), some (.ref x), some (.ref ta), v6, v7, v8, v9] ∧ Same H9 H') ⟨_, rfl, fun b o e => e⟩
      (fun j σ H' hj ⟨_, _, sm⟩ => ⟨_, _, SqL.of (sm _ _ h44), getD_at hj⟩) (fun σ H' ⟨_, _, sm⟩ => ⟨_, SqL.of (sm _ _ h44), Nat.le_refl _⟩) ?_ (fun σ H' ⟨v9, e, sm⟩ => ⟨_, _, _, _, _, _, _, _, e, (ho9.st.same sm).mono (by omega)⟩)⟩
    rintro j σ H10 v H11 hj ⟨v9, rfl, sm⟩ ⟨rfl, hv⟩
    have hv := hv _ (SqL.of (sm _ _ h44))
    obtain ⟨d, hd, zd⟩ := odd v (List.mem_of_getElem? hv)
    have hd10 := DAt.hold (.same sm) _ hd
    have ho10 := ho9.same sm
    obtain ⟨dx, rt, nt, lt, hx, hn, hl⟩ := ho10.lang
    refine ⟨_, rfl, x, dx, _, rfl, hx, rfl, _, rfl, x, v, d, rs, _, rfl, ho10.lang, ok, hd10, by omega, fun H12 s12 => ?_⟩
    refine ⟨_, rfl, _, rfl, l, v, d, rs, _, rfl, (ho10.same s12).rows, ok, DAt.hold (.same s12) _ hd10, by omega, by omega, fun H13 s13 => ?_⟩
    exact ⟨_, rfl, .inl rfl, fun H14 s14 => ⟨true, rfl, iteBf rfl ⟨_, rfl, sm.trans (s12.trans (s13.trans s14))⟩⟩⟩
end
end KC

namespace KC
open PySem PySem.Spec PyProof.Rows L2 C8 XE XD
theorem two {A B : Prop} (a : A) (f : A → B) : B := f a
theorem def_mk {K : PySem.W.Frag} {mg : Str → Option Value} {h : Heap} {x : Str} {st : Stmt} {f : Addr} {oc kV doc pm cdv ct : Value} {od an : Option Addr} {osl : Array (Option Value)} (X : K.In h) (G : h.Ns mainGlobals mg)
    (a : PySem.W.nsIn K mainGlobals x = some (some (.ref f))) (l : K.lookup f = some ⟨oc, od, .func (PySem.W.fnOf x x (fnArgs st) (fnBody st) (fnScope st) .none kV doc pm an cdv ct), osl⟩)
    (c : PySem.W.codeIn K cdv x = true) (k : PySem.W.keepIn K (.ref f) = true) : Def K mg x st f (PySem.W.fnOf x x (fnArgs st) (fnBody st) (fnScope st) .none kV doc pm an cdv ct) :=
  ⟨⟨oc, od, .none, kV, doc, pm, an, cdv, ct, osl, rfl, l, c⟩, PySem.W.mg_of X G a, k⟩
theorem fun_mk {K : PySem.W.Frag} {x qual : Str} {st : Stmt} {f : Addr} {oc kV doc pm cdv ct : Value} {od an : Option Addr} {osl : Array (Option Value)}
    (l : K.lookup f = some ⟨oc, od, .func (PySem.W.fnOf x qual (fnArgs st) (fnBody st) (fnScope st) .none kV doc pm an cdv ct), osl⟩) (c : PySem.W.codeIn K cdv qual = true) : C8.Fun K x qual st f (PySem.W.fnOf x qual (fnArgs st) (fnBody st) (fnScope st) .none kV doc pm an cdv ct) :=
  ⟨oc, od, .none, kV, doc, pm, an, cdv, ct, osl, rfl, l, c⟩
theorem ns_mk {K : PySem.W.Frag} {mg : Str → Option Value} {h : Heap} {x : Str} {C : Addr} (X : K.In h) (G : h.Ns mainGlobals mg) (a : PySem.W.nsIn K mainGlobals x = some (some (.ref C))) : mg x = some (.ref C) := PySem.W.mg_of X G a
theorem cn_mk {K : PySem.W.Frag} {mg : Str → Option Value} {h : Heap} {x : Str} {u : Value} (X : K.In h) (G : h.Ns mainGlobals mg) (a : PySem.W.nsIn K mainGlobals x = some (some u)) : mg x = some u := PySem.W.mg_of X G a
theorem mk_mk {K : PySem.W.Frag} {mg : Str → Option Value} {x : Str} {C f : Addr} {h : Heap} (X : K.In h) (hC : mg x = some (.ref C)) (a : PySem.W.makesIn K C = true) (b : PySem.W.findIn K (.ref C) "__init__" = some (some (.ref f))) (c : PySem.W.isFn K (.ref f) = true) (d : PySem.W.keepIn K (.ref C) = true) : Mk K C f := ⟨a, b, c, d⟩
theorem me_mk {K : PySem.W.Frag} {mg : Str → Option Value} {x m : Str} {C f : Addr} {h : Heap} (X : K.In h) (hC : mg x = some (.ref C)) (b : PySem.W.findIn K (.ref C) m = some (some (.ref f))) (c : PySem.W.isFn K (.ref f) = true) (d : PySem.W.keepIn K (.ref f) = true) : Meth K C m f := ⟨b, c, d⟩
theorem fi_mk {K : PySem.W.Frag} {x qual : Str} {st : Stmt} {C f : Addr} {oc kV doc pm cdv ct : Value} {od an : Option Addr} {osl : Array (Option Value)} (M : Mk K C f)
    (l : K.lookup f = some ⟨oc, od, .func (PySem.W.fnOf x qual (fnArgs st) (fnBody st) (fnScope st) .none kV doc pm an cdv ct), osl⟩) (c : PySem.W.codeIn K cdv qual = true) : C8.Fun K x qual st f (PySem.W.fnOf x qual (fnArgs st) (fnBody st) (fnScope st) .none kV doc pm an cdv ct) := fun_mk l c
theorem fm_mk {K : PySem.W.Frag} {x qual : Str} {st : Stmt} {C f : Addr} {oc kV doc pm cdv ct : Value} {od an : Option Addr} {osl : Array (Option Value)} (M : Meth K C x f)
    (l : K.lookup f = some ⟨oc, od, .func (PySem.W.fnOf x qual (fnArgs st) (fnBody st) (fnScope st) .none kV doc pm an cdv ct), osl⟩) (c : PySem.W.codeIn K cdv qual = true) : C8.Fun K x qual st f (PySem.W.fnOf x qual (fnArgs st) (fnBody st) (fnScope st) .none kV doc pm an cdv ct) := fun_mk l c
theorem lc_mk {K : PySem.W.Frag} {mg : Str → Option Value} {x : Str} {C : Addr} {h : Heap} (X : K.In h) (hC : mg x = some (.ref C)) (a : PySem.W.plainGet K C Str.empty = true) (b : PySem.W.hasDictIn K C = true) (c : PySem.W.plainOver K C = true) (d : PySem.W.findIn K (.ref C) "__setattr__" = some (some (.builtin "object.__setattr__")))
    (e : PySem.W.findIn K (.ref C) "rows" = some none) (f : PySem.W.findIn K (.ref C) "numbers" = some none) (g : PySem.W.findIn K (.ref C) "labels" = some none) : LC K mg C := ⟨⟨a, b, c, d⟩, e, f, g⟩
theorem all_ok {P : Program} {w : World} {K : PySem.W.Frag} {mg : Str → Option Value} {h : Heap} {fa C : Addr} (X : K.In h) (G : h.Ns mainGlobals mg) (hfa : mg "law" = some (.ref fa)) (T : Blt4 mg) (Gl : Gs mg) (L : LC K mg C) (hC : mg "Language" = some (.ref C))
    {f0 f1 f2 f3 f4 f5 f6 f7 f8 f9 f10 f11 f12 f13 f14 f15 f16 f17 f18 f19 f20 fL g0 g1 g2 : Addr} {d0 d1 d2 d3 d4 d5 d6 d7 d8 d9 d10 d11 d12 d13 d14 d15 d16 d17 d18 d19 d20 h0 h1 h2 : FuncData} {kV8 dc8 pm8 cd8 ct8 : Value} {an8 : Option Addr} (D0 : Def K mg "is_number" sNum f0 d0) (D1 : Def K mg "is_row" sRow f1 d1) (D2 : Def K mg "is_word" sWord f2 d2) (D3 : Def K mg "is_label_row" sLab f3 d3) (D4 : Def K mg "wrong_row" sWrong f4 d4) (D5 : Def K mg "_law_fresh" sFresh f5 d5) (D6 : Def K mg "_law_take" sTake f6 d6) (D7 : Def K mg "_law_one" sOne f7 d7) (D8 : Def K mg "_law_mix" sMix f8 d8) (D9 : Def K mg "_law_same" sSame f9 d9) (D10 : Def K mg "_law_words" sWords f10 d10) (D11 : Def K mg "_law_rows" sRows f11 d11) (D12 : Def K mg "_law_many" sMany f12 d12) (D13 : Def K mg "_law_labels" sLabels f13 d13) (D14 : Def K mg "_law_tree" sTree f14 d14) (D15 : Def K mg "_law_places" sPlaces f15 d15) (D16 : Def K mg "_law_at" sAt f16 d16) (D17 : Def K mg "_law_put" sPut f17 d17) (D18 : Def K mg "_law_loose" sLoose f18 d18) (D19 : Def K mg "_law_is_tree" sIsT f19 d19) (D20 : Def K mg "_law_spoilt" sSpoilt f20 d20)
    (DL : Def K mg "law" sLaw fL (PySem.W.fnOf "law" "law" (fnArgs sLaw) (fnBody sLaw) (fnScope sLaw) .none kV8 dc8 pm8 an8 cd8 ct8)) (M0 : C8.Fun K "__init__" "Language.__init__" sInit g0 h0) (M1 : C8.Fun K "is_node" "Language.is_node" sNode g1 h1) (M2 : C8.Fun K "is_tree" "Language.is_tree" sTr g2 h2) (Mk0 : Mk K C g0) (Me1 : Meth K C "is_node" g1) (Me2 : Meth K C "is_tree" g2)
    (e0 : d0.defaults = .none) (e1 : d1.defaults = .none) (e2 : d2.defaults = .none) (e3 : d3.defaults = .none) (e4 : d4.defaults = .none) (e5 : d5.defaults = .none) (e6 : d6.defaults = .none) (e7 : d7.defaults = .none) (e8 : d8.defaults = .none) (e9 : d9.defaults = .none) (e10 : d10.defaults = .none) (e11 : d11.defaults = .none) (e12 : d12.defaults = .none) (e13 : d13.defaults = .none) (e14 : d14.defaults = .none) (e15 : d15.defaults = .none) (e16 : d16.defaults = .none) (e17 : d17.defaults = .none) (e18 : d18.defaults = .none) (e19 : d19.defaults = .none) (e20 : d20.defaults = .none) (y0 : h0.defaults = .none) (y1 : h1.defaults = .none) (y2 : h2.defaults = .none) :
    ∃ fd : FuncData, (∀ (s : Shared) (v : Value), BindsTo s fd ⟨[v], []⟩ [("_law_script", v)]) ∧ ∀ base : Heap, K.In base → base.Ns mainGlobals mg → FnOk P w K mg base L2.CX0 65 fa fd ["_law_script"] (spLaw K) := by
  have e := hfa.symm.trans DL.mgf
  cases e
  refine ⟨PySem.W.fnOf "law" "law" (fnArgs sLaw) (fnBody sLaw) (fnScope sLaw) .none kV8 dc8 pm8 an8 cd8 ct8, fun s v => .of_eq rfl, fun base _ _ => ?_⟩
  have b0 := D0.fn.binds (ps := ["thing"]) e0 fun _ _ _ _ _ _ us hl => match us, hl with | [_], _ => rfl
  have b1 := D1.fn.binds (ps := ["thing"]) e1 fun _ _ _ _ _ _ us hl => match us, hl with | [_], _ => rfl
  have b2 := D2.fn.binds (ps := ["thing"]) e2 fun _ _ _ _ _ _ us hl => match us, hl with | [_], _ => rfl
  have b3 := D3.fn.binds (ps := ["row"]) e3 fun _ _ _ _ _ _ us hl => match us, hl with | [_], _ => rfl
  have b4 := D4.fn.binds (ps := ["rows"]) e4 fun _ _ _ _ _ _ us hl => match us, hl with | [_], _ => rfl
  have b5 := D5.fn.binds (ps := ["_law_script"]) e5 fun _ _ _ _ _ _ us hl => match us, hl with | [_], _ => rfl
  have b6 := D6.fn.binds (ps := ["_law_state", "_law_many_here"]) e6 fun _ _ _ _ _ _ us hl => match us, hl with | [_, _], _ => rfl
  have b7 := D7.fn.binds (ps := ["_law_state", "_law_things"]) e7 fun _ _ _ _ _ _ us hl => match us, hl with | [_, _], _ => rfl
  have b8 := D8.fn.binds (ps := ["_law_state", "_law_things"]) e8 fun _ _ _ _ _ _ us hl => match us, hl with | [_, _], _ => rfl
  have b9 := D9.fn.binds (ps := ["_law_found", "_law_due"]) e9 fun _ _ _ _ _ _ us hl => match us, hl with | [_, _], _ => rfl
  have b10 := D10.fn.binds (ps := ["_law_state", "_law_many_here"]) e10 fun _ _ _ _ _ _ us hl => match us, hl with | [_, _], _ => rfl
  have b11 := D11.fn.binds (ps := ["_law_state", "_law_most"]) e11 fun _ _ _ _ _ _ us hl => match us, hl with | [_, _], _ => rfl
  have b12 := D12.fn.binds (ps := ["_law_rows_here", "_law_label"]) e12 fun _ _ _ _ _ _ us hl => match us, hl with | [_, _], _ => rfl
  have b13 := D13.fn.binds (ps := ["_law_rows_here"]) e13 fun _ _ _ _ _ _ us hl => match us, hl with | [_], _ => rfl
  have b14 := D14.fn.binds (ps := ["_law_state", "_law_rows_here", "_law_nodes"]) e14 fun _ _ _ _ _ _ us hl => match us, hl with | [_, _, _], _ => rfl
  have b15 := D15.fn.binds (ps := ["_law_tree_here"]) e15 fun _ _ _ _ _ _ us hl => match us, hl with | [_], _ => rfl
  have b16 := D16.fn.binds (ps := ["_law_tree_here", "_law_place"]) e16 fun _ _ _ _ _ _ us hl => match us, hl with | [_, _], _ => rfl
  have b17 := D17.fn.binds (ps := ["_law_tree_here", "_law_place", "_law_other"]) e17 fun _ _ _ _ _ _ us hl => match us, hl with | [_, _, _], _ => rfl
  have b18 := D18.fn.binds (ps := ["_law_state", "_law_thing"]) e18 fun _ _ _ _ _ _ us hl => match us, hl with | [_, _], _ => rfl
  have b19 := D19.fn.binds (ps := ["_law_rows_here", "_law_x"]) e19 fun _ _ _ _ _ _ us hl => match us, hl with | [_, _], _ => rfl
  have b20 := D20.fn.binds (ps := ["_law_state", "_law_rows_here", "_law_part"]) e20 fun _ _ _ _ _ _ us hl => match us, hl with | [_, _, _], _ => rfl
  have m0 := M0.binds (ps := ["self", "rows"]) y0 fun _ _ _ _ _ _ us hl => match us, hl with | [_, _], _ => rfl
  have m1 := M1.binds (ps := ["self", "thing"]) y1 fun _ _ _ _ _ _ us hl => match us, hl with | [_, _], _ => rfl
  have m2 := M2.binds (ps := ["self", "thing"]) y2 fun _ _ _ _ _ _ us hl => match us, hl with | [_, _], _ => rfl
  have bL := DL.fn.binds (ps := ["_law_script"]) rfl fun _ _ _ _ _ _ us hl => match us, hl with | [_], _ => rfl
  have c0 : Cal P w K mg base 1 "is_number" spNum [] := c_num D0 b0 T
  have c1 : Cal P w K mg base 1 "is_row" (spRow K) [] := c_row D1 b1 T
  have c2 : Cal P w K mg base 1 "is_word" spWord [] := c_word D2 b2 T Gl
  have c3 : Cal P w K mg base 2 "is_label_row" spLab [] := c_lab D3 b3 T Gl c1 c2 c0
  have c4 : Cal P w K mg base 3 "wrong_row" spWrong [] := c_wrong D4 b4 T c1 c3
  have c5 : Cal P w K mg base 1 "_law_fresh" (spFresh K) [] := c_fresh D5 b5 T.toBlt
  have c6 : Cal P w K mg base 1 "_law_take" spTake [] := c_take D6 b6 T.toBlt
  have c7 : Cal P w K mg base 2 "_law_one" spOne [] := c_one D7 b7 T.toBlt c6
  have c8 : Cal P w K mg base 2 "_law_mix" spMix [] := c_mix D8 b8 T.toBlt c6
  have c9 : Cal P w K mg base 1 "_law_same" spSame0 [] := c_same0 D9 b9 T.toBlt2
  have c10 : Cal P w K mg base 3 "_law_words" spWords [] := c_words D10 b10 T.toBlt c8
  have c11 : Cal P w K mg base 4 "_law_rows" spRows [] := c_rows D11 b11 T c6 c8 c10
  have c12 : Cal P w K mg base 1 "_law_many" spMany [] := c_many D12 b12 T
  have c13 : Cal P w K mg base 1 "_law_labels" spLabels [] := c_labels D13 b13 T
  have tr := c_tree (P := P) (w := w) (base := base) D14 b14 T c6 c7 c13 c12
  have pl := c_places (P := P) (w := w) (base := base) D15 b15 T 24
  have at_ := c_at (P := P) (w := w) (base := base) D16 b16 T 25
  have pu := c_put (P := P) (w := w) (base := base) D17 b17 T 25
  have lo := c_loose (P := P) (w := w) (base := base) D18 b18 T c6 60
  have it := c_isT (P := P) (w := w) (base := base) D19 b19 T c12 c13 60
  have sp := c_spoilt (P := P) (w := w) (base := base) D20 b20 T (by decide) c6 c7 c13 (tr 3)
  have mk := c_init (P := P) (w := w) (base := base) Mk0 hC M0 m0 T Gl L c4
  have nd := c_node (P := P) (w := w) (base := base) Me1 M1 m1 T L c1
  have lt := c_tr (P := P) (w := w) (base := base) Me2 M2 m2 T L nd
  exact c_law DL bL T c5 c6 c7 c9 c11 (tr 12) pl at_ pu lo it sp mk lt
theorem walk {l : PySem.W.OpenLaw} {q : Program} {loose : List Str} {XP : (Str → Option Value) → Heap → Prop} {YP : World → Heap → Prop} {d : DefRec} {K : Params → PySem.W.Frag} (hn : l.most = some 63) (hdf : d.params.defaults = [])
    (hY : ∀ (w : World) (h : Heap), YP w h → (K w.params).In h)
    (F : ∀ (w : World) (mg : Str → Option Value) (fa : Addr) (h : Heap), (K w.params).In h → h.Ns mainGlobals mg → mg d.name = some (.ref fa) →
      ∃ fd : FuncData, (∀ (s : Shared) (u : Value), BindsTo s fd ⟨[u], []⟩ [("_law_script", u)]) ∧ ∀ base : Heap, (K w.params).In base → base.Ns mainGlobals mg → FnOk l.prog w (K w.params) mg base L2.CX0 65 fa fd ["_law_script"] (spLaw (K w.params))) :
    PySem.W.WalkO q loose XP YP l.row.toRowW d [] (fun f vs => PySem.call f vs) :=
  L2.walk_of (n := 63) (k := 65) (x := "_law_script") (CX := fun _ => L2.CX0) (sp := fun w => spLaw (K w.params)) hn (by decide) hdf ⟨rfl, by decide, by decide⟩ hY F (fun _ _ a ns _ _ hS => ⟨a, ns, rfl, hS, fun _ => rfl⟩) fun _ _ _ _ _ z => z
end KC

open PySem PySem.W PyProof.Rows
set_option maxRecDepth 100000 in
set_option maxHeartbeats 0 in
theorem PySem.Challenge.cw_secondruns_k03_trees_told_holds : PySem.Challenge.rw_secondruns_k03_trees_told.Holds := by
  w_on
  o_law
  k_head
  (case hw => w_witness2)
  k_fill
  refine KC.walk (l := PySem.Challenge.rw_secondruns_k03_trees_told) rfl rfl (fun w h Y => PySem.W.kIn_of Y) ?F
  case F =>
    intro w mg fa h KX G hmg
    refine' KC.two (KC.def_mk (x := "is_number") (st := KC.sNum) KX G ?a0 ?l0 ?c0 ?k0) (fun D0 => ?_)
    case a0 => k_is
    case l0 => k_is
    case c0 => k_is
    case k0 => k_is
    refine' KC.two (KC.def_mk (x := "is_row") (st := KC.sRow) KX G ?a1 ?l1 ?c1 ?k1) (fun D1 => ?_)
    case a1 => k_is
    case l1 => k_is
    case c1 => k_is
    case k1 => k_is
    refine' KC.two (KC.def_mk (x := "is_word") (st := KC.sWord) KX G ?a2 ?l2 ?c2 ?k2) (fun D2 => ?_)
    case a2 => k_is
    case l2 => k_is
    case c2 => k_is
    case k2 => k_is
    refine' KC.two (KC.def_mk (x := "is_label_row") (st := KC.sLab) KX G ?a3 ?l3 ?c3 ?k3) (fun D3 => ?_)
    case a3 => k_is
    case l3 => k_is
    case c3 => k_is
    case k3 => k_is
    refine' KC.two (KC.def_mk (x := "wrong_row") (st := KC.sWrong) KX G ?a4 ?l4 ?c4 ?k4) (fun D4 => ?_)
    case a4 => k_is
    case l4 => k_is
    case c4 => k_is
    case k4 => k_is
    refine' KC.two (KC.def_mk (x := "_law_fresh") (st := KC.sFresh) KX G ?a5 ?l5 ?c5 ?k5) (fun D5 => ?_)
    case a5 => k_is
    case l5 => k_is
    case c5 => k_is
    case k5 => k_is
    refine' KC.two (KC.def_mk (x := "_law_take") (st := KC.sTake) KX G ?a6 ?l6 ?c6 ?k6) (fun D6 => ?_)
    case a6 => k_is
    case l6 => k_is
    case c6 => k_is
    case k6 => k_is
    refine' KC.two (KC.def_mk (x := "_law_one") (st := KC.sOne) KX G ?a7 ?l7 ?c7 ?k7) (fun D7 => ?_)
    case a7 => k_is
    case l7 => k_is
    case c7 => k_is
    case k7 => k_is
    refine' KC.two (KC.def_mk (x := "_law_mix") (st := KC.sMix) KX G ?a8 ?l8 ?c8 ?k8) (fun D8 => ?_)
    case a8 => k_is
    case l8 => k_is
    case c8 => k_is
    case k8 => k_is
    refine' KC.two (KC.def_mk (x := "_law_same") (st := KC.sSame) KX G ?a9 ?l9 ?c9 ?k9) (fun D9 => ?_)
    case a9 => k_is
    case l9 => k_is
    case c9 => k_is
    case k9 => k_is
    refine' KC.two (KC.def_mk (x := "_law_words") (st := KC.sWords) KX G ?a10 ?l10 ?c10 ?k10) (fun D10 => ?_)
    case a10 => k_is
    case l10 => k_is
    case c10 => k_is
    case k10 => k_is
    refine' KC.two (KC.def_mk (x := "_law_rows") (st := KC.sRows) KX G ?a11 ?l11 ?c11 ?k11) (fun D11 => ?_)
    case a11 => k_is
    case l11 => k_is
    case c11 => k_is
    case k11 => k_is
    refine' KC.two (KC.def_mk (x := "_law_many") (st := KC.sMany) KX G ?a12 ?l12 ?c12 ?k12) (fun D12 => ?_)
    case a12 => k_is
    case l12 => k_is
    case c12 => k_is
    case k12 => k_is
    refine' KC.two (KC.def_mk (x := "_law_labels") (st := KC.sLabels) KX G ?a13 ?l13 ?c13 ?k13) (fun D13 => ?_)
    case a13 => k_is
    case l13 => k_is
    case c13 => k_is
    case k13 => k_is
    refine' KC.two (KC.def_mk (x := "_law_tree") (st := KC.sTree) KX G ?a14 ?l14 ?c14 ?k14) (fun D14 => ?_)
    case a14 => k_is
    case l14 => k_is
    case c14 => k_is
    case k14 => k_is
    refine' KC.two (KC.def_mk (x := "_law_places") (st := KC.sPlaces) KX G ?a15 ?l15 ?c15 ?k15) (fun D15 => ?_)
    case a15 => k_is
    case l15 => k_is
    case c15 => k_is
    case k15 => k_is
    refine' KC.two (KC.def_mk (x := "_law_at") (st := KC.sAt) KX G ?a16 ?l16 ?c16 ?k16) (fun D16 => ?_)
    case a16 => k_is
    case l16 => k_is
    case c16 => k_is
    case k16 => k_is
    refine' KC.two (KC.def_mk (x := "_law_put") (st := KC.sPut) KX G ?a17 ?l17 ?c17 ?k17) (fun D17 => ?_)
    case a17 => k_is
    case l17 => k_is
    case c17 => k_is
    case k17 => k_is
    refine' KC.two (KC.def_mk (x := "_law_loose") (st := KC.sLoose) KX G ?a18 ?l18 ?c18 ?k18) (fun D18 => ?_)
    case a18 => k_is
    case l18 => k_is
    case c18 => k_is
    case k18 => k_is
    refine' KC.two (KC.def_mk (x := "_law_is_tree") (st := KC.sIsT) KX G ?a19 ?l19 ?c19 ?k19) (fun D19 => ?_)
    case a19 => k_is
    case l19 => k_is
    case c19 => k_is
    case k19 => k_is
    refine' KC.two (KC.def_mk (x := "_law_spoilt") (st := KC.sSpoilt) KX G ?a20 ?l20 ?c20 ?k20) (fun D20 => ?_)
    case a20 => k_is
    case l20 => k_is
    case c20 => k_is
    case k20 => k_is
    refine' KC.two (KC.def_mk (x := "law") (st := KC.sLaw) KX G ?a21 ?l21 ?c21 ?k21) (fun DL => ?_)
    case a21 => k_is
    case l21 => k_is
    case c21 => k_is
    case k21 => k_is
    refine' KC.two (KC.ns_mk (x := "Language") KX G ?hC) (fun hC => ?_)
    case hC => k_is
    refine' KC.two (KC.mk_mk KX hC ?mk1 ?mk2 ?mk3 ?mk4) (fun Mk0 => ?_)
    case mk1 => k_is
    case mk2 => k_is
    case mk3 => k_is
    case mk4 => k_is
    refine' KC.two (KC.fi_mk (x := "__init__") (qual := "Language.__init__") (st := KC.sInit) Mk0 ?ml0 ?mc0) (fun M0 => ?_)
    case ml0 => k_is
    case mc0 => k_is
    refine' KC.two (KC.me_mk (m := "is_node") KX hC ?me1 ?mf1 ?mg1) (fun Me1 => ?_)
    case me1 => k_is
    case mf1 => k_is
    case mg1 => k_is
    refine' KC.two (KC.fm_mk (x := "is_node") (qual := "Language.is_node") (st := KC.sNode) Me1 ?ml1 ?mc1) (fun M1 => ?_)
    case ml1 => k_is
    case mc1 => k_is
    refine' KC.two (KC.me_mk (m := "is_tree") KX hC ?me2 ?mf2 ?mg2) (fun Me2 => ?_)
    case me2 => k_is
    case mf2 => k_is
    case mg2 => k_is
    refine' KC.two (KC.fm_mk (x := "is_tree") (qual := "Language.is_tree") (st := KC.sTr) Me2 ?ml2 ?mc2) (fun M2 => ?_)
    case ml2 => k_is
    case mc2 => k_is
    refine' KC.two (KC.lc_mk KX hC ?l1 ?l2 ?l3 ?l4 ?l5 ?l6 ?l7) (fun L => ?_)
    case l1 => k_is
    case l2 => k_is
    case l3 => k_is
    case l4 => k_is
    case l5 => k_is
    case l6 => k_is
    case l7 => k_is
    have T : KC.Blt4 mg := { len := PySem.W.mg_none_of KX G (by k_is), abs := PySem.W.mg_none_of KX G (by k_is), int := PySem.W.mg_none_of KX G (by k_is), list := PySem.W.mg_none_of KX G (by k_is), isi := PySem.W.mg_none_of KX G (by k_is), tup := PySem.W.mg_none_of KX G (by k_is), boo := PySem.W.mg_none_of KX G (by k_is), all := PySem.W.mg_none_of KX G (by k_is), zip := PySem.W.mg_none_of KX G (by k_is), ran := PySem.W.mg_none_of KX G (by k_is), enu := PySem.W.mg_none_of KX G (by k_is), str := PySem.W.mg_none_of KX G (by k_is), dic := PySem.W.mg_none_of KX G (by k_is) }
    refine' KC.two (KC.cn_mk (x := "LETTERS") KX G ?qg1) (fun g1 => ?_)
    case qg1 => k_is
    refine' KC.two (KC.cn_mk (x := "LONGEST_WORD") KX G ?qg2) (fun g2 => ?_)
    case qg2 => k_is
    refine' KC.two (KC.cn_mk (x := "KEEP") KX G ?qg3) (fun g3 => ?_)
    case qg3 => k_is
    exact KC.all_ok KX G hmg T ⟨⟨_, g1, ⟨_, rfl⟩⟩, ⟨_, g2, ⟨_, rfl⟩⟩, ⟨_, g3, ⟨_, rfl⟩⟩⟩ L hC D0 D1 D2 D3 D4 D5 D6 D7 D8 D9 D10 D11 D12 D13 D14 D15 D16 D17 D18 D19 D20 DL M0 M1 M2 Mk0 Me1 Me2 rfl rfl rfl rfl rfl rfl rfl rfl rfl rfl rfl rfl rfl rfl rfl rfl rfl rfl rfl rfl rfl rfl rfl rfl
