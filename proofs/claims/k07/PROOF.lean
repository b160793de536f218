import PyProof.Rows.All
import Wide.All
import OpenK.AllK
import Wide.FinOn
import HandS.ForMost
import HandS.Codes
import HandS.Wide
import HandS.IsInst
import HandS.ExcIs
import HandS.Zip
import HandS.Style
import HandS.DeepEq
import PyProof.NeKinds
import KE.GoesMore
import KE.GoesEnum
import HandS.FStr
import HandS.SetFor
import HandS.DictSub
import HandS.ExcInit
import HandS.ExcField
import KE.KExcSuper
import KE.KExcIs
import HandS.ExcOwn
import HandS.ExcCtx
import HandS.WordsExc
import HandS.Conv
import PyProof.ListStr
import PyProof.StrBlock2
import HandS.Iter
import PyProof.Draws
import PyProof.EnumMake
import HandS.Lambda
import HandS.EndTab
import PySem.Challenge.RW_secondruns_k07_tree_texts_refused
set_option Elab.async false
set_option linter.all false
set_option maxRecDepth 100000
set_option maxHeartbeats 4000000
namespace K7
open PySem PySem.Spec PyProof.Rows L2 C8
def top (i : Nat) : Stmt := PySem.Challenge.pw_secondruns_k07_tree_texts_refused.main.body.getD i (.Pass ⟨0, 0, 0, 0⟩)
abbrev sFresh : Stmt := top 22
abbrev sTake : Stmt := top 23
abbrev sOne : Stmt := top 24
example : (match sFresh with | .FunctionDef (name := n) .. => n | _ => "") = ("_law_fresh" : Str) := by rfl

/-- the state of the draws, at a -/
def StAt (B : Nat) (H : Hp) (a l : Addr) : Prop := ∃ (ns : List Int) (i c h n : Int), H a = some (.lst [.ref l, .int i, .int c, .int h, .int n]) ∧ H l = some (.lst (ns.map V.int)) ∧
  0 ≤ i ∧ 0 ≤ c ∧ 0 ≤ h ∧ h < 2147483647 ∧ 0 ≤ n ∧ n ≤ B ∧ ns.length ≤ 40
/-- all but what stands at a is as it was -/
def But (a : Addr) (H H' : Hp) : Prop := ∀ b o, H b = some o → b ≠ a → H' b = some o
theorem iteBt {c : Bool} {A B : Prop} (hc : c = true) (h : A) : if c = true then A else B := by rw [if_pos hc]; exact h
theorem iteBf {c : Bool} {A B : Prop} (hc : c = false) (h : B) : if c = true then A else B := by rw [if_neg (by rw [hc]; exact Bool.false_ne_true)]; exact h
def spTake : Sp := fun vs H Q _ => ∃ (a : Addr) (m : Int) (B : Nat) (l : Addr), vs = [.ref a, .int m] ∧ 0 < m ∧ m < 1073741824 ∧ StAt B H a l ∧ B < 1000000000000000 ∧
  ∀ (d : Int) (H' : Hp), 0 ≤ d → d < m → StAt (B + 1) H' a l → But a H H' → Q (.int d) H'
theorem scTake : FnScope ["_law_state", "_law_many_here", "_law_cell", "_law_digit", "_law_one_here", "_law_two"] ["_law_state", "_law_many_here"] (fnScope sTake) := fnScope_by (by decide +kernel)
section
variable {P : Program} {w : World} {K : PySem.W.Frag} {mg : Str → Option Value} {base : Heap}
structure Blt (mg : Str → Option Value) : Prop where
  len : mg "len" = none
  abs : mg "abs" = none
  int : mg "int" = none
  list : mg "list" = none
theorem c_take {f : Addr} {fd : FuncData} (F : Def K mg "_law_take" sTake f fd) (b : Binds K fd ["_law_state", "_law_many_here"] []) (T : Blt mg) : Cal P w K mg base 1 "_law_take" spTake [] := by
  refine cal0 F b .nil scTake (fun vs H Q E h => ?_) (fun cdv A outer s H vs Q E hr h => ?_)
  · obtain ⟨a, m, B, l, rfl, _⟩ := h
    rfl
  · obtain ⟨a, m, B, l, rfl, m0, m1, ⟨ns, i, c, h, n, ha, hl, i0, c0, h0, h1, n0, n1, nl⟩, hB, k⟩ := h
    have nd := scTake.nd
    refine ⟨_, pss_cons (ps_asg (pe_op op_add (pe_ix ix_list (pv 0) pe_int fun _ _ => rfl) pe_int) (pg_sub (pv 0) pe_int set_list))
      (pss_cut (ps_while PassesOwn.never
          (pw_and (pt_cmp (pc_eqI (pe_ix ix_list (pv 0) pe_int fun _ _ => rfl) pe_int))
            (pw_and1 (pt_cmp (pc_lt (pe_ix ix_list (pv 0) pe_int fun _ _ => rfl) (pe_callB call_len_seq (by rfl) T.len PySem.boot_len (pa_cons (pe_ix ix_list (pv 0) pe_int fun _ _ => rfl) pa_nil)))))).pt
          (pss_cons (ps_set (i := 2) nd rfl (Or.inl rfl) (pe_callB call_abs (by rfl) T.abs (by decide +kernel) (pa_cons (pe_ix ix_list (pe_ix ix_list (pv 0) pe_int fun _ _ => rfl) (pe_ix ix_list (pv 0) pe_int fun _ _ => rfl) fun _ _ => rfl) pa_nil)))
          (pss_cons (ps_asg (pe_op op_add (pe_ix ix_list (pv 0) pe_int fun _ _ => rfl) pe_int) (pg_sub (pv 0) pe_int set_list))
          (pss_one (ps_if (pt_cmp (pc_ge (pv 2) (pe_op op_pow pe_int pe_int)))
            (pss_one (ps_asg (pv 2) (pg_sub (pv 0) pe_int set_list)))
            (pss_one (ps_asg (pe_op op_mod (pe_callTy call_int1 (by rfl) T.int (by decide +kernel) (pa_cons (pe_op op_add (pe_op op_add (pe_op op_mul (pe_ix ix_list (pv 0) pe_int fun _ _ => rfl) pe_int) (pv 2)) pe_int) pa_nil)) pe_int) (pg_sub (pv 0) pe_int set_list))))))))
      (pss_cons (ps_if (pt_cmp (pc_gt (pe_ix ix_list (pv 0) pe_int fun _ _ => rfl) pe_int))
          (pss_cons (ps_set (i := 3) nd rfl (Or.inl rfl) (pe_op op_mod (pe_callTy call_int1 (by rfl) T.int (by decide +kernel) (pa_cons (pe_ix ix_list (pv 0) pe_int fun _ _ => rfl) pa_nil)) (pv 1)))
          (pss_cons (ps_asg (pe_op op_fdiv (pe_ix ix_list (pv 0) pe_int fun _ _ => rfl) (pv 1)) (pg_sub (pv 0) pe_int set_list))
          (pss_one (ps_ret (pv 3))))) pss_nil)
      (pss_cons (ps_set (i := 4) nd rfl (Or.inl rfl) (pe_op op_mod (pe_callTy call_int1 (by rfl) T.int (by decide +kernel) (pa_cons (pe_op op_pow (pe_op op_add (pe_op op_add (pe_ix ix_list (pv 0) pe_int fun _ _ => rfl) (pe_op op_mul pe_int (pe_ix ix_list (pv 0) pe_int fun _ _ => rfl))) pe_int) pe_int) pa_nil)) pe_int))
      (pss_cons (ps_set (i := 5) nd rfl (Or.inl rfl) (pe_op op_mod (pe_callTy call_int1 (by rfl) T.int (by decide +kernel) (pa_cons (pe_op op_pow (pe_op op_add (pv 4) (pe_op op_mul pe_int (pe_ix ix_list (pv 0) pe_int fun _ _ => rfl))) pe_int) pa_nil)) pe_int))
      (pss_one (ps_ret (pe_op op_mod (pe_callTy call_int1 (by rfl) T.int (by decide +kernel) (pa_cons (pe_op op_fdiv (pv 5) pe_int) pa_nil)) (pv 1)))))))), ?_⟩
    have gA : ∀ xs : List V, (upd H a (.lst xs)) a = some (.lst xs) := fun _ => upd_same
    have nla : l ≠ a := ne_of hl ha (by intro z; have z' := congrArg (fun o : HO => match o with | .lst xs => xs.head? | _ => none) z; cases ns <;> cases z')
    have gl : ∀ o, (upd H a o) l = some (.lst (ns.map V.int)) := fun o => by rw [upd_ne nla]; exact hl
    have fin : ∀ (d i' c' h' : Int), 0 ≤ d → d < m → 0 ≤ i' → 0 ≤ c' → 0 ≤ h' → h' < 2147483647 → Q (.int d) (upd H a (.lst [.ref l, .int i', .int c', .int h', .int (n + 1)])) := fun d i' c' h' d0 d1 e1 e2 e3 e4 =>
      k d _ d0 d1 ⟨ns, i', c', h', n + 1, upd_same, gl _, e1, e2, e3, e4, by omega, by omega, nl⟩ fun b o e hb => by rw [upd_ne hb]; exact e
    -- _law_state[4] = _law_state[4] + 1
    refine ⟨_, rfl, a, _, 4, _, rfl, rfl, SqL.of ha, rfl, n, 1, rfl, rfl, _, rfl, a, _, 4, 4, rfl, rfl, ha, rfl, ?_⟩
    show tSeq _ _ _ _ (upd H a (.lst [.ref l, .int i, .int c, .int h, .int (n + 1)]))
    have rd : ∀ {xs : List V} {σ : L2.St} {z : Int} {v : V} {Q : VK}, σ[0]? = some (some (.ref a)) → atI xs z = some v → Q v (upd H a (.lst xs)) → tOp (rIxL K) (tVar 0) (tC (.int z)) σ (upd H a (.lst xs)) Q :=
      fun h1 h2 q => ⟨_, h1, a, _, _, _, rfl, rfl, SqL.of upd_same, h2, q⟩
    have st : ∀ {xs : List V} {σ : L2.St} {z : Int} {j : Nat} {v : V} {Q : L2.St → Hp → Prop}, σ[0]? = some (some (.ref a)) → ixN xs.length z = some j → Q σ (upd H a (.lst (xs.set j v))) → gSub (tVar 0) (tC (.int z)) rSetL v σ (upd H a (.lst xs)) Q :=
      fun h1 h2 q => ⟨_, h1, a, _, _, _, rfl, rfl, upd_same, h2, by rw [upd_upd]; exact q⟩
    -- while
    refine ⟨fun σ H' => ∃ (i c h : Int) (v2 : Option V), σ = [some (.ref a), some (.int m), v2, none, none, none] ∧ H' = upd H a (.lst [.ref l, .int i, .int c, .int h, .int (n + 1)]) ∧ 0 ≤ i ∧ 0 ≤ c ∧ 0 ≤ h ∧ h < 2147483647, ?_, ?_⟩
    · refine ⟨fun μ σ H' => ∃ (i c h : Int) (v2 : Option V), μ = ns.length - i.toNat ∧ σ = [some (.ref a), some (.int m), v2, none, none, none] ∧ H' = upd H a (.lst [.ref l, .int i, .int c, .int h, .int (n + 1)]) ∧ 0 ≤ i ∧ 0 ≤ c ∧ 0 ≤ h ∧ h < 2147483647,
        ⟨_, i, c, h, none, rfl, rfl, rfl, i0, c0, h0, h1⟩, ?_⟩
      rintro μ σ H' ⟨i, c, h, v2, rfl, rfl, rfl, i0, c0, h0, h1⟩
      refine rd rfl rfl ⟨c, 0, rfl, rfl, _, rfl, ?_⟩
      refine ite2 (fun hc => ?_) (fun hc => ?_)
      · refine rd rfl rfl (rd rfl rfl ⟨l, _, rfl, .inl (SqL.of (gl _)), i, _, rfl, rfl, _, rfl, ?_⟩)
        by_cases hi : i < ns.length
        · have hlt : i.toNat < ns.length := by omega
          have hx : atI (ns.map V.int) i = some (.int ns[i.toNat]) := at_of (j := i.toNat) (by omega) (by simp [hlt])
          refine iteBt (decide_eq_true (by rw [List.length_map]; exact hi)) ?_
          refine ⟨fun σ H' => ∃ (c h : Int) (v2 : Option V), σ = [some (.ref a), some (.int m), v2, none, none, none] ∧ H' = upd H a (.lst [.ref l, .int (i + 1), .int c, .int h, .int (n + 1)]) ∧ 0 ≤ c ∧ 0 ≤ h ∧ h < 2147483647, ?_, ?_⟩
          · rintro σ' H' ⟨c, h, v2, rfl, rfl, c0, h0, h1⟩
            exact ⟨_, by omega, i + 1, c, h, v2, rfl, rfl, rfl, by omega, c0, h0, h1⟩
          -- _law_cell = abs(..)
          refine rd rfl rfl (rd rfl rfl ⟨l, _, i, _, rfl, rfl, SqL.of (gl _), hx, _, rfl, ?_⟩)
          generalize hz : (if ns[i.toNat] < 0 then -ns[i.toNat] else ns[i.toNat]) = z
          have z0 : 0 ≤ z := by rw [← hz]; split <;> omega
          -- _law_state[1] = _law_state[1] + 1
          refine rd rfl rfl ⟨i, 1, rfl, rfl, st rfl rfl ?_⟩
          -- if
          refine ⟨_, rfl, 10, 18, rfl, rfl, ⟨by decide, by decide, by decide⟩, z, _, rfl, rfl, _, rfl, ite2 (fun _ => ?_) (fun _ => ?_)⟩
          · exact ⟨_, rfl, st rfl rfl ⟨z, h, some (.int z), rfl, rfl, z0, h0, h1⟩⟩
          · refine rd rfl rfl ⟨h, 131, rfl, rfl, .inl ⟨by omega, by omega⟩, _, rfl, _, _, rfl, rfl, _, _, rfl, rfl, .inl ⟨_, rfl, _, _, rfl, rfl, (by show (0 : Int) < 2147483647; decide), st rfl rfl ⟨c, _, some (.int z), rfl, rfl, c0, Int.emod_nonneg _ (by decide), Int.emod_lt_of_pos _ (by decide)⟩⟩⟩
        · refine iteBf (decide_eq_false (by rw [List.length_map]; exact hi)) ?_
          exact ⟨i, c, h, v2, rfl, rfl, i0, c0, h0, h1⟩
      · exact iteF ⟨i, c, h, v2, rfl, rfl, i0, c0, h0, h1⟩
    · rintro σ H' ⟨i, c, h, v2, rfl, rfl, i0, c0, h0, h1⟩
      refine rd rfl rfl ⟨c, 0, rfl, rfl, _, rfl, ite2 (fun hc => ?_) (fun hc => ?_)⟩
      · have hc : 0 < c := of_decide_eq_true hc
        refine rd rfl rfl (.inl ⟨c, rfl, _, rfl, c, m, rfl, rfl, m0, ?_⟩)
        refine rd rfl rfl ⟨_, rfl, c, m, rfl, rfl, ⟨m0, m1⟩, st rfl rfl ⟨_, rfl, ?_⟩⟩
        exact fin _ _ _ _ (Int.emod_nonneg _ (by omega)) (Int.emod_lt_of_pos _ m0) i0 (Int.ediv_nonneg c0 (by omega)) h0 h1
      · refine rd rfl rfl (rd rfl rfl ⟨7919, n + 1, rfl, rfl, .inl ⟨by decide, by decide⟩, h, _, rfl, rfl, _, 5, rfl, rfl, _, 3, rfl, rfl, ⟨by decide, by decide, by omega⟩, .inl ⟨_, rfl, _, _, rfl, rfl, (by show (0 : Int) < 1000000007; decide), ?_⟩⟩)
        generalize ho : (h + 7919 * (n + 1) + 5) ^ (3 : Int).toNat % 1000000007 = o
        have o0 : 0 ≤ o := by rw [← ho]; exact Int.emod_nonneg _ (by decide)
        have o1 : o < 1000000007 := by rw [← ho]; exact Int.emod_lt_of_pos _ (by decide)
        refine ⟨.int o, (by subst ho; rfl), rd rfl rfl ⟨31, n + 1, rfl, rfl, .inl ⟨by decide, by decide⟩, o, _, rfl, rfl, _, 3, rfl, rfl, ⟨by decide, by decide, by omega⟩, .inl ⟨_, rfl, _, _, rfl, rfl, (by show (0 : Int) < 998244353; decide), ?_⟩⟩⟩
        refine ⟨_, rfl, _, 3, rfl, rfl, ⟨by decide, by decide⟩, .inl ⟨_, rfl, _, rfl, _, m, rfl, rfl, m0, ?_⟩⟩
        exact fin _ _ _ _ (Int.emod_nonneg _ (by omega)) (Int.emod_lt_of_pos _ m0) i0 c0 h0 h1
end
end K7


namespace K7
open PySem PySem.Spec PyProof.Rows L2 C8
theorem cut40 (ns : List Int) : cutV (ns.map V.int) none (some 40) = (ns.take 40).map V.int := by
  unfold cutV HT.sIx
  simp only [show ¬ ((40 : Int) < 0) by decide, if_false, List.drop_zero, Nat.sub_zero, ← List.map_take, List.length_map]
  congr 1
  by_cases h : ns.length ≤ 40
  · rw [List.take_of_length_le h, List.take_of_length_le (by omega)]
  · congr 1
    omega
def spFresh (K : PySem.W.Frag) : Sp := fun vs H Q _ => ∃ (a : Addr) (ns : List Int), vs = [.ref a] ∧ SqL K H a (ns.map V.int) ∧ ∀ (st l : Addr) (H' : Hp), H st = none → H l = none → Same H H' → StAt 0 H' st l → Q (.ref st) H'
def spOne : Sp := fun vs H Q _ => ∃ (st th : Addr) (xs : List V) (B : Nat) (l : Addr), vs = [.ref st, .ref th] ∧ (H th = some (.lst xs) ∨ H th = some (.tup xs)) ∧ th ≠ st ∧ 0 < xs.length ∧ xs.length < 1000000 ∧ StAt B H st l ∧ B < 1000000000000000 ∧
  ∀ (v : V) (H' : Hp), v ∈ xs → StAt (B + 1) H' st l → But st H H' → Q v H'
theorem scFresh : FnScope ["_law_script"] ["_law_script"] (fnScope sFresh) := fnScope_by (by decide +kernel)
theorem scOne : FnScope ["_law_state", "_law_things"] ["_law_state", "_law_things"] (fnScope sOne) := fnScope_by (by decide +kernel)
section
variable {P : Program} {w : World} {K : PySem.W.Frag} {mg : Str → Option Value} {base : Heap}
theorem c_fresh {f : Addr} {fd : FuncData} (F : Def K mg "_law_fresh" sFresh f fd) (b : Binds K fd ["_law_script"] []) (T : Blt mg) : Cal P w K mg base 1 "_law_fresh" (spFresh K) [] := by
  refine cal0 F b .nil scFresh (fun vs H Q E h => ?_) (fun cdv A outer s H vs Q E hr h => ?_)
  · obtain ⟨a, ns, rfl, _⟩ := h
    rfl
  · obtain ⟨a, ns, rfl, hS, k⟩ := h
    refine ⟨_, pss_one (ps_ret (pe_lst (pa_cons (pe_callTy call_list_of (by rfl) T.list (by decide +kernel) (pa_cons (pe_slice sl_list (pv 0) po_none (po_some pe_int)) pa_nil))
      (pa_cons pe_int (pa_cons pe_int (pa_cons pe_int (pa_cons pe_int pa_nil))))))), ?_⟩
    refine ⟨_, rfl, 40, rfl, a, _, rfl, hS, fun p np => ⟨p, _, rfl, .inl (SqL.of upd_same), fun l nl => ⟨(by show 5 ≤ sizeLine; decide), fun st nst => ?_⟩⟩⟩
    have nl' := nl
    have npl : p ≠ l := ne_of_none upd_same nl
    rw [upd_ne npl.symm] at nl
    have nst2 : st ≠ l := fun z => by rw [z, upd_same] at nst; cases nst
    rw [upd_ne nst2] at nst
    have nst3 : st ≠ p := fun z => by rw [z, upd_same] at nst; cases nst
    rw [upd_ne nst3] at nst
    refine k st l _ nst nl (fun b o e => ?_) ⟨ns.take 40, 0, 0, 0, 0, upd_same, ?_, by decide, by decide, by decide, by decide, by decide, by decide, List.length_take_le _ _⟩
    · rw [upd_ne (ne_of_none e nst), upd_ne (ne_of_none e nl), upd_ne (ne_of_none e np)]
      exact e
    · rw [upd_ne nst2.symm, upd_same, cut40]
theorem c_one {f : Addr} {fd : FuncData} (F : Def K mg "_law_one" sOne f fd) (b : Binds K fd ["_law_state", "_law_things"] []) (T : Blt mg) (C : Cal P w K mg base 1 "_law_take" spTake []) : Cal P w K mg base 2 "_law_one" spOne [] := by
  refine cal0 F b .nil scOne (fun vs H Q E h => ?_) (fun cdv A outer s H vs Q E hr h => ?_)
  · obtain ⟨st, th, xs, B, l, rfl, _⟩ := h
    rfl
  · obtain ⟨st, th, xs, B, l, rfl, hx, ne, l0, l1, hst, hB, k⟩ := h
    refine ⟨_, pss_one (ps_ret (pe_ix ix_seq (pv 1) (pe_c C hr (Nat.le_refl _) (by rfl) (pa_cons (pv 0) (pa_cons (pe_callB call_len_seq (by rfl) T.len PySem.boot_len (pa_cons (pv 1) pa_nil)) pa_nil))) fun _ _ => rfl)), ?_⟩
    have hs : SqL K H th xs ∨ SqT K H th xs := hx.elim (fun z => .inl (SqL.of z)) fun z => .inr (SqT.of z)
    refine ⟨_, rfl, _, rfl, _, rfl, th, xs, rfl, hs, st, (xs.length : Int), B, l, rfl, by omega, by omega, hst, hB, fun d H' d0 d1 hst' but => ?_⟩
    have hd : d.toNat < xs.length := by omega
    have at' : atI xs d = some xs[d.toNat] := at_of (j := d.toNat) (by omega) (by simp [hd])
    have fin := k _ H' (List.getElem_mem hd) hst' but
    rcases hx with hx | hx
    · exact .inl ⟨th, xs, d, _, rfl, rfl, SqL.of (but _ _ hx ne), at', fin⟩
    · exact .inr (.inl ⟨th, xs, d, _, rfl, rfl, SqT.of (but _ _ hx ne), at', fin⟩)
end
end K7

namespace K7
open PySem PySem.Spec PyProof.Rows L2 C8
abbrev sSame : Stmt := top 26
/-- a dict that may be told equal to itself -/
def DicOk (kvs : List (Key × V)) : Prop := ∀ p ∈ kvs, valV kvs p.1 = some p.2 ∧ flatB p.2 = true
/-- what stands for one thing: flat, or a dict -/
def Leaf (H : Hp) (x : V) : Prop := flatV x = true ∨ ∃ a kvs, x = .ref a ∧ H a = some (.dK kvs) ∧ DicOk kvs
def Thing (H : Hp) (x : V) : Prop := Leaf H x ∨ ∃ a xs, x = .ref a ∧ (H a = some (.lst xs) ∨ H a = some (.tup xs)) ∧ (∀ y ∈ xs, flatV y = true) ∧ xs.length ≤ 10
theorem Leaf.same {H H' : Hp} {x : V} (s : Same H H') (h : Leaf H x) : Leaf H' x := h.imp id fun ⟨a, kvs, e, q, d⟩ => ⟨a, kvs, e, s _ _ q, d⟩
theorem Thing.same {H H' : Hp} {x : V} (s : Same H H') (h : Thing H x) : Thing H' x := h.imp (Leaf.same s) fun ⟨a, xs, e, q, r⟩ => ⟨a, xs, e, q.imp (s _ _) (s _ _), r⟩
theorem same_upd {H : Hp} {p : Addr} {o : HO} (np : H p = none) : Same H (upd H p o) := fun b u e => by
  rw [upd_ne (ne_of_none e np)]
  exact e
theorem pe_bt {X : Cx} {x : Str} {pos : Pos} (n : String) (hm : X.mg x = none) (hg : Gl X x := by rfl) (hv : bootBuiltins x = some (.type n) := by decide +kernel) (hn : x ≠ "__name__" := by decide) (hd : (x == ("__debug__" : Str)) = false := by decide) : PE X (.Name x pos) (tC (.ty n)) :=
  pe_bltn hg hm hv rfl hn hd
def spSame0 : Sp := fun vs H Q _ => ∃ x : V, vs = [x, x] ∧ Leaf H x ∧ ∀ H', Same H H' → Q (.bl true) H'
def spSame1 : Sp := fun vs H Q _ => ∃ x : V, vs = [x, x] ∧ Thing H x ∧ ∀ H', Same H H' → Q (.bl true) H'
theorem scSame : FnScope ["_law_found", "_law_due", "_law_x", "_law_y"] ["_law_found", "_law_due"] (fnScope sSame) := fnScope_by (by decide +kernel)
structure Blt2 (mg : Str → Option Value) : Prop extends Blt mg where
  isi : mg "isinstance" = none
  tup : mg "tuple" = none
  boo : mg "bool" = none
  all : mg "all" = none
  zip : mg "zip" = none
/-- the types of leaves -/
def leafTy : List String := ["NoneType", "bool", "int", "str", "dict"]
theorem leaf_ty {K : PySem.W.Frag} {H : Hp} {x : V} (h : Leaf H x) : ∃ T ∈ leafTy, (∀ H', Same H H' → TyX K H' x (.type T)) ∧ (scal x x = true ∨ ((T == "int" || T == "bool") = false ∧ ∃ a kvs, x = .ref a ∧ H a = some (.dK kvs) ∧ DicOk kvs)) := by
  rcases h with h | ⟨a, kvs, rfl, e, dk⟩
  · cases x with
    | non => exact ⟨"NoneType", by decide, fun _ _ => .base .non, .inl rfl⟩
    | bl b => exact ⟨"bool", by decide, fun _ _ => .base (.bl b), .inl rfl⟩
    | int i => exact ⟨"int", by decide, fun _ _ => .base (.int i), .inl rfl⟩
    | str z => exact ⟨"str", by decide, fun _ _ => .base (.str z), .inl rfl⟩
    | _ => cases h
  · exact ⟨"dict", by decide, fun H' s => .base (.dK (s _ _ e)), .inr ⟨by decide, a, kvs, rfl, e, dk⟩⟩
section
variable {P : Program} {w : World} {K : PySem.W.Frag} {mg : Str → Option Value} {base : Heap}
theorem kitLT {T : String} (h : T ∈ leafTy) : PySem.W.kitAny K (.type T) [.type "list", .type "tuple"] = some false ∧ PySem.W.kitAny K (.type T) [.type "int", .type "list", .type "tuple"] = some (T == "int" || T == "bool") ∧
    PySem.W.kitOne K (.type T) (.type "int") = some (T == "int" || T == "bool") ∧ PySem.W.kitOne K (.type T) (.type "bool") = some (T == "bool") := by
  have z : ∀ T ∈ leafTy, kitB T "list" = some false ∧ kitB T "tuple" = some false ∧ kitB T "int" = some (T == "int" || T == "bool") ∧ kitB T "bool" = some (T == "bool") := by decide +kernel
  obtain ⟨h1, h2, h3, h4⟩ := z T h
  have lt : PySem.W.kitAny K (.type T) [.type "list", .type "tuple"] = some false := kitAny_cons (kit_ty h1) (fun _ => kitAny_cons (kit_ty h2) (fun _ => kitAny_nil) fun z => by cases z) fun z => by cases z
  refine ⟨lt, kitAny_cons (kit_ty h3) (fun e => ?_) (fun e => e), kit_ty h3, kit_ty h4⟩
  rw [e]
  exact lt
theorem c_same0 {f : Addr} {fd : FuncData} (F : Def K mg "_law_same" sSame f fd) (b : Binds K fd ["_law_found", "_law_due"] []) (T : Blt2 mg) : Cal P w K mg base 1 "_law_same" spSame0 [] := by
  refine cal0 F b .nil scSame (fun vs H Q E h => ?_) (fun cdv A outer s H vs Q E hr h => ?_)
  · obtain ⟨x, rfl, _⟩ := h
    rfl
  · obtain ⟨x, rfl, hx, k⟩ := h
    have hu : (A.deeper (envOfC "_law_same" (fnScope sSame) s.heap.objs.size f cdv)).units + 64 < cLine := by have := hr.un; omega
    refine ⟨_, pss_cons (ps_if (pt_val (pe_callB call_isiT (by rfl) T.isi (by decide +kernel) (pa_cons (pv 1) (pa_cons (pe_tup (pa_cons (pe_bt "list" T.list) (pa_cons (pe_bt "tuple" T.tup) pa_nil))) pa_nil)))) pss_never pss_nil)
      (pss_cons (ps_if (pt_val (pe_callB call_isi (by rfl) T.isi (by decide +kernel) (pa_cons (pv 1) (pa_cons (pe_bt "int" T.int) pa_nil))))
          (pss_one (ps_ret (pe_and (pe_callB call_isi (by rfl) T.isi (by decide +kernel) (pa_cons (pv 0) (pa_cons (pe_bt "int" T.int) pa_nil)))
            (pe_and (pe_cmpR op_eq (pe_callB call_isi (by rfl) T.isi (by decide +kernel) (pa_cons (pv 0) (pa_cons (pe_bt "bool" T.boo) pa_nil))) (pe_callB call_isi (by rfl) T.isi (by decide +kernel) (pa_cons (pv 1) (pa_cons (pe_bt "bool" T.boo) pa_nil))) (nomark _))
              (pe_one (pe_cmpR op_eq (pv 0) (pv 1) (nomark _))))))) pss_nil)
      (pss_one (ps_ret (pe_and (pe_cmpR op_isBl (pe_callB call_isiT (by rfl) T.isi (by decide +kernel) (pa_cons (pv 0) (pa_cons (pe_tup (pa_cons (pe_bt "int" T.int) (pa_cons (pe_bt "list" T.list) (pa_cons (pe_bt "tuple" T.tup) pa_nil)))) pa_nil))) pe_bl (nomark _))
        (pe_one (pe_cmpR (op_eq.or (op_eqV hu)) (pv 0) (pv 1) (nomark _))))))), ?_⟩
    obtain ⟨Ty, hT, ty, hs⟩ := leaf_ty (K := K) hx
    obtain ⟨k1, k2, k3, k4⟩ := kitLT (K := K) hT
    refine ⟨_, rfl, (by show 2 ≤ sizeLine; decide), fun p np => ⟨x, p, [.ty "list", .ty "tuple"], _, _, false, rfl, upd_same, .cons (.ty _) (.cons (.ty _) .nil), ty _ (same_upd np), k1, false, rfl, iteF ?_⟩⟩
    have s1 : Same H (upd H p (.tup [.ty "list", .ty "tuple"])) := same_upd np
    refine ⟨_, rfl, x, .ty "int", _, _, _, rfl, .ty _, ty _ s1, k3, _, rfl, ite2 (fun hi => ?_) (fun hi => ?_)⟩
    · have hsc : scal x x = true := by
        rcases hs with z | ⟨z, _⟩
        · exact z
        · rw [z] at hi
          cases hi
      refine ⟨_, rfl, x, .ty "int", _, _, _, rfl, .ty _, ty _ s1, k3, _, rfl, iteBt hi ?_⟩
      refine ⟨_, rfl, x, .ty "bool", _, _, _, rfl, .ty _, ty _ s1, k4, _, rfl, x, .ty "bool", _, _, _, rfl, .ty _, ty _ s1, k4, rfl, _, rfl, iteBt (decide_eq_true rfl) ?_⟩
      refine ⟨_, rfl, _, rfl, hsc, ?_⟩
      rw [decide_eq_true rfl]
      exact k _ s1
    · have hi : (Ty == "int" || Ty == "bool") = false := by simpa using hi
      rw [hi] at k2
      refine ⟨_, rfl, (by show 3 ≤ sizeLine; decide), fun p2 np2 => ?_⟩
      have s2 : Same H (upd (upd H p (.tup [.ty "list", .ty "tuple"])) p2 (.tup [.ty "int", .ty "list", .ty "tuple"])) := s1.trans (same_upd np2)
      refine ⟨x, p2, [.ty "int", .ty "list", .ty "tuple"], _, _, false, rfl, upd_same, .cons (.ty _) (.cons (.ty _) (.cons (.ty _) .nil)), ty _ s2, k2, false, false, rfl, rfl, _, rfl, iteBt (decide_eq_true rfl) ?_⟩
      refine ⟨_, rfl, _, rfl, ?_⟩
      rcases hs with hsc | ⟨_, a, kvs, rfl, e, dk⟩
      · refine .inl ⟨hsc, ?_⟩
        rw [decide_eq_true rfl]
        exact k _ s2
      · refine .inr ⟨1, by decide, .inr ⟨a, a, kvs, kvs, rfl, rfl, s2 _ _ e, s2 _ _ e, rfl, fun p hp => ⟨p.2, (dk p hp).1, .inl ⟨rfl, (dk p hp).2⟩⟩⟩, k _ s2⟩
end
end K7

namespace K7
open PySem PySem.Spec PyProof.Rows L2 C8
/-! rules of my own: a list beside [], a tuple beside (), xs.extend(tuple), x not in names -/
section
variable {X : Cx}
def rNeNil (K : PySem.W.Frag) : R2 := fun x y H Q => ∃ a b xs, x = .ref a ∧ y = .ref b ∧ SqL K H a xs ∧ SqL K H b [] ∧ Q (.bl (!xs.isEmpty)) H
theorem op_neNil (hu : X.A.units + 64 < cLine) : OpR X (compareOp .NotEq) (rNeNil X.K) := by
  intro pins s σ H x y v u Q I rx ry h
  obtain ⟨a, b, xs, rfl, rfl, ha, hb, q⟩ := h
  cases rx
  cases ry
  obtain ⟨us, r1, p1, _⟩ := I.list ha
  obtain ⟨ws, r2, p2, _⟩ := I.list hb
  cases r2
  have fin : ∀ b : Bool, b = !xs.isEmpty → (EP X pins σ Q) (.bool b) s := fun b e => ⟨.bl b, H, I, rfl, by rw [e]; exact q⟩
  cases r1 with
  | nil => exact SeqAt.RcNeAt.lists (e := fun _ => true) p1.isList p2.isList rfl (by omega) (fun j h1 h2 => absurd h1 (by simp)) _ _ _ _ (fin false rfl)
  | cons r t => exact SeqAt.RcNeAt.lists_lengths p1.isList p2.isList (by simp) (by omega) _ _ _ _ (fin true rfl)
def rEqNilT (K : PySem.W.Frag) : R2 := fun x y H Q => ∃ a b xs, x = .ref a ∧ y = .ref b ∧ SqT K H a xs ∧ SqT K H b [] ∧ Q (.bl xs.isEmpty) H
theorem op_eqNilT (hu : X.A.units + 64 < cLine) : OpR X (compareOp .Eq) (rEqNilT X.K) := by
  intro pins s σ H x y v u Q I rx ry h
  obtain ⟨a, b, xs, rfl, rfl, ha, hb, q⟩ := h
  cases rx
  cases ry
  obtain ⟨us, r1, p1, _⟩ := I.tuple ha
  obtain ⟨ws, r2, p2, _⟩ := I.tuple hb
  cases r2
  have fin : ∀ b : Bool, b = xs.isEmpty → (EP X pins σ Q) (.bool b) s := fun b e => ⟨.bl b, H, I, rfl, by rw [e]; exact q⟩
  refine SeqAt.RcAt.tuples (e := fun _ => true) p1 p2 (by omega) (fun j h1 h2 => absurd h2 (by simp)) _ _ _ _ (fin _ ?_)
  cases r1 with
  | nil => rfl
  | cons r t => simp
theorem extT (l : Addr) (xs : Array Value) (n : Nat) (b : Addr) (ys : Array Value) (m : Nat) (dd : Option Addr) (sl : Array (Option Value)) (h0 : ¬(!xs.isEmpty && Builtin.List.listTooLong (xs.size + ys.size)) = true) (h1 : xs.size ≤ sizeLine) (h2 : xs.size + ys.size ≤ sizeLine + 1) :
    Meets (Builtin.«list.extend» ⟨[.ref l, .ref b], []⟩) (fun _ R s =>
      s.heap.get? l = some { cls := .type "list", dict := none, data := .seq xs n, slots := #[] } ∧
        s.heap.get? b = some { cls := .type "tuple", dict := dd, data := .seq ys m, slots := sl } ∧
          R (.ok (.ret Value.none)) { s with heap := s.heap.update l (Obj.mapSeq fun x => x ++ ys), toks := s.toks }) :=
  .of_wp fun prog w A R s h => by
    obtain ⟨hp, g0, d0, t0, o0⟩ := s
    obtain ⟨kl, kb, h⟩ := h
    have z1 := AutoSeq1.sub_tuple_tuple
    have z2 := AutoSeq1.sub_list_list
    have z3 := AutoSeq1.sub_tuple_list
    have z4 := AutoSeq1.sub_list_tuple
    have z5 : (xs ++ ys).size ≤ sizeLine + 1 := by rw [Array.size_append]; exact h2
    wp_walk using (wpAny_updateSeq kl rfl (hz := h1) (_hz' := z5)), AutoSeq1.wpAny_loadPart' kl, AutoSeq1.wpAny_loadPart' kb
    exact ⟨_, rfl, h⟩
def rExtendT (K : PySem.W.Frag) : V → List V → Hp → VK → Prop := fun x vs H Q => ∃ l b xs zs, x = .ref l ∧ vs = [.ref b] ∧ H l = some (.lst xs) ∧ SqT K H b zs ∧ xs.length + zs.length ≤ sizeLine ∧ Q .non (upd H l (.lst (xs ++ zs)))
theorem mt_extendT : MtM X "list.extend" (rExtendT X.K) := by
  intro pins s σ H x vs v us Q I rx rv h
  obtain ⟨l, b, xs, zs, rfl, rfl, hH, hB, hz, q⟩ := h
  cases rx
  obtain ⟨u, rfl, ru⟩ := rv.one
  cases ru
  obtain ⟨z, its, n, r, hl, e⟩ := I.lstM hH
  obtain ⟨its2, r2, ⟨⟨cls, dd, data, sl⟩, e2, hc, m, hd⟩, _⟩ := I.tuple hB
  simp only at hc hd
  subst hc hd
  have n1 := r.length
  have n2 := r2.length
  have hsz : its.toArray.size + its2.toArray.size ≤ sizeLine := by rw [List.size_toArray, List.size_toArray]; omega
  have hlong : ¬ (!its.toArray.isEmpty && Builtin.List.listTooLong (its.toArray.size + its2.toArray.size)) = true := by
    rw [notLongL hsz, Bool.and_false]
    exact Bool.false_ne_true
  refine call_meets F.slot_list_extend ⟨_, e, rfl⟩ F.entry_list_extend (F.args_list_extend_2 _ _)
    (extT l its.toArray n b its2.toArray m dd sl hlong (by rw [List.size_toArray]; omega) (by omega)) ⟨e, e2, ?_⟩
  refine ⟨.non, _, I.lset (its' := its ++ its2) hH e (by simp) (r.append r2) ?_, rfl, q⟩
  rw [List.length_append]
  omega
/-- x is one of these texts; x flat, a list or a tuple -/
def isOf (x : V) (ls : List Str) : Bool := match x with
  | .str z => ls.any fun y => y == z
  | _ => false
def SeqOf (K : PySem.W.Frag) (H : Hp) (x : V) : Prop := ∃ a xs, x = .ref a ∧ (SqL K H a xs ∨ SqT K H a xs)
def rNotOf (K : PySem.W.Frag) : R2 := fun x y H Q => ∃ p ls, y = .ref p ∧ (SqL K H p (ls.map V.str) ∨ SqT K H p (ls.map V.str)) ∧ (flatV x = true ∨ SeqOf K H x) ∧ Q (.bl (!isOf x ls)) H
theorem isOf_flat {x : V} (h : flatV x = true) (ls : List Str) : inV x (ls.map V.str) = isOf x ls := by
  unfold inV
  rw [List.any_map]
  cases x with
  | str z =>
    show ls.any _ = ls.any _
    congr 1
  | non => exact List.any_eq_false.mpr fun y _ => by simp [eqV]
  | bl b => exact List.any_eq_false.mpr fun y _ => by simp [eqV]
  | int b => exact List.any_eq_false.mpr fun y _ => by simp [eqV]
  | _ => cases h
theorem op_notOf (hu : X.A.units + 64 < cLine) : OpR X (compareOp .NotIn) (rNotOf X.K) := by
  intro pins s σ H x y v u Q I rx ry h
  obtain ⟨p, ls, rfl, hq, hx | ⟨a, xs, rfl, hx⟩, q⟩ := h
  · refine op_notIn_seq pins s σ H x (.ref p) v u Q I rx ry ⟨p, _, rfl, hq, hx, List.all_eq_true.mpr fun y hy => ?_, ?_⟩
    · obtain ⟨z, _, rfl⟩ := List.mem_map.mp hy
      rfl
    · rw [isOf_flat hx]
      exact q
  · cases rx
    cases ry
    have he : ∀ {us : List Value}, Vals (ls.map V.str) us → ∀ w ∈ us, SeqAt.EqAt X.A.in1 s w (.ref a) false := by
      intro us r w hw
      obtain ⟨z, t, rfl⟩ : ∃ z t, w = .str z t := by
        clear hq hx q
        induction ls generalizing us with
        | nil => cases r; cases hw
        | cons z ls ih =>
          cases r with
          | cons r t =>
            rcases List.mem_cons.mp hw with rfl | hw
            · obtain ⟨t, rfl⟩ := r
              exact ⟨z, t, rfl⟩
            · exact ih t hw
      have hu' : X.A.in1.units < cLine := by show X.A.units + 1 < cLine; omega
      rcases hx with hx | hx
      · obtain ⟨_, _, pl, _⟩ := I.list hx
        exact SeqAt.EqAt.str_list z t pl.isList hu'
      · obtain ⟨_, _, pl, _⟩ := I.tuple hx
        exact SeqAt.EqAt.str_tuple z t pl hu'
    have no : ∀ us : List Value, (us.toArray.any fun _ => false) = false := fun us => by simp
    rcases hq with hq | hq
    · obtain ⟨its, r, pl, hz⟩ := I.list hq
      refine SeqAt.notIn_listAt (fun _ => false) pl.isList (fun w hw => he r w (by simpa using hw)) ⟨.bl _, H, I, rfl, ?_⟩
      rw [no]
      exact q
    · obtain ⟨its, r, pl, hz⟩ := I.tuple hq
      refine SeqAt.notIn_tupleAt (fun _ => false) pl (fun w hw => he r w (by simpa using hw)) ⟨.bl _, H, I, rfl, ?_⟩
      rw [no]
      exact q
end
end K7

namespace K7
open PySem PySem.Spec PyProof.Rows L2 C8
abbrev sMix : Stmt := top 25
abbrev sWords : Stmt := top 27
theorem StAt.mono {B B' : Nat} {H : Hp} {a l : Addr} (h : B ≤ B') (s : StAt B H a l) : StAt B' H a l := by
  obtain ⟨ns, i, c, h0, n, e1, e2, r1, r2, r3, r4, r5, r6, r7⟩ := s
  exact ⟨ns, i, c, h0, n, e1, e2, r1, r2, r3, r4, r5, by omega, r7⟩
theorem StAt.keeps {B : Nat} {H H' : Hp} {a l : Addr} (h : StAt B H a l) (s : ∀ o, H a = some o → H' a = some o) (s' : ∀ o, H l = some o → H' l = some o) : StAt B H' a l := by
  obtain ⟨ns, i, c, h0, n, e1, e2, r⟩ := h
  exact ⟨ns, i, c, h0, n, s _ e1, s' _ e2, r⟩
theorem StAt.same {B : Nat} {H H' : Hp} {a l : Addr} (s : Same H H') (h : StAt B H a l) : StAt B H' a l := h.keeps (s _) (s _)
theorem StAt.put {B : Nat} {H : Hp} {a l p : Addr} {o : HO} (h : StAt B H a l) (h1 : p ≠ a) (h2 : p ≠ l) : StAt B (upd H p o) a l := h.keeps (fun _ e => by rw [upd_ne h1.symm]; exact e) fun _ e => by rw [upd_ne h2.symm]; exact e
theorem StAt.st {B : Nat} {H : Hp} {a l : Addr} (h : StAt B H a l) : ∃ o, H a = some o := by
  obtain ⟨ns, i, c, h0, n, e1, _⟩ := h
  exact ⟨_, e1⟩
theorem StAt.cl {B : Nat} {H : Hp} {a l : Addr} (h : StAt B H a l) : ∃ o, H l = some o := by
  obtain ⟨ns, i, c, h0, n, e1, e2, _⟩ := h
  exact ⟨_, e2⟩
theorem StAt.new {B : Nat} {H : Hp} {a l p : Addr} (h : StAt B H a l) (n : H p = none) : p ≠ a ∧ p ≠ l := by
  obtain ⟨o, e1⟩ := h.st
  obtain ⟨o', e2⟩ := h.cl
  exact ⟨(ne_of_none e1 n).symm, (ne_of_none e2 n).symm⟩
theorem But.refl {a : Addr} {H : Hp} : But a H H := fun _ _ e _ => e
theorem But.trans {a : Addr} {H H' H'' : Hp} (h : But a H H') (h' : But a H' H'') : But a H H'' := fun b o e n => h' b o (h b o e n) n
theorem Same.but {a : Addr} {H H' : Hp} (h : Same H H') : But a H H' := fun b o e _ => h b o e
theorem But.upd {a p : Addr} {o : HO} {H H' : Hp} (h : But a H H') (hp : H p = none) : But a H (upd H' p o) := fun b u e n => by
  rw [upd_ne (ne_of_none e hp)]
  exact h b u e n
theorem perm_erase : ∀ {xs : List V} {k : Nat} (h : k < xs.length), (xs[k] :: xs.eraseIdx k).Perm xs
  | x :: xs, 0, _ => List.Perm.refl _
  | x :: xs, k + 1, h => (List.Perm.swap _ _ _).trans ((perm_erase (xs := xs) (k := k) (Nat.lt_of_succ_lt_succ h)).cons x)
def spMix : Sp := fun vs H Q _ => ∃ (st th : Addr) (xs : List V) (B : Nat) (cl : Addr), vs = [.ref st, .ref th] ∧ H th = some (.lst xs) ∧ xs.length ≤ 1000 ∧ StAt B H st cl ∧ B + xs.length < 1000000000000000 ∧
  ∀ (l : Addr) (ys : List V) (H' : Hp), H l = none → ys.Perm xs → H' l = some (.lst ys) → StAt (B + xs.length) H' st cl → But st H H' → Q (.ref l) H'
abbrev NMix : List Str := ["_law_state", "_law_things", "_law_left_here", "_law_found"]
theorem scMix : FnScope NMix ["_law_state", "_law_things"] (fnScope sMix) := fnScope_by (by decide +kernel)
section
variable {P : Program} {w : World} {K : PySem.W.Frag} {mg : Str → Option Value} {base : Heap}
theorem c_mix {f : Addr} {fd : FuncData} (F : Def K mg "_law_mix" sMix f fd) (b : Binds K fd ["_law_state", "_law_things"] []) (T : Blt mg) (C : Cal P w K mg base 1 "_law_take" spTake []) : Cal P w K mg base 2 "_law_mix" spMix [] := by
  refine cal0 F b .nil scMix (fun vs H Q E h => ?_) (fun cdv A outer s H vs Q E hr h => ?_)
  · obtain ⟨st, th, xs, B, cl, rfl, _⟩ := h
    rfl
  · obtain ⟨st, th, xs, B, cl, rfl, hx, l1, hst, hB, k⟩ := h
    have nd := scMix.nd
    have hu : (A.deeper (envOfC "_law_mix" (fnScope sMix) s.heap.objs.size f cdv)).units + 64 < cLine := by have := hr.un; omega
    refine ⟨_, pss_cons (ps_par (i := 2) (j := 3) rfl nd rfl rfl (by decide) rfl rfl (pa_cons (pe_callTy call_list_of (by rfl) T.list (by decide +kernel) (pa_cons (pv 1) pa_nil)) (pa_cons (pe_lst pa_nil) pa_nil)) (by rfl))
      (pss_cons (ps_while PassesOwn.never (pt_cmpR (op_neNil hu) (pv 2) (pe_lst pa_nil) (nomark _))
        (pss_one (ps_expr (pe_bm PySem.F.plainAttrs_list PySem.F.slot_list_append PySem.F.type_list_append mt_append (pv 3) (pa_cons
          (pe_bm PySem.F.plainAttrs_list PySem.F.slot_list_pop PySem.F.type_list_pop mt_popAt (pv 2) (pa_cons (pe_c C hr (Nat.le_refl _) (by rfl) (pa_cons (pv 0) (pa_cons (pe_callB call_len_seq (by rfl) T.len PySem.boot_len (pa_cons (pv 2) pa_nil)) pa_nil))) pa_nil)) pa_nil)))))
      (pss_one (ps_ret (pv 3)))), ?_⟩
    refine ⟨_, rfl, th, xs, rfl, .inl (SqL.of hx), fun L nL => ⟨(by show 0 ≤ sizeLine; decide), fun Fd nF => ⟨_, _, rfl, ?_⟩⟩⟩
    have nLF : L ≠ Fd := ne_of_none upd_same nF
    have nF : H Fd = none := by rw [upd_ne nLF.symm] at nF; exact nF
    obtain ⟨La, Lc⟩ := hst.new nL
    obtain ⟨Fa, Fc⟩ := hst.new nF
    let Iv : Nat → L2.St → Hp → Prop := fun m σ H' => ∃ xl yf : List V, xl.length = m ∧ σ = [some (.ref st), some (.ref th), some (.ref L), some (.ref Fd)] ∧ H' L = some (.lst xl) ∧ H' Fd = some (.lst yf) ∧ (xl ++ yf).Perm xs ∧ StAt (B + yf.length) H' st cl ∧ But st H H'
    refine ⟨Iv, ⟨xs.length, xs, [], rfl, rfl, by rw [upd_ne nLF, upd_same], upd_same, by simp, (hst.put La Lc).put Fa Fc, (Same.but fun b o e => ?_)⟩, ?_⟩
    · rw [upd_ne (ne_of_none e nF), upd_ne (ne_of_none e nL)]
      exact e
    rintro m σ H1 ⟨xl, yf, rfl, rfl, hL, hF, hp, hs1, hb1⟩
    have hlen := hp.length_eq
    rw [List.length_append] at hlen
    refine ⟨_, rfl, (by show 0 ≤ sizeLine; decide), fun p np => ⟨L, p, xl, rfl, rfl, SqL.of (by rw [upd_ne (ne_of_none hL np)]; exact hL), SqL.of upd_same, _, rfl, ?_⟩⟩
    have pL := ne_of_none hL np
    have pF := ne_of_none hF np
    obtain ⟨pa, pc⟩ := hs1.new np
    have hs2 : StAt (B + yf.length) (upd H1 p (.lst [])) st cl := hs1.put pa pc
    have hb2 : But st H (upd H1 p (.lst [])) := hb1.trans (Same.but fun b o e => by rw [upd_ne (ne_of_none e np)]; exact e)
    have hL2 : (upd H1 p (.lst [])) L = some (.lst xl) := by rw [upd_ne pL]; exact hL
    have hF2 : (upd H1 p (.lst [])) Fd = some (.lst yf) := by rw [upd_ne pF]; exact hF
    generalize upd H1 p (.lst []) = H2 at hs2 hb2 hL2 hF2
    cases hxl : xl with
    | nil =>
      subst hxl
      refine iteBf rfl ⟨_, rfl, ?_⟩
      exact k Fd yf H2 nF hp hF2 (hs2.mono (by simp at hlen; omega)) hb2
    | cons x0 xt =>
      rw [← hxl]
      have hpos : 0 < xl.length := by rw [hxl]; exact Nat.succ_pos _
      refine iteBt (by rw [hxl]; rfl) ?_
      refine ⟨Iv (xl.length - 1), fun σ' H' hI => ⟨_, by omega, hI⟩, ?_⟩
      refine ⟨_, rfl, .inl ⟨rfl, _, SqL.of hF2⟩, _, rfl, .inl ⟨rfl, _, SqL.of hL2⟩, _, rfl, _, rfl, L, xl, rfl, .inl (SqL.of hL2), ?_⟩
      refine ⟨st, xl.length, B + yf.length, cl, rfl, by omega, by omega, hs2, by omega, fun d H3 d0 d1 hs3 hb3 => ?_⟩
      have hL3 := hb3 _ _ hL2 La
      have hF3 := hb3 _ _ hF2 Fa
      have hd : d.toNat < xl.length := by omega
      refine ⟨L, xl, d, d.toNat, xl[d.toNat], rfl, rfl, hL3, by omega, by omega, seqIndex_of d0 d1, by simp [hd], ?_⟩
      have hF4 : (upd H3 L (.lst (xl.eraseIdx d.toNat))) Fd = some (.lst yf) := by rw [upd_ne nLF.symm]; exact hF3
      refine ⟨Fd, yf, _, rfl, rfl, hF4, by rw [sizeLine_eq]; omega, ?_⟩
      refine ⟨_, _, ?_, rfl, by rw [upd_ne nLF, upd_same], upd_same, ?_, ?_, ?_⟩
      · rw [List.length_eraseIdx, if_pos hd]
      · refine List.Perm.trans ?_ hp
        rw [← List.append_assoc]
        refine (List.perm_append_comm).trans ?_
        rw [← List.append_assoc]
        refine List.Perm.append_right _ ?_
        exact perm_erase hd
      · rw [List.length_append]
        exact ((hs3.put La Lc).put Fa Fc)
      · exact ((hb2.trans hb3).upd nL).upd nF
end
end K7

namespace K7
open PySem PySem.Spec PyProof.Rows L2 C8
abbrev sRows : Stmt := top 28
def menu : List Str := ["a", "b", "f", "g", "one", "neg", "add", "x", "y", "zz", "abcdefgh", "above", "bar", "kind"]
def spWords : Sp := fun vs H Q _ => ∃ (st : Addr) (n : Int) (B : Nat) (cl : Addr), vs = [.ref st, .int n] ∧ 0 ≤ n ∧ n ≤ 14 ∧ StAt B H st cl ∧ B + 14 < 1000000000000000 ∧
  ∀ (l : Addr) (ws : List Str) (H' : Hp), H l = none → H' l = some (.lst (ws.map V.str)) → ws.length = n.toNat → ws.Nodup → (∀ z ∈ ws, z ∈ menu) → StAt (B + 14) H' st cl → But st H H' → Q (.ref l) H'
theorem scWords : FnScope ["_law_state", "_law_many_here", "_law_some"] ["_law_state", "_law_many_here"] (fnScope sWords) := fnScope_by (by decide +kernel)
theorem cutTo {xs : List V} {n : Int} (h : 0 ≤ n) : cutV xs none (some n) = xs.take n.toNat := by
  unfold cutV HT.sIx
  dsimp only
  rw [if_neg (by omega), List.drop_zero, Nat.sub_zero]
  by_cases hl : n.toNat ≤ xs.length
  · rw [Nat.min_eq_left hl]
  · rw [Nat.min_eq_right (by omega), List.take_of_length_le (Nat.le_refl _), List.take_of_length_le (by omega)]
theorem cutFrom {xs : List V} {n : Int} (h : 0 ≤ n) : cutV xs (some n) none = xs.drop n.toNat := by
  unfold cutV HT.sIx
  dsimp only
  rw [if_neg (by omega)]
  by_cases hl : n.toNat ≤ xs.length
  · rw [Nat.min_eq_left hl, List.take_of_length_le (by rw [List.length_drop]; omega)]
  · rw [Nat.min_eq_right (by omega), List.drop_eq_nil_of_le (Nat.le_refl _), List.drop_eq_nil_of_le (by omega), List.take_nil]
theorem unmap {α : Type} {f : α → V} {g : V → α} (hg : ∀ a, g (f a) = a) {ys : List V} {xs : List α} (h : ys.Perm (xs.map f)) : ∃ zs : List α, ys = zs.map f ∧ zs.Perm xs := by
  have back : ∀ l : List α, (l.map f).map g = l := fun l => by
    rw [List.map_map]
    induction l with
    | nil => rfl
    | cons a l ih => rw [List.map_cons, ih]; exact congrArg (· :: l) (hg a)
  refine ⟨ys.map g, ?_, by have := h.map g; rw [back] at this; exact this⟩
  rw [List.map_map]
  have m : ∀ y ∈ ys, f (g y) = y := fun y hy => by
    obtain ⟨z, _, e⟩ := List.mem_map.mp (h.subset hy)
    rw [← e, hg]
  clear h
  induction ys with
  | nil => rfl
  | cons y ys ih =>
    rw [List.map_cons, ← ih fun y' hy' => m y' (List.mem_cons_of_mem _ hy')]
    exact congrArg (· :: ys) (m y List.mem_cons_self).symm
def strOf : V → Str
  | .str z => z
  | _ => ""
/-- what was not there isn't there: at an address that is free behind -/
theorem But.free {H H' : Hp} {st p : Addr} (h : But st H H') (n : H' p = none) (ne : p ≠ st) : H p = none := by
  cases e : H p with
  | none => rfl
  | some o =>
    have := h p o e ne
    rw [n] at this
    cases this
theorem same_free {H H' : Hp} {p : Addr} (h : Same H H') (n : H' p = none) : H p = none := by
  cases e : H p with
  | none => rfl
  | some o =>
    have := h p o e
    rw [n] at this
    cases this
section
variable {P : Program} {w : World} {K : PySem.W.Frag} {mg : Str → Option Value} {base : Heap}
theorem c_words {f : Addr} {fd : FuncData} (F : Def K mg "_law_words" sWords f fd) (b : Binds K fd ["_law_state", "_law_many_here"] []) (T : Blt mg) (C : Cal P w K mg base 2 "_law_mix" spMix []) : Cal P w K mg base 3 "_law_words" spWords [] := by
  refine cal0 F b .nil scWords (fun vs H Q E h => ?_) (fun cdv A outer s H vs Q E hr h => ?_)
  · obtain ⟨st, n, B, cl, rfl, _⟩ := h
    rfl
  · obtain ⟨st, n, B, cl, rfl, n0, n1, hst, hB, k⟩ := h
    have nd := scWords.nd
    refine ⟨_, pss_cons (ps_set (i := 2) nd rfl (Or.inl rfl) (pe_lst (pa_cons pe_str (pa_cons pe_str (pa_cons pe_str (pa_cons pe_str (pa_cons pe_str (pa_cons pe_str (pa_cons pe_str (pa_cons pe_str (pa_cons pe_str (pa_cons pe_str (pa_cons pe_str (pa_cons pe_str (pa_cons pe_str (pa_cons pe_str pa_nil))))))))))))))))
      (pss_one (ps_ret (pe_slice sl_list (pe_c C hr (Nat.le_refl _) (by rfl) (pa_cons (pv 0) (pa_cons (pv 2) pa_nil))) po_none (po_some (pv 1))))), ?_⟩
    refine ⟨(by show 14 ≤ sizeLine; decide), fun m nm => ?_⟩
    obtain ⟨ma, mc⟩ := hst.new nm
    refine ⟨_, rfl, _, rfl, st, m, menu.map V.str, B, cl, rfl, upd_same, by decide, hst.put ma mc, hB, fun L ys H1 nL hp hL hs hb => ?_⟩
    obtain ⟨zs, rfl, hz⟩ := unmap (g := strOf) (fun _ => rfl) hp
    refine ⟨_, rfl, n, rfl, L, _, rfl, SqL.of hL, fun p np => ?_⟩
    rw [cutTo n0, ← List.map_take]
    obtain ⟨pa, pc⟩ := hs.new np
    have npH : H p = none := same_free (same_upd nm) (hb.free np pa)
    refine k p _ _ npH upd_same ?_ ((hz.symm.nodup (by decide +kernel)).sublist (List.take_sublist _ _)) (fun z hm => hz.subset (List.mem_of_mem_take hm)) (hs.put pa pc) ?_
    · rw [List.length_take, hz.length_eq]
      show min n.toNat 14 = n.toNat
      omega
    · exact (Same.but (same_upd nm)).trans (hb.trans (Same.but (same_upd np)))
end
end K7

namespace K7
open PySem PySem.Spec PyProof.Rows L2 C8
theorem lc_gen {J : It} {g : TG} {tt : TT} {te : TE} {vs : List Nat} {σ : L2.St} {H1 : Hp} {D : Addr} {Qd : Hp → Prop} (n : Nat) (Pv : Nat → Hp → Prop) (h0 : Pv 0 (upd H1 D (.lst []))) (hgo : ∀ i H, i < n → Pv i H → J.go i H) (hst : ∀ H, Pv n H → J.stop n H)
    (hs : ∀ i H x H', i < n → Pv i H → J.yld i H x H' → g x (wipe σ vs) H' fun σ2 H2 => wipe σ2 vs = wipe σ vs ∧ tt σ2 H2 fun b H3 =>
      if b = true then te σ2 H3 fun y H4 => ∃ acc, H4 D = some (.lst acc) ∧ acc.length < sizeLine ∧ Pv (i + 1) (upd H4 D (.lst (acc ++ [y]))) else Pv (i + 1) H3) (hd : ∀ H, Pv n H → Qd H) :
    ∃ W : Nat → Nat → Hp → Prop, (∃ m, W 0 m (upd H1 D (.lst []))) ∧ ∀ i m H, W i m H →
      (J.stop i H ∧ Qd H) ∨ (J.go i H ∧ ∃ Nx : Hp → Prop, (∀ H', Nx H' → ∃ m', m' < m ∧ W (i + 1) m' H') ∧ ∀ x H', J.yld i H x H' → g x (wipe σ vs) H' fun σ2 H2 => wipe σ2 vs = wipe σ vs ∧ tt σ2 H2 fun b H3 =>
        if b = true then te σ2 H3 fun y H4 => ∃ acc, H4 D = some (.lst acc) ∧ acc.length < sizeLine ∧ Nx (upd H4 D (.lst (acc ++ [y]))) else Nx H3) := by
  refine ⟨fun i m H => m + i = n ∧ Pv i H, ⟨n, rfl, h0⟩, ?_⟩
  rintro i m H ⟨hm, p⟩
  by_cases hi : i < n
  · exact .inr ⟨hgo i H hi p, Pv (i + 1), fun H' p' => ⟨m - 1, by omega, by omega, p'⟩, fun x H' y => hs i H x H' hi p y⟩
  · obtain rfl : i = n := by omega
    exact .inl ⟨hst H p, hd H p⟩
theorem for_gen {J : It} {g : TG} {tb : TS} {D : Ends} {σ : L2.St} {H : Hp} (n : Nat) (Pv : Nat → L2.St → Hp → Prop) (h0 : Pv 0 σ H) (hgo : ∀ i σ H, i < n → Pv i σ H → J.go i H) (hst : ∀ σ H, Pv n σ H → J.stop n H)
    (hs : ∀ i σ H x H', i < n → Pv i σ H → J.yld i H x H' → g x σ H' fun σ2 H2 => tb { D with nx := Pv (i + 1), ct := Pv (i + 1), bk := D.nx } σ2 H2) (hd : ∀ σ H, Pv n σ H → D.nx σ H) :
    ∃ W : Nat → Nat → L2.St → Hp → Prop, (∃ m, W 0 m σ H) ∧ ∀ i m σ H, W i m σ H →
      (J.stop i H ∧ D.nx σ H) ∨ (J.go i H ∧ ∃ N : L2.St → Hp → Prop, (∀ σ' H', N σ' H' → ∃ m', m' < m ∧ W (i + 1) m' σ' H') ∧ ∀ x H', J.yld i H x H' → g x σ H' fun σ2 H2 => tb { D with nx := N, ct := N, bk := D.nx } σ2 H2) := by
  refine ⟨fun i m σ H => m + i = n ∧ Pv i σ H, ⟨n, rfl, h0⟩, ?_⟩
  rintro i m σ H ⟨hm, p⟩
  by_cases hi : i < n
  · exact .inr ⟨hgo i σ H hi p, Pv (i + 1), fun σ' H' p' => ⟨m - 1, by omega, by omega, p'⟩, fun x H' y => hs i σ H x H' hi p y⟩
  · obtain rfl : i = n := by omega
    exact .inl ⟨hst σ H p, hd σ H p⟩
structure Blt4 (mg : Str → Option Value) : Prop extends Blt2 mg where
  ran : mg "range" = none
  enu : mg "enumerate" = none
  str : mg "str" = none
  dic : mg "dict" = none
/-- a row of a language -/
abbrev Rw := Str × Int
def RowV (H : Hp) (v : V) (r : Rw) : Prop := ∃ t, v = .ref t ∧ H t = some (.tup [.str r.1, .int r.2])
def RowsAt (H : Hp) (l : Addr) (rs : List Rw) : Prop := ∃ vs, H l = some (.lst vs) ∧ Paired (RowV H) vs rs
structure RowsOk (rs : List Rw) : Prop where
  len : rs.length ≤ 14
  nd : (rs.map (·.1)).Nodup
  mem : ∀ r ∈ rs, r.1 ∈ menu ∧ 0 ≤ r.2 ∧ r.2 ≤ 2
  leaf : ∃ r ∈ rs, r.2 = 0
theorem RowV.but {B : Nat} {H H' : Hp} {st cl : Addr} (hs : StAt B H st cl) (hb : But st H H') {v : V} {r : Rw} (h : RowV H v r) : RowV H' v r := by
  obtain ⟨t, e, q⟩ := h
  obtain ⟨ns, i, c, h0, n, e1, _⟩ := hs
  exact ⟨t, e, hb _ _ q (ne_of q e1 (by intro z; cases z))⟩
theorem RowV.same {H H' : Hp} (s : Same H H') {v : V} {r : Rw} (h : RowV H v r) : RowV H' v r := by
  obtain ⟨t, e, q⟩ := h
  exact ⟨t, e, s _ _ q⟩
theorem RowsAt.but {B : Nat} {H H' : Hp} {st cl l : Addr} (hs : StAt B H st cl) (hb : But st H H') {rs : List Rw} (h : RowsAt H l rs) : RowsAt H' l rs := by
  obtain ⟨vs, e, p⟩ := h
  refine ⟨vs, hb _ _ e (fun z => ?_), Paired.mono (fun _ _ q => q.but hs hb) p⟩
  obtain ⟨ns, i, c, h0, n, e1, _⟩ := hs
  rw [z, e1] at e
  cases e
  cases p with
  | cons _ p =>
    cases p with
    | cons q _ =>
      obtain ⟨t, z, _⟩ := q
      cases z
theorem RowsAt.same {H H' : Hp} {l : Addr} (s : Same H H') {rs : List Rw} (h : RowsAt H l rs) : RowsAt H' l rs := by
  obtain ⟨vs, e, p⟩ := h
  exact ⟨vs, s _ _ e, Paired.mono (fun _ _ q => q.same s) p⟩
theorem paired_perm {α β : Type} {R : α → β → Prop} {ys xs : List α} (h : ys.Perm xs) : ∀ {rs : List β}, Paired R xs rs → ∃ ps : List β, ps.Perm rs ∧ Paired R ys ps := by
  induction h with
  | nil => intro rs p; exact ⟨rs, .refl _, p⟩
  | cons a _ ih =>
    intro rs p
    cases p with
    | cons q t =>
      obtain ⟨ps, e, p'⟩ := ih t
      exact ⟨_ :: ps, e.cons _, .cons q p'⟩
  | swap a b l =>
    intro rs p
    cases p with
    | cons q t =>
      cases t with
      | cons q' t =>
        exact ⟨_ :: _ :: _, .swap _ _ _, .cons q' (.cons q t)⟩
  | trans _ _ ih1 ih2 =>
    intro rs p
    obtain ⟨ps, e, p'⟩ := ih2 p
    obtain ⟨qs, e', p''⟩ := ih1 p'
    exact ⟨qs, e'.trans e, p''⟩
theorem RowsOk.perm {rs ps : List Rw} (h : RowsOk rs) (p : ps.Perm rs) : RowsOk ps where
  len := by rw [p.length_eq]; exact h.len
  nd := (p.map _).nodup_iff.mpr h.nd
  mem := fun r hr => h.mem r (p.subset hr)
  leaf := by
    obtain ⟨r, hr, e⟩ := h.leaf
    exact ⟨r, p.symm.subset hr, e⟩
def spRows : Sp := fun vs H Q _ => ∃ (st : Addr) (m : Int) (B : Nat) (cl : Addr), vs = [.ref st, .int m] ∧ 1 ≤ m ∧ m ≤ 13 ∧ StAt B H st cl ∧ B + 50 < 1000000000000000 ∧
  ∀ (l : Addr) (rs : List Rw) (H' : Hp), H l = none → RowsAt H' l rs → RowsOk rs → StAt (B + 50) H' st cl → But st H H' → Q (.ref l) H'
abbrev NRows : List Str := ["_law_state", "_law_most", "_law_words_here", "_law_found", "_law_many_here", "_law_k", "_law_word"]
theorem scRows : FnScope NRows ["_law_state", "_law_most"] (fnScope sRows) := fnScope_by (by decide +kernel)
section
variable {P : Program} {w : World} {K : PySem.W.Frag} {mg : Str → Option Value} {base : Heap}
theorem c_rows {f : Addr} {fd : FuncData} (F : Def K mg "_law_rows" sRows f fd) (b : Binds K fd ["_law_state", "_law_most"] []) (T : Blt4 mg) (C : Cal P w K mg base 1 "_law_take" spTake []) (CM : Cal P w K mg base 2 "_law_mix" spMix []) (CW : Cal P w K mg base 3 "_law_words" spWords []) : Cal P w K mg base 4 "_law_rows" spRows [] := by
  refine cal0 F b .nil scRows (fun vs H Q E h => ?_) (fun cdv A outer s H vs Q E hr h => ?_)
  · obtain ⟨st, m, B, cl, rfl, _⟩ := h
    rfl
  · obtain ⟨st, m, B, cl, rfl, m0, m1, hst, hB, k⟩ := h
    have nd := scRows.nd
    refine ⟨_, pss_cons (ps_set (i := 2) nd rfl (by first | exact Or.inl rfl | exact Or.inr rfl) (pe_c CW hr (by decide) (by rfl) (pa_cons (pv 0) (pa_cons (pe_op op_add pe_int (pe_c C hr (by decide) (by rfl) (pa_cons (pv 0) (pa_cons (pv 1) pa_nil)))) pa_nil))))
      (pss_cons (ps_set (i := 3) nd rfl (Or.inl rfl) (pe_lst (pa_cons (pe_tup (pa_cons (pe_ix ix_list (pv 2) pe_int fun _ _ => rfl) (pa_cons pe_int pa_nil))) pa_nil)))
      (pss_cut (ps_setLc (i := 4) (own := [("_law_k", 5)]) (g := gName 5) (tt := tYes) rfl nd rfl rfl (by rfl) (pi_list (pe_slice sl_list (pv 2) (po_some pe_int) po_none)) (blkOk_by (N := NRows) (sc := fnScope sRows) (by decide +kernel)) (fun _ _ _ _ _ => pg_name (i := 5) nd rfl (Or.inl rfl)) (fun _ _ _ _ _ => pts_nil)
          (fun _ _ _ _ _ => pe_c C hr (by decide) (by rfl) (pa_cons (pv 0) (pa_cons pe_int pa_nil))))
      (pss_cut (ps_for PassesOwn.never rfl (pi_enum (by rfl) T.enu (pa_cons (pe_slice sl_list (pv 2) (po_some pe_int) po_none) pa_nil)) (pg_tup rfl (pgs_cons (pg_name (i := 5) nd rfl (Or.inl rfl)) (pgs_cons (pg_name (i := 6) nd rfl (Or.inl rfl)) pgs_nil)))
          (pss_one (ps_expr (pe_bm PySem.F.plainAttrs_list PySem.F.slot_list_append PySem.F.type_list_append mt_append (pv 3) (pa_cons (pe_tup (pa_cons (pv 6) (pa_cons
            (pe_ifExp (pw_or (pt_cmp (pc_lt (pe_ix ix_list (pv 4) (pv 5) fun _ _ => rfl) pe_int)) (pw_or1 (pt_cmpR op_notIn_seq pe_int (pe_slice sl_list (pv 4) po_none (po_some (pv 5))) (by rfl)))).pt
              (pe_ix ix_list (pv 4) (pv 5) fun _ _ => rfl) pe_int) pa_nil))) pa_nil)))))
      (pss_one (ps_ret (pe_c CM hr (by decide) (by rfl) (pa_cons (pv 0) (pa_cons (pv 3) pa_nil)))))))), ?_⟩
    refine ⟨_, rfl, _, rfl, _, rfl, st, m, B, cl, rfl, by omega, by omega, hst, by omega, fun d H1 d0 d1 hs1 hb1 => ⟨1, d, rfl, rfl, st, 1 + d, B + 1, cl, rfl, by omega, by omega, hs1, by omega, fun wl ws H2 nwl hwl hwn hwd hwm hs2 hb2 => ?_⟩⟩
    obtain ⟨w0, wr, rfl⟩ : ∃ w0 wr, ws = w0 :: wr := by
      cases ws with
      | nil => simp at hwn; omega
      | cons a t => exact ⟨a, t, rfl⟩
    obtain ⟨wa, wc⟩ := hs1.new nwl
    have nwlH : H wl = none := hb1.free nwl wa
    have hwr : wr.length ≤ 13 := by rw [List.length_cons] at hwn; omega
    refine ⟨_, rfl, wl, _, 0, .str w0, rfl, rfl, SqL.of hwl, at_of (j := 0) (by omega) rfl, (by show 2 ≤ sizeLine; decide), fun t0 nt0 => ⟨(by show 1 ≤ sizeLine; decide), fun fd nfd => ?_⟩⟩
    obtain ⟨ta, tc⟩ := hs2.new nt0
    have e1 : H2 fd = none := by rw [upd_ne (ne_of_none upd_same nfd).symm] at nfd; exact nfd
    have fdt : fd ≠ t0 := (ne_of_none upd_same nfd).symm
    obtain ⟨fa, fc⟩ := hs2.new e1
    have fwl : fd ≠ wl := (ne_of_none hwl e1).symm
    have twl : t0 ≠ wl := (ne_of_none hwl nt0).symm
    have nfdH : H fd = none := hb1.free (hb2.free e1 fa) fa
    have ntH : H t0 = none := hb1.free (hb2.free nt0 ta) ta
    have hb3 : But st H (upd (upd H2 t0 (.tup [.str w0, .int 0])) fd (.lst [.ref t0])) := ((hb1.trans hb2).upd ntH).upd nfdH
    have hs3 : StAt (B + 1 + 14) (upd (upd H2 t0 (.tup [.str w0, .int 0])) fd (.lst [.ref t0])) st cl := (hs2.put ta tc).put fa fc
    have h3w : (upd (upd H2 t0 (.tup [.str w0, .int 0])) fd (.lst [.ref t0])) wl = some (.lst ((w0 :: wr).map V.str)) := by rw [upd_ne fwl.symm, upd_ne twl.symm]; exact hwl
    have h3f : (upd (upd H2 t0 (.tup [.str w0, .int 0])) fd (.lst [.ref t0])) fd = some (.lst [.ref t0]) := upd_same
    have h3t : (upd (upd H2 t0 (.tup [.str w0, .int 0])) fd (.lst [.ref t0])) t0 = some (.tup [.str w0, .int 0]) := by rw [upd_ne fdt.symm]; exact upd_same
    generalize upd (upd H2 t0 (.tup [.str w0, .int 0])) fd (.lst [.ref t0]) = H3 at hb3 hs3 h3w h3f h3t
    have drop1 : ((w0 :: wr).map V.str).drop (1 : Int).toNat = wr.map V.str := rfl
    -- the numbers
    refine ⟨fun σ H' => ∃ (ml : Addr) (ns : List Int), σ = [some (.ref st), some (.int m), some (.ref wl), some (.ref fd), some (.ref ml), none, none] ∧ H' ml = some (.lst (ns.map V.int)) ∧ ns.length = wr.length ∧ (∀ n ∈ ns, 0 ≤ n ∧ n ≤ 2) ∧
        H' wl = some (.lst ((w0 :: wr).map V.str)) ∧ H' fd = some (.lst [.ref t0]) ∧ H' t0 = some (.tup [.str w0, .int 0]) ∧ StAt (B + 30) H' st cl ∧ But st H H' ∧ H ml = none ∧ ml ≠ fd, ?_, ?_⟩
    · refine ⟨_, rfl, 1, rfl, wl, _, rfl, SqL.of h3w, fun p np => ⟨p, rfl, ⟨_, SqL.of upd_same⟩, fun D nD => ?_⟩⟩
      rw [cutFrom (by decide), drop1] at nD ⊢
      obtain ⟨pa, pc⟩ := hs3.new np
      have npH : H p = none := hb3.free np pa
      have Dp : D ≠ p := (ne_of_none upd_same nD).symm
      have nD3 : H3 D = none := by rw [upd_ne Dp] at nD; exact nD
      obtain ⟨Da, Dc⟩ := hs3.new nD3
      have nDH : H D = none := hb3.free nD3 Da
      have kp : ∀ {q : Addr} {o : HO}, H3 q = some o → (upd (upd H3 p (.lst (wr.map V.str))) D (.lst [])) q = some o := fun e => by rw [upd_ne (ne_of_none e nD3), upd_ne (ne_of_none e np)]; exact e
      refine lc_gen (J := Itl K p) wr.length (fun i H' => ∃ ns : List Int, ns.length = i ∧ (∀ n ∈ ns, 0 ≤ n ∧ n ≤ 2) ∧ H' D = some (.lst (ns.map V.int)) ∧ H' p = some (.lst (wr.map V.str)) ∧
        H' wl = some (.lst ((w0 :: wr).map V.str)) ∧ H' fd = some (.lst [.ref t0]) ∧ H' t0 = some (.tup [.str w0, .int 0]) ∧ StAt (B + 15 + i) H' st cl ∧ But st H H')
        ⟨[], rfl, (fun n hn => by cases hn), upd_same, by rw [upd_ne Dp.symm]; exact upd_same, kp h3w, kp h3f, kp h3t, (hs3.put pa pc).put Da Dc, (hb3.upd npH).upd nDH⟩
        (fun i H' hi ⟨ns, _, _, _, hp, _⟩ => ⟨_, .str (wr.getD i ""), SqL.of hp, by rw [List.getElem?_map, List.getElem?_eq_getElem hi, List.getD_eq_getElem?_getD, List.getElem?_eq_getElem hi]; rfl⟩)
        (fun H' ⟨ns, _, _, _, hp, _⟩ => ⟨_, SqL.of hp, by rw [List.length_map]; exact Nat.le_refl _⟩) (fun i H' v H'' hi ⟨ns, hn, hm, hD, hp, h4w, h4f, h4t, hs4, hb4⟩ yl => ?_) (fun H' ⟨ns, hn, hm, hD, hp, h4w, h4f, h4t, hs4, hb4⟩ => ⟨D, ns, rfl, hD, hn, hm, h4w, h4f, h4t, hs4.mono (by omega), hb4, nDH, (ne_of_none h3f nD3).symm⟩)
      obtain ⟨rfl, _⟩ := yl
      refine ⟨rfl, ?_⟩
      unfold tYes
      dsimp only
      rw [if_pos rfl]
      refine ⟨_, rfl, st, 3, B + 15 + i, cl, rfl, by decide, by decide, hs4, by omega, fun x H5 x0 x1 hs5 hb5 => ⟨_, hb5 _ _ hD Da, by rw [List.length_map, sizeLine_eq]; omega, ns ++ [x], ?_⟩⟩
      have kq : ∀ {q : Addr} {o : HO}, H'' q = some o → q ≠ st → q ≠ D → (upd H5 D (.lst (ns.map V.int ++ [V.int x]))) q = some o := fun e n1 n2 => by rw [upd_ne n2]; exact hb5 _ _ e n1
      refine ⟨by simp [hn], fun n hn' => ?_, by rw [upd_same, List.map_append]; rfl, kq hp pa Dp.symm, kq h4w wa (ne_of_none h3w nD3), kq h4f fa (ne_of_none h3f nD3), kq h4t ta (ne_of_none h3t nD3), (hs5.mono (by omega)).put Da Dc, (hb4.trans hb5).upd nDH⟩
      rcases List.mem_append.mp hn' with h | h
      · exact hm n h
      · rw [List.mem_singleton.mp h]; omega
    rintro σ' H4 ⟨ml, ns, rfl, h4m, hnl, hnm, h4w, h4f, h4t, hs4, hb4, nmlH, mlfd⟩
    have mla : ml ≠ st := by
      obtain ⟨o, e⟩ := hst.st
      exact (ne_of_none e nmlH).symm
    -- the rows
    refine ⟨fun σ H' => ∃ (v5 v6 : Option V) (vs : List V) (rs : List Rw), σ = [some (.ref st), some (.int m), some (.ref wl), some (.ref fd), some (.ref ml), v5, v6] ∧ H' fd = some (.lst vs) ∧ Paired (RowV H') vs rs ∧ rs.map (·.1) = w0 :: wr ∧ (∀ r ∈ rs, 0 ≤ r.2 ∧ r.2 ≤ 2) ∧ (w0, 0) ∈ rs ∧ StAt (B + 30) H' st cl ∧ But st H H', ?_, ?_⟩
    · refine ⟨_, rfl, 1, rfl, wl, _, rfl, SqL.of h4w, fun p np => ⟨p, _, rfl, SqL.of upd_same, ?_⟩⟩
      rw [cutFrom (by decide), drop1]
      obtain ⟨pa, pc⟩ := hs4.new np
      have npH : H p = none := hb4.free np pa
      have kp : ∀ {q : Addr} {o : HO}, H4 q = some o → (upd H4 p (.lst (wr.map V.str))) q = some o := fun e => by rw [upd_ne (ne_of_none e np)]; exact e
      refine for_gen (J := Ite K p) wr.length (fun i σ H' => ∃ (v5 v6 : Option V) (vs : List V) (rs : List Rw), σ = [some (.ref st), some (.int m), some (.ref wl), some (.ref fd), some (.ref ml), v5, v6] ∧ H' fd = some (.lst vs) ∧ Paired (RowV H') vs rs ∧ rs.map (·.1) = w0 :: wr.take i ∧ (∀ r ∈ rs, 0 ≤ r.2 ∧ r.2 ≤ 2) ∧ (w0, 0) ∈ rs ∧
          StAt (B + 30) H' st cl ∧ But st H H' ∧ H' ml = some (.lst (ns.map V.int)) ∧ H' p = some (.lst (wr.map V.str)))
        ⟨none, none, _, [(w0, 0)], rfl, kp h4f, .cons ⟨t0, rfl, kp h4t⟩ .nil, by rw [List.take_zero]; rfl, (fun r hr => by rw [List.mem_singleton.mp hr]; exact ⟨Int.le_refl _, by show (0 : Int) ≤ 2; decide⟩), List.mem_singleton.mpr rfl, hs4.put pa pc, hb4.upd npH, kp h4m, upd_same⟩
        (fun i σ H' hi ⟨_, _, _, _, _, _, _, _, _, _, _, _, _, hp⟩ => ⟨_, .str (wr.getD i ""), SqL.of hp, by rw [List.getElem?_map, List.getElem?_eq_getElem hi, List.getD_eq_getElem?_getD, List.getElem?_eq_getElem hi]; rfl⟩)
        (fun σ H' ⟨_, _, _, _, _, _, _, _, _, _, _, _, _, hp⟩ => ⟨_, SqL.of hp, by rw [List.length_map]; exact Nat.le_refl _⟩) ?_ (fun σ H' ⟨v5, v6, vs, rs, e, hf, hp, hr, hr2, hr0, hs, hb, _⟩ => ⟨v5, v6, vs, rs, e, hf, hp, by rw [hr, List.take_of_length_le (Nat.le_refl _)], hr2, hr0, hs, hb⟩)
      rintro i σ H5 v H6 hi ⟨v5, v6, vs, rs, rfl, hf, hp, hr, hr2, hr0, hs5, hb5, hm5, hp5⟩ ⟨T', x, rfl, nT, rfl, hx⟩
      have hx := hx _ (SqL.of hp5)
      rw [List.getElem?_map, List.getElem?_eq_getElem hi] at hx
      obtain rfl := Option.some.inj hx
      obtain ⟨Ta, Tc⟩ := hs5.new nT
      have nTH : H T' = none := hb5.free nT Ta
      refine ⟨T', [.int (i : Nat), .str wr[i]], rfl, SqT.of upd_same, rfl, .int (i : Nat), [.str wr[i]], rfl, .str wr[i], [], rfl, rfl, ?_⟩
      have hs6 := hs5.put (o := .tup [.int (i : Nat), .str wr[i]]) Ta Tc
      have hb6 := hb5.upd (o := .tup [.int (i : Nat), .str wr[i]]) nTH
      have hf6 : (upd H5 T' (.tup [.int (i : Nat), .str wr[i]])) fd = some (.lst vs) := by rw [upd_ne (ne_of_none hf nT)]; exact hf
      have hm6 : (upd H5 T' (.tup [.int (i : Nat), .str wr[i]])) ml = some (.lst (ns.map V.int)) := by rw [upd_ne (ne_of_none hm5 nT)]; exact hm5
      have hp6 : (upd H5 T' (.tup [.int (i : Nat), .str wr[i]])) p = some (.lst (wr.map V.str)) := by rw [upd_ne (ne_of_none hp5 nT)]; exact hp5
      have hpr : Paired (RowV (upd H5 T' (.tup [.int (i : Nat), .str wr[i]]))) vs rs := Paired.mono (fun _ _ q => q.same (same_upd nT)) hp
      generalize upd H5 T' (.tup [.int (i : Nat), .str wr[i]]) = H6 at hs6 hb6 hf6 hm6 hp6 hpr
      have hin : i < ns.length := by omega
      have hat : atI (ns.map V.int) ((i : Nat) : Int) = some (.int ns[i]) := at_of (j := i) (by omega) (by simp [hin])
      have hvl : vs.length = rs.length := Paired.length hpr
      have hrl : rs.length = i + 1 := by
        have := congrArg List.length hr
        rw [List.length_map, List.length_cons, List.length_take] at this
        omega
      -- what is appended, in any heap that holds these
      have fin : ∀ (H7 : Hp) (z : Int), Same H6 H7 → 0 ≤ z ∧ z ≤ 2 → ∀ q, H7 q = none → ∃ (l : Addr) (xs : List V) (y : V), V.ref fd = .ref l ∧ [V.ref q] = [y] ∧ (upd H7 q (.tup [.str wr[i], .int z])) l = some (.lst xs) ∧ xs.length < sizeLine ∧
          (∃ (v5 v6 : Option V) (vs : List V) (rs : List Rw), [some (V.ref st), some (.int m), some (.ref wl), some (.ref fd), some (.ref ml), some (.int (i : Nat)), some (.str wr[i])] = [some (.ref st), some (.int m), some (.ref wl), some (.ref fd), some (.ref ml), v5, v6] ∧ (upd (upd H7 q (.tup [.str wr[i], .int z])) l (.lst (xs ++ [y]))) fd = some (.lst vs) ∧ Paired (RowV (upd (upd H7 q (.tup [.str wr[i], .int z])) l (.lst (xs ++ [y])))) vs rs ∧ rs.map (·.1) = w0 :: wr.take (i + 1) ∧ (∀ r ∈ rs, 0 ≤ r.2 ∧ r.2 ≤ 2) ∧ (w0, 0) ∈ rs ∧
          StAt (B + 30) (upd (upd H7 q (.tup [.str wr[i], .int z])) l (.lst (xs ++ [y]))) st cl ∧ But st H (upd (upd H7 q (.tup [.str wr[i], .int z])) l (.lst (xs ++ [y]))) ∧ (upd (upd H7 q (.tup [.str wr[i], .int z])) l (.lst (xs ++ [y]))) ml = some (.lst (ns.map V.int)) ∧ (upd (upd H7 q (.tup [.str wr[i], .int z])) l (.lst (xs ++ [y]))) p = some (.lst (wr.map V.str))) := by
        intro H7 z s7 hz q nq
        have hf7 := s7 _ _ hf6
        have qf : q ≠ fd := (ne_of_none hf7 nq).symm
        obtain ⟨qa, qc⟩ := (hs6.same s7).new nq
        have kq : ∀ {a : Addr} {o : HO}, H6 a = some o → a ≠ fd → (upd (upd H7 q (.tup [.str wr[i], .int z])) fd (.lst (vs ++ [.ref q]))) a = some o := fun e n => by rw [upd_ne n, upd_ne (ne_of_none (s7 _ _ e) nq)]; exact s7 _ _ e
        refine ⟨fd, vs, _, rfl, rfl, by rw [upd_ne qf.symm]; exact hf7, by rw [hvl, sizeLine_eq]; omega, _, _, _, rs ++ [(wr[i], z)], rfl, upd_same, ?_, ?_, ?_, ?_, ((hs6.same s7).put qa qc).put fa fc, ((hb6.trans (Same.but s7)).upd (hb6.free (same_free s7 nq) qa)).upd nfdH, kq hm6 mlfd, kq hp6 (ne_of_none h4f np).symm⟩
        · refine Paired.snoc (Paired.mono (fun _ _ q' => ?_) hpr) ⟨q, rfl, by rw [upd_ne qf]; exact upd_same⟩
          obtain ⟨t, e, et⟩ := q'
          exact ⟨t, e, kq et (ne_of et hf6 (by intro z; cases z))⟩
        · rw [List.map_append, hr, List.take_succ_eq_append_getElem hi]
          rfl
        · intro r hr'
          rcases List.mem_append.mp hr' with h | h
          · exact hr2 r h
          · rw [List.mem_singleton.mp h]; exact hz
        · exact List.mem_append_left _ hr0
      refine ⟨_, rfl, .inl ⟨rfl, _, SqL.of hf6⟩, _, rfl, _, rfl, _, rfl, ml, _, _, _, rfl, rfl, SqL.of hm6, hat, ns[i], 2, rfl, rfl, ?_⟩
      have hz := hnm ns[i] (List.getElem_mem hin)
      have val : ∀ H7, Same H6 H7 → ∀ q, H7 q = none → True := fun _ _ _ _ => trivial
      refine ⟨_, rfl, ite2 (fun _ => ?_) (fun _ => ?_)⟩
      · refine iteBt rfl ⟨_, rfl, _, rfl, ml, _, _, _, rfl, rfl, SqL.of hm6, hat, (by show 2 ≤ sizeLine; decide), fun q nq => fin H6 _ (fun b o e => e) hz q nq⟩
      · refine ⟨_, rfl, _, rfl, _, rfl, ml, _, rfl, SqL.of hm6, fun q nq => ?_⟩
        rw [cutTo (by omega), ← List.map_take]
        refine ⟨q, _, rfl, .inl (SqL.of upd_same), rfl, List.all_eq_true.mpr fun y hy => ?_, ?_⟩
        · obtain ⟨z, _, rfl⟩ := List.mem_map.mp hy
          rfl
        have s7 : Same H6 (upd H6 q (.lst ((ns.take (((i : Nat) : Int)).toNat).map V.int))) := same_upd nq
        generalize upd H6 q (.lst ((ns.take (((i : Nat) : Int)).toNat).map V.int)) = H7 at s7
        refine ⟨_, rfl, ite2 (fun _ => ?_) (fun _ => ?_)⟩
        · exact ⟨_, rfl, _, rfl, ml, _, _, _, rfl, rfl, SqL.of (s7 _ _ hm6), hat, (by show 2 ≤ sizeLine; decide), fun q nq => fin H7 _ s7 hz q nq⟩
        · exact ⟨(by show 2 ≤ sizeLine; decide), fun q nq => fin H7 1 s7 ⟨by decide, by decide⟩ q nq⟩
    · rintro σ' H5 ⟨v5, v6, vs, rs, rfl, hf, hp, hr, hr2, hr0, hs5, hb5⟩
      have hl := congrArg List.length hr
      rw [List.length_map, List.length_cons] at hl
      have hv := Paired.length hp
      refine ⟨_, rfl, _, rfl, st, fd, vs, B + 30, cl, rfl, hf, by omega, hs5, by omega, fun l ys H6 nl hperm hl6 hs6 hb6 => ?_⟩
      obtain ⟨ps, hps, hp2⟩ := paired_perm hperm hp
      refine k l ps H6 (hb5.free nl (hs5.new nl).1) ⟨ys, hl6, Paired.mono (fun _ _ q => q.but hs5 hb6) hp2⟩ (RowsOk.perm ⟨by omega, by rw [hr]; exact hwd, fun r hr' => ⟨hwm _ (by rw [← hr]; exact List.mem_map_of_mem hr'), hr2 r hr'⟩, ⟨_, hr0, rfl⟩⟩ hps) (hs6.mono (by omega)) (hb5.trans hb6)
end
end K7

namespace K7
open PySem PySem.Spec PyProof.Rows L2 C8
abbrev sMany : Stmt := top 29
abbrev sLabels : Stmt := top 30
inductive D where
  | fl (x : V)
  | emp
  | sq (xs : List D)
mutual
def sz : D → Nat
  | .fl _ => 1
  | .emp => 1
  | .sq xs => 1 + szs xs
def szs : List D → Nat
  | [] => 0
  | x :: xs => sz x + szs xs
end
def many (rs : List Rw) (z : Str) : Option Int := ((rs ++ [(("keep" : Str), (1 : Int))]).find? fun r => r.1 == z).map (·.2)
mutual
def isT (rs : List Rw) : D → Bool
  | .sq (.fl (.str z) :: cs) => match many rs z with
    | some m => decide ((cs.length : Int) = m) && isTs rs cs
    | none => false
  | _ => false
def isTs (rs : List Rw) : List D → Bool
  | [] => true
  | x :: xs => isT rs x && isTs rs xs
end
def hdOk : List D → Bool
  | .emp :: _ => false
  | _ => true
mutual
/-- v stands for the data d; F: where its lists may stand -/
def DAt (F : Addr → Prop) (H : Hp) : V → D → Prop
  | v, .fl x => v = x ∧ flatV x = true
  | v, .emp => ∃ a, v = .ref a ∧ H a = some (.dK [])
  | v, .sq xs => ∃ a vs, v = .ref a ∧ (H a = some (.tup vs) ∨ (F a ∧ H a = some (.lst vs))) ∧ hdOk xs = true ∧ DAts F H vs xs
def DAts (F : Addr → Prop) (H : Hp) : List V → List D → Prop
  | [], [] => True
  | v :: vs, d :: ds => DAt F H v d ∧ DAts F H vs ds
  | _, _ => False
end
structure Hold (F : Addr → Prop) (H H' : Hp) : Prop where
  tup : ∀ a vs, H a = some (.tup vs) → H' a = some (.tup vs)
  dic : ∀ a, H a = some (.dK []) → H' a = some (.dK [])
  lst : ∀ a vs, F a → H a = some (.lst vs) → H' a = some (.lst vs)
mutual
theorem DAt.hold {F : Addr → Prop} {H H' : Hp} (h : Hold F H H') : ∀ (d : D) {v : V}, DAt F H v d → DAt F H' v d
  | .fl x, _, e => e
  | .emp, _, ⟨a, e, q⟩ => ⟨a, e, h.dic a q⟩
  | .sq xs, _, ⟨a, vs, e, q, o, k⟩ => ⟨a, vs, e, q.imp (h.tup a vs) fun ⟨e, q⟩ => ⟨e, h.lst a vs e q⟩, o, DAts.hold h xs k⟩
theorem DAts.hold {F : Addr → Prop} {H H' : Hp} (h : Hold F H H') : ∀ (ds : List D) {vs : List V}, DAts F H vs ds → DAts F H' vs ds
  | [], [], _ => trivial
  | d :: ds, v :: vs, ⟨k, t⟩ => ⟨DAt.hold h d k, DAts.hold h ds t⟩
  | [], _ :: _, k => k
  | _ :: _, [], k => k
end
mutual
theorem DAt.weak {F G : Addr → Prop} {H : Hp} (h : ∀ a, F a → G a) : ∀ (d : D) {v : V}, DAt F H v d → DAt G H v d
  | .fl x, _, e => e
  | .emp, _, e => e
  | .sq xs, _, ⟨a, vs, e, q, o, k⟩ => ⟨a, vs, e, q.imp id fun ⟨e, q⟩ => ⟨h _ e, q⟩, o, DAts.weak h xs k⟩
theorem DAts.weak {F G : Addr → Prop} {H : Hp} (h : ∀ a, F a → G a) : ∀ (ds : List D) {vs : List V}, DAts F H vs ds → DAts G H vs ds
  | [], [], _ => trivial
  | d :: ds, v :: vs, ⟨k, t⟩ => ⟨DAt.weak h d k, DAts.weak h ds t⟩
  | [], _ :: _, k => k
  | _ :: _, [], k => k
end
/-- tuples alone; lists too, other than this one -/
def nol : Addr → Prop := fun _ => False
def oth (st : Addr) : Addr → Prop := fun a => a ≠ st
theorem Hold.same {F : Addr → Prop} {H H' : Hp} (s : Same H H') : Hold F H H' := ⟨fun a _ => s a _, fun a => s a _, fun a _ _ => s a _⟩
theorem Hold.but {F : Addr → Prop} {B : Nat} {H H' : Hp} {st cl : Addr} (hs : StAt B H st cl) (hb : But st H H') (hF : ∀ a, F a → a ≠ st) : Hold F H H' := by
  obtain ⟨ns, i, c, h0, n, e1, _⟩ := hs
  refine ⟨fun a vs e => hb _ _ e (ne_of e e1 (by intro z; cases z)), fun a e => hb _ _ e (ne_of e e1 (by intro z; cases z)), fun a vs e q => hb _ _ q (hF a e)⟩
abbrev keepR : Rw := ("keep", 1)
def nums (rs : List Rw) : List Rw := rs ++ [keepR]
def labs (rs : List Rw) : List Str := (nums rs).map (·.1)
def kvOf (r : Rw) : Key × V := (Sum.inr r.1, V.int r.2)
theorem labs_nd {rs : List Rw} (h : RowsOk rs) : (labs rs).Nodup := by
  unfold labs nums
  rw [List.map_append]
  refine List.nodup_append.mpr ⟨h.nd, by simp, fun a ha b hb e => ?_⟩
  have hb := List.mem_singleton.mp hb
  subst e hb
  obtain ⟨r, hr, e⟩ := List.mem_map.mp ha
  have := (h.mem r hr).1
  rw [e] at this
  revert this
  decide +kernel
theorem valV_rows (z : Str) : ∀ rs : List Rw, valV (rs.map kvOf) (Sum.inr z) = (rs.find? fun r => r.1 == z).map fun r => V.int r.2
  | [] => rfl
  | r :: rs => by
    rw [List.map_cons, List.find?_cons]
    by_cases e : r.1 = z
    · rw [valV_pos (p := kvOf r) (by show Sum.inr r.1 = _; rw [e]), show (r.1 == z) = true from beq_iff_eq.mpr e]
      rfl
    · rw [valV_neg (p := kvOf r) (by show ¬ (Sum.inr r.1 = (Sum.inr z : Key)); intro h; exact e (Sum.inr.inj h)), show (r.1 == z) = false from beq_eq_false_iff_ne.mpr e]
      exact valV_rows z rs
theorem valV_nums (rs : List Rw) (z : Str) : valV ((nums rs).map kvOf) (Sum.inr z) = (many rs z).map V.int := by
  rw [valV_rows]
  unfold many nums
  rw [Option.map_map]
  rfl
theorem merge_nd : ∀ {more acc : List (Key × V)}, ((acc ++ more).map (·.1)).Nodup → mergeK acc more = acc ++ more
  | [], acc, _ => by rw [List.append_nil]; rfl
  | p :: more, acc, h => by
    have e : putK acc p.1 p.2 = acc ++ [p] := putK_new p.2 (by
      unfold valV
      rw [List.find?_eq_none.mpr fun q hq => ?_]
      · rfl
      · rw [decide_eq_true_eq]
        intro e
        rw [List.map_append, List.nodup_append] at h
        exact h.2.2 _ (List.mem_map_of_mem hq) _ (List.mem_map_of_mem List.mem_cons_self) e)
    show mergeK (putK acc p.1 p.2) more = _
    rw [e, merge_nd (by rw [List.append_assoc]; exact h), List.append_assoc]
    rfl
theorem merge_nums {rs : List Rw} (h : RowsOk rs) : mergeK [] ((nums rs).map kvOf) = (nums rs).map kvOf := by
  refine merge_nd ?_
  rw [List.nil_append, List.map_map]
  have e : (nums rs).map ((·.1) ∘ kvOf) = (labs rs).map (Sum.inr : Str → Key) := by unfold labs; rw [List.map_map]; rfl
  rw [e]
  exact List.Pairwise.map _ (fun a b h e => h (Sum.inr.inj e)) (labs_nd h)
theorem paired_get {α β : Type} {R : α → β → Prop} {xs : List α} {ys : List β} (h : Paired R xs ys) : ∀ {i : Nat} {x : α}, xs[i]? = some x → ∃ y, ys[i]? = some y ∧ R x y := by
  induction h with
  | nil => intro i x e; cases e
  | cons q p ih =>
    intro i x e
    cases i with
    | zero => cases e; exact ⟨_, rfl, q⟩
    | succ i => exact ih e
theorem getD_at {xs : List V} {i : Nat} (h : i < xs.length) : xs[i]? = some (xs.getD i .non) := by rw [List.getD_eq_getElem?_getD, List.getElem?_eq_getElem h] <;> rfl
theorem many_mem {rs : List Rw} (h : RowsOk rs) {r : Rw} (hr : r ∈ nums rs) : many rs r.1 = some r.2 := by
  have nd := labs_nd h
  unfold labs at nd
  unfold many
  show ((nums rs).find? _).map _ = _
  generalize nums rs = l at hr nd
  induction l with
  | nil => cases hr
  | cons q l ih =>
    rw [List.map_cons, List.nodup_cons] at nd
    rw [List.find?_cons]
    rcases List.mem_cons.mp hr with rfl | hr
    · rw [show (r.1 == r.1) = true from beq_self_eq_true _]
      rfl
    · rw [show (q.1 == r.1) = false from beq_eq_false_iff_ne.mpr fun e => nd.1 (by rw [e]; exact List.mem_map_of_mem hr)]
      exact ih hr nd.2
theorem many_lab {rs : List Rw} (h : RowsOk rs) {z : Str} (hz : z ∈ labs rs) : ∃ n, many rs z = some n ∧ 0 ≤ n ∧ n ≤ 2 := by
  obtain ⟨r, hr, rfl⟩ := List.mem_map.mp hz
  refine ⟨r.2, many_mem h hr, ?_⟩
  rcases List.mem_append.mp hr with h' | h'
  · exact (h.mem r h').2
  · rw [List.mem_singleton.mp h']; exact ⟨by decide, by decide⟩
theorem many_some {rs : List Rw} {z : Str} {n : Int} (e : many rs z = some n) : z ∈ labs rs := by
  unfold many at e
  cases e' : ((rs ++ [(("keep" : Str), (1 : Int))]).find? fun r => r.1 == z) with
  | none => rw [e'] at e; cases e
  | some r =>
    have := List.find?_some e'
    have hm := List.mem_of_find?_eq_some e'
    rw [← beq_iff_eq.mp this]
    exact List.mem_map_of_mem hm
def spMany : Sp := fun vs H Q _ => ∃ (l : Addr) (z : Str) (rs : List Rw) (n : Int), vs = [.ref l, .str z] ∧ RowsAt H l rs ∧ RowsOk rs ∧ many rs z = some n ∧ ∀ H', Same H H' → Q (.int n) H'
def spLabels : Sp := fun vs H Q _ => ∃ (l : Addr) (rs : List Rw), vs = [.ref l] ∧ RowsAt H l rs ∧ RowsOk rs ∧ ∀ q H', H q = none → Same H H' → H' q = some (.lst ((labs rs).map V.str)) → Q (.ref q) H'
theorem scMany : FnScope ["_law_rows_here", "_law_label"] ["_law_rows_here", "_law_label"] (fnScope sMany) := fnScope_by (by decide +kernel)
abbrev NLab : List Str := ["_law_rows_here", "_law_label", "_law_many_here"]
theorem scLabels : FnScope NLab ["_law_rows_here"] (fnScope sLabels) := fnScope_by (by decide +kernel)
section
variable {P : Program} {w : World} {K : PySem.W.Frag} {mg : Str → Option Value} {base : Heap}
theorem rows_refs {H : Hp} {vs : List V} {rs : List Rw} (h : Paired (RowV H) vs rs) : ∃ ts : List Addr, vs = ts.map V.ref ∧ Paired (fun t (kv : Key × V) => SqT K H t [kV kv.1, kv.2]) ts (rs.map kvOf) := by
  induction h with
  | nil => exact ⟨[], rfl, .nil⟩
  | cons q _ ih =>
    obtain ⟨ts, rfl, p⟩ := ih
    obtain ⟨t, rfl, e⟩ := q
    exact ⟨t :: ts, rfl, .cons (SqT.of e) p⟩
theorem c_many {f : Addr} {fd : FuncData} (F : Def K mg "_law_many" sMany f fd) (b : Binds K fd ["_law_rows_here", "_law_label"] []) (T : Blt4 mg) : Cal P w K mg base 1 "_law_many" spMany [] := by
  refine cal0 F b .nil scMany (fun vs H Q E h => ?_) (fun cdv A outer s H vs Q E hr h => ?_)
  · obtain ⟨l, z, rs, n, rfl, _⟩ := h
    rfl
  · obtain ⟨l, z, rs, n, rfl, ⟨us, hl, hp⟩, ok, hn, k⟩ := h
    have hu : (A.deeper (envOfC "_law_many" (fnScope sMany) s.heap.objs.size f cdv)).units + 1 < cLine := by have := hr.un; omega
    refine ⟨_, pss_one (ps_ret (pe_dget hu (pe_callTy (call_dictP rfl) (by rfl) T.dic (by decide +kernel) (pa_cons (pe_op op_cat (pe_callTy call_list_of (by rfl) T.list (by decide +kernel) (pa_cons (pv 0) pa_nil)) (pe_lst (pa_cons (pe_tup (pa_cons pe_str (pa_cons pe_int pa_nil))) pa_nil))) pa_nil)) (pv 1) (fun _ _ => rfl))), ?_⟩
    have hlen := Paired.length hp
    have hok := ok.len
    refine ⟨_, rfl, l, us, rfl, .inl (SqL.of hl), fun p np => ⟨(by show 2 ≤ sizeLine; decide), fun t nt => ⟨(by show 1 ≤ sizeLine; decide), fun q nq => ?_⟩⟩⟩
    have s1 : Same H (upd H p (.lst us)) := same_upd np
    have s2 : Same _ _ := s1.trans (same_upd nt (o := .tup [.str "keep", .int 1]))
    have s3 := s2.trans (same_upd nq (o := .lst [.ref t]))
    have tp : t ≠ p := (ne_of_none upd_same nt).symm
    have qt : q ≠ t := (ne_of_none upd_same nq).symm
    have qp : q ≠ p := (ne_of_none (by rw [upd_ne tp.symm]; exact upd_same) nq).symm
    have hp' : (upd (upd (upd H p (.lst us)) t (.tup [.str "keep", .int 1])) q (.lst [.ref t])) p = some (.lst us) := by rw [upd_ne qp.symm, upd_ne tp.symm]; exact upd_same
    have ht' : (upd (upd (upd H p (.lst us)) t (.tup [.str "keep", .int 1])) q (.lst [.ref t])) t = some (.tup [.str "keep", .int 1]) := by rw [upd_ne qt.symm]; exact upd_same
    refine ⟨p, q, us, [.ref t], rfl, rfl, hp', upd_same, by rw [hlen, sizeLine_eq]; simp; omega, fun c nc => ?_⟩
    generalize upd (upd (upd H p (.lst us)) t (.tup [.str "keep", .int 1])) q (.lst [.ref t]) = H1 at s3 hp' ht' nc
    have s4 := s3.trans (same_upd nc (o := .lst (us ++ [.ref t])))
    obtain ⟨ts, ets, pts⟩ := rows_refs (K := K) (H := upd H1 c (.lst (us ++ [.ref t]))) (Paired.mono (fun _ _ q => q.same s4) hp)
    refine ⟨c, ts ++ [t], (nums rs).map kvOf, rfl, SqL.of (by rw [upd_same, ets, List.map_append]; rfl), ?_, fun d nd => ?_⟩
    · unfold nums
      rw [List.map_append]
      exact Paired.snoc pts (SqT.of (by rw [upd_ne (ne_of_none ht' nc)]; exact ht'))
    · refine ⟨.str z, rfl, d, .int n, rfl, ?_, k _ (s4.trans (same_upd nd))⟩
      have g := DGet.k (k := Sum.inr z) (a := d) (H := upd (upd H1 c (.lst (us ++ [.ref t]))) d (.dK (mergeK [] ((nums rs).map kvOf)))) upd_same
      rw [merge_nums ok, valV_nums, hn] at g
      rw [merge_nums ok]
      exact g
theorem c_labels {f : Addr} {fd : FuncData} (F : Def K mg "_law_labels" sLabels f fd) (b : Binds K fd ["_law_rows_here"] []) (T : Blt4 mg) : Cal P w K mg base 1 "_law_labels" spLabels [] := by
  refine cal0 F b .nil scLabels (fun vs H Q E h => ?_) (fun cdv A outer s H vs Q E hr h => ?_)
  · obtain ⟨l, rs, rfl, _⟩ := h
    rfl
  · obtain ⟨l, rs, rfl, ⟨us, hl, hp⟩, ok, k⟩ := h
    have nd := scLabels.nd
    refine ⟨_, pss_one (ps_ret (pe_op op_cat (pe_lc (own := [("_law_label", 1), ("_law_many_here", 2)]) (g := gTup K 2 (gCons (gName 1) (gCons (gName 2) gNil))) (tt := tYes) rfl nd (pi_list (pv 0)) (blkOk_by (N := NLab) (sc := fnScope sLabels) (by decide +kernel))
        (fun _ _ _ _ _ => pg_tup rfl (pgs_cons (pg_name (i := 1) nd rfl (Or.inl rfl)) (pgs_cons (pg_name (i := 2) nd rfl (Or.inl rfl)) pgs_nil))) (fun _ _ _ _ _ => pts_nil) (fun _ _ _ _ _ => pv 1)) (pe_lst (pa_cons pe_str pa_nil)))), ?_⟩
    have hlen := Paired.length hp
    have hok := ok.len
    refine ⟨_, rfl, l, rfl, ⟨us, SqL.of hl⟩, fun D nD => ?_⟩
    refine lc_gen (J := Itl K l) rs.length (fun i H' => H' D = some (.lst ((rs.take i).map fun r => V.str r.1)) ∧ Same H H') ⟨upd_same, same_upd nD⟩ (fun i H' hi ⟨_, sm⟩ => ⟨us, us.getD i .non, SqL.of (sm _ _ hl), by rw [List.getD_eq_getElem?_getD, List.getElem?_eq_getElem (by omega)]; rfl⟩)
      (fun H' ⟨_, sm⟩ => ⟨us, SqL.of (sm _ _ hl), by omega⟩) (fun i H' v H'' hi ⟨hD, sm⟩ yl => ?_) (fun H' ⟨hD, sm⟩ => ?_)
    · obtain ⟨rfl, hx⟩ := yl
      have hx := hx _ (SqL.of (sm _ _ hl))
      obtain ⟨r, hr, t, rfl, ht⟩ := paired_get hp hx
      refine ⟨t, [.str r.1, .int r.2], rfl, SqT.of (sm _ _ ht), rfl, .str r.1, [.int r.2], rfl, .int r.2, [], rfl, rfl, rfl, ?_⟩
      unfold tYes
      dsimp only
      rw [if_pos rfl]
      refine ⟨_, rfl, _, hD, by rw [List.length_map, List.length_take, sizeLine_eq]; omega, ?_, fun b o e => by rw [upd_ne (ne_of_none e nD)]; exact sm _ _ e⟩
      obtain ⟨hlt, e⟩ := List.getElem?_eq_some_iff.mp hr
      rw [upd_same, List.take_succ_eq_append_getElem hlt, List.map_append, e]
      rfl
    · rw [List.take_of_length_le (Nat.le_refl _)] at hD
      refine ⟨(by show 1 ≤ sizeLine; decide), fun q nq => ⟨D, q, _, _, rfl, rfl, by rw [upd_ne (ne_of_none hD nq)]; exact hD, upd_same, by rw [List.length_map, sizeLine_eq]; simp; omega, fun c nc => ?_⟩⟩
      have s2 : Same H _ := sm.trans ((same_upd nq (o := .lst [.str "keep"])).trans (same_upd nc (o := .lst ((rs.map fun r => V.str r.1) ++ [.str "keep"]))))
      refine k c _ (same_free (sm.trans (same_upd nq)) nc) s2 (by rw [upd_same]; unfold labs nums; rw [List.map_append, List.map_append, List.map_map]; rfl)
end
end K7

namespace K7
open PySem PySem.Spec PyProof.Rows L2 C8
abbrev sTree : Stmt := top 31
def manyD (rs : List Rw) (z : Str) : Int := (many rs z).getD 0
theorem manyD_of {rs : List Rw} {z : Str} {n : Int} (e : many rs z = some n) : manyD rs z = n := by unfold manyD; rw [e]; rfl
def spTree (N : Nat) : Sp := fun vs H Q _ => ∃ (st l : Addr) (n : Int) (rs : List Rw) (B : Nat) (cl : Addr), vs = [.ref st, .ref l, .int n] ∧ 1 ≤ n ∧ n ≤ N ∧ n ≤ 1000 ∧ RowsAt H l rs ∧ RowsOk rs ∧ StAt B H st cl ∧ B + 3 * n.toNat < 1000000000000000 ∧
  ∀ (v : V) (t : D) (H' : Hp), DAt nol H' v t → isT rs t = true → (sz t : Int) ≤ 2 * n → StAt (B + 3 * n.toNat) H' st cl → But st H H' → Q v H'
abbrev NTree : List Str := ["_law_state", "_law_rows_here", "_law_nodes", "_law_fits", "_law_more", "_law_label", "_law_many_here", "_law_some", "_law_first"]
theorem scTree : FnScope NTree ["_law_state", "_law_rows_here", "_law_nodes"] (fnScope sTree) := fnScope_by (by decide +kernel)
theorem new_tree {F : Addr → Prop} {H : Hp} {p : Addr} {z : Str} {vs : List V} {cs : List D} (np : H p = none) (h : DAts F H vs cs) : DAt F (upd H p (.tup (.str z :: vs))) (.ref p) (.sq (.fl (.str z) :: cs)) :=
  ⟨p, _, rfl, .inl upd_same, rfl, ⟨rfl, rfl⟩, DAts.hold (.same (same_upd np)) cs h⟩
theorem isT_leaf {rs : List Rw} {z : Str} (e : many rs z = some 0) : isT rs (.sq [.fl (.str z)]) = true := by rw [isT, e]; rfl
theorem isT_one {rs : List Rw} {z : Str} {t : D} (e : many rs z = some 1) (h : isT rs t = true) : isT rs (.sq [.fl (.str z), t]) = true := by
  rw [isT, e]
  show (_ && isTs rs [t]) = true
  rw [isTs, isTs, h]
  rfl
theorem isT_two {rs : List Rw} {z : Str} {t u : D} (e : many rs z = some 2) (h : isT rs t = true) (h' : isT rs u = true) : isT rs (.sq [.fl (.str z), t, u]) = true := by
  rw [isT, e]
  show (_ && isTs rs [t, u]) = true
  rw [isTs, isTs, isTs, h, h']
  rfl
section
variable {P : Program} {w : World} {K : PySem.W.Frag} {mg : Str → Option Value} {base : Heap}
theorem tree_step {k : Nat} {N : Nat} {f : Addr} {fd : FuncData} (F : Def K mg "_law_tree" sTree f fd) (b : Binds K fd ["_law_state", "_law_rows_here", "_law_nodes"] []) (T : Blt4 mg) (hk : 2 ≤ k) (C : Cal P w K mg base 1 "_law_take" spTake []) (CO : Cal P w K mg base 2 "_law_one" spOne [])
    (CL : Cal P w K mg base 1 "_law_labels" spLabels []) (CM : Cal P w K mg base 1 "_law_many" spMany []) (CT : Cal P w K mg base k "_law_tree" (spTree N) []) : Cal P w K mg base (k + 1) "_law_tree" (spTree (N + 1)) [] := by
  refine cal0 F b .nil scTree (fun vs H Q E h => ?_) (fun cdv A outer s H vs Q E hr h => ?_)
  · obtain ⟨st, l, n, rs, B, cl, rfl, _⟩ := h
    rfl
  · obtain ⟨st, l, n, rs, B, cl, rfl, n0, n1, n9, hR, ok, hst, hB, k⟩ := h
    have nd := scTree.nd
    have hu : (A.deeper (envOfC "_law_tree" (fnScope sTree) s.heap.objs.size f cdv)).units + 64 < cLine := by have := hr.un; omega
    refine ⟨_, pss_cut (ps_setLc (i := 3) (own := [("_law_label", 5)]) (g := gName 5) rfl nd rfl rfl (by rfl) (pi_list (pe_c CL hr (by omega) (by rfl) (pa_cons (pv 1) pa_nil))) (blkOk_by (N := NTree) (sc := fnScope sTree) (by decide +kernel)) (fun _ _ _ _ _ => pg_name (i := 5) nd rfl (Or.inl rfl))
          (fun _ _ _ _ _ => pts_one (pt_cmp (pc_lt (pe_c CM hr (by omega) (by rfl) (pa_cons (pv 1) (pa_cons (pv 5) pa_nil))) (pv 2)))) (fun _ _ _ _ _ => pv 5))
      (pss_cut (ps_setLc (i := 4) (own := [("_law_label", 5)]) (g := gName 5) rfl nd rfl rfl (by rfl) (pi_list (pv 3)) (blkOk_by (N := NTree) (sc := fnScope sTree) (by decide +kernel)) (fun _ _ _ _ _ => pg_name (i := 5) nd rfl (Or.inl rfl))
          (fun _ _ _ _ _ => pts_one (pw_and (pt_cmp (pc_gt (pe_c CM hr (by omega) (by rfl) (pa_cons (pv 1) (pa_cons (pv 5) pa_nil))) pe_int)) (pw_and1 (pt_cmpR op_ne (pv 5) pe_str (nomark _)))).pt) (fun _ _ _ _ _ => pv 5))
      (pss_cut (ps_if (pw_and (pt_cmpR (op_neNil hu) (pv 4) (pe_lst pa_nil) (nomark _)) (pw_and1 (pt_cmp (pc_gt (pe_c C hr (by omega) (by rfl) (pa_cons (pv 0) (pa_cons pe_int pa_nil))) pe_int)))).pt
          (pss_one (ps_set (i := 3) nd rfl (Or.inl rfl) (pv 4))) pss_nil)
      (pss_cons (ps_set (i := 5) nd rfl (Or.inl rfl) (pe_c CO hr (by omega) (by rfl) (pa_cons (pv 0) (pa_cons (pv 3) pa_nil))))
      (pss_cons (ps_set (i := 6) nd rfl (Or.inl rfl) (pe_c CM hr (by omega) (by rfl) (pa_cons (pv 1) (pa_cons (pv 5) pa_nil))))
      (pss_cons (ps_if (pt_cmp (pc_eqI (pv 6) pe_int))
          (pss_cons (ps_set (i := 7) nd rfl (Or.inl rfl) (pe_op op_add pe_int (pe_c C hr (by omega) (by rfl) (pa_cons (pv 0) (pa_cons (pe_op op_sub (pv 2) pe_int) pa_nil)))))
          (pss_cons (ps_set (i := 8) nd rfl (Or.inl rfl) (pe_c CT hr (Nat.le_refl _) (by rfl) (pa_cons (pv 0) (pa_cons (pv 1) (pa_cons (pv 7) pa_nil)))))
          (pss_one (ps_ret (pe_tup (pa_cons (pv 5) (pa_cons (pv 8) (pa_cons (pe_c CT hr (Nat.le_refl _) (by rfl) (pa_cons (pv 0) (pa_cons (pv 1) (pa_cons (pe_op op_sub (pe_op op_sub (pv 2) pe_int) (pv 7)) pa_nil)))) pa_nil))))))))
          pss_nil)
      (pss_one (ps_ret (pe_ifExp (pt_cmp (pc_eqI (pv 6) pe_int)) (pe_tup (pa_cons (pv 5) pa_nil))
          (pe_tup (pa_cons (pv 5) (pa_cons (pe_c CT hr (Nat.le_refl _) (by rfl) (pa_cons (pv 0) (pa_cons (pv 1) (pa_cons (pe_op op_sub (pv 2) pe_int) pa_nil)))) pa_nil))))))))))), ?_⟩
    have hla : (labs rs).length ≤ 15 := by unfold labs nums; rw [List.length_map, List.length_append]; have := ok.len; simp; omega
    let pf : Str → Bool := fun z => decide (manyD rs z < n)
    -- what fits
    refine ⟨fun σ H' => ∃ ft : Addr, σ = [some (.ref st), some (.ref l), some (.int n), some (.ref ft), none, none, none, none, none] ∧ H' ft = some (.lst (((labs rs).filter pf).map V.str)) ∧ H ft = none ∧ Same H H', ?_, ?_⟩
    · refine ⟨_, rfl, l, rs, rfl, hR, ok, fun q H1 nq s1 hq => ⟨q, rfl, ⟨_, SqL.of hq⟩, fun Da nDa => ?_⟩⟩
      have nDH : H Da = none := same_free s1 nDa
      refine lc_gen (J := Itl K q) (labs rs).length (fun i H' => H' Da = some (.lst ((((labs rs).take i).filter pf).map V.str)) ∧ Same H1 H') ⟨upd_same, same_upd nDa⟩ (fun i H' hi ⟨_, sm⟩ => ⟨_, .str (labs rs)[i], SqL.of (sm _ _ hq), by rw [List.getElem?_map, List.getElem?_eq_getElem hi]; rfl⟩)
        (fun H' ⟨_, sm⟩ => ⟨_, SqL.of (sm _ _ hq), by rw [List.length_map]; exact Nat.le_refl _⟩) (fun i H' v H'' hi ⟨hD, sm⟩ yl => ?_) (fun H' ⟨hD, sm⟩ => ⟨Da, rfl, by rw [hD, List.take_of_length_le (Nat.le_refl _)], nDH, s1.trans sm⟩)
      obtain ⟨rfl, hx⟩ := yl
      have hx := hx _ (SqL.of (sm _ _ hq))
      rw [List.getElem?_map, List.getElem?_eq_getElem hi] at hx
      obtain rfl := Option.some.inj hx
      obtain ⟨m, hm, _⟩ := many_lab ok (List.getElem_mem hi)
      refine ⟨rfl, _, rfl, _, rfl, l, (labs rs)[i], rs, m, rfl, hR.same (s1.trans sm), ok, hm, fun H3 s3 => ⟨_, rfl, m, n, rfl, rfl, _, rfl, ?_⟩⟩
      have hpf : pf (labs rs)[i] = decide (m < n) := by show decide (manyD rs (labs rs)[i] < n) = _; rw [manyD_of hm]
      have tk : ((labs rs).take (i + 1)).filter pf = ((labs rs).take i).filter pf ++ (if decide (m < n) = true then [(labs rs)[i]] else []) := by
        rw [List.take_succ_eq_append_getElem hi, List.filter_append, List.filter_cons, hpf]
        rfl
      have hD3 := s3 _ _ hD
      refine ite2 (fun c => ?_) (fun c => ?_)
      · rw [if_pos c] at tk
        refine ⟨_, rfl, _, hD3, ?_, ?_, fun b o e => by rw [upd_ne (ne_of_none e nDa)]; exact s3 _ _ (sm _ _ e)⟩
        · rw [List.length_map, sizeLine_eq]
          have := List.length_filter_le pf ((labs rs).take i)
          have := List.length_take_le i (labs rs)
          omega
        · rw [upd_same, tk, List.map_append]
          rfl
      · rw [if_neg c, List.append_nil] at tk
        exact ⟨by rw [tk]; exact hD3, sm.trans s3⟩
    rintro σ' H1 ⟨ft, rfl, hf, nft, s1⟩
    have hfs : ∀ z ∈ (labs rs).filter pf, ∃ m, many rs z = some m ∧ 0 ≤ m ∧ m ≤ 2 ∧ m < n := fun z hz => by
      obtain ⟨h1, h2⟩ := List.mem_filter.mp hz
      obtain ⟨m, hm, m0, m2⟩ := many_lab ok h1
      have h2 : decide (manyD rs z < n) = true := h2
      rw [manyD_of hm] at h2
      exact ⟨m, hm, m0, m2, of_decide_eq_true h2⟩
    have hlf : ((labs rs).filter pf).length ≤ 15 := Nat.le_trans (List.length_filter_le _ _) hla
    have hne : (labs rs).filter pf ≠ [] := by
      obtain ⟨r, hr, r0⟩ := ok.leaf
      have hm := many_mem ok (r := r) (List.mem_append_left _ hr)
      have : r.1 ∈ (labs rs).filter pf := List.mem_filter.mpr ⟨List.mem_map_of_mem (List.mem_append_left _ hr), by show decide (manyD rs r.1 < n) = true; rw [manyD_of hm, r0]; exact decide_eq_true (by omega)⟩
      intro e
      rw [e] at this
      cases this
    generalize (labs rs).filter pf = fs at hf hfs hlf hne
    -- what grows
    refine ⟨fun σ H' => ∃ (mr : Addr) (ms : List Str), σ = [some (.ref st), some (.ref l), some (.int n), some (.ref ft), some (.ref mr), none, none, none, none] ∧ H' mr = some (.lst (ms.map V.str)) ∧ (∀ z ∈ ms, z ∈ fs) ∧ ms.length ≤ 15 ∧ H mr = none ∧ Same H1 H', ?_, ?_⟩
    · refine ⟨_, rfl, ft, rfl, ⟨_, SqL.of hf⟩, fun Da nDa => ?_⟩
      have nDH : H Da = none := same_free s1 nDa
      refine lc_gen (J := Itl K ft) fs.length (fun i H' => ∃ ms : List Str, H' Da = some (.lst (ms.map V.str)) ∧ (∀ z ∈ ms, z ∈ fs) ∧ ms.length ≤ i ∧ Same H1 H') ⟨[], upd_same, (fun z hz => by cases hz), Nat.le_refl _, same_upd nDa⟩ (fun i H' hi ⟨_, _, _, _, sm⟩ => ⟨_, .str fs[i], SqL.of (sm _ _ hf), by rw [List.getElem?_map, List.getElem?_eq_getElem hi]; rfl⟩)
        (fun H' ⟨_, _, _, _, sm⟩ => ⟨_, SqL.of (sm _ _ hf), by rw [List.length_map]; exact Nat.le_refl _⟩) (fun i H' v H'' hi ⟨ms, hD, hms, hml, sm⟩ yl => ?_) (fun H' ⟨ms, hD, hms, hml, sm⟩ => ⟨Da, ms, rfl, hD, hms, by omega, nDH, sm⟩)
      obtain ⟨rfl, hx⟩ := yl
      have hx := hx _ (SqL.of (sm _ _ hf))
      rw [List.getElem?_map, List.getElem?_eq_getElem hi] at hx
      obtain rfl := Option.some.inj hx
      obtain ⟨m, hm, _⟩ := hfs _ (List.getElem_mem hi)
      refine ⟨rfl, _, rfl, _, rfl, l, fs[i], rs, m, rfl, hR.same (s1.trans sm), ok, hm, fun H3 s3 => ⟨m, 0, rfl, rfl, _, rfl, ?_⟩⟩
      have hD3 := s3 _ _ hD
      have no : ∃ ms : List Str, H3 Da = some (.lst (ms.map V.str)) ∧ (∀ z ∈ ms, z ∈ fs) ∧ ms.length ≤ i + 1 ∧ Same H1 H3 := ⟨ms, hD3, hms, by omega, sm.trans s3⟩
      refine ite2 (fun _ => ?_) (fun _ => iteF no)
      refine ⟨_, rfl, rfl, _, rfl, ?_⟩
      refine ite2 (fun _ => ?_) (fun _ => no)
      refine ⟨_, rfl, _, hD3, by rw [List.length_map, sizeLine_eq]; omega, ms ++ [fs[i]], by rw [upd_same, List.map_append]; rfl, fun z hz => ?_, by simp; omega, fun b o e => by rw [upd_ne (ne_of_none e nDa)]; exact s3 _ _ (sm _ _ e)⟩
      rcases List.mem_append.mp hz with h | h
      · exact hms z h
      · rw [List.mem_singleton.mp h]; exact List.getElem_mem hi
    rintro σ' H2 ⟨mr, ms, rfl, hm, hms, hml, nmr, s2⟩
    have s12 := s1.trans s2
    have hst2 := hst.same s12
    -- which of the two
    refine ⟨fun σ H' => ∃ (g : Addr) (gs : List Str) (v4 : Option V), σ = [some (.ref st), some (.ref l), some (.int n), some (.ref g), v4, none, none, none, none] ∧ H' g = some (.lst (gs.map V.str)) ∧ gs ≠ [] ∧ gs.length ≤ 15 ∧ (∀ z ∈ gs, z ∈ fs) ∧ g ≠ st ∧ StAt (B + 1) H' st cl ∧ But st H H', ?_, ?_⟩
    · have fst : ft ≠ st := (hst.new nft).1
      have mst : mr ≠ st := (hst.new nmr).1
      refine ⟨_, rfl, (by show 0 ≤ sizeLine; decide), fun p np => ⟨mr, p, _, rfl, rfl, SqL.of (by rw [upd_ne (ne_of_none hm np)]; exact hm), SqL.of upd_same, _, rfl, ?_⟩⟩
      have s3 : Same H2 (upd H2 p (.lst [])) := same_upd np
      generalize upd H2 p (.lst []) = H3 at s3
      have stay : ∀ H4, But st H3 H4 → StAt (B + 1) H4 st cl → ∃ (g : Addr) (gs : List Str) (v4 : Option V), ([some (V.ref st), some (.ref l), some (.int n), some (.ref ft), some (.ref mr), none, none, none, none] : L2.St) = [some (.ref st), some (.ref l), some (.int n), some (.ref g), v4, none, none, none, none] ∧ H4 g = some (.lst (gs.map V.str)) ∧ gs ≠ [] ∧ gs.length ≤ 15 ∧ (∀ z ∈ gs, z ∈ fs) ∧ g ≠ st ∧ StAt (B + 1) H4 st cl ∧ But st H H4 :=
        fun H4 b4 t4 => ⟨ft, fs, _, rfl, b4 _ _ (s3 _ _ (s2 _ _ hf)) fst, hne, hlf, fun z hz => hz, fst, t4, (Same.but (s12.trans s3)).trans b4⟩
      refine ite2 (fun c => ?_) (fun _ => ?_)
      · refine ⟨_, rfl, st, 8, B, cl, rfl, by decide, by decide, hst2.same s3, by omega, fun d H4 _ _ hs4 hb4 => ⟨d, 0, rfl, rfl, _, rfl, ite2 (fun _ => ⟨_, rfl, ?_⟩) (fun _ => stay H4 hb4 hs4)⟩⟩
        refine ⟨mr, ms, _, rfl, hb4 _ _ (s3 _ _ hm) mst, ?_, hml, hms, mst, hs4, (Same.but (s12.trans s3)).trans hb4⟩
        intro e
        rw [e] at c
        cases c
      · exact iteF (stay H3 .refl ((hst2.same s3).mono (by omega)))
    rintro σ' H3 ⟨g, gs, v4, rfl, hg, gne, gl, hgs, gst, hs3, hb3⟩
    have hgl : 0 < gs.length := List.length_pos_iff.mpr gne
    refine ⟨_, rfl, _, rfl, st, g, gs.map V.str, B + 1, cl, rfl, .inl hg, gst, by rw [List.length_map]; exact hgl, by rw [List.length_map]; omega, hs3, by omega, fun v H4 hv hs4 hb4 => ?_⟩
    obtain ⟨z, hz, rfl⟩ := List.mem_map.mp hv
    obtain ⟨m, hmz, m0, m2, mn⟩ := hfs z (hgs z hz)
    have hb := hb3.trans hb4
    refine ⟨_, rfl, _, rfl, l, z, rs, m, rfl, hR.but hst hb, ok, hmz, fun H5 s5 => ?_⟩
    have hs5 := hs4.same s5
    have hb5 := hb.trans (Same.but s5)
    have hR5 := hR.but hst hb5
    refine ⟨_, rfl, m, 2, rfl, rfl, _, rfl, ite2 (fun c => ?_) (fun c => ?_)⟩
    · obtain rfl : m = 2 := of_decide_eq_true c
      refine ⟨_, rfl, _, rfl, n, 2, rfl, rfl, st, n - 2, B + 1 + 1, cl, rfl, by omega, by omega, hs5, by omega, fun d H6 d0 d1 hs6 hb6 => ⟨1, d, rfl, rfl, ?_⟩⟩
      have hb06 := hb5.trans hb6
      refine ⟨_, rfl, _, rfl, _, rfl, st, l, 1 + d, rs, B + 1 + 1 + 1, cl, rfl, by omega, by omega, by omega, hR.but hst hb06, ok, hs6, by omega, fun v1 t1 H7 k1 i1 z1 hs7 hb7 => ?_⟩
      have hb07 := hb06.trans hb7
      refine ⟨_, rfl, _, rfl, _, rfl, _, rfl, _, rfl, n, 1, rfl, rfl, _, rfl, n - 1, 1 + d, rfl, rfl, st, l, n - 1 - (1 + d), rs, _, cl, rfl, by omega, by omega, by omega, hR.but hst hb07, ok, hs7, by omega, fun v2 t2 H8 k2 i2 z2 hs8 hb8 => ⟨(by show 3 ≤ sizeLine; decide), fun p np => ?_⟩⟩
      obtain ⟨pa, pc⟩ := hs8.new np
      refine k _ _ _ (new_tree np (cs := [t1, t2]) ⟨DAt.hold (.but hs7 hb8 fun _ h => h.elim) _ k1, k2, trivial⟩) (isT_two hmz i1 i2) ?_ ((hs8.mono (by omega)).put pa pc) ((hb07.trans hb8).trans (Same.but (same_upd np)))
      show ((1 + (1 + (sz t1 + (sz t2 + 0))) : Nat) : Int) ≤ _
      omega
    · have c : m ≠ 2 := fun e => c (decide_eq_true e)
      refine ⟨_, rfl, m, 0, rfl, rfl, _, rfl, ite2 (fun c0 => ?_) (fun c0 => ?_)⟩
      · obtain rfl : m = 0 := of_decide_eq_true c0
        refine ⟨_, rfl, (by show 1 ≤ sizeLine; decide), fun p np => ?_⟩
        obtain ⟨pa, pc⟩ := hs5.new np
        refine k _ _ _ (new_tree np (cs := []) trivial) (isT_leaf hmz) ?_ ((hs5.mono (by omega)).put pa pc) (hb5.trans (Same.but (same_upd np)))
        show ((1 + (1 + 0) : Nat) : Int) ≤ _
        omega
      · have c0 : m ≠ 0 := fun e => c0 (decide_eq_true e)
        obtain rfl : m = 1 := by omega
        refine ⟨_, rfl, _, rfl, _, rfl, _, rfl, n, 1, rfl, rfl, st, l, n - 1, rs, B + 1 + 1, cl, rfl, by omega, by omega, by omega, hR5, ok, hs5, by omega, fun v1 t1 H7 k1 i1 z1 hs7 hb7 => ⟨(by show 2 ≤ sizeLine; decide), fun p np => ?_⟩⟩
        obtain ⟨pa, pc⟩ := hs7.new np
        refine k _ _ _ (new_tree np (cs := [t1]) ⟨k1, trivial⟩) (isT_one hmz i1) ?_ ((hs7.mono (by omega)).put pa pc) ((hb5.trans hb7).trans (Same.but (same_upd np)))
        show ((1 + (1 + (sz t1 + 0)) : Nat) : Int) ≤ _
        omega
theorem c_tree {f : Addr} {fd : FuncData} (F : Def K mg "_law_tree" sTree f fd) (b : Binds K fd ["_law_state", "_law_rows_here", "_law_nodes"] []) (T : Blt4 mg) (C : Cal P w K mg base 1 "_law_take" spTake []) (CO : Cal P w K mg base 2 "_law_one" spOne [])
    (CL : Cal P w K mg base 1 "_law_labels" spLabels []) (CM : Cal P w K mg base 1 "_law_many" spMany []) : ∀ N : Nat, Cal P w K mg base (3 + N) "_law_tree" (spTree N) []
  | 0 => by
    have no : ∀ {vs H Q E}, spTree 0 vs H Q E → False := fun ⟨_, _, n, _, _, _, _, h1, h2, _⟩ => by omega
    exact cal0 F b .nil scTree (fun vs H Q E h => (no h).elim) (fun cdv A outer s H vs Q E hr h => (no h).elim)
  | N + 1 => tree_step F b T (Nat.le_trans (by decide) (Nat.le_add_right 3 N)) C CO CL CM (c_tree F b T C CO CL CM N)
end
end K7

/-! for i, x in enumerate(a tuple); a walk over a list or a tuple -/
namespace XE
open PySem PySem.Spec PySem.W PyProof.Rows L2
theorem enum_new {v : Value} {o : Obj} {B0 : Heap → Prop} (B : Begins v o B0) :
    Meets (Builtin.«enumerate.__new__» ⟨[.type "enumerate", v], []⟩) (fun _ R s => B0 s.heap ∧ R (.ok (.ret (.ref (s.heap.push o).objs.size)))
      { s with heap := (s.heap.push o).push { cls := .type "enumerate", data := .fields #[.none, .bool false, .ref s.heap.objs.size, rawInt 0, .none, .none] } }) :=
  .of_wp fun prog w A R s hh => by
    obtain ⟨hp, ge, dr, tk, os⟩ := s
    obtain ⟨hb, hh⟩ := hh
    have hsb := sub_enumerate
    have go : ∀ {A' : Around} {E Q : Value → Shared → Prop}, Q (.ref hp.objs.size) ⟨hp.push o, ge, dr, tk, os⟩ → wpAny (model prog w) A' (pyIter v) Q E ⟨hp, ge, dr, tk, os⟩ := fun q => B.iter prog w _ _ ⟨hp, ge, dr, tk, os⟩ _ hb q
    wp_walk using go
    refine wpAny_stack_any fun st => wpAny_pure ?_
    split
    · rename_i cc _ _ _ _ _
      cases (cc == Value.type "enumerate") <;> (wp_walk using go; exact ⟨_, rfl, hh⟩)
    · wp_walk using go
      exact ⟨_, rfl, hh⟩
section
variable {prog : Program} {w : World} {A : Around} {E : Value → Shared → Prop} {s : Shared}
theorem enum_call {v : Value} {o : Obj} {B0 : Heap → Prop} {Q : Value → Shared → Prop} (B : Begins v o B0) (hb : B0 s.heap)
    (hq : ∀ h', IsEnum h' (s.heap.objs.size + 1) s.heap.objs.size 0 .none → h'.get? s.heap.objs.size = some o → (∀ b ob, s.heap.get? b = some ob → h'.get? b = some ob) → Q (.ref (s.heap.objs.size + 1)) { s with heap := h' }) :
    wpAny (model prog w) A (call (.type "enumerate") [v]) Q E s := by
  refine callType_new F.called_enumerate (by decide) (F.typeCall_enumerate_1 _) (F.newCall_enumerate_1 _) (fun obj => F.args_object_init_2 obj _) F.entry_enumerate_new (enum_new B) ⟨hb, ?_⟩
  have z1 : (s.heap.push o).objs.size = s.heap.objs.size + 1 := Heap.size_push ..
  show _ ∧ _
  rw [z1]
  have z2 := Heap.get?_push_size (s.heap.push o) (o := { cls := .type "enumerate", data := .fields #[.none, .bool false, .ref s.heap.objs.size, rawInt 0, .none, .none] }) rfl
  rw [z1] at z2
  exact ⟨⟨_, z2, rfl⟩, hq _ z2 (Heap.get?_push_of_some _ (Heap.get?_push_size _ B.free)) fun b ob x => Heap.get?_push_of_some _ (Heap.get?_push_of_some _ x)⟩
theorem enum_endT {e it t : Addr} {i : Nat} {c : Int} {items : Array Value} {old : Value} {Q : Option Value → Shared → Prop} (h0 : A.in1.handled = none) (k1 : IsEnum s.heap e it c old) (k2 : s.heap.IsTupleIter it t i) (pt : s.heap.IsTuple t items) (hx : items[i]? = none)
    (hq : ∀ h', Heap.ExtBut it s.heap h' → Q none { s with heap := h' }) : wpAny (model prog w) A (pyNext (.ref e)) Q E s := by
  have ty : s.TypeIs (.ref e) "enumerate" := ⟨_, k1, rfl⟩
  unfold pyNext
  refine wpAny_bind (wpAny_attempt (wpAny_callSpecial?_slot (name := Str.ofString "__next__") ty F.slot_enumerate_next (wpAny_call_entry F.slot_enumerate_next ty F.entry_enumerate_next ?_ (F.args_enumerate_next_1 _))))
  show wpAny _ _ (field (.ref e) 2 >>= _) _ _ _
  refine wpAny_bind (wpAny_field k1 rfl (x := .ref it) rfl ?_)
  refine wpAny_bind (wpAny_nextOf_tuple_end h0 k2 pt hx fun h' y he' hx' => ?_)
  obtain ⟨o, ho, hc⟩ := hx'
  exact wpAny_bind (wpAny_isInstance (T := "StopIteration") (b := true) ⟨o, ho, hc⟩ isSubtype_stop (wpAny_pure (hq _ he')))
end
/-- the tuple at a, each item in a new pair with its number -/
def IteT (K : PySem.W.Frag) (a : Addr) : It :=
  ⟨fun i H => ∃ (xs : List V) (x : V), SqT K H a xs ∧ xs[i]? = some x,
    fun i H v H' => ∃ T x, v = .ref T ∧ H T = none ∧ H' = upd H T (.tup [.int (i : Nat), x]) ∧ ∀ xs, SqT K H a xs → xs[i]? = some x,
    fun i H => ∃ xs : List V, SqT K H a xs ∧ xs.length ≤ i⟩
theorem turn_enumT {P : Program} {w : World} {K : PySem.W.Frag} {elts : List Expr} {kk : Nat} {tpos : Pos} (a e it : Addr) :
    Turn P w K (.Tuple elts kk tpos) (IteT K a) [e, it] e (fun i h => (∃ old, IsEnum h e it ((i : Nat) : Int) old) ∧ h.IsTupleIter it a i ∧ e ≠ it ∧ a ≠ it ∧ e ≠ a) where
  mem := by simp
  obj := fun i h st b hb => by
    obtain ⟨⟨old, k1⟩, ⟨o, ho, hc, hd⟩, _⟩ := st
    rcases List.mem_cons.mp hb with rfl | hb
    · exact ⟨_, k1, fun v q => nomatch q⟩
    · obtain rfl := List.mem_singleton.mp hb
      exact ⟨o, ho, fun v q => by rw [hd] at q; cases q⟩
  keep := fun i h h' st k => by
    obtain ⟨⟨old, k1⟩, k2, k3⟩ := st
    exact ⟨⟨old, k e (by simp) _ k1⟩, k2.at fun o q => k it (by simp) o q, k3⟩
  item := by
    intro X hP hw hK hc i pins s σ H E I hf st hg
    subst hP hw hK
    obtain ⟨⟨old, k1⟩, k2, k3, k4, k5⟩ := st
    obtain ⟨xs, x, hq, hx⟩ := hg
    obtain ⟨its, rv, pt, hz⟩ := I.tuple hq
    obtain ⟨u, hu, ru⟩ := rv.get hx
    have l1 : e < s.heap.objs.size := Heap.lt_size k1
    have l2 : it < s.heap.objs.size := by obtain ⟨_, q, _⟩ := k2; exact Heap.lt_size q
    have lu : i < its.toArray.size := by rw [List.size_toArray]; exact (List.getElem?_eq_some_iff.mp hu).1
    refine wpAny_pyNext_enum_itemD (Draws.tuple (A := X.A.in1) (show X.A.in1.handled = none from I.ok.hd hc) it a k4 its.toArray) k1 ⟨k2, pt⟩ lu k3 (by simp [k3, k5]) fun y h' tk hy ho st' hT hsz hk => ?_
    obtain rfl : u = y := by
      have : its.toArray[i]? = some u := by simpa using hu
      rw [this] at hy
      exact Option.some.inj hy
    refine ⟨_, rfl, wpAny_letOwnedTupleGo_enum (s := { s with heap := h', toks := tk + 1 }) ho fun h'' he' sb => ?_⟩
    have hT2 : h''.get? s.heap.objs.size = some { cls := .type "tuple", data := .seq #[.int i tk, u] } := (sb.2 _ (Nat.ne_of_gt l1)).trans hT
    have nw : ObjOk X.prog X.w (upd H s.heap.objs.size (.tup [.int (i : Nat), x])) h'' s.heap.objs.size (.tup [.int (i : Nat), x]) :=
      ⟨by show 2 ≤ sizeLine; decide, [.int i tk, u], .cons ⟨_, rfl⟩ (.cons ru .nil), ⟨_, hT2, rfl, _, rfl⟩⟩
    have I1 : Inv X pins σ (upd H s.heap.objs.size (.tup [.int (i : Nat), x])) { s with heap := h'', toks := tk + 1 } :=
      I.turnedNew (ch := [e, it]) (fun b ob hb q => (sb.2 b (fun z => hb (by simp [z]))).trans (hk b ob (fun z => hb (by simp [z])) (fun z => hb (by simp [z])) q)) hf (Nat.le_refl _) nw
    refine ⟨.ref s.heap.objs.size, _, I1, rfl, ⟨_, x, rfl, I.hok.fresh (Nat.le_refl _), rfl, fun ys hy => by rw [I.tuple_inj hy hq]; exact hx⟩, ⟨⟨u, ?_⟩, st'.1.at fun o q => (sb.2 it (Ne.symm k3)).trans q, k3, k4, k5⟩, fun b hb => ?_⟩
    · rw [show ((i + 1 : Nat) : Int) = (i : Int) + 1 by omega]
      exact he'
    · have hb' : b < s.heap.objs.size := by
        rcases List.mem_cons.mp hb with rfl | hb
        · exact l1
        · obtain rfl := List.mem_singleton.mp hb
          exact l2
      rw [upd_ne (Nat.ne_of_lt hb')]
      exact (hf b hb).1
  done := by
    intro X hP hw hK hc i pins s σ H E I hf st hg
    subst hP hw hK
    obtain ⟨⟨old, k1⟩, k2, k3, k4, k5⟩ := st
    obtain ⟨xs, hq, hx⟩ := hg
    obtain ⟨its, rv, pt, hz⟩ := I.tuple hq
    obtain ⟨f0, f1, f2, f3, f4, f5⟩ := hf it (by simp)
    have hl := rv.length
    exact enum_endT (show X.A.in1.handled = none from I.ok.hd hc) k1 k2 pt (by simp; omega) fun h' eb => ⟨rfl, I.turned (t' := s.toks) (fun b o hb q => eb b o hb q) f0 f1 f3 f4 f5⟩
  self := fun A i s Q E st h => by
    obtain ⟨⟨_, k1⟩, _⟩ := st
    exact wpAny_pyIter_enum k1 h
def iEnumT (K : PySem.W.Frag) (ta : TA) : TI := fun σ H R => ta σ H fun vs H1 => ∃ a xs, vs = [.ref a] ∧ SqT K H1 a xs ∧ R (IteT K a) H1
theorem pi_enumT {X : Cx} {e : Expr} {ta : TA} {p pos tpos : Pos} {elts : List Expr} {kk : Nat} (hg : Gl X "enumerate") (hm : X.mg "enumerate" = none) (ha : PA X [e] ta) (hs : starEach [e] X.env = [(false, eval e X.env)] := by rfl) :
    PI X (.Tuple elts kk tpos) (.Call (.Name "enumerate" p) [e] [] pos) (iEnumT X.K ta) := by
  refine ⟨fun pins s σ H R I h => ?_⟩
  refine Call_ (ld_blt I hg hm boot_enumerate (PyProof.Rows.callWith_type1 (thn (ha.run pos pins s σ H _ I h) fun us s1 ⟨vs, H1, I1, r1, q1⟩ => ?_) hs rfl))
  obtain ⟨a, xs, rfl, hq, q⟩ := q1
  cases r1 with
  | cons r rr =>
    cases rr
    cases r
    obtain ⟨its, rv, pt, hz⟩ := I1.tuple hq
    refine enum_call (begins_tuple a its.toArray) pt fun h' he hit hk => wpAny_pyIter_enum he ?_
    have I2 : Inv X pins σ H1 { s1 with heap := h' } := I1.kept (t' := s1.toks) hk
    have al : a < s1.heap.objs.size := by obtain ⟨_, q, _⟩ := pt; exact Heap.lt_size q
    refine ⟨s1.heap.objs.size + 1, [s1.heap.objs.size + 1, s1.heap.objs.size], _, _, H1, rfl, I2, turn_enumT a (s1.heap.objs.size + 1) s1.heap.objs.size, ⟨⟨.none, he⟩, ⟨_, hit, rfl, rfl⟩, Nat.succ_ne_self _, Nat.ne_of_lt al, Ne.symm (Nat.ne_of_lt (Nat.lt_succ_of_lt al))⟩, fun b hb => ?_, q⟩
    have hle : s1.heap.objs.size ≤ b := by
      rcases List.mem_cons.mp hb with rfl | hb
      · exact Nat.le_add_right _ _
      · obtain rfl := List.mem_singleton.mp hb
        exact Nat.le_refl _
    exact I1.fpOk hle (I1.hok.fresh hle)
theorem PI.or {X : Cx} {tg e : Expr} {wi wi' : TI} (h : PI X tg e wi) (h' : PI X tg e wi') : PI X tg e (fun σ H R => wi σ H R ∨ wi' σ H R) := ⟨fun pins s σ H R I q => q.elim (h.run pins s σ H R I) (h'.run pins s σ H R I)⟩
end XE

namespace K7
open PySem PySem.Spec PyProof.Rows L2 C8 XE
def InT : D → List Int → Prop
  | _, [] => True
  | .sq cs, k :: p => 0 ≤ k ∧ ∃ c, cs[k.toNat + 1]? = some c ∧ InT c p
  | _, _ :: _ => False
def PlV (H : Hp) (v : V) (p : List Int) : Prop := ∃ a, v = .ref a ∧ H a = some (.tup (p.map V.int))
theorem PlV.same {H H' : Hp} (s : Same H H') {v : V} {p : List Int} (h : PlV H v p) : PlV H' v p := by
  obtain ⟨a, e, q⟩ := h
  exact ⟨a, e, s _ _ q⟩
/-- a tree: its label, its children -/
theorem isT_inv {rs : List Rw} {t : D} (h : isT rs t = true) : ∃ z cs m, t = .sq (.fl (.str z) :: cs) ∧ many rs z = some m ∧ (cs.length : Int) = m ∧ isTs rs cs = true := by
  unfold isT at h
  split at h
  · rename_i z cs
    split at h
    · rename_i m hm
      rw [Bool.and_eq_true] at h
      exact ⟨z, cs, m, rfl, hm, of_decide_eq_true h.1, h.2⟩
    · cases h
  · cases h
theorem isTs_get {rs : List Rw} : ∀ {cs : List D}, isTs rs cs = true → ∀ {i : Nat} {c : D}, cs[i]? = some c → isT rs c = true
  | [], _, i, c, e => by cases e
  | x :: xs, h, i, c, e => by
    rw [isTs, Bool.and_eq_true] at h
    cases i with
    | zero => cases e; exact h.1
    | succ i => exact isTs_get h.2 e
theorem szs_get : ∀ {cs : List D} {i : Nat} {c : D}, cs[i]? = some c → sz c ≤ szs cs
  | [], i, c, e => by cases e
  | x :: xs, i, c, e => by
    rw [szs]
    cases i with
    | zero => cases e; omega
    | succ i => have := szs_get (cs := xs) (i := i) e; omega
theorem szs_app : ∀ (a b : List D), szs (a ++ b) = szs a + szs b
  | [], b => by rw [List.nil_append, szs, Nat.zero_add]
  | x :: a, b => by rw [List.cons_append, szs, szs, szs_app a b, Nat.add_assoc]
theorem sz_pos : ∀ d : D, 1 ≤ sz d
  | .fl _ => Nat.le_refl _
  | .emp => Nat.le_refl _
  | .sq xs => by rw [sz]; omega
theorem len_szs : ∀ cs : List D, cs.length ≤ szs cs
  | [] => Nat.le_refl _
  | x :: xs => by rw [szs, List.length_cons]; have := len_szs xs; have := sz_pos x; omega
theorem DAts.len {F : Addr → Prop} {H : Hp} : ∀ {ds : List D} {vs : List V}, DAts F H vs ds → vs.length = ds.length
  | [], [], _ => rfl
  | d :: ds, v :: vs, ⟨_, t⟩ => congrArg (· + 1) (DAts.len t)
  | [], _ :: _, k => (show False from k).elim
  | _ :: _, [], k => (show False from k).elim
theorem DAts.get {F : Addr → Prop} {H : Hp} : ∀ {ds : List D} {vs : List V}, DAts F H vs ds → ∀ {i : Nat} {v : V}, vs[i]? = some v → ∃ d, ds[i]? = some d ∧ DAt F H v d
  | [], [], _, i, v, e => by cases e
  | d :: ds, v :: vs, ⟨k, t⟩, i, v', e => by
    cases i with
    | zero => cases e; exact ⟨d, rfl, k⟩
    | succ i => exact DAts.get t e
  | [], _ :: _, k, _, _, _ => (show False from k).elim
  | _ :: _, [], k, _, _, _ => (show False from k).elim
/-- a tree's cell -/
theorem DAt.tree {rs : List Rw} {H : Hp} {v : V} {t : D} (h : DAt nol H v t) (ht : isT rs t = true) : ∃ a z cvs cs m, v = .ref a ∧ H a = some (.tup (.str z :: cvs)) ∧ t = .sq (.fl (.str z) :: cs) ∧ DAts nol H cvs cs ∧ many rs z = some m ∧ (cs.length : Int) = m ∧ isTs rs cs = true := by
  obtain ⟨z, cs, m, rfl, hm, hl, hs⟩ := isT_inv ht
  obtain ⟨a, vs, rfl, q, _, k⟩ := h
  have q : H a = some (.tup vs) := q.elim id fun e => e.1.elim
  cases vs with
  | nil => exact (show False from k).elim
  | cons v0 cvs =>
    obtain ⟨⟨e, _⟩, k⟩ := k
    subst e
    exact ⟨a, z, cvs, cs, m, rfl, q, rfl, k, hm, hl, hs⟩
theorem paired_app {α β : Type} {R : α → β → Prop} {a c : List α} {b d : List β} (h : Paired R a b) (h' : Paired R c d) : Paired R (a ++ c) (b ++ d) := by
  induction h with
  | nil => exact h'
  | cons q _ ih => exact .cons q ih
theorem not_whole {n : Nat} {i : Int} {o : Option Int} (h : 0 < i) (hn : 0 < n) : ¬ (HT.sIx n 0 (some i) = 0 ∧ HT.sIx n n o = n) := by
  intro z
  have z := z.1
  unfold HT.sIx at z
  dsimp only at z
  rw [if_neg (by omega)] at z
  omega
theorem not_whole_hi {n : Nat} {i : Int} {o : Option Int} (h : 0 ≤ i) (hn : i < n) : ¬ (HT.sIx n 0 o = 0 ∧ HT.sIx n n (some i) = n) := by
  intro z
  have z := z.2
  unfold HT.sIx at z
  dsimp only at z
  rw [if_neg (by omega)] at z
  omega
theorem DAts.app {F : Addr → Prop} {H : Hp} : ∀ {ds es : List D} {vs us : List V}, DAts F H vs ds → DAts F H us es → DAts F H (vs ++ us) (ds ++ es)
  | [], es, [], us, _, h => h
  | d :: ds, es, v :: vs, us, ⟨k, t⟩, h => ⟨k, DAts.app t h⟩
  | [], _, _ :: _, _, k, _ => (show False from k).elim
  | _ :: _, _, [], _, k, _ => (show False from k).elim
theorem DAts.take {F : Addr → Prop} {H : Hp} : ∀ {ds : List D} {vs : List V} (n : Nat), DAts F H vs ds → DAts F H (vs.take n) (ds.take n)
  | _, _, 0, _ => trivial
  | [], [], n + 1, _ => trivial
  | d :: ds, v :: vs, n + 1, ⟨k, t⟩ => ⟨k, DAts.take n t⟩
  | [], _ :: _, _ + 1, k => (show False from k).elim
  | _ :: _, [], _ + 1, k => (show False from k).elim
theorem DAts.drop {F : Addr → Prop} {H : Hp} : ∀ {ds : List D} {vs : List V} (n : Nat), DAts F H vs ds → DAts F H (vs.drop n) (ds.drop n)
  | _, _, 0, k => k
  | [], [], n + 1, _ => trivial
  | d :: ds, v :: vs, n + 1, ⟨_, t⟩ => DAts.drop n t
  | [], _ :: _, _ + 1, k => (show False from k).elim
  | _ :: _, [], _ + 1, k => (show False from k).elim
end K7

namespace K7
open PySem PySem.Spec PyProof.Rows L2 C8 XE
def isSq : D → Bool
  | .sq _ => true
  | _ => false
def isSt : D → Bool
  | .fl (.str _) => true
  | _ => false
theorem d_ty {K : PySem.W.Frag} {F : Addr → Prop} {H : Hp} {v : V} : ∀ {d : D}, DAt F H v d → ∃ T, (∀ H', Same H H' → TyX K H' v (.type T)) ∧ PySem.W.kitAny K (.type T) [.type "list", .type "tuple"] = some (isSq d) ∧ PySem.W.kitOne K (.type T) (.type "str") = some (isSt d) := by
  have z : ∀ T ∈ ["NoneType", "bool", "int", "str", "dict", "list", "tuple"], kitB T "list" = some (T == "list") ∧ kitB T "tuple" = some (T == "tuple") ∧ kitB T "str" = some (T == "str") := by decide +kernel
  have mk : ∀ (T : String) (b c : Bool), T ∈ ["NoneType", "bool", "int", "str", "dict", "list", "tuple"] → (T == "list" || T == "tuple") = b → (T == "str") = c → PySem.W.kitAny K (.type T) [.type "list", .type "tuple"] = some b ∧ PySem.W.kitOne K (.type T) (.type "str") = some c := by
    intro T b c hT e1 e2
    obtain ⟨h1, h2, h3⟩ := z T hT
    refine ⟨kitAny_cons (kit_ty h1) (fun e => ?_) (fun e => ?_), by rw [kit_ty h3, e2]⟩
    · rw [e, Bool.false_or] at e1
      exact kitAny_cons (b := (T == "tuple")) (kit_ty h2) (fun e' => by rw [← e1, e']; exact kitAny_nil) fun e' => by rw [← e1, e']
    · rw [e] at e1
      rw [← e1]; rfl
  intro d h
  cases d with
  | fl x =>
    obtain ⟨rfl, fx⟩ := h
    cases v with
    | non => exact ⟨"NoneType", fun _ _ => .base .non, mk _ _ _ (by decide) rfl rfl⟩
    | bl b => exact ⟨"bool", fun _ _ => .base (.bl b), mk _ _ _ (by decide) rfl rfl⟩
    | int i => exact ⟨"int", fun _ _ => .base (.int i), mk _ _ _ (by decide) rfl rfl⟩
    | str z => exact ⟨"str", fun _ _ => .base (.str z), mk _ _ _ (by decide) rfl rfl⟩
    | _ => cases fx
  | emp =>
    obtain ⟨a, rfl, q⟩ := h
    exact ⟨"dict", fun H' s => .base (.dK (s _ _ q)), mk _ _ _ (by decide) rfl rfl⟩
  | sq xs =>
    obtain ⟨a, vs, rfl, q, _⟩ := h
    rcases q with q | ⟨_, q⟩
    · exact ⟨"tuple", fun H' s => .base (.tup (s _ _ q)), mk _ _ _ (by decide) rfl rfl⟩
    · exact ⟨"list", fun H' s => .base (.lst (s _ _ q)), mk _ _ _ (by decide) rfl rfl⟩
theorem szs_take_succ {xs : List D} {i : Nat} (h : i < xs.length) : szs (xs.take (i + 1)) = szs (xs.take i) + sz xs[i] := by
  rw [List.take_succ_eq_append_getElem h, szs_app]
  rfl
theorem szs_take_le (xs : List D) (i : Nat) : szs (xs.take i) ≤ szs xs := by
  have : szs (xs.take i) + szs (xs.drop i) = szs xs := by rw [← szs_app, List.take_append_drop]
  omega
end K7

namespace K7
open PySem PySem.Spec PyProof.Rows L2 C8 XE
/-! _law_same of any data, the answer True -/
def sqo (t : Bool) (xs : List V) : HO := match t with
  | true => .tup xs
  | false => .lst xs
def nmo (t : Bool) : String := match t with
  | true => "tuple"
  | false => "list"
def EqN (H : Hp) : Nat → V → V → Prop
  | 0, _, _ => False
  | n + 1, x, y => (x = y ∧ Leaf H x) ∨ ∃ t a b xs ys, x = .ref a ∧ y = .ref b ∧ H a = some (sqo t xs) ∧ H b = some (sqo t ys) ∧ Paired (EqN H n) xs ys ∧ xs.length ≤ 100000
theorem EqN.same {H H' : Hp} (s : Same H H') : ∀ {n : Nat} {x y : V}, EqN H n x y → EqN H' n x y
  | 0, _, _, h => h
  | n + 1, x, y, h => h.imp (fun ⟨e, l⟩ => ⟨e, l.same s⟩) fun ⟨t, a, b, xs, ys, e1, e2, q1, q2, p, l⟩ => ⟨t, a, b, xs, ys, e1, e2, s _ _ q1, s _ _ q2, Paired.mono (fun _ _ h => EqN.same s h) p, l⟩
def spSameN (n : Nat) : Sp := fun vs H Q _ => ∃ x y : V, vs = [x, y] ∧ EqN H n x y ∧ ∀ H', Same H H' → Q (.bl true) H'
theorem sqo_seq {K : PySem.W.Frag} {H : Hp} {a : Addr} {t : Bool} {xs : List V} (h : H a = some (sqo t xs)) : SqL K H a xs ∨ SqT K H a xs := by
  cases t with
  | true => exact .inr (SqT.of h)
  | false => exact .inl (SqL.of h)
theorem sqo_ty {K : PySem.W.Frag} {H : Hp} {a : Addr} {t : Bool} {xs : List V} (h : H a = some (sqo t xs)) : TyX K H (.ref a) (.type (nmo t)) := by
  cases t with
  | true => exact .base (.tup h)
  | false => exact .base (.lst h)
theorem kit_sq {K : PySem.W.Frag} (t : Bool) : PySem.W.kitAny K (.type (nmo t)) [.type "list", .type "tuple"] = some true ∧ PySem.W.kitOne K (.type (nmo t)) (.type "list") = some (!t) ∧ PySem.W.kitOne K (.type (nmo t)) (.type "tuple") = some t := by
  have z : kitB "list" "list" = some true ∧ kitB "list" "tuple" = some false ∧ kitB "tuple" "list" = some false ∧ kitB "tuple" "tuple" = some true := by decide +kernel
  obtain ⟨z1, z2, z3, z4⟩ := z
  cases t with
  | true => exact ⟨kitAny_cons (kit_ty z3) (fun _ => kitAny_cons (kit_ty z4) (fun e => (nomatch e)) (fun _ => rfl)) (fun e => (nomatch e)), kit_ty z3, kit_ty z4⟩
  | false => exact ⟨kitAny_cons (kit_ty z1) (fun e => (nomatch e)) (fun _ => rfl), kit_ty z1, kit_ty z2⟩
abbrev NSa : List Str := ["_law_found", "_law_due", "_law_x", "_law_y"]
section
variable {P : Program} {w : World} {K : PySem.W.Frag} {mg : Str → Option Value} {base : Heap}
theorem same_step {k n : Nat} {f : Addr} {fd : FuncData} (F : Def K mg "_law_same" sSame f fd) (b : Binds K fd ["_law_found", "_law_due"] []) (T : Blt2 mg) (CS : Cal P w K mg base k "_law_same" (spSameN n) []) : Cal P w K mg base (k + 1) "_law_same" (spSameN (n + 1)) [] := by
  refine cal0 F b .nil scSame (fun vs H Q E h => ?_) (fun cdv A outer s H vs Q E hr h => ?_)
  · obtain ⟨x, y, rfl, _⟩ := h
    rfl
  · obtain ⟨x, y, rfl, hx, k⟩ := h
    have hu : (A.deeper (envOfC "_law_same" (fnScope sSame) s.heap.objs.size f cdv)).units + 64 < cLine := by have := hr.un; omega
    have nd := scSame.nd
    refine ⟨_, pss_cons (ps_if (pt_val (pe_callB call_isiT (by rfl) T.isi (by decide +kernel) (pa_cons (pv 1) (pa_cons (pe_tup (pa_cons (pe_bt "list" T.list) (pa_cons (pe_bt "tuple" T.tup) pa_nil))) pa_nil))))
        (pss_cons (ps_if (pw_or (pt_cmpR op_ne (pe_callB call_isi (by rfl) T.isi (by decide +kernel) (pa_cons (pv 0) (pa_cons (pe_bt "list" T.list) pa_nil))) (pe_callB call_isi (by rfl) T.isi (by decide +kernel) (pa_cons (pv 1) (pa_cons (pe_bt "list" T.list) pa_nil))) (nomark _))
            (pw_or1 (pt_cmpR op_ne (pe_callB call_isi (by rfl) T.isi (by decide +kernel) (pa_cons (pv 0) (pa_cons (pe_bt "tuple" T.tup) pa_nil))) (pe_callB call_isi (by rfl) T.isi (by decide +kernel) (pa_cons (pv 1) (pa_cons (pe_bt "tuple" T.tup) pa_nil))) (nomark _)))).pt pss_never pss_nil)
        (pss_one (ps_ret (pe_and (pe_cmpR op_eq (pe_callB call_len_seq (by rfl) T.len PySem.boot_len (pa_cons (pv 0) pa_nil)) (pe_callB call_len_seq (by rfl) T.len PySem.boot_len (pa_cons (pv 1) pa_nil)) (nomark _))
          (pe_one (pe_callB (cr_all rfl) (by rfl) T.all (by decide +kernel) (pa_cons (pe_lc (own := [("_law_x", 2), ("_law_y", 3)]) (g := gTup K 2 (gCons (gName 2) (gCons (gName 3) gNil))) (tt := tYes) rfl nd (RZ.pi_zipA (by rfl) T.zip (pa_cons (pv 0) (pa_cons (pv 1) pa_nil)))
            (blkOk_by (N := NSa) (sc := fnScope sSame) (by decide +kernel)) (fun _ _ _ _ _ => pg_tup rfl (pgs_cons (pg_name (i := 2) nd rfl (Or.inl rfl)) (pgs_cons (pg_name (i := 3) nd rfl (Or.inl rfl)) pgs_nil))) (fun _ _ _ _ _ => pts_nil)
            (fun _ _ _ _ _ => pe_c CS hr (Nat.le_refl _) (by rfl) (pa_cons (pv 2) (pa_cons (pv 3) pa_nil)))) pa_nil))))))) pss_nil)
      (pss_cons (ps_if (pt_val (pe_callB call_isi (by rfl) T.isi (by decide +kernel) (pa_cons (pv 1) (pa_cons (pe_bt "int" T.int) pa_nil))))
          (pss_one (ps_ret (pe_and (pe_callB call_isi (by rfl) T.isi (by decide +kernel) (pa_cons (pv 0) (pa_cons (pe_bt "int" T.int) pa_nil)))
            (pe_and (pe_cmpR op_eq (pe_callB call_isi (by rfl) T.isi (by decide +kernel) (pa_cons (pv 0) (pa_cons (pe_bt "bool" T.boo) pa_nil))) (pe_callB call_isi (by rfl) T.isi (by decide +kernel) (pa_cons (pv 1) (pa_cons (pe_bt "bool" T.boo) pa_nil))) (nomark _))
              (pe_one (pe_cmpR op_eq (pv 0) (pv 1) (nomark _))))))) pss_nil)
      (pss_one (ps_ret (pe_and (pe_cmpR op_isBl (pe_callB call_isiT (by rfl) T.isi (by decide +kernel) (pa_cons (pv 0) (pa_cons (pe_tup (pa_cons (pe_bt "int" T.int) (pa_cons (pe_bt "list" T.list) (pa_cons (pe_bt "tuple" T.tup) pa_nil)))) pa_nil))) pe_bl (nomark _))
        (pe_one (pe_cmpR (op_eq.or (op_eqV hu)) (pv 0) (pv 1) (nomark _))))))), ?_⟩
    rcases hx with ⟨rfl, hx⟩ | ⟨t, a, c, xs, ys, rfl, rfl, ha, hc, hp, hl⟩
    · obtain ⟨Ty, hT, ty, hs⟩ := leaf_ty (K := K) hx
      obtain ⟨k1, k2, k3, k4⟩ := kitLT (K := K) hT
      refine ⟨_, rfl, (by show 2 ≤ sizeLine; decide), fun p np => ⟨x, p, [.ty "list", .ty "tuple"], _, _, false, rfl, upd_same, .cons (.ty _) (.cons (.ty _) .nil), ty _ (same_upd np), k1, false, rfl, iteF ?_⟩⟩
      have s1 : Same H (upd H p (.tup [.ty "list", .ty "tuple"])) := same_upd np
      refine ⟨_, rfl, x, .ty "int", _, _, _, rfl, .ty _, ty _ s1, k3, _, rfl, ite2 (fun hi => ?_) (fun hi => ?_)⟩
      · have hsc : scal x x = true := by
          rcases hs with z | ⟨z, _⟩
          · exact z
          · rw [z] at hi
            cases hi
        refine ⟨_, rfl, x, .ty "int", _, _, _, rfl, .ty _, ty _ s1, k3, _, rfl, iteBt hi ?_⟩
        refine ⟨_, rfl, x, .ty "bool", _, _, _, rfl, .ty _, ty _ s1, k4, _, rfl, x, .ty "bool", _, _, _, rfl, .ty _, ty _ s1, k4, rfl, _, rfl, iteBt (decide_eq_true rfl) ?_⟩
        refine ⟨_, rfl, _, rfl, hsc, ?_⟩
        rw [decide_eq_true rfl]
        exact k _ s1
      · have hi : (Ty == "int" || Ty == "bool") = false := by simpa using hi
        rw [hi] at k2
        refine ⟨_, rfl, (by show 3 ≤ sizeLine; decide), fun p2 np2 => ?_⟩
        have s2 : Same H (upd (upd H p (.tup [.ty "list", .ty "tuple"])) p2 (.tup [.ty "int", .ty "list", .ty "tuple"])) := s1.trans (same_upd np2)
        refine ⟨x, p2, [.ty "int", .ty "list", .ty "tuple"], _, _, false, rfl, upd_same, .cons (.ty _) (.cons (.ty _) (.cons (.ty _) .nil)), ty _ s2, k2, false, false, rfl, rfl, _, rfl, iteBt (decide_eq_true rfl) ?_⟩
        refine ⟨_, rfl, _, rfl, ?_⟩
        rcases hs with hsc | ⟨_, a, kvs, rfl, e, dk⟩
        · refine .inl ⟨hsc, ?_⟩
          rw [decide_eq_true rfl]
          exact k _ s2
        · refine .inr ⟨1, by decide, .inr ⟨a, a, kvs, kvs, rfl, rfl, s2 _ _ e, s2 _ _ e, rfl, fun p hp => ⟨p.2, (dk p hp).1, .inl ⟨rfl, (dk p hp).2⟩⟩⟩, k _ s2⟩
    · obtain ⟨k1, k2, k3⟩ := kit_sq (K := K) t
      have hlen := Paired.length hp
      refine ⟨_, rfl, (by show 2 ≤ sizeLine; decide), fun p np => ⟨_, p, [.ty "list", .ty "tuple"], _, _, true, rfl, upd_same, .cons (.ty _) (.cons (.ty _) .nil), sqo_ty (same_upd np _ _ hc), k1, true, rfl, iteT ?_⟩⟩
      have s1 : Same H (upd H p (.tup [.ty "list", .ty "tuple"])) := same_upd np
      generalize upd H p (.tup [.ty "list", .ty "tuple"]) = H1 at s1
      have ha1 := s1 _ _ ha
      have hc1 := s1 _ _ hc
      refine ⟨_, rfl, _, .ty "list", _, _, _, rfl, .ty _, sqo_ty ha1, k2, _, rfl, _, .ty "list", _, _, _, rfl, .ty _, sqo_ty hc1, k2, rfl, _, rfl, iteBf (by rw [decide_eq_true rfl]; rfl) ?_⟩
      refine ⟨_, rfl, _, .ty "tuple", _, _, _, rfl, .ty _, sqo_ty ha1, k3, _, rfl, _, .ty "tuple", _, _, _, rfl, .ty _, sqo_ty hc1, k3, rfl, _, rfl, iteBf (by rw [decide_eq_true rfl]; rfl) ?_⟩
      refine ⟨_, rfl, a, xs, rfl, sqo_seq ha1, _, rfl, c, ys, rfl, sqo_seq hc1, rfl, _, rfl, iteBt (decide_eq_true (by rw [hlen])) ?_⟩
      -- the walk
      have walk : ∀ (J : It), (∀ i H', i < xs.length → Same H1 H' → J.go i H') → (∀ H', Same H1 H' → J.stop xs.length H') → (∀ i H' x H'', Same H1 H' → J.yld i H' x H'' → ∃ T' x' y', x = .ref T' ∧ H' T' = none ∧ H'' = upd H' T' (.tup [x', y']) ∧ xs[i]? = some x' ∧ ys[i]? = some y') → ∀ Da, H1 Da = none →
          ∃ W : Nat → Nat → Hp → Prop, (∃ m, W 0 m (upd H1 Da (.lst []))) ∧ ∀ i m H', W i m H' → (J.stop i H' ∧ (H' Da = some (.lst ((List.replicate xs.length true).map V.bl)) ∧ Same H1 H')) ∨
            (J.go i H' ∧ ∃ Nx : Hp → Prop, (∀ H'', Nx H'' → ∃ m', m' < m ∧ W (i + 1) m' H'') ∧ ∀ x H'', J.yld i H' x H'' → gTup K 2 (gCons (gName 2) (gCons (gName 3) gNil)) x (wipe (start NSa [.ref a, .ref c]) [2, 3]) H'' fun σ2 H2 => wipe σ2 [2, 3] = wipe (start NSa [.ref a, .ref c]) [2, 3] ∧ tYes σ2 H2 fun b H3 =>
              if b = true then tCall (spSameN n) [] C8.E0 (tCons (tVar 2) (tCons (tVar 3) tNil)) σ2 H3 fun y H4 => ∃ acc, H4 Da = some (.lst acc) ∧ acc.length < sizeLine ∧ Nx (upd H4 Da (.lst (acc ++ [y]))) else Nx H3) := by
        intro J jgo jst jyl Da nDa
        refine lc_gen (J := J) xs.length (fun i H' => H' Da = some (.lst ((List.replicate i true).map V.bl)) ∧ Same H1 H') ⟨upd_same, same_upd nDa⟩ (fun i H' hi ⟨_, sm⟩ => jgo i H' hi sm) (fun H' ⟨_, sm⟩ => jst H' sm) (fun i H' x H'' hi ⟨hD, sm⟩ yl => ?_) (fun H' h => h)
        obtain ⟨T', x', y', rfl, nT, rfl, hx, hy⟩ := jyl i H' x H'' sm yl
        have s3 : Same H' (upd H' T' (.tup [x', y'])) := same_upd nT
        refine ⟨T', [x', y'], rfl, SqT.of upd_same, rfl, x', [y'], rfl, y', [], rfl, rfl, ?_⟩
        generalize upd H' T' (.tup [x', y']) = H3 at s3
        refine ⟨rfl, ?_⟩
        unfold tYes
        dsimp only
        rw [if_pos rfl]
        obtain ⟨y2, hy2, he⟩ := paired_get hp hx
        rw [hy] at hy2
        obtain rfl := Option.some.inj hy2
        refine ⟨_, rfl, _, rfl, x', y', rfl, EqN.same (s1.trans (sm.trans s3)) he, fun H4 s4 => ⟨_, s4 _ _ (s3 _ _ hD), by rw [List.length_map, List.length_replicate, sizeLine_eq]; omega, ?_, fun b o q => by rw [upd_ne (ne_of_none q nDa)]; exact s4 _ _ (s3 _ _ (sm _ _ q))⟩⟩
        rw [upd_same, List.replicate_succ', List.map_append]
        rfl
      have fin : ∀ Da H', H' Da = some (.lst ((List.replicate xs.length true).map V.bl)) ∧ Same H1 H' → ∃ (a : Addr) (bs : List Bool), [V.ref Da] = [.ref a] ∧ SqL K H' a (bs.map V.bl) ∧ Q (.bl (bs.all id)) H' := fun Da H' ⟨hD, sm⟩ => by
        refine ⟨Da, _, rfl, SqL.of hD, ?_⟩
        rw [show (List.replicate xs.length true).all id = true from List.all_eq_true.mpr fun b hb => by rw [List.eq_of_mem_replicate hb]; rfl]
        exact k _ (s1.trans sm)
      have stp : ∀ {D : Addr → Hp → Prop}, True := trivial
      refine ⟨_, rfl, _, rfl, a, c, xs, ys, rfl, ?_⟩
      cases t with
      | true => 
        refine .inr ⟨SqT.of ha1, SqT.of hc1, fun Da nDa => ?_⟩
        obtain ⟨W, h0, h⟩ := walk (RZ.ItzT K a c) (fun i H' hi sm => ⟨xs, ys, xs.getD i .non, ys.getD i .non, SqT.of (sm _ _ ha1), SqT.of (sm _ _ hc1), getD_at hi, getD_at (by omega)⟩) (fun H' sm => ⟨xs, ys, SqT.of (sm _ _ ha1), SqT.of (sm _ _ hc1), .inl (Nat.le_refl _)⟩)
          (fun i H' x H'' sm yl => by obtain ⟨T', x', y', e1, e2, e3, e4, e5⟩ := yl; exact ⟨T', x', y', e1, e2, e3, e4 _ (SqT.of (sm _ _ ha1)), e5 _ (SqT.of (sm _ _ hc1))⟩) Da nDa
        exact ⟨W, h0, fun i m H' hw => (h i m H' hw).imp (fun ⟨q1, q2⟩ => ⟨q1, fin Da H' q2⟩) id⟩
      | false =>
        refine .inl ⟨SqL.of ha1, SqL.of hc1, fun Da nDa => ?_⟩
        obtain ⟨W, h0, h⟩ := walk (Itz K a c) (fun i H' hi sm => ⟨xs, ys, xs.getD i .non, ys.getD i .non, SqL.of (sm _ _ ha1), SqL.of (sm _ _ hc1), getD_at hi, getD_at (by omega)⟩) (fun H' sm => ⟨xs, ys, SqL.of (sm _ _ ha1), SqL.of (sm _ _ hc1), .inl (Nat.le_refl _)⟩)
          (fun i H' x H'' sm yl => by obtain ⟨T', x', y', e1, e2, e3, e4, e5⟩ := yl; exact ⟨T', x', y', e1, e2, e3, e4 _ (SqL.of (sm _ _ ha1)), e5 _ (SqL.of (sm _ _ hc1))⟩) Da nDa
        exact ⟨W, h0, fun i m H' hw => (h i m H' hw).imp (fun ⟨q1, q2⟩ => ⟨q1, fin Da H' q2⟩) id⟩
theorem c_same {f : Addr} {fd : FuncData} (F : Def K mg "_law_same" sSame f fd) (b : Binds K fd ["_law_found", "_law_due"] []) (T : Blt2 mg) : ∀ n : Nat, Cal P w K mg base (1 + n) "_law_same" (spSameN n) []
  | 0 => by
    have no : ∀ {vs H Q E}, spSameN 0 vs H Q E → False := fun ⟨_, _, _, h, _⟩ => h
    exact cal0 F b .nil scSame (fun vs H Q E h => (no h).elim) (fun cdv A outer s H vs Q E hr h => (no h).elim)
  | n + 1 => same_step F b T (c_same F b T n)
end
end K7

/-! e[:0:-1]: all but the first, from the back; of a list and of a tuple -/
namespace XR
open PySem PySem.Spec PySem.W PyProof.Rows L2
theorem back_range (n : Nat) : (List.range (n - 1)).map (fun k => n - 1 - k) = ((List.range (n - 1)).map (1 + ·)).reverse := by
  apply List.ext_getElem
  · simp
  · intro i h1 h2
    rw [List.getElem_map, List.getElem_reverse]
    simp at h1 ⊢
    omega
theorem fm_congr {α β : Type} {f g : α → Option β} : ∀ {l : List α}, (∀ m ∈ l, f m = g m) → l.filterMap f = l.filterMap g
  | [], _ => rfl
  | x :: l, h => by rw [List.filterMap_cons, List.filterMap_cons, h x List.mem_cons_self, fm_congr fun m hm => h m (List.mem_cons_of_mem _ hm)]
theorem back_pick {α : Type} (xs : Array α) : ((List.range (xs.size - 1)).map (fun k => xs.size - 1 - k)).filterMap (xs[·]?) = xs.toList.tail.reverse := by
  rw [back_range, List.filterMap_reverse, pick_run xs 1 (xs.size - 1), List.take_of_length_le (by simp), List.drop_one]
theorem back_bounds {n : Nat} (h : 0 < n) : sliceBounds none (some 0) (some (-1)) n = ((n : Int) - 1, 0, -1) := by
  have e : max (-1 : Int) (min 0 ((n : Int) - 1)) = 0 := by omega
  show ((n : Int) - 1, max (-1 : Int) (min (if (0 : Int) < 0 then 0 + (n : Int) else 0) ((n : Int) - 1)), (-1 : Int)) = _
  rw [if_neg (by decide), e]
theorem back_list {xs : Array Value} (h : 0 < xs.size) : slicePick xs none (some 0) (some (-1)) = xs.toList.tail.reverse.toArray := by
  have r : sliceRange ((xs.size : Int) - 1) 0 (-1) = (List.range (xs.size - 1)).map fun k => xs.size - 1 - k := by
    unfold sliceRange
    have n1 : ¬ ((-1 : Int) > 0) := by decide
    by_cases g : (xs.size : Int) - 1 > 0
    · have e : ((xs.size : Int) - 1 - 0 - -1 - 1) / (- -1) = ((xs.size - 1 : Nat) : Int) := by
        rw [show (- -1 : Int) = 1 by decide, Int.ediv_one]
        omega
      simp only [n1, if_false, g, if_true, e, Int.toNat_natCast]
      exact List.map_congr_left fun k hk => by have := List.mem_range.mp hk; omega
    · have e : xs.size - 1 = 0 := by omega
      simp only [n1, if_false, g, e]
      rfl
  unfold slicePick
  rw [back_bounds h]
  show ((sliceRange ((xs.size : Int) - 1) 0 (-1)).filterMap (xs[·]?)).toArray = _
  rw [r, back_pick]
section
variable {prog : Program} {w : World} {A : Around} {E : Value → Shared → Prop} {s : Shared}
theorem back_tuple {t sl : Addr} {xs : Array Value} {vl vu vs : Value} {Q : Value → Shared → Prop} (ht : IsTup s.heap t xs) (hs : s.heap.IsSliceOf sl vl vu vs) (pl : IsPart vl none) (pu : IsPart vu (some 0)) (ps : IsPart vs (some (-1))) (hn : 0 < xs.size) (hsz : xs.size ≤ sizeLine)
    (h : Q (.ref s.heap.objs.size) { s with heap := s.heap.push { cls := .type "tuple", data := .seq xs.toList.tail.reverse.toArray } }) : wpAny (model prog w) A (getItem (.ref t) (.ref sl)) Q E s := by
  have hz : sizeOk (.seq xs.toList.tail.reverse.toArray) := by show xs.toList.tail.reverse.toArray.size ≤ sizeLine; simp; omega
  obtain ⟨os, hos, hcs, hds⟩ := id hs
  unfold getItem
  try with_reducible refine wpAny_holding ?_
  first | refine wpAny_bind (wpAny_pure ?_) | skip
  refine wpAny_bind (wpAny_sequenceKey ht.typeIs (by decide) (wpAny_bind (wpAny_callSpecial?_slot (name := Str.ofString "__getitem__") ht.typeIs PyProof.Rows.slot_tuple_getitem (wpAny_call_entry PyProof.Rows.slot_tuple_getitem ht.typeIs entry_tuple_getitem ?_ (args_tuple_getitem _ _)))))
  show wpAny _ _ (Builtin.Tuple.tupleItemsOf (.ref t) >>= _) _ _ s
  refine wpAny_bind (tupleItemsOf_ ht (wpAny_bind (wpAny_typeOf (T := "slice") ⟨os, hos, hcs⟩ ?_)))
  rw [if_pos (by decide)]
  have app : ∀ {Q' : Int × Int × Nat → Shared → Prop} {A' : Around} {E' : Value → Shared → Prop}, Q' ((xs.size : Int) - 1, -1, xs.size - 1) s → wpAny (model prog w) A' (Builtin.Slice.sliceApplied (.ref sl) (pure (xs.size : Int))) Q' E' s := by
    intro Q' A' E' q
    unfold Builtin.Slice.sliceApplied Builtin.Slice.sliceFields
    refine wpAny_bind (wpAny_bind (wpAny_field hos hds (x := vl) rfl (wpAny_bind (wpAny_field hos hds (x := vu) rfl (wpAny_bind (wpAny_field hos hds (x := vs) rfl (wpAny_pure ?_)))))))
    refine wpAny_bind (HT.slicePart_ ps ?_)
    show wpAny _ _ (if ((-1 : Int) == 0) = true then _ else _) _ _ s
    rw [if_neg (by decide)]
    refine wpAny_bind (HT.slicePart_ pl (wpAny_bind (HT.slicePart_ pu (wpAny_bind (wpAny_pure ?_)))))
    have e1 : Builtin.Slice.sliceAdjust none (some 0) (-1) (xs.size : Int) = ((xs.size : Int) - 1, 0) := by
      have e : min (0 : Int) ((xs.size : Int) - 1) = 0 := by omega
      show ((xs.size : Int) - 1, (if (0 : Int) < 0 then max (0 + (xs.size : Int)) (-1) else min 0 ((xs.size : Int) - 1))) = _
      rw [if_neg (by decide), e]
    have e2 : Builtin.Slice.slicePlaces ((xs.size : Int) - 1) 0 (-1) = xs.size - 1 := by
      unfold Builtin.Slice.slicePlaces
      rw [if_neg (by decide)]
      by_cases g : (xs.size : Int) - 1 > 0
      · rw [if_pos g, show (- -1 : Int) = 1 by decide, Int.ediv_one]
        omega
      · rw [if_neg g]
        show (0 : Int).toNat = _
        omega
    show wpAny _ _ (match Builtin.Slice.sliceAdjust none (some 0) (-1) (xs.size : Int) with | (lo, hi) => pure (lo, (-1 : Int), Builtin.Slice.slicePlaces lo hi (-1))) _ _ s
    rw [e1]
    show wpAny _ _ (pure ((xs.size : Int) - 1, (-1 : Int), Builtin.Slice.slicePlaces ((xs.size : Int) - 1) 0 (-1))) _ _ s
    rw [e2]
    exact wpAny_pure q
  refine wpAny_bind (app ?_)
  show wpAny _ _ (if (((xs.size : Int) - 1) == 0 && (-1 : Int) == 1 && (xs.size - 1) == xs.size) = true then _ else _) _ _ s
  have hno : ¬ ((((xs.size : Int) - 1) == 0 && (-1 : Int) == 1 && (xs.size - 1) == xs.size) = true) := by
    intro q
    rw [Bool.and_eq_true, Bool.and_eq_true] at q
    exact absurd q.1.2 (by decide)
  rw [if_neg hno]
  have pk : ((List.range (xs.size - 1)).filterMap fun (m : Nat) => xs[(((xs.size : Int) - 1) + (m : Int) * (-1)).toNat]?).toArray = xs.toList.tail.reverse.toArray := by
    rw [← back_pick, List.filterMap_map]
    congr 1
    exact fm_congr fun m hm => by
      have := List.mem_range.mp hm
      have e : (((xs.size : Int) - 1) + (m : Int) * (-1)).toNat = xs.size - 1 - m := by omega
      show xs[(((xs.size : Int) - 1) + (m : Int) * (-1)).toNat]? = xs[xs.size - 1 - m]?
      rw [e]
  rw [pk]
  first
    | exact wpAny_bind (m := Builtin.Tuple.tupleExact _) (wpAny_newObj_type (wpAny_pure ⟨_, rfl, wpAny_pure h⟩) hz)
    | exact wpAny_bind (m := Builtin.Tuple.tupleExact _) (wpAny_newObj_type (wpAny_bind (wpAny_pure (wpAny_pure ⟨_, rfl, wpAny_pure h⟩))) hz)
    | exact wpAny_bind (wpAny_bind (m := Builtin.Tuple.tupleExact _) (wpAny_newObj_type (wpAny_pure (wpAny_pure ⟨_, rfl, wpAny_pure h⟩)) hz))
    | exact wpAny_bind (wpAny_bind (m := Builtin.Tuple.tupleExact _) (wpAny_newObj_type (wpAny_pure ⟨_, rfl, wpAny_pure h⟩) hz))
end
section
variable {X : Cx}
def tRev0 (K : PySem.W.Frag) (te : TE) : TE := fun σ H Q => te σ H fun x H1 => ∃ a xs, x = .ref a ∧ 0 < xs.length ∧ ((SqL K H1 a xs ∧ ∀ p, H1 p = none → Q (.ref p) (upd H1 p (.lst xs.tail.reverse))) ∨ (SqT K H1 a xs ∧ ∀ p, H1 p = none → Q (.ref p) (upd H1 p (.tup xs.tail.reverse))))
theorem vals_tail {xs : List V} {us : List Value} (h : Vals xs us) : Vals xs.tail us.tail := by
  cases h with
  | nil => exact .nil
  | cons _ t => exact t
theorem pe_rev0 {e : Expr} {te : TE} {k kz : Nat} {p0 p1 p2 p3 pos : Pos} (he : PE X e te) : PE X (.Subscript e (.Slice none (some (.Constant (.int 0) kz p0)) (some (.UnaryOp .USub (.Constant (.int 1) k p1) p2)) p3) pos) (tRev0 X.K te) := by
  refine ⟨fun pins s σ H Q I h => ?_⟩
  refine Subscript_ (thn (he.run pins s σ H _ I h) fun v s1 ⟨x, H1, I1, r1, q1⟩ => ?_)
  obtain ⟨a, xs, ex, hn, q⟩ := q1
  subst ex
  cases r1
  have hst : PO X (some (.UnaryOp .USub (.Constant (.int 1) k p1) p2)) (tPart (tUn (rU fun i => .int (-i)) (tC (.int 1)))) := po_some (pe_un un_neg pe_int)
  have hup : PO X (some (.Constant (.int 0) kz p0)) (tPart (tC (.int 0))) := po_some pe_int
  refine wpAny_Slice (thn (po_none.run pins s1 σ H1 (fun o H2 => o = none ∧ H2 = H1) I1 ⟨rfl, rfl⟩) fun vl s2 ⟨l, H2, I2, pl, el, e2⟩ => ?_)
  subst el e2
  refine thn (hup.run pins s2 σ H2 (fun o H3 => o = some 0 ∧ H3 = H2) I2 ⟨0, rfl, rfl, rfl⟩) fun vu s3 ⟨u, H3, I3, pu, eu, e3⟩ => ?_
  subst eu e3
  refine thn (hst.run pins s3 σ H3 (fun o H4 => o = some (-1) ∧ H4 = H3) I3 ⟨1, rfl, -1, rfl, rfl, rfl⟩) fun vs s4 ⟨o, H4, I4, ps, eo, e4⟩ => ?_
  subst eo e4
  have I5 : Inv X pins σ H4 { s4 with heap := s4.heap.push { cls := .type "slice", data := .fields #[vl, vu, vs] } } := I4.kept (t' := s4.toks) fun b ob q => Heap.get?_push_of_some _ q
  rcases q with ⟨hx, q⟩ | ⟨hx, q⟩
  · obtain ⟨its, r, ht, hz⟩ := I5.list hx
    have hlen := r.length
    show wpAny (model X.prog X.w) X.A (subscriptTail e (.Slice none (some (.Constant (.int 0) kz p0)) (some (.UnaryOp .USub (.Constant (.int 1) k p1) p2)) p3) (.ref a) (.ref s4.heap.objs.size)) (EP X pins σ Q) X.xe { s4 with heap := s4.heap.push { cls := .type "slice", data := .fields #[vl, vu, vs] } }
    refine tail_any (ops := [.ref a, .ref s4.heap.objs.size]) ht.isList.typeIs (PySem.slot_list_getitem.lookup) (wpAny_getItem_list_slice ht.isList (Heap.IsSliceOf.new _ vl vu vs) pl pu ps (by decide) ?_ (by rw [List.size_toArray]; omega)) (by with_unfolding_all rfl)
    rw [back_list (by rw [List.size_toArray]; omega)]
    refine ⟨.ref _, _, I5.laid (t' := s4.toks) (o := .lst xs.tail.reverse) (fun b ob q => Heap.get?_push_of_some _ q) (Nat.le_refl _) ?_, rfl, q _ (I5.hok.fresh (Nat.le_refl _))⟩
    exact ⟨by rw [List.length_reverse, List.length_tail]; omega, _, 0, (vals_tail r).reverse, Heap.get?_push_size _ rfl⟩
  · obtain ⟨its, r, ht, hz⟩ := I5.tuple hx
    have hlen := r.length
    show wpAny (model X.prog X.w) X.A (subscriptTail e (.Slice none (some (.Constant (.int 0) kz p0)) (some (.UnaryOp .USub (.Constant (.int 1) k p1) p2)) p3) (.ref a) (.ref s4.heap.objs.size)) (EP X pins σ Q) X.xe { s4 with heap := s4.heap.push { cls := .type "slice", data := .fields #[vl, vu, vs] } }
    refine tail_any (ops := [.ref a, .ref s4.heap.objs.size]) ht.typeIs (PyProof.Rows.slot_tuple_getitem.lookup) (back_tuple ht (Heap.IsSliceOf.new _ vl vu vs) pl pu ps (by rw [List.size_toArray]; omega) (by rw [List.size_toArray]; omega) ?_) (by with_unfolding_all rfl)
    refine ⟨.ref _, _, I5.laid (t' := s4.toks) (o := .tup xs.tail.reverse) (fun b ob q => Heap.get?_push_of_some _ q) (Nat.le_refl _) ?_, rfl, q _ (I5.hok.fresh (Nat.le_refl _))⟩
    exact ⟨by rw [List.length_reverse, List.length_tail]; omega, _, (vals_tail r).reverse, _, Heap.get?_push_size _ rfl, rfl, 0, rfl⟩
end
end XR

namespace K7
open PySem PySem.Spec PyProof.Rows L2 C8 XE XR
/-! is_hole, nodes_in_order -/
abbrev sHole : Stmt := top 6
abbrev sNodes : Stmt := top 7
def letters : Str := "abcdefghijklmnopqrstuvwxyz"
def wordS (z : Str) : Bool := decide (1 ≤ z.length) && (decide (z.length ≤ 8) && z.cps.toList.all fun c => decide (c ∈ letters.cps.toList))
mutual
/-- a shape: labels over shapes, holes -/
def isSh : D → Bool
  | .fl (.str z) => wordS z
  | .sq (.fl (.str z) :: cs) => wordS z && isShs cs
  | _ => false
def isShs : List D → Bool
  | [] => true
  | d :: ds => isSh d && isShs ds
end
mutual
/-- all nodes, in order -/
def nodesD : D → List D
  | .sq (x :: cs) => .sq (x :: cs) :: nodesDs cs
  | d => [d]
def nodesDs : List D → List D
  | [] => []
  | d :: ds => nodesD d ++ nodesDs ds
end
theorem isSh_inv {d : D} (h : isSh d = true) : (∃ z, d = .fl (.str z) ∧ wordS z = true) ∨ ∃ z cs, d = .sq (.fl (.str z) :: cs) ∧ wordS z = true ∧ isShs cs = true := by
  unfold isSh at h
  split at h
  · exact .inl ⟨_, rfl, h⟩
  · rw [Bool.and_eq_true] at h
    exact .inr ⟨_, _, rfl, h.1, h.2⟩
  · cases h
theorem isShs_mem : ∀ {ds : List D}, isShs ds = true → ∀ d ∈ ds, isSh d = true
  | [], _, d, h => by cases h
  | x :: ds, h, d, hd => by
    rw [isShs, Bool.and_eq_true] at h
    rcases List.mem_cons.mp hd with rfl | hd
    · exact h.1
    · exact isShs_mem h.2 d hd
theorem isShs_of : ∀ {ds : List D}, (∀ d ∈ ds, isSh d = true) → isShs ds = true
  | [], _ => rfl
  | x :: ds, h => by
    rw [isShs, h x List.mem_cons_self, isShs_of fun d hd => h d (List.mem_cons_of_mem _ hd)]
    rfl
theorem nodesDs_app : ∀ a b : List D, nodesDs (a ++ b) = nodesDs a ++ nodesDs b
  | [], b => rfl
  | x :: a, b => by rw [List.cons_append, nodesDs, nodesDs, nodesDs_app a b, List.append_assoc]
theorem nodes_pos (d : D) : 0 < (nodesD d).length := by
  cases d with
  | fl x => exact Nat.one_pos
  | emp => exact Nat.one_pos
  | sq xs =>
    cases xs with
    | nil => exact Nat.one_pos
    | cons x cs => rw [nodesD, List.length_cons]; omega
mutual
theorem nodes_sz : ∀ d : D, (nodesD d).length ≤ sz d
  | .fl _ => Nat.le_refl _
  | .emp => Nat.le_refl _
  | .sq [] => Nat.le_refl _
  | .sq (x :: cs) => by
    have := nodess_sz cs
    have := sz_pos x
    rw [nodesD, List.length_cons, sz, szs]
    omega
theorem nodess_sz : ∀ ds : List D, (nodesDs ds).length ≤ szs ds
  | [] => Nat.le_refl _
  | d :: ds => by
    have := nodes_sz d
    have := nodess_sz ds
    rw [nodesDs, List.length_append, szs]
    omega
end
theorem len_nodes : ∀ l : List D, l.length ≤ (nodesDs l).length
  | [] => Nat.le_refl _
  | c :: l => by
    have h1 := nodes_pos c
    have h2 := len_nodes l
    rw [nodesDs, List.length_append, List.length_cons]
    omega
theorem DAts.rev {F : Addr → Prop} {H : Hp} : ∀ {ds : List D} {vs : List V}, DAts F H vs ds → DAts F H vs.reverse ds.reverse
  | [], [], _ => trivial
  | d :: ds, v :: vs, ⟨k, t⟩ => by
    rw [List.reverse_cons, List.reverse_cons]
    exact DAts.app (DAts.rev t) ⟨k, trivial⟩
  | [], _ :: _, k => k.elim
  | _ :: _, [], k => k.elim
def spHole : Sp := fun vs H Q _ => ∃ (v : V) (d : D) (F : Addr → Prop), vs = [v] ∧ DAt F H v d ∧ Q (.bl (isSt d)) H
def spNodes : Sp := fun vs H Q _ => ∃ (v : V) (d : D) (F : Addr → Prop), vs = [v] ∧ DAt F H v d ∧ isSh d = true ∧ sz d ≤ 10000 ∧ ∀ p ws H', H p = none → Same H H' → H' p = some (.lst ws) → DAts F H ws (nodesD d) → Q (.ref p) H'
theorem scHole : FnScope ["node"] ["node"] (fnScope sHole) := fnScope_by (by decide +kernel)
abbrev NNo : List Str := ["shape", "found", "waiting", "node", "child"]
theorem scNodes : FnScope NNo ["shape"] (fnScope sNodes) := fnScope_by (by decide +kernel)
section
variable {P : Program} {w : World} {K : PySem.W.Frag} {mg : Str → Option Value} {base : Heap}
theorem c_hole {f : Addr} {fd : FuncData} (F : Def K mg "is_hole" sHole f fd) (b : Binds K fd ["node"] []) (T : Blt4 mg) : Cal P w K mg base 1 "is_hole" spHole [] := by
  refine cal0 F b .nil scHole (fun vs H Q E h => ?_) (fun cdv A outer s H vs Q E hr h => ?_)
  · obtain ⟨v, d, G, rfl, _⟩ := h
    rfl
  · obtain ⟨v, d, G, rfl, hv, k⟩ := h
    refine ⟨_, pss_one (ps_ret (pe_callB call_isi (by rfl) T.isi (by decide +kernel) (pa_cons (pv 0) (pa_cons (pe_bt "str" T.str) pa_nil)))), ?_⟩
    obtain ⟨Ty, ty, _, k2⟩ := d_ty (K := K) hv
    exact ⟨_, rfl, v, .ty "str", _, _, _, rfl, .ty _, ty H fun _ _ e => e, k2, k⟩
theorem c_nodes {f : Addr} {fd : FuncData} (F : Def K mg "nodes_in_order" sNodes f fd) (b : Binds K fd ["shape"] []) (T : Blt4 mg) (CH : Cal P w K mg base 1 "is_hole" spHole []) : Cal P w K mg base 2 "nodes_in_order" spNodes [] := by
  refine cal0 F b .nil scNodes (fun vs H Q E h => ?_) (fun cdv A outer s H vs Q E hr h => ?_)
  · obtain ⟨v, d, G, rfl, _⟩ := h
    rfl
  · obtain ⟨v, d, G, rfl, hv, hsh, hsz, k⟩ := h
    have nd := scNodes.nd
    refine ⟨_, pss_cons (ps_set (i := 1) nd rfl (Or.inl rfl) (pe_lst pa_nil))
      (pss_cons (ps_set (i := 2) nd rfl (Or.inl rfl) (pe_lst (pa_cons (pv 0) pa_nil)))
      (pss_cons (ps_while PassesOwn.never (pt_truth (pv 2) (by intro _; rfl))
        (pss_cons (ps_set (i := 3) nd rfl (Or.inl rfl) (pe_bm0 PySem.F.plainAttrs_list PySem.F.slot_list_pop PySem.F.type_list_pop mt_pop (pv 2)))
        (pss_cons (ps_expr (pe_bm PySem.F.plainAttrs_list PySem.F.slot_list_append PySem.F.type_list_append mt_append (pv 1) (pa_cons (pv 3) pa_nil)))
        (pss_one (ps_if (pt_not (pt_val (pe_c CH hr (by decide) (by rfl) (pa_cons (pv 3) pa_nil))))
          (pss_one (ps_for PassesOwn.never rfl (PI.or (pi_list (pe_rev0 (pv 3))) (pi_tup (pe_rev0 (pv 3)))) (pg_name (i := 4) nd rfl (Or.inl rfl))
            (pss_one (ps_expr (pe_bm PySem.F.plainAttrs_list PySem.F.slot_list_append PySem.F.type_list_append mt_append (pv 2) (pa_cons (pv 4) pa_nil))))))
          pss_nil)))))
      (pss_one (ps_ret (pv 1))))), ?_⟩
    refine ⟨(by show 0 ≤ sizeLine; decide), fun f1 nf => ⟨_, rfl, (by show 1 ≤ sizeLine; decide), fun w1 nw => ?_⟩⟩
    have fw : f1 ≠ w1 := ne_of_none upd_same nw
    have nwH : H w1 = none := by rw [upd_ne fw.symm] at nw; exact nw
    let Iv : Nat → L2.St → Hp → Prop := fun m σ H' => ∃ (v3 v4 : Option V) (wl fl : List V) (ds fs : List D), σ = [some v, some (.ref f1), some (.ref w1), v3, v4] ∧ m = (nodesDs ds.reverse).length ∧ H' f1 = some (.lst fl) ∧ H' w1 = some (.lst wl) ∧ Same H H' ∧ DAts G H fl fs ∧ DAts G H wl ds ∧ isShs ds = true ∧ fs ++ nodesDs ds.reverse = nodesD d
    refine ⟨Iv, ⟨_, none, none, [v], [], [d], [], rfl, rfl, by rw [upd_ne fw]; exact upd_same, upd_same, (same_upd nf).trans (same_upd nw), trivial, ⟨hv, trivial⟩, by rw [isShs, hsh]; rfl, by rw [List.nil_append]; show nodesD d ++ [] = _; rw [List.append_nil]⟩, ?_⟩
    rintro m σ H1 ⟨v3, v4, wl, fl, ds, fs, rfl, rfl, hf1, hw1, sm, hfs, hds, hss, heq⟩
    have hlen := hds.len
    have hfl := hfs.len
    have htot : fs.length + (nodesDs ds.reverse).length ≤ 10000 := by rw [← List.length_append, heq]; exact Nat.le_trans (nodes_sz d) hsz
    refine ⟨_, rfl, !wl.isEmpty, .inl ⟨wl, SqL.of hw1, rfl⟩, ?_⟩
    rcases List.eq_nil_or_concat ds with rfl | ⟨ds0, dl, rfl⟩
    · obtain rfl : wl = [] := List.length_eq_zero_iff.mp hlen
      refine iteBf rfl ⟨_, rfl, k f1 fl H1 nf sm hf1 ?_⟩
      have : fs = nodesD d := by rw [← heq]; show fs = fs ++ []; rw [List.append_nil]
      rw [← this]
      exact hfs
    · rw [List.concat_eq_append] at *
      rw [List.length_append] at hlen
      have hlen : wl.length = ds0.length + 1 := hlen
      obtain ⟨wl0, x, rfl⟩ : ∃ wl0 x, wl = wl0 ++ [x] := by
        rcases List.eq_nil_or_concat wl with rfl | ⟨a, x, e⟩
        · cases hlen
        · exact ⟨a, x, by rw [e, List.concat_eq_append]⟩
      have hl0 : wl0.length = ds0.length := by simpa using hlen
      have hd0 : DAts G H wl0 ds0 := by
        have := DAts.take ds0.length hds
        rw [List.take_left' hl0, List.take_left' rfl] at this
        exact this
      have hx : DAt G H x dl := by
        have := DAts.drop ds0.length hds
        rw [List.drop_left' hl0, List.drop_left' rfl] at this
        exact this.1
      have hshl := isShs_mem hss dl (List.mem_append_right _ (List.mem_singleton.mpr rfl))
      have hss0 : isShs ds0 = true := isShs_of fun q hq => isShs_mem hss q (List.mem_append_left _ hq)
      have hrev : (ds0 ++ [dl]).reverse = dl :: ds0.reverse := by rw [List.reverse_append]; rfl
      rw [hrev] at heq htot ⊢
      have hnd : nodesDs (dl :: ds0.reverse) = nodesD dl ++ nodesDs ds0.reverse := rfl
      rw [hnd] at heq htot ⊢
      rw [List.length_append] at htot
      have hnp := nodes_pos dl
      refine iteBt (by cases wl0 <;> rfl) ?_
      refine ⟨Iv ((nodesD dl ++ nodesDs ds0.reverse).length - 1), fun σ' H' hI => ⟨_, by rw [List.length_append]; omega, hI⟩, ?_⟩
      refine ⟨_, rfl, .inl ⟨rfl, _, SqL.of hw1⟩, w1, wl0 ++ [x], x, rfl, rfl, hw1, by simp, ?_⟩
      rw [List.dropLast_concat]
      have hf2 : (upd H1 w1 (.lst wl0)) f1 = some (.lst fl) := by rw [upd_ne fw]; exact hf1
      refine ⟨_, rfl, .inl ⟨rfl, _, SqL.of hf2⟩, _, rfl, f1, fl, x, rfl, rfl, hf2, by rw [hfl, sizeLine_eq]; omega, ?_⟩
      have hf3 : (upd (upd H1 w1 (.lst wl0)) f1 (.lst (fl ++ [x]))) f1 = some (.lst (fl ++ [x])) := upd_same
      have hw3 : (upd (upd H1 w1 (.lst wl0)) f1 (.lst (fl ++ [x]))) w1 = some (.lst wl0) := by rw [upd_ne fw.symm]; exact upd_same
      have s3 : Same H (upd (upd H1 w1 (.lst wl0)) f1 (.lst (fl ++ [x]))) := fun a o e => by rw [upd_ne (ne_of_none e nf), upd_ne (ne_of_none e nwH)]; exact sm _ _ e
      generalize upd (upd H1 w1 (.lst wl0)) f1 (.lst (fl ++ [x])) = H3 at hf3 hw3 s3
      refine ⟨_, rfl, x, dl, G, rfl, DAt.hold (.same s3) _ hx, isSt dl, rfl, ?_⟩
      have hfs3 : DAts G H (fl ++ [x]) (fs ++ [dl]) := DAts.app hfs ⟨hx, trivial⟩
      rcases isSh_inv hshl with ⟨z, rfl, _⟩ | ⟨z, cs, rfl, hwz, hcs⟩
      · refine iteBf rfl ?_
        exact ⟨some x, v4, wl0, fl ++ [x], ds0, fs ++ [.fl (.str z)], rfl, by simp [nodesD], hf3, hw3, s3, hfs3, hd0, hss0, by rw [← heq, List.append_assoc]; rfl⟩
      · refine iteBt rfl ?_
        obtain ⟨a, us, rfl, q, _, hus⟩ := hx
        match us, hus with
        | u :: us, ⟨hu, hus⟩ =>
          have hul := hus.len
          have heq3 : fs ++ [.sq (.fl (.str z) :: cs)] ++ nodesDs ((ds0 ++ cs.reverse).reverse) = nodesD d := by
            rw [← heq, List.reverse_append, List.reverse_reverse, nodesDs_app, List.append_assoc]
            rfl
          have hm3 : (nodesD (.sq (.fl (.str z) :: cs)) ++ nodesDs ds0.reverse).length - 1 = (nodesDs (ds0 ++ cs.reverse).reverse).length := by
            rw [List.reverse_append, List.reverse_reverse, nodesDs_app]
            show (_ :: (nodesDs cs ++ nodesDs ds0.reverse)).length - 1 = _
            rw [List.length_cons]
            omega
          have hcl := nodess_sz cs
          have hcz := len_nodes cs
          have hn1 : (nodesD (.sq (.fl (.str z) :: cs))).length = 1 + (nodesDs cs).length := by rw [nodesD, List.length_cons, Nat.add_comm]
          have hdl0 := len_nodes ds0.reverse
          rw [List.length_reverse] at hdl0
          have walk : ∀ (J : It) (H4 : Hp), Same H3 H4 → (∀ j H', j < us.reverse.length → (∀ b o, H4 b = some o → b ≠ w1 → H' b = some o) → J.go j H') → (∀ H', (∀ b o, H4 b = some o → b ≠ w1 → H' b = some o) → J.stop us.reverse.length H') → (∀ j H' x H'', (∀ b o, H4 b = some o → b ≠ w1 → H' b = some o) → J.yld j H' x H'' → H'' = H' ∧ us.reverse[j]? = some x) →
              ∃ W : Nat → Nat → L2.St → Hp → Prop, (∃ m, W 0 m [some v, some (.ref f1), some (.ref w1), some (.ref a), v4] H4) ∧ ∀ i m σ H, W i m σ H → (J.stop i H ∧ Iv ((nodesD (.sq (.fl (.str z) :: cs)) ++ nodesDs ds0.reverse).length - 1) σ H) ∨ (J.go i H ∧ ∃ N : L2.St → Hp → Prop, (∀ σ' H', N σ' H' → ∃ m', m' < m ∧ W (i + 1) m' σ' H') ∧
                ∀ x H', J.yld i H x H' → gName 4 x σ H' fun σ2 H2 => tDrop (tBM K "list" rAppend (tVar 2) (tCons (tVar 4) tNil)) { nx := N, rt := Q, bk := Iv ((nodesD (.sq (.fl (.str z) :: cs)) ++ nodesDs ds0.reverse).length - 1), ct := N } σ2 H2) := by
            intro J H4 s4 jgo jst jyl
            have hr : us.reverse.length = cs.length := by rw [List.length_reverse]; exact hul
            refine for_gen (J := J) (D := { nx := Iv ((nodesD (.sq (.fl (.str z) :: cs)) ++ nodesDs ds0.reverse).length - 1), rt := Q }) us.reverse.length (fun j σ H' => ∃ v4, σ = [some v, some (.ref f1), some (.ref w1), some (.ref a), v4] ∧ H' w1 = some (.lst (wl0 ++ us.reverse.take j)) ∧ ∀ b o, H4 b = some o → b ≠ w1 → H' b = some o)
              ⟨v4, rfl, by rw [List.take_zero, List.append_nil]; exact s4 _ _ hw3, fun b o e _ => e⟩ (fun j σ H' hj ⟨_, _, _, kp⟩ => jgo j H' hj kp) (fun σ H' ⟨_, _, _, kp⟩ => jst H' kp) ?_ ?_
            · rintro j σ H' y H'' hj ⟨v4, rfl, hw, kp⟩ yl
              obtain ⟨rfl, hy⟩ := jyl j H' y H'' kp yl
              obtain ⟨hlt, ey⟩ := List.getElem?_eq_some_iff.mp hy
              refine ⟨_, rfl, .inl ⟨rfl, _, SqL.of hw⟩, _, rfl, w1, _, y, rfl, rfl, hw, by rw [sizeLine_eq, List.length_append, List.length_take]; omega, some y, rfl, ?_, fun b o e n => by rw [upd_ne n]; exact kp b o e n⟩
              rw [upd_same, List.take_succ_eq_append_getElem hlt, ← List.append_assoc, ey]
            · rintro σ H' ⟨v4, rfl, hw, kp⟩
              rw [List.take_of_length_le (Nat.le_refl _)] at hw
              refine ⟨_, v4, _, _, ds0 ++ cs.reverse, _, rfl, hm3, kp _ _ (s4 _ _ hf3) fw, hw, fun b o e => kp b o (s4 _ _ (s3 _ _ e)) (ne_of_none e nwH), hfs3, DAts.app hd0 (DAts.rev hus), isShs_of fun q hq => ?_, heq3⟩
              rcases List.mem_append.mp hq with hq | hq
              · exact isShs_mem hss0 q hq
              · exact isShs_mem hcs q (List.mem_reverse.mp hq)
          have q3 : H3 a = some (.tup (u :: us)) ∨ H3 a = some (.lst (u :: us)) := q.imp (s3 _ _) (fun e => s3 _ _ e.2)
          rcases q3 with q3 | q3
          · refine .inr ⟨_, rfl, a, u :: us, rfl, Nat.succ_pos _, .inr ⟨SqT.of q3, fun p np => ⟨p, rfl, ⟨_, SqT.of upd_same⟩, ?_⟩⟩⟩
            have pw : p ≠ w1 := (ne_of_none hw3 np).symm
            exact walk (Itt K p) _ (same_upd np) (fun j H' hj kp => ⟨_, us.reverse.getD j .non, SqT.of (kp p _ upd_same pw), getD_at hj⟩) (fun H' kp => ⟨_, SqT.of (kp p _ upd_same pw), Nat.le_refl _⟩) (fun j H' x H'' kp yl => ⟨yl.1, yl.2 _ (SqT.of (kp p _ upd_same pw))⟩)
          · refine .inl ⟨_, rfl, a, u :: us, rfl, Nat.succ_pos _, .inl ⟨SqL.of q3, fun p np => ⟨p, rfl, ⟨_, SqL.of upd_same⟩, ?_⟩⟩⟩
            have pw : p ≠ w1 := (ne_of_none hw3 np).symm
            exact walk (Itl K p) _ (same_upd np) (fun j H' hj kp => ⟨_, us.reverse.getD j .non, SqL.of (kp p _ upd_same pw), getD_at hj⟩) (fun H' kp => ⟨_, SqL.of (kp p _ upd_same pw), Nat.le_refl _⟩) (fun j H' x H'' kp yl => ⟨yl.1, yl.2 _ (SqL.of (kp p _ upd_same pw))⟩)
        | [], hus => exact hus.elim
end
end K7

namespace K7
open PySem PySem.Spec PyProof.Rows L2 C8 XE XR SX
/-! node_text, text_of; what is built from the nodes, from the back -/
def stepG {α : Type} (leaf : Str → α) (node : Str → List α → α) (st : List α) : D → List α
  | .fl (.str z) => st ++ [leaf z]
  | .sq (.fl (.str z) :: cs) => st.take (st.length - cs.length) ++ [node z (st.drop (st.length - cs.length)).reverse]
  | _ => st
mutual
def valG {α : Type} (leaf : Str → α) (node : Str → List α → α) : D → List α
  | .fl (.str z) => [leaf z]
  | .sq (.fl (.str z) :: cs) => [node z (valGs leaf node cs)]
  | _ => []
def valGs {α : Type} (leaf : Str → α) (node : Str → List α → α) : List D → List α
  | [] => []
  | d :: ds => valG leaf node d ++ valGs leaf node ds
end
section
variable {α : Type} {leaf : Str → α} {node : Str → List α → α}
theorem valG_len : ∀ {d : D}, isSh d = true → (valG leaf node d).length = 1 := fun {d} h => by
  rcases isSh_inv h with ⟨z, rfl, _⟩ | ⟨z, cs, rfl, _, _⟩
  · simp [valG]
  · simp [valG]
theorem valGs_len : ∀ {ds : List D}, isShs ds = true → (valGs leaf node ds).length = ds.length
  | [], _ => rfl
  | d :: ds, h => by
    rw [isShs, Bool.and_eq_true] at h
    rw [valGs, List.length_append, valG_len h.1, valGs_len h.2, List.length_cons, Nat.add_comm]
mutual
theorem fold_g : ∀ (d : D) (st : List α), isSh d = true → (nodesD d).reverse.foldl (stepG leaf node) st = st ++ valG leaf node d
  | .fl x, st, h => by
    cases x with
    | str z => simp [nodesD, stepG, valG]
    | _ => cases h
  | .emp, st, h => by cases h
  | .sq [], st, h => by cases h
  | .sq (x :: cs), st, h => by
    rcases isSh_inv h with ⟨z, e, _⟩ | ⟨z, cs', e, _, hcs⟩
    · cases e
    · cases e
      rw [nodesD, List.reverse_cons, List.foldl_append, folds_g cs st hcs]
      show stepG leaf node (st ++ (valGs leaf node cs).reverse) (.sq (.fl (.str z) :: cs)) = _
      have hl : (st ++ (valGs leaf node cs).reverse).length - cs.length = st.length := by rw [List.length_append, List.length_reverse, valGs_len hcs]; omega
      unfold stepG
      dsimp only
      rw [hl, List.take_left' rfl, List.drop_left' rfl, List.reverse_reverse, valG]
theorem folds_g : ∀ (ds : List D) (st : List α), isShs ds = true → (nodesDs ds).reverse.foldl (stepG leaf node) st = st ++ (valGs leaf node ds).reverse
  | [], st, _ => by simp [nodesDs, valGs]
  | d :: ds, st, h => by
    rw [isShs, Bool.and_eq_true] at h
    have h1 := valG_len (leaf := leaf) (node := node) h.1
    rw [nodesDs, List.reverse_append, List.foldl_append, folds_g ds st h.2, fold_g d _ h.1, valGs, List.reverse_append, List.append_assoc]
    congr 2
    match valG leaf node d, h1 with
    | [a], _ => rfl
end
end
mutual
/-- behind a node stand those beneath it -/
theorem nodes_split : ∀ (d : D) {pre post : List D} {x : D} {cs : List D}, nodesD d = pre ++ .sq (x :: cs) :: post → ∃ rest, post = nodesDs cs ++ rest
  | .fl y, pre, post, x, cs, e => by
    have e : [D.fl y] = pre ++ .sq (x :: cs) :: post := by rw [← e]; simp [nodesD]
    cases pre with
    | nil => cases e
    | cons p pre => simp at e
  | .emp, pre, post, x, cs, e => by
    have e : [D.emp] = pre ++ .sq (x :: cs) :: post := by rw [← e]; simp [nodesD]
    cases pre with
    | nil => cases e
    | cons p pre => simp at e
  | .sq [], pre, post, x, cs, e => by
    have e : [D.sq []] = pre ++ .sq (x :: cs) :: post := by rw [← e]; simp [nodesD]
    cases pre with
    | nil => cases e
    | cons p pre => simp at e
  | .sq (y :: es), pre, post, x, cs, e => by
    rw [nodesD] at e
    cases pre with
    | nil =>
      injection e with e1 e2
      injection e1 with e1
      injection e1 with e1 e3
      subst e3
      exact ⟨[], by rw [List.append_nil]; exact e2.symm⟩
    | cons p pre =>
      injection e with _ e2
      exact nodess_split es e2
theorem nodess_split : ∀ (ds : List D) {pre post : List D} {x : D} {cs : List D}, nodesDs ds = pre ++ .sq (x :: cs) :: post → ∃ rest, post = nodesDs cs ++ rest
  | [], pre, post, x, cs, e => by
    have e : [] = pre ++ .sq (x :: cs) :: post := by rw [← e]; simp [nodesDs]
    cases pre <;> cases e
  | d :: ds, pre, post, x, cs, e => by
    rw [nodesDs] at e
    rcases List.append_eq_append_iff.mp e with ⟨a, e1, e2⟩ | ⟨c, e1, e2⟩
    · exact nodess_split ds e2
    · cases c with
      | nil =>
        rw [List.nil_append] at e2
        exact nodess_split ds (pre := []) e2.symm
      | cons c0 c =>
        injection e2 with e3 e4
        subst e3
        obtain ⟨rest, e5⟩ := nodes_split d e1
        exact ⟨rest ++ nodesDs ds, by rw [e4, e5]; exact List.append_assoc _ _ _⟩
end
theorem isSh_nodes : ∀ {d : D}, isSh d = true → ∀ n ∈ nodesD d, isSh n = true := by
  have go : ∀ n : Nat, (∀ d : D, sz d ≤ n → isSh d = true → ∀ m ∈ nodesD d, isSh m = true) ∧ ∀ ds : List D, szs ds ≤ n → isShs ds = true → ∀ m ∈ nodesDs ds, isSh m = true := by
    intro n
    induction n with
    | zero =>
      refine ⟨fun d h => by have := sz_pos d; omega, fun ds h _ m hm => ?_⟩
      cases ds with
      | nil => cases hm
      | cons d ds => rw [szs] at h; have := sz_pos d; omega
    | succ n ih =>
      have one : ∀ d : D, sz d ≤ n + 1 → isSh d = true → ∀ m ∈ nodesD d, isSh m = true := fun d h hs m hm => by
        rcases isSh_inv hs with ⟨z, rfl, hz⟩ | ⟨z, cs, rfl, _, hcs⟩
        · have : m = .fl (.str z) := by simpa [nodesD] using hm
          rw [this]; exact hs
        · rw [nodesD] at hm
          rcases List.mem_cons.mp hm with rfl | hm
          · exact hs
          · rw [sz, szs] at h
            have := sz_pos (.fl (.str z))
            exact ih.2 cs (by omega) hcs m hm
      refine ⟨one, fun ds => ?_⟩
      induction ds with
      | nil => intro _ _ m hm; cases hm
      | cons d ds ihd =>
        intro h hs m hm
        rw [isShs, Bool.and_eq_true] at hs
        rw [szs] at h
        rw [nodesDs] at hm
        rcases List.mem_append.mp hm with hm | hm
        · exact one d (by omega) hs.1 m hm
        · exact ihd (by omega) hs.2 m hm
  exact fun {d} h n hn => (go (sz d)).1 d (Nat.le_refl _) h n hn
/-- at each node the stack is high enough -/
theorem stack_high {α : Type} {leaf : Str → α} {node : Str → List α → α} {d : D} (h : isSh d = true) {j : Nat} {x : D} {cs : List D} (hj : (nodesD d).reverse[j]? = some (.sq (x :: cs))) : cs.length ≤ (((nodesD d).reverse.take j).foldl (stepG leaf node) []).length := by
  obtain ⟨hlt, e⟩ := List.getElem?_eq_some_iff.mp hj
  have e1 : (nodesD d).reverse = (nodesD d).reverse.take j ++ .sq (x :: cs) :: (nodesD d).reverse.drop (j + 1) := by
    rw [← e, List.getElem_cons_drop, List.take_append_drop]
  have e2 := congrArg List.reverse e1
  rw [List.reverse_reverse, List.reverse_append, List.reverse_cons, List.append_assoc] at e2
  obtain ⟨rest, e3⟩ := nodes_split d e2
  have hn := isSh_nodes h (.sq (x :: cs)) (by rw [e2]; simp)
  have hcs : isShs cs = true := by
    rcases isSh_inv hn with ⟨z, e, _⟩ | ⟨z, cs', e, _, hcs⟩
    · cases e
    · cases e; exact hcs
  have e3 : ((nodesD d).reverse.take j).reverse = nodesDs cs ++ rest := e3
  have e4 : (nodesD d).reverse.take j = rest.reverse ++ (nodesDs cs).reverse := by rw [← List.reverse_append, ← e3, List.reverse_reverse]
  rw [e4, List.foldl_append, folds_g cs _ hcs, List.length_append, List.length_reverse, valGs_len hcs]
  omega
/-! texts -/
def nodeT (z : Str) (ts : List (List Nat)) : List Nat := if ts = [] then TL.tl z else TL.tl z ++ 40 :: (TL.joinL [44, 32] ts ++ [41])
def leafT (z : Str) : List Nat := 63 :: TL.tl z
def tx (d : D) : List Nat := (valG leafT nodeT d).headD []
abbrev sNText : Stmt := top 10
abbrev sText : Stmt := top 11
def spNText : Sp := fun vs H Q _ => ∃ (z : Str) (p : Addr) (ts : List (List Nat)), vs = [.str z, .ref p] ∧ H p = some (.lst (ts.map fun t => V.str (S t))) ∧ z.length ≤ 100 ∧ (ts.map List.length).sum ≤ 200000 ∧ ts.length ≤ 100000 ∧ Q (.str (S (nodeT z ts))) H
def spText : Sp := fun vs H Q _ => ∃ (v : V) (d : D) (F : Addr → Prop), vs = [v] ∧ DAt F H v d ∧ isSh d = true ∧ sz d ≤ 10000 ∧ ∀ H', Same H H' → Q (.str (S (tx d))) H'
theorem scNText : FnScope ["label", "texts", "inside"] ["label", "texts"] (fnScope sNText) := fnScope_by (by decide +kernel)
abbrev NTx : List Str := ["shape", "made", "node", "texts", "_"]
theorem scText : FnScope NTx ["shape"] (fnScope sText) := fnScope_by (by decide +kernel)
structure Gm (mg : Str → Option Value) : Prop where
  mark : ∃ u, mg "MARK" = some u ∧ RelV (.str "?") u
theorem S_tl (z : Str) : S (TL.tl z) = z := TL.ext_tl rfl
theorem joinL_le : ∀ ts : List (List Nat), (TL.joinL [44, 32] ts).length ≤ (ts.map List.length).sum + 2 * ts.length
  | [] => Nat.le_refl _
  | [p] => by simp [TL.joinL]
  | p :: q :: r => by
    have := joinL_le (q :: r)
    rw [TL.joinL, List.length_append, List.length_append, List.map_cons, List.sum_cons, List.length_cons (a := p)]
    simp only [List.length_cons, List.length_nil] at this ⊢
    omega
section
variable {P : Program} {w : World} {K : PySem.W.Frag} {mg : Str → Option Value} {base : Heap}
theorem c_ntext {f : Addr} {fd : FuncData} (F : Def K mg "node_text" sNText f fd) (b : Binds K fd ["label", "texts"] []) (T : Blt4 mg) : Cal P w K mg base 1 "node_text" spNText [] := by
  refine cal0 F b .nil scNText (fun vs H Q E h => ?_) (fun cdv A outer s H vs Q E hr h => ?_)
  · obtain ⟨z, p, ts, rfl, _⟩ := h
    rfl
  · obtain ⟨z, p, ts, rfl, hp, hz, hs, hl, k⟩ := h
    have nd := scNText.nd
    refine ⟨_, pss_cons (ps_if (pt_not (pt_truth (pv 1) (by intro _; rfl))) (pss_one (ps_ret (pv 0))) pss_nil)
      (pss_cons (ps_set (i := 2) nd rfl (Or.inl rfl) (pe_join pe_str (pv 1)))
      (pss_one (ps_ret (pe_joined (.cons (pe_fmt (pv 0)) (.cons pe_str (.cons (pe_fmt (pv 2)) (.cons pe_str .nil)))))))), ?_⟩
    refine ⟨_, rfl, !(ts.map fun t => V.str (S t)).isEmpty, .inl ⟨_, SqL.of hp, rfl⟩, ?_⟩
    cases ts with
    | nil =>
      refine iteBt rfl ⟨_, rfl, ?_⟩
      have : S (nodeT z []) = z := by unfold nodeT; rw [if_pos rfl]
      rw [this] at k
      exact k
    | cons t ts =>
      refine iteBf rfl ?_
      have hm : (t :: ts).map (fun t => V.str (S t)) = ((t :: ts).map S).map V.str := by rw [List.map_map]; rfl
      have hsum : (((t :: ts).map S).map (·.length)).sum = ((t :: ts).map List.length).sum := by
        rw [List.map_map]
        congr 1
      have hlm : ((t :: ts).map S).length = (t :: ts).length := List.length_map _
      refine ⟨⟨_, rfl⟩, _, rfl, ", ", p, (t :: ts).map S, rfl, rfl, .inl (SqL.of (by rw [← hm]; exact hp)), ?_, ?_⟩
      · rw [hsum, hlm, show ((", " : Str)).length = 2 from rfl]
        omega
      have hj : TL.tl (Txt.join ", " ((t :: ts).map S)) = TL.joinL [44, 32] (t :: ts) := by
        have e1 : TL.tl (Str.join ", " ((t :: ts).map S)) = TL.joinL (TL.tl ", ") (((t :: ts).map S).map TL.tl) := TL.tl_join _ _
        have e2 : ((t :: ts).map S).map TL.tl = t :: ts := by
          rw [List.map_map]
          exact List.map_id _
        rw [e2, show TL.tl (", " : Str) = [44, 32] by decide +kernel] at e1
        rw [show Txt.join ", " ((t :: ts).map S) = Str.join ", " ((t :: ts).map S) from PySem.StrLaws.glued_eq_join _ _]
        exact e1
      generalize Txt.join ", " ((t :: ts).map S) = J at hj
      have hjl : J.length ≤ 400000 := by
        rw [TL.len_tl, hj]
        have := joinL_le (t :: ts)
        omega
      have h1 : (Str.empty ++ z).length ≤ sizeLine := by rw [TL.len_tl, TL.tl_append, List.length_append, ← TL.len_tl, ← TL.len_tl, sizeLine_eq]; show 0 + _ ≤ _; omega
      refine ⟨_, rfl, .inl ⟨z, rfl, by rw [sizeLine_eq]; omega, z, rfl, h1, _, rfl, ?_, _, rfl, .inl ⟨J, rfl, by rw [sizeLine_eq]; omega, J, rfl, ?_, _, rfl, ?_, ?_⟩⟩⟩
      · rw [TL.len_tl, TL.tl_append, TL.tl_append, List.length_append, List.length_append, ← TL.len_tl, ← TL.len_tl, ← TL.len_tl, sizeLine_eq]
        show 0 + _ + 1 ≤ _
        omega
      · rw [TL.len_tl, TL.tl_append, TL.tl_append, TL.tl_append, List.length_append, List.length_append, List.length_append, ← TL.len_tl, ← TL.len_tl, ← TL.len_tl, ← TL.len_tl, sizeLine_eq]
        show 0 + _ + 1 + _ ≤ _
        omega
      · rw [TL.len_tl, TL.tl_append, TL.tl_append, TL.tl_append, TL.tl_append, List.length_append, List.length_append, List.length_append, List.length_append, ← TL.len_tl, ← TL.len_tl, ← TL.len_tl, ← TL.len_tl, ← TL.len_tl, sizeLine_eq]
        show 0 + _ + 1 + _ + 1 ≤ _
        omega
      · have : Str.empty ++ z ++ "(" ++ J ++ ")" = S (nodeT z (t :: ts)) := by
          apply TL.ext_tl
          rw [TL.tl_append, TL.tl_append, TL.tl_append, TL.tl_append, hj]
          unfold nodeT
          rw [if_neg (by simp)]
          show [] ++ TL.tl z ++ [40] ++ TL.joinL [44, 32] (t :: ts) ++ [41] = TL.tl z ++ 40 :: (TL.joinL [44, 32] (t :: ts) ++ [41])
          simp
        rw [← this] at k
        exact k
end
end K7

namespace K7
open PySem PySem.Spec PyProof.Rows L2 C8 XE XR SX
/-! text_of -/
def lens (ts : List (List Nat)) : Nat := (ts.map List.length).sum
theorem lens_app (a b : List (List Nat)) : lens (a ++ b) = lens a + lens b := by unfold lens; rw [List.map_append, List.sum_append]
theorem lens_rev (a : List (List Nat)) : lens a.reverse = lens a := by
  induction a with
  | nil => rfl
  | cons x a ih => rw [List.reverse_cons, lens_app, ih]; unfold lens; simp; omega
theorem lens_split (a : List (List Nat)) (n : Nat) : lens (a.take n) + lens (a.drop n) = lens a := by rw [← lens_app, List.take_append_drop]
theorem word_len {z : Str} (h : wordS z = true) : z.length ≤ 8 := by
  unfold wordS at h
  rw [Bool.and_eq_true, Bool.and_eq_true] at h
  exact of_decide_eq_true h.2.1
theorem nodeT_le {z : Str} {ts : List (List Nat)} (h : wordS z = true) : (nodeT z ts).length ≤ 10 + lens ts + 2 * ts.length := by
  have h1 := word_len h
  rw [TL.len_tl] at h1
  unfold nodeT
  split
  · omega
  · have := joinL_le ts
    rw [List.length_append, List.length_cons, List.length_append]
    unfold lens
    simp only [List.length_cons, List.length_nil]
    omega
/-- a turn adds so much at most -/
theorem stepT_len {st : List (List Nat)} {n : D} (h : isSh n = true) : lens (stepG leafT nodeT st n) + 2 * (stepG leafT nodeT st n).length ≤ lens st + 2 * st.length + 14 := by
  rcases isSh_inv h with ⟨z, rfl, hz⟩ | ⟨z, cs, rfl, hz, _⟩
  · have := word_len hz
    rw [TL.len_tl] at this
    show lens (st ++ [leafT z]) + 2 * (st ++ [leafT z]).length ≤ _
    rw [lens_app, List.length_append, show lens [leafT z] = (TL.tl z).length + 1 from by unfold lens leafT; simp]
    simp only [List.length_cons, List.length_nil]
    omega
  · show lens (st.take (st.length - cs.length) ++ [nodeT z (st.drop (st.length - cs.length)).reverse]) + 2 * (st.take (st.length - cs.length) ++ [nodeT z (st.drop (st.length - cs.length)).reverse]).length ≤ _
    have h1 := nodeT_le (ts := (st.drop (st.length - cs.length)).reverse) hz
    have h2 := lens_split st (st.length - cs.length)
    rw [lens_rev] at h1
    rw [lens_app, List.length_append, List.length_take, show lens [nodeT z (st.drop (st.length - cs.length)).reverse] = (nodeT z (st.drop (st.length - cs.length)).reverse).length from by unfold lens; simp]
    rw [List.length_reverse, List.length_drop] at h1
    simp only [List.length_cons, List.length_nil]
    omega
theorem foldT_len : ∀ {ns : List D} {st : List (List Nat)}, (∀ n ∈ ns, isSh n = true) → lens (ns.foldl (stepG leafT nodeT) st) + 2 * (ns.foldl (stepG leafT nodeT) st).length ≤ lens st + 2 * st.length + 14 * ns.length
  | [], st, _ => Nat.le_refl _
  | n :: ns, st, h => by
    have h1 := stepT_len (st := st) (h n List.mem_cons_self)
    have h2 := foldT_len (ns := ns) (st := stepG leafT nodeT st n) fun m hm => h m (List.mem_cons_of_mem _ hm)
    rw [List.foldl_cons, List.length_cons]
    omega
mutual
theorem DAt.off {F : Addr → Prop} {H : Hp} {p : Addr} (n : H p = none) : ∀ (d : D) {v : V}, DAt F H v d → DAt (fun a => F a ∧ a ≠ p) H v d
  | .fl x, _, e => e
  | .emp, _, e => e
  | .sq xs, _, ⟨a, vs, e, q, o, k⟩ => ⟨a, vs, e, q.imp id fun ⟨f, q⟩ => ⟨⟨f, ne_of_none q n⟩, q⟩, o, DAts.off n xs k⟩
theorem DAts.off {F : Addr → Prop} {H : Hp} {p : Addr} (n : H p = none) : ∀ (ds : List D) {vs : List V}, DAts F H vs ds → DAts (fun a => F a ∧ a ≠ p) H vs ds
  | [], [], _ => trivial
  | d :: ds, v :: vs, ⟨k, t⟩ => ⟨DAt.off n d k, DAts.off n ds t⟩
  | [], _ :: _, k => k
  | _ :: _, [], k => k
end
theorem Hold.but1 {F : Addr → Prop} {H H' : Hp} {p : Addr} {xs : List V} (hp : H p = some (.lst xs)) (b : But p H H') (hF : ∀ a, F a → a ≠ p) : Hold F H H' :=
  ⟨fun a _ e => b _ _ e (ne_of e hp (by intro z; cases z)), fun a e => b _ _ e (ne_of e hp (by intro z; cases z)), fun a _ g e => b _ _ e (hF a g)⟩
def mV (st : List (List Nat)) : List V := st.map fun t => V.str (S t)
section
variable {P : Program} {w : World} {K : PySem.W.Frag} {mg : Str → Option Value} {base : Heap}
theorem c_text {f : Addr} {fd : FuncData} (F : Def K mg "text_of" sText f fd) (b : Binds K fd ["shape"] []) (T : Blt4 mg) (Gk : Gm mg) (CN : Cal P w K mg base 2 "nodes_in_order" spNodes []) (CH : Cal P w K mg base 1 "is_hole" spHole []) (CT : Cal P w K mg base 1 "node_text" spNText []) : Cal P w K mg base 3 "text_of" spText [] := by
  refine cal0 F b .nil scText (fun vs H Q E h => ?_) (fun cdv A outer s H vs Q E hr h => ?_)
  · obtain ⟨v, d, G, rfl, _⟩ := h
    rfl
  · obtain ⟨v, d, G, rfl, hv, hsh, hsz, k⟩ := h
    have nd := scText.nd
    refine ⟨_, pss_cons (ps_set (i := 1) nd rfl (Or.inl rfl) (pe_lst pa_nil))
      (pss_cons (ps_for PassesOwn.never rfl (pi_list (pe_revL (pe_c CN hr (by decide) (by rfl) (pa_cons (pv 0) pa_nil)))) (pg_name (i := 2) nd rfl (Or.inl rfl))
        (pss_one (ps_if (pt_val (pe_c CH hr (by decide) (by rfl) (pa_cons (pv 2) pa_nil)))
          (pss_one (ps_expr (pe_bm PySem.F.plainAttrs_list PySem.F.slot_list_append PySem.F.type_list_append mt_append (pv 1) (pa_cons (pe_op op_add_str (pe_gc (by rfl) Gk.mark) (pv 2)) pa_nil))))
          (pss_cons (ps_set (i := 3) nd rfl (Or.inl rfl) (pe_lst pa_nil))
          (pss_cut (ps_for PassesOwn.never rfl (PI.or (pi_list (pe_slice sl_list (pv 2) (po_some pe_int) po_none)) (pi_tup (pe_slice sl_tup (pv 2) (po_some pe_int) po_none))) (pg_name (i := 4) nd rfl (Or.inl rfl))
            (pss_one (ps_expr (pe_bm PySem.F.plainAttrs_list PySem.F.slot_list_append PySem.F.type_list_append mt_append (pv 3) (pa_cons (pe_bm0 PySem.F.plainAttrs_list PySem.F.slot_list_pop PySem.F.type_list_pop mt_pop (pv 1)) pa_nil)))))
          (pss_one (ps_expr (pe_bm PySem.F.plainAttrs_list PySem.F.slot_list_append PySem.F.type_list_append mt_append (pv 1) (pa_cons (pe_c CT hr (by decide) (by rfl) (pa_cons (pe_ix ix_seq (pv 2) pe_int fun _ _ => rfl) (pa_cons (pv 3) pa_nil))) pa_nil)))))))))
      (pss_one (ps_ret (pe_ix ix_list (pv 1) pe_int fun _ _ => rfl)))), ?_⟩
    refine ⟨(by show 0 ≤ sizeLine; decide), fun m1 nm => ?_⟩
    have s0 : Same H (upd H m1 (.lst [])) := same_upd nm
    have hv0 : DAt (fun a => G a ∧ a ≠ m1) (upd H m1 (.lst [])) v d := DAt.hold (.same s0) _ (DAt.off nm _ hv)
    have hm0 : (upd H m1 (.lst [])) m1 = some (.lst []) := upd_same
    generalize upd H m1 (.lst []) = H0 at s0 hv0 hm0
    refine ⟨_, rfl, v, d, _, rfl, hv0, hsh, hsz, fun p ws H1 np s1 hp hws => ⟨p, ws, rfl, SqL.of hp, fun q nq => ⟨q, rfl, ⟨_, SqL.of upd_same⟩, ?_⟩⟩⟩
    have s2 : Same H0 (upd H1 q (.lst ws.reverse)) := s1.trans (same_upd nq)
    have hq2 : (upd H1 q (.lst ws.reverse)) q = some (.lst ws.reverse) := upd_same
    have hm2 := s2 _ _ hm0
    have qm : q ≠ m1 := (ne_of_none (s1 _ _ hm0) nq).symm
    generalize upd H1 q (.lst ws.reverse) = H2 at s2 hq2 hm2
    have hws2 : DAts (fun a => G a ∧ a ≠ m1) H2 ws.reverse (nodesD d).reverse := DAts.hold (.same s2) _ (DAts.rev hws)
    have hwl := hws2.len
    have hnl : (nodesD d).reverse.length ≤ 10000 := by rw [List.length_reverse]; exact Nat.le_trans (nodes_sz d) hsz
    have hnsh : ∀ n ∈ (nodesD d).reverse, isSh n = true := fun n hn => isSh_nodes hsh n (List.mem_reverse.mp hn)
    have stl : ∀ j, lens (((nodesD d).reverse.take j).foldl (stepG leafT nodeT) []) + 2 * (((nodesD d).reverse.take j).foldl (stepG leafT nodeT) []).length ≤ 140000 := fun j => by
      have h1 := foldT_len (ns := (nodesD d).reverse.take j) (st := []) fun n hn => hnsh n (List.mem_of_mem_take hn)
      have h2 : ((nodesD d).reverse.take j).length ≤ 10000 := by rw [List.length_take]; omega
      have h3 : lens ([] : List (List Nat)) = 0 := rfl
      rw [h3, List.length_nil] at h1
      omega
    refine for_gen (J := Itl K q) (nodesD d).reverse.length (fun j σ H' => ∃ v2 v3 v4, σ = [some v, some (.ref m1), v2, v3, v4] ∧ H' m1 = some (.lst (mV (((nodesD d).reverse.take j).foldl (stepG leafT nodeT) []))) ∧ But m1 H2 H') ⟨_, _, _, rfl, hm2, .refl⟩
      (fun j σ H' hj ⟨_, _, _, _, _, b⟩ => ⟨_, ws.reverse.getD j .non, SqL.of (b _ _ hq2 qm), getD_at (by omega)⟩) (fun σ H' ⟨_, _, _, _, _, b⟩ => ⟨_, SqL.of (b _ _ hq2 qm), by omega⟩) ?_ ?_
    · rintro j σ H3 x H3' hj ⟨v2, v3, v4, rfl, hm, b⟩ ⟨rfl, hx⟩
      have hx := hx _ (SqL.of (b _ _ hq2 qm))
      obtain ⟨n, hn, hxn⟩ := hws2.get hx
      have hxn := DAt.hold (.but1 hm2 b fun a g => g.2) _ hxn
      obtain ⟨hlt, en⟩ := List.getElem?_eq_some_iff.mp hn
      have hnS := hnsh n (by rw [← en]; exact List.getElem_mem hlt)
      have hst : ((nodesD d).reverse.take (j + 1)).foldl (stepG leafT nodeT) [] = stepG leafT nodeT (((nodesD d).reverse.take j).foldl (stepG leafT nodeT) []) n := by
        rw [List.take_succ_eq_append_getElem hlt, List.foldl_append, en]
        rfl
      have hsl := stl j
      have hhigh : ∀ z cs, n = .sq (.fl (.str z) :: cs) → cs.length ≤ (((nodesD d).reverse.take j).foldl (stepG leafT nodeT) []).length := fun z cs e => stack_high hsh (by rw [hn, e])
      rw [hst]
      generalize ((nodesD d).reverse.take j).foldl (stepG leafT nodeT) [] = st at hm hsl hhigh
      have hml : (mV st).length = st.length := List.length_map _
      refine ⟨_, rfl, x, n, _, rfl, hxn, isSt n, rfl, ?_⟩
      rcases isSh_inv hnS with ⟨z, rfl, hz⟩ | ⟨z, cs, rfl, hz, hcs⟩
      · obtain ⟨rfl, _⟩ := hxn
        have hzl := word_len hz
        refine iteBt rfl ⟨_, rfl, .inl ⟨rfl, _, SqL.of hm⟩, _, rfl, "?", z, rfl, rfl, by rw [sizeLine_eq]; show 1 + z.length ≤ _; omega, m1, mV st, _, rfl, rfl, hm, by rw [sizeLine_eq]; omega, _, v3, v4, rfl, ?_, fun c o e n => by rw [upd_ne n]; exact b _ _ e n⟩
        rw [upd_same]
        show some (HO.lst (mV st ++ [.str ("?" ++ z)])) = some (.lst ((st ++ [leafT z]).map fun t => V.str (S t)))
        rw [List.map_append]
        have : ("?" : Str) ++ z = S (leafT z) := by
          apply TL.ext_tl
          rw [TL.tl_append]
          rfl
        rw [this]
        rfl
      · refine iteBf rfl ⟨(by show 0 ≤ sizeLine; decide), fun t1 nt => ?_⟩
        have hcl := hhigh z cs rfl
        obtain ⟨a, us, rfl, qa, _, hus⟩ := hxn
        match us, hus with
        | [], hus => exact hus.elim
        | u :: us, ⟨hu, hus⟩ =>
          obtain ⟨rfl, _⟩ := hu
          have hul := hus.len
          have tm : t1 ≠ m1 := (ne_of_none hm nt).symm
          have sA : Same H3' (upd H3' t1 (.lst [])) := same_upd nt
          have htA : (upd H3' t1 (.lst [])) t1 = some (.lst []) := upd_same
          generalize upd H3' t1 (.lst []) = H4 at sA htA
          have hm4 := sA _ _ hm
          refine ⟨fun σ H' => ∃ v4, σ = [some v, some (.ref m1), some (.ref a), some (.ref t1), v4] ∧ H' m1 = some (.lst (mV (st.take (st.length - cs.length)))) ∧ H' t1 = some (.lst (mV (st.drop (st.length - cs.length)).reverse)) ∧ (∀ c o, H4 c = some o → c ≠ m1 → c ≠ t1 → H' c = some o), ?_, ?_⟩
          · have walk : ∀ (J : It) (H5 : Hp), Same H4 H5 → (∀ j H', j < us.length → (∀ c o, H5 c = some o → c ≠ m1 → c ≠ t1 → H' c = some o) → J.go j H') → (∀ H', (∀ c o, H5 c = some o → c ≠ m1 → c ≠ t1 → H' c = some o) → J.stop us.length H') → (∀ j H' x H'', (∀ c o, H5 c = some o → c ≠ m1 → c ≠ t1 → H' c = some o) → J.yld j H' x H'' → H'' = H') →
                ∃ W : Nat → Nat → L2.St → Hp → Prop, (∃ m, W 0 m [some v, some (.ref m1), some (.ref a), some (.ref t1), v4] H5) ∧ ∀ i m σ H, W i m σ H → (J.stop i H ∧ ∃ v4, σ = [some v, some (.ref m1), some (.ref a), some (.ref t1), v4] ∧ H m1 = some (.lst (mV (st.take (st.length - cs.length)))) ∧ H t1 = some (.lst (mV (st.drop (st.length - cs.length)).reverse)) ∧ (∀ c o, H4 c = some o → c ≠ m1 → c ≠ t1 → H c = some o)) ∨ (J.go i H ∧ ∃ N : L2.St → Hp → Prop, (∀ σ' H', N σ' H' → ∃ m', m' < m ∧ W (i + 1) m' σ' H') ∧
                  ∀ x H', J.yld i H x H' → gName 4 x σ H' fun σ2 H2 => tDrop (tBM K "list" rAppend (tVar 3) (tCons (tBM0 K "list" rPop (tVar 1)) tNil)) { nx := N, rt := Q, bk := fun σ H' => ∃ v4, σ = [some v, some (.ref m1), some (.ref a), some (.ref t1), v4] ∧ H' m1 = some (.lst (mV (st.take (st.length - cs.length)))) ∧ H' t1 = some (.lst (mV (st.drop (st.length - cs.length)).reverse)) ∧ (∀ c o, H4 c = some o → c ≠ m1 → c ≠ t1 → H' c = some o), ct := N } σ2 H2) := by
              intro J H5 s5 jgo jst jyl
              refine for_gen (J := J) (D := { nx := fun σ H' => ∃ v4, σ = [some v, some (.ref m1), some (.ref a), some (.ref t1), v4] ∧ H' m1 = some (.lst (mV (st.take (st.length - cs.length)))) ∧ H' t1 = some (.lst (mV (st.drop (st.length - cs.length)).reverse)) ∧ (∀ c o, H4 c = some o → c ≠ m1 → c ≠ t1 → H' c = some o), rt := Q }) us.length
                (fun i σ H' => ∃ v4, σ = [some v, some (.ref m1), some (.ref a), some (.ref t1), v4] ∧ H' m1 = some (.lst (mV (st.take (st.length - i)))) ∧ H' t1 = some (.lst (mV (st.drop (st.length - i)).reverse)) ∧ (∀ c o, H5 c = some o → c ≠ m1 → c ≠ t1 → H' c = some o))
                ⟨v4, rfl, by rw [Nat.sub_zero, List.take_length]; exact s5 _ _ hm4, by rw [Nat.sub_zero, List.drop_length]; exact s5 _ _ htA, fun c o e _ _ => e⟩ (fun i σ H' hi ⟨_, _, _, _, kp⟩ => jgo i H' hi kp) (fun σ H' ⟨_, _, _, _, kp⟩ => jst H' kp) ?_ ?_
              · rintro i σ H' y H'' hi ⟨v4, rfl, h1, h2, kp⟩ yl
                obtain rfl := jyl i H' y H'' kp yl
                have hlt2 : st.length - i - 1 < st.length := by omega
                have e1 : st.take (st.length - i) = st.take (st.length - (i + 1)) ++ [st[st.length - i - 1]] := by
                  have e0 := List.take_succ_eq_append_getElem hlt2
                  rw [show st.length - i - 1 + 1 = st.length - i by omega] at e0
                  exact e0
                have e2 : st.drop (st.length - (i + 1)) = st[st.length - i - 1] :: st.drop (st.length - i) := by
                  have : st.length - (i + 1) = st.length - i - 1 := by omega
                  rw [this, List.drop_eq_getElem_cons hlt2]
                  congr 2
                  omega
                have hd2 : (mV (st.drop (st.length - i)).reverse).length = i := by unfold mV; rw [List.length_map, List.length_reverse, List.length_drop]; omega
                refine ⟨_, rfl, .inl ⟨rfl, _, SqL.of h2⟩, _, rfl, .inl ⟨rfl, _, SqL.of h1⟩, m1, _, .str (S st[st.length - i - 1]), rfl, rfl, h1, ?_, ?_⟩
                · rw [e1]
                  unfold mV
                  rw [List.map_append, List.length_append]
                  simp
                · refine ⟨t1, _, _, rfl, rfl, by rw [upd_ne tm]; exact h2, by rw [hd2, sizeLine_eq]; omega, _, rfl, ?_, ?_, fun c o e n1 n2 => by rw [upd_ne n2, upd_ne n1]; exact kp c o e n1 n2⟩
                  · rw [upd_ne tm.symm, upd_same, e1]
                    unfold mV
                    rw [List.map_append]
                    congr 2
                    simp
                  · rw [upd_same, e2, List.reverse_cons]
                    unfold mV
                    rw [List.map_append]
                    rfl
              · rintro σ H' ⟨v4, rfl, h1, h2, kp⟩
                rw [hul] at h1 h2
                exact ⟨v4, rfl, h1, h2, fun c o e n1 n2 => kp c o (s5 _ _ e) n1 n2⟩
            have qa4 : H4 a = some (.tup (.str z :: us)) ∨ H4 a = some (.lst (.str z :: us)) := qa.imp (sA _ _) fun e => sA _ _ e.2
            rcases qa4 with qa4 | qa4
            · refine .inr ⟨_, rfl, 1, rfl, a, _, rfl, SqT.of qa4, not_whole (by decide) (by simp), fun p3 n3 => ?_⟩
              rw [cutFrom (by decide)]
              have e3 : (V.str z :: us).drop (1 : Int).toNat = us := rfl
              rw [e3]
              refine ⟨p3, rfl, ⟨_, SqT.of upd_same⟩, ?_⟩
              have pm : p3 ≠ m1 := (ne_of_none hm4 n3).symm
              have pt : p3 ≠ t1 := (ne_of_none htA n3).symm
              exact walk (Itt K p3) _ (same_upd n3) (fun j H' hj kp => ⟨_, us.getD j .non, SqT.of (kp p3 _ upd_same pm pt), getD_at hj⟩) (fun H' kp => ⟨_, SqT.of (kp p3 _ upd_same pm pt), Nat.le_refl _⟩) (fun j H' x H'' kp yl => yl.1)
            · refine .inl ⟨_, rfl, 1, rfl, a, _, rfl, SqL.of qa4, fun p3 n3 => ?_⟩
              rw [cutFrom (by decide)]
              have e3 : (V.str z :: us).drop (1 : Int).toNat = us := rfl
              rw [e3]
              refine ⟨p3, rfl, ⟨_, SqL.of upd_same⟩, ?_⟩
              have pm : p3 ≠ m1 := (ne_of_none hm4 n3).symm
              have pt : p3 ≠ t1 := (ne_of_none htA n3).symm
              exact walk (Itl K p3) _ (same_upd n3) (fun j H' hj kp => ⟨_, us.getD j .non, SqL.of (kp p3 _ upd_same pm pt), getD_at hj⟩) (fun H' kp => ⟨_, SqL.of (kp p3 _ upd_same pm pt), Nat.le_refl _⟩) (fun j H' x H'' kp yl => yl.1)
          · rintro σ H5 ⟨v4, rfl, h1, h2, kp⟩
            have am : a ≠ m1 := by
              rcases qa with qa | qa
              · exact ne_of qa hm (by intro z; cases z)
              · exact qa.1.2
            have at1 : a ≠ t1 := by
              rcases qa with qa | qa
              · exact ne_of_none qa nt
              · exact ne_of_none qa.2 nt
            have qa5 : H5 a = some (.tup (.str z :: us)) ∨ H5 a = some (.lst (.str z :: us)) := qa.imp (fun e => kp _ _ (sA _ _ e) am at1) fun e => kp _ _ (sA _ _ e.2) am at1
            have hzl := word_len hz
            have hls := lens_split st (st.length - cs.length)
            have fin : tCall spNText [] C8.E0 (fun σ H Q => Q [.str z, .ref t1] H) [some v, some (.ref m1), some (.ref a), some (.ref t1), v4] H5 fun y H6 => rAppend (.ref m1) [y] H6 fun _ H1 => ∃ v2 v3 v4', [some v, some (.ref m1), some (.ref a), some (.ref t1), v4] = [some v, some (.ref m1), v2, v3, v4'] ∧ H1 m1 = some (.lst (mV (stepG leafT nodeT st (.sq (.fl (.str z) :: cs))))) ∧ But m1 H2 H1 := by
              refine ⟨z, t1, (st.drop (st.length - cs.length)).reverse, rfl, h2, by omega, ?_, ?_, m1, _, _, rfl, rfl, h1, ?_, _, _, _, rfl, ?_, fun c o e n1 => ?_⟩
              · have := lens_rev (st.drop (st.length - cs.length))
                show lens (st.drop (st.length - cs.length)).reverse ≤ _
                omega
              · rw [List.length_reverse, List.length_drop]; omega
              · unfold mV; rw [List.length_map, List.length_take, sizeLine_eq]; omega
              · rw [upd_same]
                show _ = some (HO.lst (mV (st.take (st.length - cs.length) ++ [nodeT z (st.drop (st.length - cs.length)).reverse])))
                unfold mV
                rw [List.map_append]
                rfl
              · rw [upd_ne n1]
                exact kp c o (sA _ _ (b _ _ e n1)) n1 (ne_of_none (b _ _ e n1) nt)
            refine ⟨_, rfl, .inl ⟨rfl, _, SqL.of h1⟩, _, rfl, ?_⟩
            rcases qa5 with qa5 | qa5
            · exact .inr (.inl ⟨a, _, 0, _, rfl, rfl, SqT.of qa5, at_of (j := 0) (by omega) rfl, _, rfl, fin⟩)
            · exact .inl ⟨a, _, 0, _, rfl, rfl, SqL.of qa5, at_of (j := 0) (by omega) rfl, _, rfl, fin⟩
    · rintro σ H3 ⟨v2, v3, v4, rfl, hm, b⟩
      rw [List.take_length, fold_g d [] hsh, List.nil_append] at hm
      have h1 := valG_len (leaf := leafT) (node := nodeT) hsh
      have sm : Same H H3 := fun c o e => b _ _ (s2 _ _ (s0 _ _ e)) (ne_of_none e nm)
      refine ⟨_, rfl, m1, _, 0, .str (S (tx d)), rfl, rfl, SqL.of hm, at_of (j := 0) (by omega) ?_, k H3 sm⟩
      unfold tx
      match valG leafT nodeT d, h1 with
      | [t], _ => rfl
end
end K7

namespace K7
open PySem PySem.Spec PyProof.Rows L2 C8 XE XR SX
/-! word_at -/
abbrev sWordAt : Stmt := top 12
theorem cut_S {T : Str} {a b : Nat} (h : a ≤ T.length) (h2 : a ≤ b) : cutS T (some (a : Int)) (some (b : Int)) = S (((TL.tl T).drop a).take (b - a)) := by
  have h1 : HT.sIx T.length 0 (some (a : Int)) = a := by
    unfold HT.sIx
    dsimp only
    rw [if_neg (by omega)]
    omega
  have h3 : HT.sIx T.length T.length (some (b : Int)) = min b T.length := by
    unfold HT.sIx
    dsimp only
    rw [if_neg (by omega)]
    omega
  unfold cutS
  rw [h1, h3]
  show S (((TL.tl T).drop a).take (min b T.length - a)) = _
  congr 1
  have hl : ((TL.tl T).drop a).length = T.length - a := by rw [List.length_drop, ← TL.len_tl]
  by_cases hb : b ≤ T.length
  · rw [Nat.min_eq_left hb]
  · rw [Nat.min_eq_right (by omega), List.take_of_length_le (by omega), List.take_of_length_le (by omega)]
def spWordAt : Sp := fun vs H Q _ => ∃ (T : Str) (n : Nat) (z : Str) (r : List Nat), vs = [.str T, .int n] ∧ T.length ≤ 1000000 ∧ n ≤ T.length ∧ (TL.tl T).drop n = TL.tl z ++ r ∧ wordS z = true ∧ (∀ c, r.head? = some c → c ∉ TL.tl letters) ∧ Q (.str z) H
theorem scWordAt : FnScope ["text", "at", "end"] ["text", "at"] (fnScope sWordAt) := fnScope_by (by decide +kernel)
structure Gl (mg : Str → Option Value) : Prop where
  let_ : ∃ u, mg "LETTERS" = some u ∧ RelV (.str letters) u
  lon : ∃ u, mg "LONGEST_WORD" = some u ∧ RelV (.int 8) u
theorem word_sign {z : Str} (h : wordS z = true) : ∀ c ∈ TL.tl z, c ∈ TL.tl letters := by
  unfold wordS at h
  rw [Bool.and_eq_true, Bool.and_eq_true] at h
  exact fun c hc => of_decide_eq_true (List.all_eq_true.mp h.2.2 c hc)
theorem word_pos {z : Str} (h : wordS z = true) : 1 ≤ z.length := by
  unfold wordS at h
  rw [Bool.and_eq_true] at h
  exact of_decide_eq_true h.1
section
variable {P : Program} {w : World} {K : PySem.W.Frag} {mg : Str → Option Value} {base : Heap}
theorem c_wordAt {f : Addr} {fd : FuncData} (F : Def K mg "word_at" sWordAt f fd) (b : Binds K fd ["text", "at"] []) (T : Blt4 mg) (G : Gl mg) : Cal P w K mg base 1 "word_at" spWordAt [] := by
  refine cal0 F b .nil scWordAt (fun vs H Q E h => ?_) (fun cdv A outer s H vs Q E hr h => ?_)
  · obtain ⟨X, n, z, r, rfl, _⟩ := h
    rfl
  · obtain ⟨X, n, z, r, rfl, hX, hn, he, hz, hr2, k⟩ := h
    have nd := scWordAt.nd
    refine ⟨_, pss_cons (ps_set (i := 2) nd rfl (Or.inl rfl) (pv 1))
      (pss_cons (ps_while PassesOwn.never (pw_and (pt_cmp (pc_lt (pv 2) (pe_callB call_len_str (by rfl) T.len PySem.boot_len (pa_cons (pv 0) pa_nil)))) (pw_and (pt_cmp (pc_lt (pv 2) (pe_op op_add (pv 1) (pe_gc (by rfl) G.lon)))) (pw_and1 (pt_cmpR op_in_sign (pe_ix ix_str (pv 0) (pv 2) fun _ _ => rfl) (pe_gc (by rfl) G.let_) rfl)))).pt
        (pss_one (ps_set (i := 2) nd rfl (Or.inl rfl) (pe_op op_add (pv 2) pe_int))))
      (pss_cons (ps_if (pt_cmp (pc_eqI (pv 2) (pv 1))) pss_never pss_nil)
      (pss_one (ps_ret (pe_slice sl_str (pv 0) (po_some (pv 1)) (po_some (pv 2))))))), ?_⟩
    have hz1 := word_pos hz
    have hz8 := word_len hz
    have hzl : (TL.tl z).length = z.length := (TL.len_tl z).symm
    have hlX : (TL.tl X).length = X.length := (TL.len_tl X).symm
    have htot : X.length = n + z.length + r.length := by
      have := congrArg List.length he
      rw [List.length_drop, List.length_append] at this
      omega
    have hsl : X.length ≤ sizeLine := by rw [sizeLine_eq]; omega
    have sign : ∀ (i c : Nat), (TL.tl z ++ r)[i]? = some c → atI X.cps.toList ((n + i : Nat) : Int) = some c := fun i c h => by
      refine atI_nat ?_
      have : (TL.tl X)[n + i]? = ((TL.tl X).drop n)[i]? := by rw [List.getElem?_drop]
      show (TL.tl X)[n + i]? = _
      rw [this, he]
      exact h
    refine ⟨_, rfl, ?_⟩
    have i0 : (n : Int) = ((n + 0 : Nat) : Int) := by omega
    refine ⟨fun μ σ H' => ∃ i : Nat, μ = z.length - i ∧ i ≤ z.length ∧ σ = [some (.str X), some (.int n), some (.int ((n + i : Nat) : Int))] ∧ H' = H, ⟨_, 0, rfl, Nat.zero_le _, rfl, rfl⟩, ?_⟩
    rintro μ σ H' ⟨i, rfl, hi, rfl, rfl⟩
    have fin : i = z.length → cutS X (some (n : Int)) (some ((n + i : Nat) : Int)) = z := fun e => by
      rw [cut_S hn (by omega), he, e, show n + z.length - n = (TL.tl z).length by omega, List.take_left' rfl]
    have ex : i = z.length → tSeq (tIfS (tB (tEqI (tVar 2) (tVar 1))) tNever tNext) (tRet (tSl rSlS (tVar 0) (tPart (tVar 1)) (tPart (tVar 2)))) { nx := fun _ H' => Q .non H', rt := Q } [some (.str X), some (.int n), some (.int ((n + i : Nat) : Int))] H' := fun e => by
      refine ⟨_, rfl, _, rfl, _, _, rfl, rfl, _, rfl, iteBf (decide_eq_false (by omega)) ?_⟩
      refine ⟨_, rfl, _, rfl, (n : Int), rfl, _, rfl, ((n + i : Nat) : Int), rfl, X, rfl, hsl, ?_⟩
      rw [fin e]
      exact k
    refine ⟨_, rfl, _, rfl, X, rfl, hsl, (n + i : Nat), X.length, rfl, rfl, _, rfl, ?_⟩
    by_cases h1 : n + i < X.length
    · refine iteBt (decide_eq_true (by omega)) ?_
      refine ⟨_, rfl, _, rfl, _, _, rfl, rfl, _, _, rfl, rfl, _, rfl, ?_⟩
      by_cases h2 : i < 8
      · refine iteBt (decide_eq_true (by omega)) ?_
        obtain ⟨c, hc⟩ : ∃ c, (TL.tl z ++ r)[i]? = some c := ⟨_, List.getElem?_eq_getElem (by rw [List.length_append]; omega)⟩
        refine ⟨_, rfl, _, rfl, X, _, c, rfl, rfl, hsl, sign i c hc, c, letters, rfl, rfl, _, rfl, ?_⟩
        by_cases h3 : i = z.length
        · have hr0 : r.head? = some c := by
            rw [List.getElem?_append_right (by omega)] at hc
            rw [show i - (TL.tl z).length = 0 by omega] at hc
            rw [List.head?_eq_getElem?]
            exact hc
          exact iteBf (decide_eq_false (hr2 c hr0)) (ex h3)
        · rw [List.getElem?_append_left (by omega)] at hc
          refine iteBt (decide_eq_true (word_sign hz c (List.mem_of_getElem? hc))) ?_
          refine ⟨fun σ H2 => σ = [some (.str X), some (.int n), some (.int ((n + (i + 1) : Nat) : Int))] ∧ H2 = H', fun σ' H'' ⟨e1, e2⟩ => ⟨z.length - (i + 1), by omega, i + 1, rfl, by omega, e1, e2⟩, ?_⟩
          refine ⟨_, rfl, _, 1, rfl, rfl, ?_, rfl⟩
          show [some (V.str X), some (.int n), some (.int (((n + i : Nat) : Int) + 1))] = _
          rw [show ((n + i : Nat) : Int) + 1 = ((n + (i + 1) : Nat) : Int) by omega]
      · exact iteBf (decide_eq_false (by omega)) (ex (by omega))
    · exact iteBf (decide_eq_false (by omega)) (ex (by omega))
end
end K7

namespace K7
open PySem PySem.Spec PyProof.Rows L2 C8 XE XR SX
/-! closed -/
abbrev sClosed : Stmt := top 13
/-- what is open: a label, the children that are read, those behind the present one -/
abbrev Fr := Str × List D × List D
def seps : List D → List Nat
  | [] => []
  | d :: ds => 44 :: 32 :: (tx d ++ seps ds)
def rest : List Fr → List Nat
  | [] => []
  | fr :: fs => seps fr.2.2 ++ 41 :: rest fs
def closeF : D → List Fr → Nat → (D × Nat) ⊕ (List Fr × D × Nat)
  | cur, [], n => .inl (cur, n)
  | cur, (z, dn, []) :: fs, n => closeF (.sq (.fl (.str z) :: (dn ++ [cur]))) fs (n + 1)
  | cur, (z, dn, t :: td) :: fs, n => .inr ((z, dn ++ [cur], td) :: fs, t, n + 2)
/-- the list of what is open, at o; its items at ps -/
structure Op (H0 H : Hp) (o : Addr) (ps : List Addr) (frs : List Fr) : Prop where
  sm : Same H0 H
  no : H0 o = none
  np : ∀ p ∈ ps, H0 p = none
  nd : ps.Nodup
  on : o ∉ ps
  ho : H o = some (.lst (ps.map V.ref))
  fr : Paired (fun p (fr : Fr) => ∃ vs, H p = some (.lst (.str fr.1 :: vs)) ∧ DAts nol H vs fr.2.1) ps frs
theorem paired_snoc {α β : Type} {R : α → β → Prop} : ∀ {fs : List β} {ps : List α} {fr : β}, Paired R ps (fs ++ [fr]) → ∃ qs p, ps = qs ++ [p] ∧ Paired R qs fs ∧ R p fr
  | [], _, fr, h => by
    cases h with
    | cons q t => cases t; exact ⟨[], _, rfl, .nil, q⟩
  | f :: fs, _, fr, h => by
    cases h with
    | cons q t =>
      obtain ⟨qs, p, rfl, h1, h2⟩ := paired_snoc t
      exact ⟨_ :: qs, p, rfl, .cons q h1, h2⟩
theorem Op.same {H0 H H' : Hp} {o : Addr} {ps : List Addr} {frs : List Fr} (h : Op H0 H o ps frs) (s : Same H H') : Op H0 H' o ps frs :=
  ⟨h.sm.trans s, h.no, h.np, h.nd, h.on, s _ _ h.ho, Paired.mono (fun _ _ ⟨vs, a, b⟩ => ⟨vs, s _ _ a, DAts.hold (.same s) _ b⟩) h.fr⟩
/-- the paired facts beside a list that changes -/
theorem fr_keep {H : Hp} {p : Addr} {o : HO} {xs : List V} (hp : H p = some (.lst xs)) : ∀ {ps : List Addr} {frs : List Fr}, p ∉ ps → Paired (fun p (fr : Fr) => ∃ vs, H p = some (.lst (.str fr.1 :: vs)) ∧ DAts nol H vs fr.2.1) ps frs → Paired (fun q (fr : Fr) => ∃ vs, (upd H p o) q = some (.lst (.str fr.1 :: vs)) ∧ DAts nol (upd H p o) vs fr.2.1) ps frs
  | [], _, _, .nil => .nil
  | q :: ps, fr :: frs, hn, .cons ⟨vs, a, b⟩ t => .cons ⟨vs, by rw [upd_ne (fun e => hn (by rw [← e]; exact List.mem_cons_self))]; exact a, DAts.hold (.but1 hp (fun c u e n => by rw [upd_ne n]; exact e) fun _ g => g.elim) _ b⟩ (fr_keep hp (fun h => hn (List.mem_cons_of_mem _ h)) t)
def spClosed : Sp := fun vs H Q _ => ∃ (T : Str) (n : Nat) (o : Addr) (v : V) (cur : D) (ps : List Addr) (frs : List Fr) (H0 : Hp), vs = [.str T, .int n, .ref o, v] ∧ T.length ≤ 1000000 ∧ n ≤ T.length ∧ (TL.tl T).drop n = rest frs.reverse ∧ Op H0 H o ps frs ∧ DAt nol H v cur ∧ frs.length ≤ 10000 ∧ (∀ fr ∈ frs, fr.2.1.length ≤ 10000) ∧
  (∀ D' (n' : Nat) v' t H', closeF cur frs.reverse n = .inl (D', n') → Op H0 H' o [] [] → DAt nol H' v' D' → H' t = some (.tup [v', .int n']) → Q (.ref t) H') ∧
  ∀ frs' nx (n' : Nat) ps' v' t H', closeF cur frs.reverse n = .inr (frs', nx, n') → Op H0 H' o ps' frs'.reverse → H' t = some (.tup [v', .int n']) → Q (.ref t) H'
abbrev NCl : List Str := ["text", "at", "opened", "node", "sign"]
theorem scClosed : FnScope NCl ["text", "at", "opened", "node"] (fnScope sClosed) := fnScope_by (by decide +kernel)
section
variable {P : Program} {w : World} {K : PySem.W.Frag} {mg : Str → Option Value} {base : Heap}
theorem c_closed {f : Addr} {fd : FuncData} (F : Def K mg "closed" sClosed f fd) (b : Binds K fd ["text", "at", "opened", "node"] []) (T : Blt4 mg) : Cal P w K mg base 1 "closed" spClosed [] := by
  refine cal0 F b .nil scClosed (fun vs H Q E h => ?_) (fun cdv A outer s H vs Q E hr h => ?_)
  · obtain ⟨X, n, o, v, cur, ps, frs, H0, rfl, _⟩ := h
    rfl
  · obtain ⟨X, n, o, v, cur, ps, frs, H0, rfl, hX, hn, he, hop, hv, hfl, hfd, kL, kR⟩ := h
    have nd := scClosed.nd
    refine ⟨_, pss_cons (ps_while PassesOwn.never (pt_truth (pv 2) (by intro _; rfl))
        (pss_cons (ps_expr (pe_bm PySem.F.plainAttrs_list PySem.F.slot_list_append PySem.F.type_list_append mt_append (pe_ix ix_list (pv 2) (pe_un un_neg pe_int) fun _ _ => rfl) (pa_cons (pv 3) pa_nil)))
        (pss_cons (ps_set (i := 4) nd rfl (Or.inl rfl) (pe_slice sl_str (pv 0) (po_some (pv 1)) (po_some (pe_op op_add (pv 1) pe_int))))
        (pss_cons (ps_if (pt_cmpR op_eq (pv 4) pe_str (nomark _))
            (pss_cons (ps_if (pt_cmpR op_ne (pe_slice sl_str (pv 0) (po_some (pe_op op_add (pv 1) pe_int)) (po_some (pe_op op_add (pv 1) pe_int))) pe_str (nomark _)) pss_never pss_nil)
            (pss_one (ps_ret (pe_tup (pa_cons (pv 3) (pa_cons (pe_op op_add (pv 1) pe_int) pa_nil)))))) pss_nil)
        (pss_cons (ps_if (pt_cmpR op_ne (pv 4) pe_str (nomark _)) pss_never pss_nil)
        (pss_cons (ps_set (i := 3) nd rfl (Or.inl rfl) (pe_callTy call_tuple_of (by rfl) T.tup (by decide +kernel) (pa_cons (pe_bm0 PySem.F.plainAttrs_list PySem.F.slot_list_pop PySem.F.type_list_pop mt_pop (pv 2)) pa_nil)))
        (pss_one (ps_set (i := 1) nd rfl (Or.inl rfl) (pe_op op_add (pv 1) pe_int)))))))))
      (pss_one (ps_ret (pe_tup (pa_cons (pv 3) (pa_cons (pv 1) pa_nil))))), ?_⟩
    have hsl : X.length ≤ sizeLine := by rw [sizeLine_eq]; omega
    have hlX : (TL.tl X).length = X.length := (TL.len_tl X).symm
    refine ⟨fun m σ H' => ∃ (n' : Nat) (v4 : Option V) (cur' : D) (v' : V) (ps' : List Addr) (fs : List Fr), σ = [some (.str X), some (.int n'), some (.ref o), some v', v4] ∧ m = fs.length ∧ n' ≤ X.length ∧ (TL.tl X).drop n' = rest fs.reverse ∧ Op H0 H' o ps' fs ∧ DAt nol H' v' cur' ∧ fs.length ≤ 10000 ∧ (∀ fr ∈ fs, fr.2.1.length ≤ 10000) ∧ closeF cur frs.reverse n = closeF cur' fs.reverse n',
      ⟨_, n, none, cur, v, ps, frs, rfl, rfl, hn, he, hop, hv, hfl, hfd, rfl⟩, ?_⟩
    rintro m σ H1 ⟨n1, v4, c1, v1, ps1, fs1, rfl, rfl, hn1, he1, hop1, hv1, hfl1, hfd1, hcl⟩
    refine ⟨_, rfl, !(ps1.map V.ref).isEmpty, .inl ⟨_, SqL.of hop1.ho, rfl⟩, ?_⟩
    rcases List.eq_nil_or_concat fs1 with rfl | ⟨fs, ⟨z, dn, td⟩, rfl⟩
    · have hps : ps1 = [] := by
        have := hop1.fr
        cases this
        rfl
      subst hps
      refine iteBf rfl ⟨_, rfl, _, rfl, (by show 2 ≤ sizeLine; decide), fun t nt => ?_⟩
      exact kL c1 n1 v1 t _ hcl (hop1.same (same_upd nt)) (DAt.hold (.same (same_upd nt)) _ hv1) upd_same
    · rw [List.concat_eq_append] at *
      obtain ⟨qs, p, rfl, hq, us, hp, hus⟩ := paired_snoc hop1.fr
      have hrev : (fs ++ [(z, dn, td)]).reverse = (z, dn, td) :: fs.reverse := by rw [List.reverse_append]; rfl
      rw [hrev] at he1 hcl
      have hpo : p ≠ o := fun e => hop1.on (by rw [← e]; simp)
      have hpq : p ∉ qs := by
        have := hop1.nd
        rw [List.nodup_append] at this
        exact fun h => this.2.2 p h p (List.mem_singleton.mpr rfl) rfl
      have hqn : qs.Nodup := by
        have := hop1.nd
        rw [List.nodup_append] at this
        exact this.1
      have hql := Paired.length hq
      rw [List.length_append] at hfl1
      have hdn : dn.length ≤ 10000 := hfd1 (z, dn, td) (by simp)
      have hul : us.length = dn.length := hus.len
      have hlast : atI ((qs ++ [p]).map V.ref) (-1) = some (.ref p) := by
        rw [List.map_append]
        exact atI_last _ _
      refine iteBt (by simp) ?_
      refine ⟨fun σ H' => ∃ (n' : Nat) (v4 : Option V) (cur' : D) (v' : V) (ps' : List Addr) (fs' : List Fr), σ = [some (.str X), some (.int n'), some (.ref o), some v', v4] ∧ fs'.length = fs.length ∧ n' ≤ X.length ∧ (TL.tl X).drop n' = rest fs'.reverse ∧ Op H0 H' o ps' fs' ∧ DAt nol H' v' cur' ∧ fs'.length ≤ 10000 ∧ (∀ fr ∈ fs', fr.2.1.length ≤ 10000) ∧ closeF cur frs.reverse n = closeF cur' fs'.reverse n',
        fun σ' H' ⟨n', v4, c', v', ps', fs', e1, e2, e3⟩ => ⟨fs'.length, by rw [e2, List.length_append]; exact Nat.lt_succ_self _, n', v4, c', v', ps', fs', e1, rfl, e3⟩, ?_⟩
      refine ⟨_, rfl, 1, rfl, o, _, -1, .ref p, rfl, rfl, SqL.of hop1.ho, hlast, .inl ⟨rfl, _, SqL.of hp⟩, _, rfl, p, _, v1, rfl, rfl, hp, by rw [sizeLine_eq, List.length_cons]; omega, ?_⟩
      have b1 : But p H1 (upd H1 p (.lst (.str z :: us ++ [v1]))) := fun c u e n => by rw [upd_ne n]; exact e
      have hp2 : (upd H1 p (.lst (.str z :: us ++ [v1]))) p = some (.lst (.str z :: (us ++ [v1]))) := upd_same
      have ho2 : (upd H1 p (.lst (.str z :: us ++ [v1]))) o = some (.lst ((qs ++ [p]).map V.ref)) := by rw [upd_ne hpo.symm]; exact hop1.ho
      have hq2 := fr_keep (o := .lst (.str z :: us ++ [v1])) hp hpq hq
      have hv2 : DAt nol (upd H1 p (.lst (.str z :: us ++ [v1]))) v1 c1 := DAt.hold (.but1 hp b1 fun _ g => g.elim) _ hv1
      have hus2 : DAts nol (upd H1 p (.lst (.str z :: us ++ [v1]))) (us ++ [v1]) (dn ++ [c1]) := DAts.app (DAts.hold (.but1 hp b1 fun _ g => g.elim) _ hus) ⟨hv2, trivial⟩
      have s02 : Same H0 (upd H1 p (.lst (.str z :: us ++ [v1]))) := fun c u e => by rw [upd_ne (ne_of_none e (hop1.np p (by simp)))]; exact hop1.sm _ _ e
      generalize upd H1 p (.lst (.str z :: us ++ [v1])) = H2 at hp2 ho2 hq2 hv2 hus2 s02
      have htot := congrArg List.length he1
      rw [List.length_drop] at htot
      refine ⟨_, rfl, _, rfl, (n1 : Int), rfl, _, rfl, (n1 : Int), 1, rfl, rfl, ((n1 + 1 : Nat) : Int), rfl, X, rfl, hsl, ?_⟩
      rw [cut_S hn1 (by omega), he1, show n1 + 1 - n1 = 1 by omega]
      cases td with
      | cons t td =>
        have hr : rest ((z, dn, t :: td) :: fs.reverse) = 44 :: 32 :: (tx t ++ seps td ++ 41 :: rest fs.reverse) := by
          show (44 :: 32 :: (tx t ++ seps td)) ++ 41 :: rest fs.reverse = _
          simp
        rw [hr] at he1 htot ⊢
        have e1 : S ((44 :: 32 :: (tx t ++ seps td ++ 41 :: rest fs.reverse)).take 1) = "," := by rfl
        rw [e1]
        simp only [List.length_cons] at htot
        refine ⟨_, rfl, rfl, _, rfl, iteBt (by decide +kernel) ?_⟩
        refine ⟨_, rfl, _, rfl, (n1 : Int), 1, rfl, rfl, ((n1 + 1 : Nat) : Int), rfl, _, rfl, (n1 : Int), 2, rfl, rfl, ((n1 + 2 : Nat) : Int), rfl, X, rfl, hsl, ?_⟩
        have e2 : (TL.tl X).drop (n1 + 1) = 32 :: (tx t ++ seps td ++ 41 :: rest fs.reverse) := by rw [← List.drop_drop, he1]; rfl
        rw [cut_S (by omega) (by omega), e2, show n1 + 2 - (n1 + 1) = 1 by omega]
        have e3 : S ((32 :: (tx t ++ seps td ++ 41 :: rest fs.reverse)).take 1) = " " := by rfl
        rw [e3]
        refine ⟨rfl, _, rfl, iteBf (by decide +kernel) ?_⟩
        refine ⟨_, rfl, _, rfl, (n1 : Int), 2, rfl, rfl, (by show 2 ≤ sizeLine; decide), fun tp ntp => ?_⟩
        have hk := kR ((z, dn ++ [c1], td) :: fs.reverse) t (n1 + 2) (qs ++ [p]) v1 tp (upd H2 tp (.tup [v1, .int ((n1 : Int) + 2)])) hcl ?_ ?_
        · exact hk
        · refine Op.same ?_ (same_upd ntp)
          refine ⟨s02, hop1.no, hop1.np, hop1.nd, hop1.on, ho2, ?_⟩
          rw [List.reverse_cons, List.reverse_reverse]
          exact paired_app hq2 (.cons ⟨us ++ [v1], hp2, hus2⟩ .nil)
        · rw [upd_same]
          rfl
      | nil =>
        have hr : rest ((z, dn, []) :: fs.reverse) = 41 :: rest fs.reverse := rfl
        rw [hr] at he1 htot ⊢
        have e1 : S ((41 :: rest fs.reverse).take 1) = ")" := by rfl
        rw [e1]
        simp only [List.length_cons] at htot
        refine ⟨_, rfl, rfl, _, rfl, iteBf (by decide +kernel) ?_⟩
        refine ⟨_, rfl, rfl, _, rfl, iteBf (by decide +kernel) ?_⟩
        refine ⟨_, rfl, .inl ⟨rfl, _, SqL.of ho2⟩, o, _, .ref p, rfl, rfl, ho2, by simp, ?_⟩
        have ed : ((qs ++ [p]).map V.ref).dropLast = qs.map V.ref := by simp
        rw [ed]
        have hp3 : (upd H2 o (.lst (qs.map V.ref))) p = some (.lst (.str z :: (us ++ [v1]))) := by rw [upd_ne hpo]; exact hp2
        refine ⟨p, _, rfl, .inl ⟨SqL.of hp3, fun tp ntp => ?_⟩⟩
        have bo : But o H2 (upd H2 o (.lst (qs.map V.ref))) := fun c u e n => by rw [upd_ne n]; exact e
        have hoq : o ∉ qs := fun h => hop1.on (List.mem_append_left _ h)
        have st : Same (upd H2 o (.lst (qs.map V.ref))) (upd (upd H2 o (.lst (qs.map V.ref))) tp (.tup (.str z :: (us ++ [v1])))) := same_upd ntp
        refine ⟨_, rfl, (n1 : Int), 1, rfl, rfl, n1 + 1, some (.str ")"), .sq (.fl (.str z) :: (dn ++ [c1])), .ref tp, qs, fs, rfl, rfl, by omega, by rw [← List.drop_drop, he1]; rfl, ?_, ?_, by omega, fun fr hfr => hfd1 fr (List.mem_append_left _ hfr), hcl⟩
        · refine Op.same ⟨fun c u e => by rw [upd_ne (ne_of_none e hop1.no)]; exact s02 _ _ e, hop1.no, fun q hq => hop1.np q (List.mem_append_left _ hq), hqn, hoq, upd_same, fr_keep ho2 hoq hq2⟩ st
        · exact ⟨tp, _, rfl, .inl upd_same, rfl, ⟨rfl, rfl⟩, DAts.hold (.same st) _ (DAts.hold (.but1 ho2 bo fun _ g => g.elim) _ hus2)⟩
end
end K7

namespace K7
open PySem PySem.Spec PyProof.Rows L2 C8 XE XR SX
/-! read_whole -/
abbrev sRead : Stmt := top 14
mutual
/-- a shape, holes if b -/
def isShH (b : Bool) : D → Bool
  | .fl (.str z) => b && wordS z
  | .sq (.fl (.str z) :: cs) => wordS z && isShHs b cs
  | _ => false
def isShHs (b : Bool) : List D → Bool
  | [] => true
  | d :: ds => isShH b d && isShHs b ds
end
mutual
theorem shH_sh {b : Bool} : ∀ {d : D}, isShH b d = true → isSh d = true
  | .fl x, h => by
    cases x with
    | str z =>
      have h : (b && wordS z) = true := by rw [isShH] at h; exact h
      rw [Bool.and_eq_true] at h
      rw [isSh]
      exact h.2
    | _ => cases h
  | .emp, h => by cases h
  | .sq [], h => by cases h
  | .sq (x :: cs), h => by
    cases x with
    | fl x =>
      cases x with
      | str z =>
        rw [isShH, Bool.and_eq_true] at h
        rw [isSh, h.1, shHs_sh h.2]
        rfl
      | _ => cases h
    | _ => cases h
theorem shHs_sh {b : Bool} : ∀ {ds : List D}, isShHs b ds = true → isShs ds = true
  | [], _ => rfl
  | d :: ds, h => by
    rw [isShHs, Bool.and_eq_true] at h
    rw [isShs, shH_sh h.1, shHs_sh h.2]
    rfl
end
theorem shH_inv {b : Bool} {d : D} (h : isShH b d = true) : (∃ z, d = .fl (.str z) ∧ b = true ∧ wordS z = true) ∨ ∃ z cs, d = .sq (.fl (.str z) :: cs) ∧ wordS z = true ∧ isShHs b cs = true := by
  unfold isShH at h
  split at h
  · rw [Bool.and_eq_true] at h
    exact .inl ⟨_, rfl, h.1, h.2⟩
  · rw [Bool.and_eq_true] at h
    exact .inr ⟨_, _, rfl, h.1, h.2⟩
  · cases h
theorem shHs_app {b : Bool} : ∀ {x y : List D}, isShHs b (x ++ y) = (isShHs b x && isShHs b y)
  | [], y => by rw [List.nil_append, isShHs, Bool.true_and]
  | d :: x, y => by rw [List.cons_append, isShHs, isShHs, shHs_app, Bool.and_assoc]
def plug : D → List Fr → D
  | d, [] => d
  | d, (z, dn, td) :: fs => plug (.sq (.fl (.str z) :: (dn ++ d :: td))) fs
theorem plug_ok {b : Bool} : ∀ {fs : List Fr} {d : D}, isShH b (plug d fs) = true → isShH b d = true ∧ ∀ fr ∈ fs, wordS fr.1 = true ∧ isShHs b fr.2.1 = true ∧ isShHs b fr.2.2 = true
  | [], d, h => ⟨h, fun _ hf => by cases hf⟩
  | (z, dn, td) :: fs, d, h => by
    obtain ⟨h1, h2⟩ := plug_ok (fs := fs) h
    rw [isShH, Bool.and_eq_true, shHs_app, Bool.and_eq_true, isShHs, Bool.and_eq_true] at h1
    refine ⟨h1.2.2.1, fun fr hf => ?_⟩
    rcases List.mem_cons.mp hf with rfl | hf
    · exact ⟨h1.1, h1.2.1, h1.2.2.2⟩
    · exact h2 fr hf
def wt : List Fr → Nat
  | [] => 0
  | fr :: fs => 2 + szs fr.2.1 + szs fr.2.2 + wt fs
def todo : List Fr → Nat
  | [] => 0
  | fr :: fs => szs fr.2.2 + todo fs
theorem plug_sz : ∀ {fs : List Fr} {d : D}, sz (plug d fs) = sz d + wt fs
  | [], d => rfl
  | (z, dn, td) :: fs, d => by
    show sz (plug (.sq (.fl (.str z) :: (dn ++ d :: td))) fs) = sz d + (2 + szs dn + szs td + wt fs)
    rw [plug_sz (fs := fs), sz, szs, szs_app, szs, sz]
    omega
theorem wt_len : ∀ fs : List Fr, 2 * fs.length ≤ wt fs
  | [] => Nat.le_refl _
  | fr :: fs => by have := wt_len fs; rw [wt, List.length_cons]; omega
theorem wt_mem : ∀ {fs : List Fr} {fr : Fr}, fr ∈ fs → fr.2.1.length ≤ wt fs
  | f :: fs, fr, h => by
    rw [wt]
    rcases List.mem_cons.mp h with rfl | h
    · have := len_szs fr.2.1; omega
    · have := wt_mem h; omega
theorem close_inl : ∀ {fs : List Fr} {cur D' : D} {n n' : Nat}, closeF cur fs n = .inl (D', n') → plug cur fs = D' ∧ n' = n + (rest fs).length
  | [], cur, D', n, n', h => by
    injection h with h
    injection h with h1 h2
    subst h1 h2
    exact ⟨rfl, rfl⟩
  | (z, dn, []) :: fs, cur, D', n, n', h => by
    obtain ⟨h1, h2⟩ := close_inl (fs := fs) h
    refine ⟨h1, ?_⟩
    rw [h2]
    show _ = n + (41 :: rest fs).length
    rw [List.length_cons]
    omega
  | (z, dn, t :: td) :: fs, cur, D', n, n', h => by cases h
theorem close_inr : ∀ {fs fs' : List Fr} {cur nx : D} {n n' : Nat}, closeF cur fs n = .inr (fs', nx, n') → plug cur fs = plug nx fs' ∧ (∃ pre, rest fs = pre ++ (tx nx ++ rest fs') ∧ n' = n + pre.length) ∧ sz nx + todo fs' = todo fs ∧ fs' ≠ []
  | [], fs', cur, nx, n, n', h => by cases h
  | (z, dn, []) :: fs, fs', cur, nx, n, n', h => by
    obtain ⟨h1, ⟨pre, h2, h3⟩, h4, h5⟩ := close_inr (fs := fs) h
    refine ⟨h1, ⟨41 :: pre, ?_, by rw [h3, List.length_cons]; omega⟩, ?_, h5⟩
    · show 41 :: rest fs = _
      rw [h2]
      rfl
    · rw [h4]
      show _ = szs [] + todo fs
      rw [szs]
      omega
  | (z, dn, t :: td) :: fs, fs', cur, nx, n, n', h => by
    injection h with h
    injection h with h1 h
    injection h with h2 h3
    subst h1 h2 h3
    refine ⟨?_, ⟨[44, 32], ?_, rfl⟩, ?_, by simp⟩
    · show plug (.sq (.fl (.str z) :: (dn ++ cur :: t :: td))) fs = plug (.sq (.fl (.str z) :: ((dn ++ [cur]) ++ t :: td))) fs
      rw [List.append_assoc]
      rfl
    · show (44 :: 32 :: (tx t ++ seps td)) ++ 41 :: rest fs = 44 :: 32 :: (tx t ++ (seps td ++ 41 :: rest fs))
      simp
    · show sz t + (szs td + todo fs) = szs (t :: td) + todo fs
      rw [szs]
      omega
theorem rest_head {fs : List Fr} {c : Nat} (h : (rest fs).head? = some c) : c = 44 ∨ c = 41 := by
  cases fs with
  | nil => cases h
  | cons fr fs =>
    obtain ⟨z, dn, td⟩ := fr
    cases td with
    | nil => exact .inr (Option.some.inj h).symm
    | cons t td => exact .inl (Option.some.inj h).symm
theorem tx_hole (z : Str) : tx (.fl (.str z)) = 63 :: TL.tl z := by unfold tx; simp [valG, leafT]
theorem tx_leaf (z : Str) : tx (.sq [.fl (.str z)]) = TL.tl z := by unfold tx; simp [valG, valGs, nodeT]
theorem joinL_seps : ∀ {cs : List D} {c : D}, isSh c = true → isShs cs = true → TL.joinL [44, 32] (valGs leafT nodeT (c :: cs)) = tx c ++ seps cs
  | [], c, h, _ => by
    have h1 := valG_len (leaf := leafT) (node := nodeT) h
    have e : valGs leafT nodeT [c] = valG leafT nodeT c := by simp [valGs]
    rw [e]
    unfold tx
    match valG leafT nodeT c, h1 with
    | [t], _ => simp [TL.joinL, seps]
  | c2 :: cs, c, h, hs => by
    rw [isShs, Bool.and_eq_true] at hs
    have ih := joinL_seps (cs := cs) (c := c2) hs.1 hs.2
    have h1 := valG_len (leaf := leafT) (node := nodeT) h
    have h2 := valG_len (leaf := leafT) (node := nodeT) hs.1
    have e : valGs leafT nodeT (c :: c2 :: cs) = valG leafT nodeT c ++ valGs leafT nodeT (c2 :: cs) := by rw [valGs]
    rw [e]
    have e2 : valGs leafT nodeT (c2 :: cs) = valG leafT nodeT c2 ++ valGs leafT nodeT cs := by rw [valGs]
    show _ = tx c ++ (44 :: 32 :: (tx c2 ++ seps cs))
    rw [← ih]
    rw [e2]
    unfold tx
    match valG leafT nodeT c, h1, valG leafT nodeT c2, h2 with
    | [t], _, [t2], _ => simp [TL.joinL]
theorem tx_node {z : Str} {c : D} {cs : List D} (h : isSh c = true) (hs : isShs cs = true) : tx (.sq (.fl (.str z) :: c :: cs)) = TL.tl z ++ 40 :: (tx c ++ seps cs ++ [41]) := by
  have e : tx (.sq (.fl (.str z) :: c :: cs)) = nodeT z (valGs leafT nodeT (c :: cs)) := by unfold tx; rw [valG]; rfl
  have hne : valGs leafT nodeT (c :: cs) ≠ [] := fun h0 => by
    have := valGs_len (leaf := leafT) (node := nodeT) (ds := c :: cs) (by rw [isShs, h, hs]; rfl)
    rw [h0] at this
    cases this
  have hn : ∀ ts : List (List Nat), ts ≠ [] → nodeT z ts = TL.tl z ++ 40 :: (TL.joinL [44, 32] ts ++ [41]) := fun ts h => by
    unfold nodeT
    rw [if_neg h]
  rw [e, hn _ hne, joinL_seps h hs]
def spRead : Sp := fun vs H Q _ => ∃ (d : D) (b : Bool), vs = [.str (S (tx d)), .bl b] ∧ isShH b d = true ∧ sz d ≤ 5000 ∧ (tx d).length ≤ 100000 ∧ ∀ v H', Same H H' → DAt nol H' v d → Q v H'
abbrev NRe : List Str := ["text", "holes", "opened", "at", "marked", "word", "node"]
theorem scRead : FnScope NRe ["text", "holes"] (fnScope sRead) := fnScope_by (by decide +kernel)
theorem take1_ne {l : List Nat} {c : Nat} (h : ∀ x, l.head? = some x → x ≠ c) : S (l.take 1) ≠ S [c] := by
  intro e
  have e : l.take 1 = [c] := congrArg TL.tl e
  cases l with
  | nil => cases e
  | cons x l =>
    injection e with e _
    exact h x rfl e
section
variable {P : Program} {w : World} {K : PySem.W.Frag} {mg : Str → Option Value} {base : Heap}
theorem c_read {f : Addr} {fd : FuncData} (F : Def K mg "read_whole" sRead f fd) (b : Binds K fd ["text", "holes"] []) (T : Blt4 mg) (Gk : Gm mg) (CW : Cal P w K mg base 1 "word_at" spWordAt []) (CC : Cal P w K mg base 1 "closed" spClosed []) : Cal P w K mg base 2 "read_whole" spRead [] := by
  refine cal0 F b .nil scRead (fun vs H Q E h => ?_) (fun cdv A outer s H vs Q E hr h => ?_)
  · obtain ⟨d, b, rfl, _⟩ := h
    rfl
  · obtain ⟨d, hb, rfl, hsh, hsz, hlen, k⟩ := h
    have nd := scRead.nd
    refine ⟨_, pss_cons (ps_set (i := 2) nd rfl (Or.inl rfl) (pe_lst pa_nil))
      (pss_cons (ps_set (i := 3) nd rfl (Or.inl rfl) pe_int)
      (pss_cut (ps_while PassesOwn.never (pt_val pe_bl)
        (pss_cut (ps_set (i := 4) nd rfl (Or.inl rfl) (pe_and (pv 1) (pe_one (pe_cmpR op_eq (pe_slice sl_str (pv 0) (po_some (pv 3)) (po_some (pe_op op_add (pv 3) pe_int))) (pe_gc (by rfl) Gk.mark) (nomark _)))))
        (pss_cut (ps_if (pt_val (pv 4)) (pss_one (ps_set (i := 3) nd rfl (Or.inl rfl) (pe_op op_add (pv 3) pe_int))) pss_nil)
        (pss_cons (ps_set (i := 5) nd rfl (Or.inl rfl) (pe_c CW hr (by decide) (by rfl) (pa_cons (pv 0) (pa_cons (pv 3) pa_nil))))
        (pss_cons (ps_set (i := 3) nd rfl (Or.inl rfl) (pe_op op_add (pv 3) (pe_callB call_len_str (by rfl) T.len PySem.boot_len (pa_cons (pv 5) pa_nil))))
        (pss_one (ps_if (pw_and (pt_not (pt_val (pv 4))) (pw_and1 (pt_cmpR op_eq (pe_slice sl_str (pv 0) (po_some (pv 3)) (po_some (pe_op op_add (pv 3) pe_int))) pe_str (nomark _)))).pt
          (pss_cons (ps_expr (pe_bm PySem.F.plainAttrs_list PySem.F.slot_list_append PySem.F.type_list_append mt_append (pv 2) (pa_cons (pe_lst (pa_cons (pv 5) pa_nil)) pa_nil)))
          (pss_one (ps_set (i := 3) nd rfl (Or.inl rfl) (pe_op op_add (pv 3) pe_int))))
          (pss_cons (ps_asg (pe_c CC hr (by decide) (by rfl) (pa_cons (pv 0) (pa_cons (pv 3) (pa_cons (pv 2) (pa_cons (pe_ifExp (pt_val (pv 4)) (pv 5) (pe_tup (pa_cons (pv 5) pa_nil))) pa_nil))))) (pg_tup rfl (pgs_cons (pg_name (i := 6) nd rfl (Or.inl rfl)) (pgs_cons (pg_name (i := 3) nd rfl (Or.inl rfl)) pgs_nil))))
          (pss_one (ps_if (pt_not (pt_truth (pv 2) (by intro _; rfl))) (pss_one ps_break) pss_nil))))))))))
      (pss_cons (ps_if (pt_cmp (pc_lt (pv 3) (pe_callB call_len_str (by rfl) T.len PySem.boot_len (pa_cons (pv 0) pa_nil)))) pss_never pss_nil)
      (pss_one (ps_ret (pv 6)))))), ?_⟩
    generalize hX : S (tx d) = X
    have htX : TL.tl X = tx d := by rw [← hX]
    have hlX : X.length = (tx d).length := by rw [TL.len_tl, htX]
    have hsl : X.length ≤ sizeLine := by rw [sizeLine_eq]; omega
    refine ⟨(by show 0 ≤ sizeLine; decide), fun o no => ?_⟩
    refine ⟨fun σ H' => ∃ (v4 v5 : Option V) (v' : V), σ = [some (.str X), some (.bl hb), some (.ref o), some (.int X.length), v4, v5, some v'] ∧ Same H H' ∧ DAt nol H' v' d, ?_, ?_⟩
    · let Iv : Nat → L2.St → Hp → Prop := fun m σ H' => ∃ (n : Nat) (v4 v5 v6 : Option V) (cur : D) (ps : List Addr) (frs : List Fr), σ = [some (.str X), some (.bl hb), some (.ref o), some (.int n), v4, v5, v6] ∧ m = sz cur + todo frs.reverse ∧ n ≤ X.length ∧ (TL.tl X).drop n = tx cur ++ rest frs.reverse ∧ Op H H' o ps frs ∧ plug cur frs.reverse = d
      refine ⟨Iv,
        ⟨_, 0, none, none, none, d, [], [], rfl, rfl, Nat.zero_le _, by rw [htX]; show _ = tx d ++ []; rw [List.append_nil]; rfl, ⟨same_upd no, no, (fun p hp => by cases hp), .nil, (by simp), upd_same, .nil⟩, rfl⟩, ?_⟩
      rintro m σ H1 ⟨n, v4, v5, v6, cur, ps, frs, rfl, rfl, hn, he, hop, hpl⟩
      have hokP : isShH hb (plug cur frs.reverse) = true := by rw [hpl]; exact hsh
      obtain ⟨hc, hfr⟩ := plug_ok hokP
      have hps := plug_sz (fs := frs.reverse) (d := cur)
      rw [hpl] at hps
      have hwl := wt_len frs.reverse
      rw [List.length_reverse] at hwl
      have hfd : ∀ fr ∈ frs, fr.2.1.length ≤ 10000 := fun fr hf => by
        have := wt_mem (List.mem_reverse.mpr hf)
        omega
      refine ⟨true, rfl, ?_⟩
      refine iteBt rfl ⟨fun σ H' => ∃ m', m' < sz cur + todo frs.reverse ∧ Iv m' σ H', fun _ _ h => h, ?_⟩
      -- what stands here: the word, a mark ahead of it or not, and what is behind it
      obtain ⟨z, mk, r, hz, h1, h2, h3, h4⟩ : ∃ (z : Str) (mk : Bool) (r : List Nat), wordS z = true ∧ tx cur ++ rest frs.reverse = (if mk = true then [63] else []) ++ (TL.tl z ++ r) ∧ (mk = true → hb = true) ∧ (∀ c, r.head? = some c → c ∉ TL.tl letters) ∧
          ((mk = true ∧ cur = .fl (.str z) ∧ r = rest frs.reverse) ∨ (mk = false ∧ cur = .sq [.fl (.str z)] ∧ r = rest frs.reverse) ∨ ∃ c cs, mk = false ∧ cur = .sq (.fl (.str z) :: c :: cs) ∧ r = 40 :: (tx c ++ (seps cs ++ 41 :: rest frs.reverse))) := by
        have hrest : ∀ c, (rest frs.reverse).head? = some c → c ∉ TL.tl letters := fun c hc => by
          rcases rest_head hc with rfl | rfl <;> decide +kernel
        rcases shH_inv hc with ⟨z, rfl, hb1, hz⟩ | ⟨z, cs, rfl, hz, hcs⟩
        · exact ⟨z, true, _, hz, by rw [tx_hole]; rfl, fun _ => hb1, hrest, .inl ⟨rfl, rfl, rfl⟩⟩
        · cases cs with
          | nil => exact ⟨z, false, _, hz, by rw [tx_leaf]; rfl, (fun e => by cases e), hrest, .inr (.inl ⟨rfl, rfl, rfl⟩)⟩
          | cons c cs =>
            rw [isShHs, Bool.and_eq_true] at hcs
            refine ⟨z, false, _, hz, ?_, (fun e => by cases e), ?_, .inr (.inr ⟨c, cs, rfl, rfl, rfl⟩)⟩
            · rw [tx_node (shH_sh hcs.1) (shHs_sh hcs.2)]
              simp
            · intro x hx
              have : x = 40 := (Option.some.inj hx).symm
              subst this
              decide +kernel
      have hz1 := word_pos hz
      have hzl : (TL.tl z).length = z.length := (TL.len_tl z).symm
      rw [h1] at he
      -- marked
      refine ⟨fun σ H' => σ = [some (.str X), some (.bl hb), some (.ref o), some (.int n), some (.bl mk), v5, v6] ∧ H' = H1, ?_, ?_⟩
      · refine ⟨_, rfl, hb, rfl, ?_⟩
        have hmk : decide (V.str (cutS X (some (n : Int)) (some ((n + 1 : Nat) : Int))) = V.str "?") = mk := by
          rw [cut_S hn (by omega), he, show n + 1 - n = 1 by omega]
          cases mk with
          | true => exact decide_eq_true (by rw [if_pos rfl]; rfl)
          | false =>
            rw [if_neg Bool.false_ne_true, List.nil_append]
            refine decide_eq_false fun e => ?_
            have e := V.str.inj e
            refine take1_ne (c := 63) (fun x hx => ?_) e
            have hxz : x ∈ TL.tl z := by
              match hh : TL.tl z, hzl with
              | [], hzl => rw [← hzl] at hz1; simp at hz1
              | y :: l, _ =>
                rw [hh] at hx
                have : y = x := Option.some.inj hx
                rw [this]
                exact List.mem_cons_self
            intro e63
            have := word_sign hz x hxz
            rw [e63] at this
            exact absurd this (by decide +kernel)
        cases hb with
        | false =>
          have : mk = false := by
            cases mk with
            | false => rfl
            | true => exact absurd (h2 rfl) (by decide)
          subst this
          exact iteBf rfl ⟨rfl, rfl⟩
        | true =>
          refine iteBt rfl ?_
          refine ⟨_, rfl, _, rfl, (n : Int), rfl, _, rfl, (n : Int), 1, rfl, rfl, ((n + 1 : Nat) : Int), rfl, X, rfl, hsl, rfl, ?_, rfl⟩
          rw [hmk]
          rfl
      rintro σ H2 ⟨rfl, rfl⟩
      -- behind the mark
      refine ⟨fun σ H' => ∃ n1 : Nat, σ = [some (.str X), some (.bl hb), some (.ref o), some (.int n1), some (.bl mk), v5, v6] ∧ H' = H2 ∧ n1 ≤ X.length ∧ (TL.tl X).drop n1 = TL.tl z ++ r, ?_, ?_⟩
      · have hlen1 := congrArg List.length he
        rw [List.length_drop, List.length_append] at hlen1
        refine ⟨_, rfl, mk, rfl, ?_⟩
        cases mk with
        | true =>
          refine iteBt rfl ⟨_, rfl, (n : Int), 1, rfl, rfl, n + 1, rfl, rfl, ?_, by rw [← List.drop_drop, he]; rfl⟩
          rw [if_pos rfl] at hlen1
          have : (TL.tl X).length = X.length := (TL.len_tl X).symm
          simp only [List.length_cons, List.length_nil] at hlen1
          omega
        | false => exact iteBf rfl ⟨n, rfl, rfl, hn, by rw [he]; rfl⟩
      rintro σ H3 ⟨n1, rfl, rfl, hn1, he1⟩
      refine ⟨_, rfl, _, rfl, X, n1, z, r, rfl, by omega, hn1, he1, hz, h3, ?_⟩
      refine ⟨_, rfl, _, rfl, z, rfl, by have := word_len hz; rw [sizeLine_eq]; omega, (n1 : Int), (z.length : Int), rfl, rfl, ?_⟩
      have hlen2 := congrArg List.length he1
      rw [List.length_drop, List.length_append, ← TL.len_tl] at hlen2
      have hn2 : n1 + z.length ≤ X.length := by omega
      have he2 : (TL.tl X).drop (n1 + z.length) = r := by rw [← List.drop_drop, he1, ← hzl, List.drop_left' rfl]
      have cut2 : cutS X (some ((n1 : Int) + (z.length : Int))) (some ((n1 : Int) + (z.length : Int) + 1)) = S (r.take 1) := by
        have e1 : (n1 : Int) + (z.length : Int) = ((n1 + z.length : Nat) : Int) := by omega
        have e2 : (n1 : Int) + (z.length : Int) + 1 = ((n1 + z.length + 1 : Nat) : Int) := by omega
        rw [e2, e1, cut_S hn2 (by omega), he2, show n1 + z.length + 1 - (n1 + z.length) = 1 by omega]
      rcases h4 with ⟨rfl, rfl, hr0⟩ | ⟨rfl, rfl, hr0⟩ | ⟨c, cs, rfl, rfl, hr0⟩
      · refine ⟨_, rfl, true, rfl, iteBf rfl ?_⟩
        refine ⟨_, rfl, _, rfl, _, rfl, _, rfl, true, rfl, iteBt rfl ⟨_, rfl, ?_⟩⟩
        refine ⟨X, n1 + z.length, o, _, (.fl (.str z)), ps, frs, H, rfl, by omega, hn2, by rw [he2, hr0], hop.same (Same.refl _), ⟨rfl, rfl⟩, by omega, hfd, fun D' n' v' t H5 hcl hop5 hv' ht => ?_, fun frs' nx n' ps' v' t H5 hcl hop5 ht => ?_⟩
        · obtain ⟨e1, e2⟩ := close_inl hcl
          rw [hpl] at e1
          subst e1
          have en : n' = X.length := by rw [e2, ← hr0]; omega
          subst en
          refine ⟨t, _, rfl, SqT.of ht, rfl, v', _, rfl, .int (X.length : Nat), [], rfl, rfl, ?_⟩
          refine ⟨_, rfl, false, .inl ⟨[], SqL.of hop5.ho, rfl⟩, iteBt rfl ?_⟩
          exact ⟨_, _, v', rfl, hop5.sm, hv'⟩
        · obtain ⟨e1, ⟨pre, e2, e3⟩, e4, e5⟩ := close_inr hcl
          have hpl5 := Paired.length hop5.fr
          rw [List.length_reverse] at hpl5
          have hne : ps' ≠ [] := fun e => by
            rw [e] at hpl5
            exact e5 (List.length_eq_zero_iff.mp hpl5.symm)
          have htot := congrArg List.length e2
          rw [← hr0, List.length_append] at htot
          refine ⟨t, _, rfl, SqT.of ht, rfl, v', _, rfl, .int (n' : Nat), [], rfl, rfl, ?_⟩
          refine ⟨_, rfl, !(ps'.map V.ref).isEmpty, .inl ⟨_, SqL.of hop5.ho, rfl⟩, iteBf (by cases ps' with | nil => exact absurd rfl hne | cons => rfl) ?_⟩
          refine ⟨sz nx + todo frs', by have := sz_pos (.fl (.str z)); omega, n', _, _, _, nx, ps', frs'.reverse, rfl, by rw [List.reverse_reverse], by omega, ?_, hop5, by rw [List.reverse_reverse, ← e1, hpl]⟩
          rw [List.reverse_reverse, e3, ← List.drop_drop, he2, hr0, e2, List.drop_left' rfl]
      · refine ⟨_, rfl, false, rfl, iteBt rfl ?_⟩
        refine ⟨_, rfl, _, rfl, _, rfl, _, rfl, _, 1, rfl, rfl, _, rfl, X, rfl, hsl, rfl, _, rfl, iteBf ?_ ?_⟩
        · rw [cut2, hr0]
          refine decide_eq_false fun e => take1_ne (c := 40) (fun x hx => ?_) (V.str.inj e)
          rcases rest_head hx with rfl | rfl <;> decide
        refine ⟨_, rfl, _, rfl, _, rfl, _, rfl, false, rfl, iteBf rfl ⟨_, rfl, (by show 1 ≤ sizeLine; decide), fun tp ntp => ?_⟩⟩
        refine ⟨X, n1 + z.length, o, _, (.sq [.fl (.str z)]), ps, frs, H, rfl, by omega, hn2, by rw [he2, hr0], hop.same (same_upd ntp), ⟨tp, _, rfl, .inl upd_same, rfl, ⟨rfl, rfl⟩, trivial⟩, by omega, hfd, fun D' n' v' t H5 hcl hop5 hv' ht => ?_, fun frs' nx n' ps' v' t H5 hcl hop5 ht => ?_⟩
        · obtain ⟨e1, e2⟩ := close_inl hcl
          rw [hpl] at e1
          subst e1
          have en : n' = X.length := by rw [e2, ← hr0]; omega
          subst en
          refine ⟨t, _, rfl, SqT.of ht, rfl, v', _, rfl, .int (X.length : Nat), [], rfl, rfl, ?_⟩
          refine ⟨_, rfl, false, .inl ⟨[], SqL.of hop5.ho, rfl⟩, iteBt rfl ?_⟩
          exact ⟨_, _, v', rfl, hop5.sm, hv'⟩
        · obtain ⟨e1, ⟨pre, e2, e3⟩, e4, e5⟩ := close_inr hcl
          have hpl5 := Paired.length hop5.fr
          rw [List.length_reverse] at hpl5
          have hne : ps' ≠ [] := fun e => by
            rw [e] at hpl5
            exact e5 (List.length_eq_zero_iff.mp hpl5.symm)
          have htot := congrArg List.length e2
          rw [← hr0, List.length_append] at htot
          refine ⟨t, _, rfl, SqT.of ht, rfl, v', _, rfl, .int (n' : Nat), [], rfl, rfl, ?_⟩
          refine ⟨_, rfl, !(ps'.map V.ref).isEmpty, .inl ⟨_, SqL.of hop5.ho, rfl⟩, iteBf (by cases ps' with | nil => exact absurd rfl hne | cons => rfl) ?_⟩
          refine ⟨sz nx + todo frs', by have := sz_pos (.sq [.fl (.str z)]); omega, n', _, _, _, nx, ps', frs'.reverse, rfl, by rw [List.reverse_reverse], by omega, ?_, hop5, by rw [List.reverse_reverse, ← e1, hpl]⟩
          rw [List.reverse_reverse, e3, ← List.drop_drop, he2, hr0, e2, List.drop_left' rfl]
      · refine ⟨_, rfl, false, rfl, iteBt rfl ?_⟩
        refine ⟨_, rfl, _, rfl, _, rfl, _, rfl, _, 1, rfl, rfl, _, rfl, X, rfl, hsl, rfl, _, rfl, iteBt ?_ ?_⟩
        · rw [cut2, hr0]
          exact decide_eq_true rfl
        have hpsl := Paired.length hop.fr
        refine ⟨_, rfl, .inl ⟨rfl, _, SqL.of hop.ho⟩, _, rfl, (by show 1 ≤ sizeLine; decide), fun lp nlp => ?_⟩
        have sl : Same H3 (upd H3 lp (.lst [.str z])) := same_upd nlp
        have hopl := hop.same sl
        have hlp : (upd H3 lp (.lst [.str z])) lp = some (.lst [.str z]) := upd_same
        have nlH : H lp = none := same_free hop.sm nlp
        have lpo : lp ≠ o := (ne_of_none hop.ho nlp).symm
        have lps : lp ∉ ps := fun h => by
          obtain ⟨i, hi⟩ := List.getElem?_of_mem h
          obtain ⟨fr, _, us, e, _⟩ := paired_get hop.fr hi
          rw [nlp] at e
          cases e
        generalize upd H3 lp (.lst [.str z]) = H4 at sl hopl hlp
        refine ⟨o, ps.map V.ref, .ref lp, rfl, rfl, hopl.ho, by rw [List.length_map, sizeLine_eq]; omega, ?_⟩
        rw [hr0] at he2 hlen2
        simp only [List.length_cons] at hlen2
        refine ⟨_, rfl, _, 1, rfl, rfl, sz c + todo ((z, [], cs) :: frs.reverse), ?_, n1 + z.length + 1, some (.bl false), some (.str z), v6, c, ps ++ [lp], frs ++ [(z, [], cs)], ?_, by rw [List.reverse_append]; rfl, by omega, ?_, ?_, ?_⟩
        · show sz c + (szs cs + todo frs.reverse) < sz (.sq (.fl (.str z) :: c :: cs)) + todo frs.reverse
          rw [sz, szs, szs]
          have := sz_pos (.fl (.str z))
          omega
        · rw [show ((n1 + z.length + 1 : Nat) : Int) = (n1 : Int) + (z.length : Int) + 1 by omega]
          rfl
        · rw [List.reverse_append, ← List.drop_drop, he2]
          rfl
        · refine ⟨fun a u e => by rw [upd_ne (ne_of_none e hop.no)]; exact hopl.sm _ _ e, hop.no, fun q hq => ?_, ?_, ?_, by rw [upd_same, List.map_append]; rfl, ?_⟩
          · rcases List.mem_append.mp hq with hq | hq
            · exact hop.np q hq
            · rw [List.mem_singleton.mp hq]; exact nlH
          · rw [List.nodup_append]
            exact ⟨hop.nd, by simp, fun a ha b hb e => lps (by rw [← List.mem_singleton.mp hb, ← e]; exact ha)⟩
          · intro h
            rcases List.mem_append.mp h with h | h
            · exact hop.on h
            · exact lpo (List.mem_singleton.mp h).symm
          · refine paired_app (fr_keep hopl.ho hop.on hopl.fr) (.cons ⟨[], by rw [upd_ne lpo]; exact hlp, trivial⟩ .nil)
        · rw [List.reverse_append]
          exact hpl
    · rintro σ H1 ⟨v4, v5, v', rfl, sm, hv⟩
      refine ⟨_, rfl, _, rfl, X, rfl, hsl, (X.length : Int), (X.length : Int), rfl, rfl, _, rfl, iteBf (decide_eq_false (by omega)) ⟨_, rfl, k v' H1 sm hv⟩⟩
end
end K7

namespace K7
open PySem PySem.Spec PyProof.Rows L2 C8 XE XR SX
/-! tree_text, read_tree, shape_text, read_shape; _law_text -/
abbrev sTT : Stmt := top 16
abbrev sRT : Stmt := top 17
abbrev sST : Stmt := top 19
abbrev sRS : Stmt := top 20
abbrev sLText : Stmt := top 41
theorem scTT : FnScope ["tree"] ["tree"] (fnScope sTT) := fnScope_by (by decide +kernel)
theorem scRT : FnScope ["text"] ["text"] (fnScope sRT) := fnScope_by (by decide +kernel)
theorem scST : FnScope ["shape"] ["shape"] (fnScope sST) := fnScope_by (by decide +kernel)
theorem scRS : FnScope ["text"] ["text"] (fnScope sRS) := fnScope_by (by decide +kernel)
def spRd (b : Bool) : Sp := fun vs H Q _ => ∃ (d : D), vs = [.str (S (tx d))] ∧ isShH b d = true ∧ sz d ≤ 5000 ∧ (tx d).length ≤ 100000 ∧ ∀ v H', Same H H' → DAt nol H' v d → Q v H'
abbrev NLT : List Str := ["_law_tree_here", "_law_some", "_law_child"]
theorem scLText : FnScope NLT ["_law_tree_here"] (fnScope sLText) := fnScope_by (by decide +kernel)
def spLText (N : Nat) : Sp := fun vs H Q _ => ∃ (v : V) (d : D), vs = [v] ∧ DAt nol H v d ∧ isSh d = true ∧ sz d ≤ N ∧ sz d ≤ 5000 ∧ ∀ H', Same H H' → Q (.str (S (tx d))) H'
theorem tx_len : ∀ {d : D}, isSh d = true → (tx d).length + 2 ≤ 14 * sz d := fun {d} h => by
  have h1 := foldT_len (ns := (nodesD d).reverse) (st := []) fun n hn => isSh_nodes h n (List.mem_reverse.mp hn)
  rw [fold_g d [] h, List.nil_append] at h1
  have h2 := valG_len (leaf := leafT) (node := nodeT) h
  have h3 := nodes_sz d
  rw [List.length_reverse] at h1
  obtain ⟨t, ht⟩ := List.length_eq_one_iff.mp h2
  unfold tx
  rw [ht] at h1 ⊢
  have e : lens [t] = t.length := by unfold lens; simp
  have e0 : lens ([] : List (List Nat)) = 0 := rfl
  rw [e, e0] at h1
  simp only [List.length_cons, List.length_nil, List.headD_cons] at h1 ⊢
  omega
theorem valGs_tx : ∀ {cs : List D}, isShs cs = true → valGs leafT nodeT cs = cs.map tx
  | [], _ => rfl
  | c :: cs, h => by
    rw [isShs, Bool.and_eq_true] at h
    have h1 := valG_len (leaf := leafT) (node := nodeT) h.1
    rw [valGs, valGs_tx h.2, List.map_cons]
    unfold tx
    match valG leafT nodeT c, h1 with
    | [t], _ => rfl
theorem tx_sq {z : Str} {cs : List D} (h : isShs cs = true) : tx (.sq (.fl (.str z) :: cs)) = nodeT z (cs.map tx) := by
  rw [← valGs_tx h]
  unfold tx
  rw [valG]
  rfl
theorem lens_tx : ∀ {cs : List D}, isShs cs = true → lens (cs.map tx) + 2 * cs.length ≤ 14 * szs cs
  | [], _ => Nat.le_refl _
  | c :: cs, h => by
    rw [isShs, Bool.and_eq_true] at h
    have h1 := tx_len h.1
    have h2 := lens_tx h.2
    have e : lens ((c :: cs).map tx) = (tx c).length + lens (cs.map tx) := by unfold lens; simp
    rw [e, szs, List.length_cons]
    omega
section
variable {X : Cx}
def rEqNil (K : PySem.W.Frag) : R2 := fun x y H Q => ∃ a b xs, x = .ref a ∧ y = .ref b ∧ SqL K H a xs ∧ SqL K H b [] ∧ Q (.bl xs.isEmpty) H
theorem op_eqNil (hu : X.A.units + 64 < cLine) : OpR X (compareOp .Eq) (rEqNil X.K) := by
  intro pins s σ H x y v u Q I rx ry h
  obtain ⟨a, b, xs, rfl, rfl, ha, hb, q⟩ := h
  cases rx
  cases ry
  obtain ⟨us, r1, p1, _⟩ := I.list ha
  obtain ⟨ws, r2, p2, _⟩ := I.list hb
  cases r2
  have fin : ∀ b : Bool, b = xs.isEmpty → (EP X pins σ Q) (.bool b) s := fun b e => ⟨.bl b, H, I, rfl, by rw [e]; exact q⟩
  cases r1 with
  | nil => exact SeqAt.RcAt.lists (e := fun _ => true) p1.isList p2.isList rfl (by omega) (fun j h1 h2 => absurd h1 (by simp)) _ _ _ _ (fin true rfl)
  | cons r t => exact SeqAt.RcAt.lists_lengths p1.isList p2.isList (by simp) (by omega) _ _ _ _ (fin false rfl)
end
section
variable {P : Program} {w : World} {K : PySem.W.Frag} {mg : Str → Option Value} {base : Heap}
theorem c_tt {f : Addr} {fd : FuncData} (F : Def K mg "tree_text" sTT f fd) (b : Binds K fd ["tree"] []) (CT : Cal P w K mg base 3 "text_of" spText []) : Cal P w K mg base 4 "tree_text" spText [] := by
  refine cal0 F b .nil scTT (fun vs H Q E h => ?_) (fun cdv A outer s H vs Q E hr h => ?_)
  · obtain ⟨v, d, G, rfl, _⟩ := h
    rfl
  · obtain ⟨v, d, G, rfl, h⟩ := h
    exact ⟨_, pss_one (ps_ret (pe_c CT hr (by decide) (by rfl) (pa_cons (pv 0) pa_nil))), _, rfl, v, d, G, rfl, h⟩
theorem c_st {f : Addr} {fd : FuncData} (F : Def K mg "shape_text" sST f fd) (b : Binds K fd ["shape"] []) (CT : Cal P w K mg base 3 "text_of" spText []) : Cal P w K mg base 4 "shape_text" spText [] := by
  refine cal0 F b .nil scST (fun vs H Q E h => ?_) (fun cdv A outer s H vs Q E hr h => ?_)
  · obtain ⟨v, d, G, rfl, _⟩ := h
    rfl
  · obtain ⟨v, d, G, rfl, h⟩ := h
    exact ⟨_, pss_one (ps_ret (pe_c CT hr (by decide) (by rfl) (pa_cons (pv 0) pa_nil))), _, rfl, v, d, G, rfl, h⟩
theorem c_rt {f : Addr} {fd : FuncData} (F : Def K mg "read_tree" sRT f fd) (b : Binds K fd ["text"] []) (CR : Cal P w K mg base 2 "read_whole" spRead []) : Cal P w K mg base 3 "read_tree" (spRd false) [] := by
  refine cal0 F b .nil scRT (fun vs H Q E h => ?_) (fun cdv A outer s H vs Q E hr h => ?_)
  · obtain ⟨d, rfl, _⟩ := h
    rfl
  · obtain ⟨d, rfl, h⟩ := h
    exact ⟨_, pss_one (ps_ret (pe_c CR hr (by decide) (by rfl) (pa_cons (pv 0) (pa_cons pe_bl pa_nil)))), _, rfl, d, false, rfl, h⟩
theorem c_rs {f : Addr} {fd : FuncData} (F : Def K mg "read_shape" sRS f fd) (b : Binds K fd ["text"] []) (CR : Cal P w K mg base 2 "read_whole" spRead []) : Cal P w K mg base 3 "read_shape" (spRd true) [] := by
  refine cal0 F b .nil scRS (fun vs H Q E h => ?_) (fun cdv A outer s H vs Q E hr h => ?_)
  · obtain ⟨d, rfl, _⟩ := h
    rfl
  · obtain ⟨d, rfl, h⟩ := h
    exact ⟨_, pss_one (ps_ret (pe_c CR hr (by decide) (by rfl) (pa_cons (pv 0) (pa_cons pe_bl pa_nil)))), _, rfl, d, true, rfl, h⟩
theorem ltext_step {k N : Nat} {f : Addr} {fd : FuncData} (F : Def K mg "_law_text" sLText f fd) (b : Binds K fd ["_law_tree_here"] []) (T : Blt4 mg) (CL : Cal P w K mg base k "_law_text" (spLText N) []) : Cal P w K mg base (k + 1) "_law_text" (spLText (N + 1)) [] := by
  refine cal0 F b .nil scLText (fun vs H Q E h => ?_) (fun cdv A outer s H vs Q E hr h => ?_)
  · obtain ⟨v, d, rfl, _⟩ := h
    rfl
  · obtain ⟨v, d, rfl, hv, hsh, hN, hsz, kk⟩ := h
    have nd := scLText.nd
    have hu : (A.deeper (envOfC "_law_text" (fnScope sLText) s.heap.objs.size f cdv)).units + 64 < cLine := by have := hr.un; omega
    refine ⟨_, pss_cons (ps_if (pt_val (pe_callB call_isi (by rfl) T.isi (by decide +kernel) (pa_cons (pv 0) (pa_cons (pe_bt "str" T.str) pa_nil)))) (pss_one (ps_ret (pe_op op_add_str pe_str (pv 0)))) pss_nil)
      (pss_cut (ps_setLc (i := 1) (own := [("_law_child", 2)]) (g := gName 2) (tt := tYes) rfl nd rfl rfl (by rfl) (pi_tup (pe_slice sl_tup (pv 0) (po_some pe_int) po_none)) (blkOk_by (N := NLT) (sc := fnScope sLText) (by decide +kernel)) (fun _ _ _ _ _ => pg_name (i := 2) nd rfl (Or.inl rfl)) (fun _ _ _ _ _ => pts_nil)
          (fun _ _ _ _ _ => pe_c CL hr (Nat.le_refl _) (by rfl) (pa_cons (pv 2) pa_nil)))
      (pss_one (ps_ret (pe_ifExp (pt_cmpR (op_eqNil hu) (pv 1) (pe_lst pa_nil) (nomark _)) (pe_ix ix_tup (pv 0) pe_int fun _ _ => rfl)
        (pe_op op_add_str (pe_op op_add_str (pe_op op_add_str (pe_ix ix_tup (pv 0) pe_int fun _ _ => rfl) pe_str) (pe_join pe_str (pv 1))) pe_str))))), ?_⟩
    obtain ⟨Ty, ty, _, k2⟩ := d_ty (K := K) hv
    have ty0 := ty H fun _ _ e => e
    refine ⟨_, rfl, v, .ty "str", _, _, _, rfl, .ty _, ty0, k2, _, rfl, ?_⟩
    rcases isSh_inv hsh with ⟨z, rfl, hz⟩ | ⟨z, cs, rfl, hz, hcs⟩
    · obtain ⟨rfl, _⟩ := hv
      have hzl := word_len hz
      refine iteBt rfl ⟨_, rfl, "?", z, rfl, rfl, by rw [sizeLine_eq]; show 1 + z.length ≤ _; omega, ?_⟩
      have : ("?" : Str) ++ z = S (tx (.fl (.str z))) := by
        apply TL.ext_tl
        rw [TL.tl_append, tx_hole]
        rfl
      rw [this]
      exact kk H (Same.refl _)
    · refine iteBf rfl ?_
      have hzl := word_len hz
      obtain ⟨a, us, rfl, qa, _, hus⟩ := hv
      have qa : H a = some (.tup us) := qa.elim id fun e => e.1.elim
      match us, hus with
      | [], hus => exact hus.elim
      | u :: us, ⟨⟨eu, _⟩, hus⟩ =>
        subst eu
        have hul := hus.len
        have hsc : sz (.sq (.fl (.str z) :: cs)) = 2 + szs cs := by rw [sz, szs, sz]; omega
        rw [hsc] at hN hsz
        have hcl := len_szs cs
        refine ⟨fun σ H' => ∃ p, σ = [some (.ref a), some (.ref p), none] ∧ Same H H' ∧ H' p = some (.lst ((cs.map tx).map fun t => V.str (S t))), ?_, ?_⟩
        · refine ⟨_, rfl, 1, rfl, a, _, rfl, SqT.of qa, not_whole (by decide) (by simp), fun p np => ?_⟩
          rw [cutFrom (by decide)]
          have e3 : (V.str z :: us).drop (1 : Int).toNat = us := rfl
          rw [e3]
          refine ⟨p, rfl, ⟨_, SqT.of upd_same⟩, fun Da nDa => ?_⟩
          have sp : Same H (upd H p (.tup us)) := same_upd np
          have hpp : (upd H p (.tup us)) p = some (.tup us) := upd_same
          generalize upd H p (.tup us) = H1 at sp hpp nDa
          refine lc_gen (J := Itt K p) us.length (fun j H' => H' Da = some (.lst (((cs.take j).map tx).map fun t => V.str (S t))) ∧ Same H1 H') ⟨upd_same, same_upd nDa⟩ (fun j H' hj ⟨_, sm⟩ => ⟨_, us.getD j .non, SqT.of (sm _ _ hpp), getD_at hj⟩) (fun H' ⟨_, sm⟩ => ⟨_, SqT.of (sm _ _ hpp), Nat.le_refl _⟩) (fun j H' x H'' hj ⟨hD, sm⟩ yl => ?_) (fun H' ⟨hD, sm⟩ => ?_)
          · obtain ⟨rfl, hx⟩ := yl
            have hx := hx _ (SqT.of (sm _ _ hpp))
            obtain ⟨c, hc, hxc⟩ := hus.get hx
            obtain ⟨hlt, ec⟩ := List.getElem?_eq_some_iff.mp hc
            have hcm := List.mem_of_getElem? hc
            have hszc := szs_get hc
            refine ⟨rfl, ?_⟩
            unfold tYes
            dsimp only
            rw [if_pos rfl]
            refine ⟨_, rfl, x, c, rfl, DAt.hold (.same (sp.trans sm)) _ hxc, isShs_mem hcs c hcm, by omega, by omega, fun H3 s3 => ⟨_, s3 _ _ hD, by rw [List.length_map, List.length_map, List.length_take, sizeLine_eq]; omega, ?_, fun b o e => by rw [upd_ne (ne_of_none e nDa)]; exact s3 _ _ (sm _ _ e)⟩⟩
            rw [upd_same, List.take_succ_eq_append_getElem hlt, ec, List.map_append, List.map_append]
            rfl
          · rw [hul, List.take_length] at hD
            exact ⟨Da, rfl, sp.trans sm, hD⟩
        · rintro σ H1 ⟨p, rfl, s1, hp⟩
          have hm : (cs.map tx).map (fun t => V.str (S t)) = ((cs.map tx).map S).map V.str := by simp only [List.map_map]; rfl
          refine ⟨_, rfl, (by show 0 ≤ sizeLine; decide), fun e ne => ?_⟩
          have s2 : Same H1 (upd H1 e (.lst [])) := same_upd ne
          have hp2 := s2 _ _ hp
          have he2 : (upd H1 e (.lst [])) e = some (.lst []) := upd_same
          generalize upd H1 e (.lst []) = H2 at s2 hp2 he2
          have lt := lens_tx hcs
          refine ⟨p, e, _, rfl, rfl, SqL.of hp2, SqL.of he2, _, rfl, ?_⟩
          have fin : S (tx (.sq (.fl (.str z) :: cs))) = S (nodeT z (cs.map tx)) := by rw [tx_sq hcs]
          have kk2 := kk H2 (s1.trans s2)
          rw [fin] at kk2
          cases cs with
          | nil =>
            refine iteBt rfl ⟨_, rfl, a, _, 0, _, rfl, rfl, SqT.of (s2 _ _ (s1 _ _ qa)), at_of (j := 0) (by omega) rfl, ?_⟩
            have : S (nodeT z (([] : List D).map tx)) = z := by unfold nodeT; rw [List.map_nil, if_pos rfl]
            rw [this] at kk2
            exact kk2
          | cons c cs =>
            obtain ⟨J, hJ⟩ : ∃ J, J = Txt.join ", " (((c :: cs).map tx).map S) := ⟨_, rfl⟩
            have hj : TL.tl J = TL.joinL [44, 32] ((c :: cs).map tx) := by
              have e1 : TL.tl (Str.join ", " (((c :: cs).map tx).map S)) = TL.joinL (TL.tl ", ") ((((c :: cs).map tx).map S).map TL.tl) := TL.tl_join _ _
              have e2 : (((c :: cs).map tx).map S).map TL.tl = (c :: cs).map tx := by
                rw [List.map_map]
                exact List.map_id _
              rw [e2, show TL.tl (", " : Str) = [44, 32] by decide +kernel] at e1
              rw [hJ, show Txt.join ", " (((c :: cs).map tx).map S) = Str.join ", " (((c :: cs).map tx).map S) from PySem.StrLaws.glued_eq_join _ _]
              exact e1
            have hjl := joinL_le ((c :: cs).map tx)
            rw [← hj, ← TL.len_tl, List.length_map] at hjl
            have hjl : J.length ≤ lens ((c :: cs).map tx) + 2 * (c :: cs).length := hjl
            refine iteBf rfl ?_
            refine ⟨_, rfl, a, _, 0, _, rfl, rfl, SqT.of (s2 _ _ (s1 _ _ qa)), at_of (j := 0) (by omega) rfl, z, "(", rfl, rfl, by rw [sizeLine_eq]; show z.length + 1 ≤ _; omega, ⟨_, rfl⟩, _, rfl, ", ", p, ((c :: cs).map tx).map S, rfl, rfl, .inl (SqL.of ?_), ?_, _, _, rfl, rfl, ?_, _, _, rfl, rfl, ?_, ?_⟩
            · rw [← hm]; exact hp2
            · have e1 : ((((c :: cs).map tx).map S).map (·.length)).sum = lens ((c :: cs).map tx) := by rw [List.map_map]; rfl
              rw [e1, List.length_map, List.length_map, show ((", " : Str)).length = 2 from rfl]
              omega
            · rw [← hJ, Str.length_append, sizeLine_eq]
              show z.length + 1 + J.length ≤ _
              omega
            · rw [← hJ, Str.length_append, Str.length_append, sizeLine_eq]
              show z.length + 1 + J.length + 1 ≤ _
              omega
            · have : z ++ "(" ++ J ++ ")" = S (nodeT z ((c :: cs).map tx)) := by
                apply TL.ext_tl
                rw [TL.tl_append, TL.tl_append, TL.tl_append, hj]
                unfold nodeT
                rw [if_neg (by simp)]
                show TL.tl z ++ [40] ++ TL.joinL [44, 32] ((c :: cs).map tx) ++ [41] = TL.tl z ++ 40 :: (TL.joinL [44, 32] ((c :: cs).map tx) ++ [41])
                simp
              rw [← hJ, this]
              exact kk2
theorem c_ltext {f : Addr} {fd : FuncData} (F : Def K mg "_law_text" sLText f fd) (b : Binds K fd ["_law_tree_here"] []) (T : Blt4 mg) : ∀ N : Nat, Cal P w K mg base (1 + N) "_law_text" (spLText N) []
  | 0 => by
    have no : ∀ {vs H Q E}, spLText 0 vs H Q E → False := fun ⟨_, d, _, _, _, h, _⟩ => by have := sz_pos d; omega
    exact cal0 F b .nil scLText (fun vs H Q E h => (no h).elim) (fun cdv A outer s H vs Q E hr h => (no h).elim)
  | N + 1 => ltext_step F b T (c_ltext F b T N)
end
end K7

/-! xs.count(x) of flat data: a number from 0 to len(xs) -/
namespace XR
open PySem PySem.Spec PySem.W PyProof.Rows L2
section
variable {X : Cx}
def rCntF (K : PySem.W.Frag) : V → List V → Hp → VK → Prop := fun x xs H Q => ∃ (p : Addr) (ys : List V) (y : V), x = .ref p ∧ xs = [y] ∧ SqL K H p ys ∧ flatV y = true ∧ ys.all flatV = true ∧ ∀ c : Int, 0 ≤ c → c ≤ ys.length → Q (.int c) H
theorem mt_lcountF : MtR X "list.count" (rCntF X.K) := by
  intro pins s σ H x xs v us Q I rx rxs h
  obtain ⟨a, ys, y, rfl, rfl, hs, fy, fys, q⟩ := h
  cases rx
  cases rxs with
  | cons ry rt =>
    rename_i uy ut
    cases rt
    obtain ⟨its, rv, ⟨⟨cls, dd, data, sl⟩, n, ho, hc, hdn, hd⟩, hlen⟩ := I.list hs
    simp only at hc hd
    subst hc hd
    have hvl := rv.length
    refine call_meets PySem.F.slot_list_count ⟨_, ho, rfl⟩ PySem.F.entry_list_count (PySem.F.args_list_count_2 _ _)
      (SeqAt.list_countAt a its.toArray n dd sl uy (eqU y)) ⟨ho, fun u' hu' => mem_eqAt ry fy rv fys u' (by simpa using hu'), ?_⟩
    have hle : its.toArray.toList.countP (eqU y) ≤ ys.length := by
      have := List.countP_le_length (p := eqU y) (l := its)
      simp only [List.toList_toArray] at *
      omega
    refine ⟨.int (its.toArray.toList.countP (eqU y) : Nat), H, I.tok _, ⟨s.toks, rfl⟩, q _ (Int.natCast_nonneg _) (by omega)⟩
end
end XR

namespace K7
open PySem PySem.Spec PyProof.Rows L2 C8 XE XR SX
/-! _law_holes, _law_spots -/
abbrev sHoles : Stmt := top 32
abbrev sSpots : Stmt := top 33
mutual
/-- the holes with their places -/
def holesP : D → List (Str × List Int)
  | .fl (.str z) => [(z, [])]
  | .sq (_ :: cs) => holesPs 0 cs
  | _ => []
def holesPs : Nat → List D → List (Str × List Int)
  | _, [] => []
  | k, c :: cs => (holesP c).map (fun q => (q.1, (k : Int) :: q.2)) ++ holesPs (k + 1) cs
end
mutual
/-- the places of the labels -/
def spotsP : D → List (List Int)
  | .sq (_ :: cs) => [] :: spotsPs 0 cs
  | _ => []
def spotsPs : Nat → List D → List (List Int)
  | _, [] => []
  | k, c :: cs => (spotsP c).map (fun q => (k : Int) :: q) ++ spotsPs (k + 1) cs
end
theorem holesPs_snoc : ∀ (a : List D) (k : Nat) (c : D), holesPs k (a ++ [c]) = holesPs k a ++ (holesP c).map (fun q => (q.1, ((k + a.length : Nat) : Int) :: q.2))
  | [], k, c => by simp [holesPs]
  | x :: a, k, c => by
    rw [List.cons_append, holesPs, holesPs, holesPs_snoc a, List.append_assoc, List.length_cons, show k + 1 + a.length = k + (a.length + 1) by omega]
theorem spotsPs_snoc : ∀ (a : List D) (k : Nat) (c : D), spotsPs k (a ++ [c]) = spotsPs k a ++ (spotsP c).map (fun q => ((k + a.length : Nat) : Int) :: q)
  | [], k, c => by simp [spotsPs]
  | x :: a, k, c => by
    rw [List.cons_append, spotsPs, spotsPs, spotsPs_snoc a, List.append_assoc, List.length_cons, show k + 1 + a.length = k + (a.length + 1) by omega]
mutual
theorem holes_le : ∀ d : D, (holesP d).length ≤ sz d ∧ ∀ q ∈ holesP d, q.2.length ≤ sz d
  | .fl x => by cases x <;> simp [holesP, sz]
  | .emp => by simp [holesP]
  | .sq [] => by simp [holesP]
  | .sq (x :: cs) => by
    obtain ⟨h1, h2⟩ := holess_le cs 0
    have := sz_pos x
    rw [holesP, sz, szs]
    exact ⟨by omega, fun q hq => by have := h2 q hq; omega⟩
theorem holess_le : ∀ (cs : List D) (k : Nat), (holesPs k cs).length ≤ szs cs ∧ ∀ q ∈ holesPs k cs, q.2.length ≤ szs cs + 1
  | [], k => by simp [holesPs]
  | c :: cs, k => by
    obtain ⟨h1, h2⟩ := holes_le c
    obtain ⟨h3, h4⟩ := holess_le cs (k + 1)
    rw [holesPs, szs, List.length_append, List.length_map]
    refine ⟨by omega, fun q hq => ?_⟩
    rcases List.mem_append.mp hq with hq | hq
    · obtain ⟨p, hp, rfl⟩ := List.mem_map.mp hq
      have := h2 p hp
      rw [List.length_cons]
      omega
    · have := h4 q hq
      omega
end
mutual
theorem spots_le : ∀ d : D, (spotsP d).length ≤ sz d ∧ ∀ q ∈ spotsP d, q.length ≤ sz d
  | .fl x => by simp [spotsP]
  | .emp => by simp [spotsP]
  | .sq [] => by simp [spotsP]
  | .sq (x :: cs) => by
    obtain ⟨h1, h2⟩ := spotss_le cs 0
    have := sz_pos x
    rw [spotsP, sz, szs, List.length_cons]
    refine ⟨by omega, fun q hq => ?_⟩
    rcases List.mem_cons.mp hq with rfl | hq
    · simp
    · have := h2 q hq; omega
theorem spotss_le : ∀ (cs : List D) (k : Nat), (spotsPs k cs).length ≤ szs cs ∧ ∀ q ∈ spotsPs k cs, q.length ≤ szs cs + 1
  | [], k => by simp [spotsPs]
  | c :: cs, k => by
    obtain ⟨h1, h2⟩ := spots_le c
    obtain ⟨h3, h4⟩ := spotss_le cs (k + 1)
    rw [spotsPs, szs, List.length_append, List.length_map]
    refine ⟨by omega, fun q hq => ?_⟩
    rcases List.mem_append.mp hq with hq | hq
    · obtain ⟨p, hp, rfl⟩ := List.mem_map.mp hq
      have := h2 p hp
      rw [List.length_cons]
      omega
    · have := h4 q hq
      omega
end
/-- a hole with its place -/
def HolV (H : Hp) (v : V) (q : Str × List Int) : Prop := ∃ t p, v = .ref t ∧ H t = some (.tup [.str q.1, .ref p]) ∧ H p = some (.tup (q.2.map V.int))
theorem HolV.same {H H' : Hp} {v : V} {q : Str × List Int} (s : Same H H') (h : HolV H v q) : HolV H' v q := by
  obtain ⟨t, p, e, h1, h2⟩ := h
  exact ⟨t, p, e, s _ _ h1, s _ _ h2⟩
def spHoles (N : Nat) : Sp := fun vs H Q _ => ∃ (v : V) (d : D), vs = [v] ∧ DAt nol H v d ∧ isSh d = true ∧ sz d ≤ N ∧ sz d ≤ 5000 ∧ ∀ (l : Addr) (ws : List V) (H' : Hp), H l = none → Same H H' → H' l = some (.lst ws) → Paired (HolV H') ws (holesP d) → Q (.ref l) H'
def spSpots (N : Nat) : Sp := fun vs H Q _ => ∃ (v : V) (d : D), vs = [v] ∧ DAt nol H v d ∧ isSh d = true ∧ sz d ≤ N ∧ sz d ≤ 5000 ∧ ∀ (l : Addr) (ws : List V) (H' : Hp), H l = none → Same H H' → H' l = some (.lst ws) → Paired (PlV H') ws (spotsP d) → Q (.ref l) H'
abbrev NHo : List Str := ["_law_shape_here", "_law_found", "_law_k", "_law_child", "_law_hole", "_law_place"]
abbrev NSpo : List Str := ["_law_shape_here", "_law_found", "_law_k", "_law_child", "_law_place"]
theorem scHoles : FnScope NHo ["_law_shape_here"] (fnScope sHoles) := fnScope_by (by decide +kernel)
theorem scSpots : FnScope NSpo ["_law_shape_here"] (fnScope sSpots) := fnScope_by (by decide +kernel)
section
variable {P : Program} {w : World} {K : PySem.W.Frag} {mg : Str → Option Value} {base : Heap}
theorem holes_step {k : Nat} {N : Nat} {f : Addr} {fd : FuncData} (F : Def K mg "_law_holes" sHoles f fd) (b : Binds K fd ["_law_shape_here"] []) (T : Blt4 mg) (CP : Cal P w K mg base k "_law_holes" (spHoles N) []) : Cal P w K mg base (k + 1) "_law_holes" (spHoles (N + 1)) [] := by
  refine cal0 F b .nil scHoles (fun vs H Q E h => ?_) (fun cdv A outer s H vs Q E hr h => ?_)
  · obtain ⟨v, d, rfl, _⟩ := h
    rfl
  · obtain ⟨v, d, rfl, hv, hsh, h0, h1, kk⟩ := h
    have nd := scHoles.nd
    refine ⟨_, pss_cons (ps_if (pt_val (pe_callB call_isi (by rfl) T.isi (by decide +kernel) (pa_cons (pv 0) (pa_cons (pe_bt "str" T.str) pa_nil)))) (pss_one (ps_ret (pe_lst (pa_cons (pe_tup (pa_cons (pv 0) (pa_cons (pe_tup pa_nil) pa_nil))) pa_nil)))) pss_nil)
      (pss_cons (ps_set (i := 1) nd rfl (Or.inl rfl) (pe_lst pa_nil))
      (pss_cons (ps_for PassesOwn.never rfl (pi_enumT (by rfl) T.enu (pa_cons (pe_slice sl_tup (pv 0) (po_some pe_int) po_none) pa_nil)) (pg_tup rfl (pgs_cons (pg_name (i := 2) nd rfl (by first | exact Or.inl rfl | exact Or.inr rfl)) (pgs_cons (pg_name (i := 3) nd rfl (by first | exact Or.inl rfl | exact Or.inr rfl)) pgs_nil)))
          (pss_one (ps_expr (pe_bm PySem.F.plainAttrs_list PySem.F.slot_list_extend PySem.F.type_list_extend mt_extend (pv 1) (pa_cons
            (pe_lc (own := [("_law_hole", 4), ("_law_place", 5)]) (g := gTup K 2 (gCons (gName 4) (gCons (gName 5) gNil))) (tt := tYes) rfl nd (pi_list (pe_c CP hr (Nat.le_refl _) (by rfl) (pa_cons (pv 3) pa_nil))) (blkOk_by (N := NHo) (sc := fnScope sHoles) (by decide +kernel)) (fun _ _ _ _ _ => pg_tup rfl (pgs_cons (pg_name (i := 4) nd rfl (Or.inl rfl)) (pgs_cons (pg_name (i := 5) nd rfl (Or.inl rfl)) pgs_nil))) (fun _ _ _ _ _ => pts_nil)
              (fun _ _ _ _ _ => pe_tup (pa_cons (pv 4) (pa_cons (pe_op (show OpR _ (binaryOp .Add) (rCatT K) from op_catT) (pe_tup (pa_cons (pv 2) pa_nil)) (pv 5)) pa_nil)))) pa_nil)))))
      (pss_one (ps_ret (pv 1))))), ?_⟩
    obtain ⟨Ty, ty, _, k2⟩ := d_ty (K := K) hv
    have ty0 := ty H fun _ _ e => e
    refine ⟨_, rfl, v, .ty "str", _, _, _, rfl, .ty _, ty0, k2, _, rfl, ?_⟩
    rcases isSh_inv hsh with ⟨z, rfl, hz⟩ | ⟨z, cs, rfl, hz, hcs⟩
    · obtain ⟨rfl, _⟩ := hv
      refine iteBt rfl ⟨_, rfl, (by show 0 ≤ sizeLine; decide), fun e ne => ⟨(by show 2 ≤ sizeLine; decide), fun t nt => ⟨(by show 1 ≤ sizeLine; decide), fun l nl => ?_⟩⟩⟩
      have et : e ≠ t := ne_of_none upd_same nt
      have h2 : (upd (upd H e (.tup [])) t (.tup [.str z, .ref e])) e = some (.tup []) := by rw [upd_ne et]; exact upd_same
      have s2 : Same H (upd (upd H e (.tup [])) t (.tup [.str z, .ref e])) := (same_upd ne).trans (same_upd nt)
      refine kk l _ _ (same_free s2 nl) (s2.trans (same_upd nl)) upd_same ?_
      rw [holesP]
      exact .cons ⟨t, e, rfl, by rw [upd_ne (ne_of_none upd_same nl)]; exact upd_same, by rw [upd_ne (ne_of_none h2 nl)]; exact h2⟩ .nil
    · refine iteBf rfl ?_
      obtain ⟨a, us, rfl, qa, _, hus⟩ := hv
      have ha : H a = some (.tup us) := qa.elim id fun e => e.1.elim
      match us, hus with
      | [], hus => exact hus.elim
      | u :: cvs, ⟨⟨eu, _⟩, hus⟩ =>
        subst eu
        have hcl := hus.len
        have hsz : sz (.sq (.fl (.str z) :: cs)) = 2 + szs cs := by rw [sz, szs, sz]; omega
        rw [hsz] at h0 h1
        refine ⟨(by show 0 ≤ sizeLine; decide), fun fd nfH => ?_⟩
        have s1 : Same H (upd H fd (.lst [])) := same_upd nfH
        have hf1 : (upd H fd (.lst [])) fd = some (.lst []) := upd_same
        generalize upd H fd (.lst []) = H1 at s1 hf1
        have st : Paired (HolV H1) [] (holesPs 0 (cs.take 0)) := .nil
        refine ⟨_, rfl, 1, rfl, a, _, rfl, SqT.of (s1 _ _ ha), not_whole (by decide) (by simp), fun p np => ?_⟩
        rw [cutFrom (by decide)]
        have cut1 : (V.str z :: cvs).drop (1 : Int).toNat = cvs := rfl
        rw [cut1]
        refine ⟨p, _, rfl, SqT.of upd_same, ?_⟩
        have hfp : fd ≠ p := ne_of_none hf1 np
        refine for_gen (J := IteT K p) cvs.length (fun i σ H' => ∃ (v2 v3 : Option V) (ws : List V), σ = [some (.ref a), some (.ref fd), v2, v3, none, none] ∧ H' fd = some (.lst ws) ∧ Paired (HolV H') ws (holesPs 0 (cs.take i)) ∧ Same H H' ∧ H' p = some (.tup cvs))
          ⟨none, none, _, rfl, by rw [upd_ne hfp]; exact hf1, Paired.mono (fun _ _ h => HolV.same (same_upd np) h) st, s1.trans (same_upd np), upd_same⟩
          (fun i σ H' hi ⟨_, _, _, _, _, _, _, hp⟩ => ⟨_, _, SqT.of hp, List.getElem?_eq_getElem hi⟩) (fun σ H' ⟨_, _, _, _, _, _, _, hp⟩ => ⟨_, SqT.of hp, Nat.le_refl _⟩) ?_
          (fun σ H' ⟨v2, v3, ws, e, hf, hpw, sm, _⟩ => by
            subst e
            rw [hcl, List.take_length] at hpw
            exact ⟨_, rfl, kk fd ws H' nfH sm hf (by rw [holesP]; exact hpw)⟩)
        rintro i σ H2 v H3 hi ⟨v2, v3, ws, rfl, hf, hpw, sm, hp⟩ ⟨T', x, rfl, nT, rfl, hx⟩
        have hx := hx _ (SqT.of hp)
        obtain ⟨c, hc, hxc⟩ := hus.get hx
        obtain ⟨hci, ec⟩ := List.getElem?_eq_some_iff.mp hc
        refine ⟨T', [.int (i : Nat), x], rfl, SqT.of upd_same, rfl, .int (i : Nat), [x], rfl, x, [], rfl, rfl, ?_⟩
        have s3 : Same H2 (upd H2 T' (.tup [.int (i : Nat), x])) := same_upd nT
        generalize upd H2 T' (.tup [.int (i : Nat), x]) = H3 at s3
        have hf3 := s3 _ _ hf
        have szc := szs_get hc
        refine ⟨_, rfl, .inl ⟨rfl, _, SqL.of hf3⟩, _, rfl, x, c, rfl, DAt.hold (.same (sm.trans s3)) _ hxc, isShs_mem hcs c (List.mem_of_getElem? hc), by omega, by omega, fun l us H4 nl s4 hl4 hpu => ⟨l, rfl, ⟨_, SqL.of hl4⟩, fun Da nDa => ?_⟩⟩
        have hul := Paired.length hpu
        obtain ⟨hle, hqe⟩ := holes_le c
        have nDH : H Da = none := same_free (sm.trans (s3.trans s4)) nDa
        have hf4 := s4 _ _ hf3
        refine lc_gen (J := Itl K l) us.length (fun j H' => ∃ ys, H' Da = some (.lst ys) ∧ Paired (HolV H') ys (((holesP c).take j).map (fun q : Str × List Int => (q.1, (i : Int) :: q.2))) ∧ Same H4 H') ⟨[], upd_same, .nil, same_upd nDa⟩
          (fun j H' hj ⟨_, _, _, sm'⟩ => ⟨_, _, SqL.of (sm' _ _ hl4), List.getElem?_eq_getElem hj⟩) (fun H' ⟨_, _, _, sm'⟩ => ⟨_, SqL.of (sm' _ _ hl4), Nat.le_refl _⟩) (fun j H' v H'' hj ⟨ys, hD, hpy, sm'⟩ yl => ?_) (fun H' ⟨ys, hD, hpy, sm'⟩ => ?_)
        · obtain ⟨rfl, hy⟩ := yl
          have hy := hy _ (SqL.of (sm' _ _ hl4))
          obtain ⟨q, hq, hqv⟩ := paired_get hpu hy
          have hyl := Paired.length hpy
          obtain ⟨hqj, eq'⟩ := List.getElem?_eq_some_iff.mp hq
          rw [List.length_map, List.length_take] at hyl
          have hql := hqe q (List.mem_of_getElem? hq)
          obtain ⟨q1, q2⟩ := q
          obtain ⟨qt, qa, rfl, hqt, hqa⟩ := hqv
          refine ⟨qt, _, rfl, SqT.of (sm' _ _ hqt), rfl, .str q1, [.ref qa], rfl, .ref qa, [], rfl, rfl, rfl, ?_⟩
          unfold tYes
          dsimp only
          rw [if_pos rfl]
          have fin : ∀ (H9 : Hp) (ta : Addr), Same H'' H9 → H9 ta = some (.tup (((i : Int) :: q2).map V.int)) → ∀ tt, H9 tt = none → ∃ acc, (upd H9 tt (.tup [.str q1, .ref ta])) Da = some (.lst acc) ∧ acc.length < sizeLine ∧ ∃ ys, (upd (upd H9 tt (.tup [.str q1, .ref ta])) Da (.lst (acc ++ [.ref tt]))) Da = some (.lst ys) ∧ Paired (HolV (upd (upd H9 tt (.tup [.str q1, .ref ta])) Da (.lst (acc ++ [.ref tt])))) ys (((holesP c).take (j + 1)).map (fun q : Str × List Int => (q.1, (i : Int) :: q.2))) ∧ Same H4 (upd (upd H9 tt (.tup [.str q1, .ref ta])) Da (.lst (acc ++ [.ref tt]))) := by
            intro H9 ta s9 ht9 tt ntt
            have sA : Same H'' (upd H9 tt (.tup [.str q1, .ref ta])) := s9.trans (same_upd ntt)
            have htt : (upd H9 tt (.tup [.str q1, .ref ta])) tt = some (.tup [.str q1, .ref ta]) := upd_same
            have htA : (upd H9 tt (.tup [.str q1, .ref ta])) ta = some (.tup (((i : Int) :: q2).map V.int)) := by rw [upd_ne (ne_of_none ht9 ntt)]; exact ht9
            generalize upd H9 tt (.tup [.str q1, .ref ta]) = HA at sA htt htA
            have hDA := sA _ _ hD
            have tD : ∀ {b : Addr} {xs : List V}, HA b = some (.tup xs) → (upd HA Da (.lst (ys ++ [.ref tt]))) b = some (.tup xs) := fun e => by rw [upd_ne (ne_of e hDA (by intro z; cases z))]; exact e
            refine ⟨ys, hDA, by rw [sizeLine_eq]; omega, _, upd_same, ?_, fun b o e => by rw [upd_ne (ne_of_none e nDa)]; exact sA _ _ (sm' _ _ e)⟩
            rw [List.take_succ_eq_append_getElem hqj, List.map_append, eq']
            exact Paired.snoc (Paired.mono (fun _ _ ⟨t', p', e, h1, h2⟩ => ⟨t', p', e, tD (sA _ _ h1), tD (sA _ _ h2)⟩) hpy) ⟨tt, ta, rfl, tD htt, tD htA⟩
          refine ⟨_, rfl, _, rfl, (by show 1 ≤ sizeLine; decide), fun ta nta => ⟨_, rfl, ta, qa, _, _, rfl, rfl, SqT.of upd_same, SqT.of (by rw [upd_ne (ne_of_none (sm' _ _ hqa) nta)]; exact sm' _ _ hqa), by simp, ?_, fun e => ⟨(by show 2 ≤ sizeLine; decide), fun tt ntt => ?_⟩, fun e tb ntb => ⟨(by show 2 ≤ sizeLine; decide), fun tt ntt => ?_⟩⟩⟩
          · rw [List.length_map]
            show 1 + q2.length ≤ sizeLine
            have hql : q2.length ≤ sz c := hql
            rw [sizeLine_eq]; omega
          · refine fin _ ta (same_upd nta) ?_ tt ntt
            have : q2 = [] := List.map_eq_nil_iff.mp e
            rw [this]
            exact upd_same
          · exact fin _ tb ((same_upd nta).trans (same_upd ntb)) upd_same tt ntt
        · have hyl := Paired.length hpy
          rw [List.length_map, hul, List.take_of_length_le (Nat.le_refl _)] at hyl
          rw [hul, List.take_of_length_le (Nat.le_refl _)] at hpy
          have hwl := Paired.length hpw
          obtain ⟨hwl2, _⟩ := holess_le (cs.take i) 0
          have hst := szs_take_le cs i
          have hf5 := sm' _ _ hf4
          refine ⟨fd, Da, ws, ys, rfl, rfl, hf5, hD, by rw [sizeLine_eq]; (try simp only [List.length_cons] at hwl); omega, ?_⟩
          have tF : ∀ {b : Addr} {xs : List V}, H' b = some (.tup xs) → (upd H' fd (.lst (ws ++ ys))) b = some (.tup xs) := fun e => by rw [upd_ne (ne_of e hf5 (by intro z; cases z))]; exact e
          have s5 : Same H2 H' := s3.trans (s4.trans sm')
          refine ⟨_, _, ws ++ ys, rfl, upd_same, ?_, fun b o e => by rw [upd_ne (ne_of_none e nfH)]; exact s5 _ _ (sm _ _ e), tF (s5 _ _ hp)⟩
          have e1 : holesPs 0 (cs.take (i + 1)) = holesPs 0 (cs.take i) ++ (holesP c).map (fun q : Str × List Int => (q.1, (i : Int) :: q.2)) := by
            rw [List.take_succ_eq_append_getElem hci, holesPs_snoc, ec, List.length_take, show 0 + min i cs.length = i by omega]
          rw [e1]
          exact paired_app (Paired.mono (fun _ _ ⟨t', p', e, h1, h2⟩ => ⟨t', p', e, tF (s5 _ _ h1), tF (s5 _ _ h2)⟩) hpw) (Paired.mono (fun _ _ ⟨t', p', e, h1, h2⟩ => ⟨t', p', e, tF h1, tF h2⟩) hpy)
theorem c_holes {f : Addr} {fd : FuncData} (F : Def K mg "_law_holes" sHoles f fd) (b : Binds K fd ["_law_shape_here"] []) (T : Blt4 mg) : ∀ N : Nat, Cal P w K mg base (1 + N) "_law_holes" (spHoles N) []
  | 0 => by
    have no : ∀ {vs H Q E}, spHoles 0 vs H Q E → False := fun ⟨_, d, _, _, _, h, _⟩ => by have := sz_pos d; omega
    exact cal0 F b .nil scHoles (fun vs H Q E h => (no h).elim) (fun cdv A outer s H vs Q E hr h => (no h).elim)
  | N + 1 => holes_step F b T (c_holes F b T N)
theorem spots_step {k : Nat} {N : Nat} {f : Addr} {fd : FuncData} (F : Def K mg "_law_spots" sSpots f fd) (b : Binds K fd ["_law_shape_here"] []) (T : Blt4 mg) (CP : Cal P w K mg base k "_law_spots" (spSpots N) []) : Cal P w K mg base (k + 1) "_law_spots" (spSpots (N + 1)) [] := by
  refine cal0 F b .nil scSpots (fun vs H Q E h => ?_) (fun cdv A outer s H vs Q E hr h => ?_)
  · obtain ⟨v, d, rfl, _⟩ := h
    rfl
  · obtain ⟨v, d, rfl, hv, hsh, h0, h1, kk⟩ := h
    have nd := scSpots.nd
    refine ⟨_, pss_cons (ps_if (pt_val (pe_callB call_isi (by rfl) T.isi (by decide +kernel) (pa_cons (pv 0) (pa_cons (pe_bt "str" T.str) pa_nil)))) (pss_one (ps_ret (pe_lst pa_nil))) pss_nil)
      (pss_cons (ps_set (i := 1) nd rfl (Or.inl rfl) (pe_lst (pa_cons (pe_tup pa_nil) pa_nil)))
      (pss_cons (ps_for PassesOwn.never rfl (pi_enumT (by rfl) T.enu (pa_cons (pe_slice sl_tup (pv 0) (po_some pe_int) po_none) pa_nil)) (pg_tup rfl (pgs_cons (pg_name (i := 2) nd rfl (by first | exact Or.inl rfl | exact Or.inr rfl)) (pgs_cons (pg_name (i := 3) nd rfl (by first | exact Or.inl rfl | exact Or.inr rfl)) pgs_nil)))
          (pss_one (ps_expr (pe_bm PySem.F.plainAttrs_list PySem.F.slot_list_extend PySem.F.type_list_extend mt_extend (pv 1) (pa_cons
            (pe_lc (own := [("_law_place", 4)]) (g := gName 4) (tt := tYes) rfl nd (pi_list (pe_c CP hr (Nat.le_refl _) (by rfl) (pa_cons (pv 3) pa_nil))) (blkOk_by (N := NSpo) (sc := fnScope sSpots) (by decide +kernel)) (fun _ _ _ _ _ => pg_name (i := 4) nd rfl (Or.inl rfl)) (fun _ _ _ _ _ => pts_nil)
              (fun _ _ _ _ _ => pe_op (show OpR _ (binaryOp .Add) (rCatT K) from op_catT) (pe_tup (pa_cons (pv 2) pa_nil)) (pv 4))) pa_nil)))))
      (pss_one (ps_ret (pv 1))))), ?_⟩
    obtain ⟨Ty, ty, _, k2⟩ := d_ty (K := K) hv
    have ty0 := ty H fun _ _ e => e
    refine ⟨_, rfl, v, .ty "str", _, _, _, rfl, .ty _, ty0, k2, _, rfl, ?_⟩
    rcases isSh_inv hsh with ⟨z, rfl, hz⟩ | ⟨z, cs, rfl, hz, hcs⟩
    · obtain ⟨rfl, _⟩ := hv
      refine iteBt rfl ⟨(by show 0 ≤ sizeLine; decide), fun l nl => ?_⟩
      refine kk l _ _ nl (same_upd nl) upd_same ?_
      rw [spotsP]
      · exact .nil
      · intro _ _ e; cases e
    · refine iteBf rfl ?_
      obtain ⟨a, us, rfl, qa, _, hus⟩ := hv
      have ha : H a = some (.tup us) := qa.elim id fun e => e.1.elim
      match us, hus with
      | [], hus => exact hus.elim
      | u :: cvs, ⟨⟨eu, _⟩, hus⟩ =>
        subst eu
        have hcl := hus.len
        have hsz : sz (.sq (.fl (.str z) :: cs)) = 2 + szs cs := by rw [sz, szs, sz]; omega
        rw [hsz] at h0 h1
        refine ⟨(by show 0 ≤ sizeLine; decide), fun e0 ne0 => ⟨(by show 1 ≤ sizeLine; decide), fun fd nfd => ?_⟩⟩
        have fe : fd ≠ e0 := (ne_of_none upd_same nfd).symm
        have nfH : H fd = none := by rw [upd_ne fe] at nfd; exact nfd
        have s1 : Same H (upd (upd H e0 (.tup [])) fd (.lst [.ref e0])) := (same_upd ne0).trans (same_upd nfd)
        have hf1 : (upd (upd H e0 (.tup [])) fd (.lst [.ref e0])) fd = some (.lst [.ref e0]) := upd_same
        have he1 : (upd (upd H e0 (.tup [])) fd (.lst [.ref e0])) e0 = some (.tup []) := by rw [upd_ne fe.symm]; exact upd_same
        generalize upd (upd H e0 (.tup [])) fd (.lst [.ref e0]) = H1 at s1 hf1 he1
        have st : Paired (PlV H1) [.ref e0] ([] :: spotsPs 0 (cs.take 0)) := .cons ⟨e0, rfl, he1⟩ .nil
        refine ⟨_, rfl, 1, rfl, a, _, rfl, SqT.of (s1 _ _ ha), not_whole (by decide) (by simp), fun p np => ?_⟩
        rw [cutFrom (by decide)]
        have cut1 : (V.str z :: cvs).drop (1 : Int).toNat = cvs := rfl
        rw [cut1]
        refine ⟨p, _, rfl, SqT.of upd_same, ?_⟩
        have hfp : fd ≠ p := ne_of_none hf1 np
        refine for_gen (J := IteT K p) cvs.length (fun i σ H' => ∃ (v2 v3 : Option V) (ws : List V), σ = [some (.ref a), some (.ref fd), v2, v3, none] ∧ H' fd = some (.lst ws) ∧ Paired (PlV H') ws ([] :: spotsPs 0 (cs.take i)) ∧ Same H H' ∧ H' p = some (.tup cvs))
          ⟨none, none, _, rfl, by rw [upd_ne hfp]; exact hf1, Paired.mono (fun _ _ h => PlV.same (same_upd np) h) st, s1.trans (same_upd np), upd_same⟩
          (fun i σ H' hi ⟨_, _, _, _, _, _, _, hp⟩ => ⟨_, _, SqT.of hp, List.getElem?_eq_getElem hi⟩) (fun σ H' ⟨_, _, _, _, _, _, _, hp⟩ => ⟨_, SqT.of hp, Nat.le_refl _⟩) ?_
          (fun σ H' ⟨v2, v3, ws, e, hf, hpw, sm, _⟩ => by
            subst e
            rw [hcl, List.take_length] at hpw
            exact ⟨_, rfl, kk fd ws H' nfH sm hf (by rw [spotsP]; exact hpw)⟩)
        rintro i σ H2 v H3 hi ⟨v2, v3, ws, rfl, hf, hpw, sm, hp⟩ ⟨T', x, rfl, nT, rfl, hx⟩
        have hx := hx _ (SqT.of hp)
        obtain ⟨c, hc, hxc⟩ := hus.get hx
        obtain ⟨hci, ec⟩ := List.getElem?_eq_some_iff.mp hc
        refine ⟨T', [.int (i : Nat), x], rfl, SqT.of upd_same, rfl, .int (i : Nat), [x], rfl, x, [], rfl, rfl, ?_⟩
        have s3 : Same H2 (upd H2 T' (.tup [.int (i : Nat), x])) := same_upd nT
        generalize upd H2 T' (.tup [.int (i : Nat), x]) = H3 at s3
        have hf3 := s3 _ _ hf
        have szc := szs_get hc
        refine ⟨_, rfl, .inl ⟨rfl, _, SqL.of hf3⟩, _, rfl, x, c, rfl, DAt.hold (.same (sm.trans s3)) _ hxc, isShs_mem hcs c (List.mem_of_getElem? hc), by omega, by omega, fun l us H4 nl s4 hl4 hpu => ⟨l, rfl, ⟨_, SqL.of hl4⟩, fun Da nDa => ?_⟩⟩
        have hul := Paired.length hpu
        obtain ⟨hle, hqe⟩ := spots_le c
        have nDH : H Da = none := same_free (sm.trans (s3.trans s4)) nDa
        have hf4 := s4 _ _ hf3
        refine lc_gen (J := Itl K l) us.length (fun j H' => ∃ ys, H' Da = some (.lst ys) ∧ Paired (PlV H') ys (((spotsP c).take j).map (fun q : List Int => (i : Int) :: q)) ∧ Same H4 H') ⟨[], upd_same, .nil, same_upd nDa⟩
          (fun j H' hj ⟨_, _, _, sm'⟩ => ⟨_, _, SqL.of (sm' _ _ hl4), List.getElem?_eq_getElem hj⟩) (fun H' ⟨_, _, _, sm'⟩ => ⟨_, SqL.of (sm' _ _ hl4), Nat.le_refl _⟩) (fun j H' v H'' hj ⟨ys, hD, hpy, sm'⟩ yl => ?_) (fun H' ⟨ys, hD, hpy, sm'⟩ => ?_)
        · obtain ⟨rfl, hy⟩ := yl
          have hy := hy _ (SqL.of (sm' _ _ hl4))
          obtain ⟨q, hq, hqv⟩ := paired_get hpu hy
          have hyl := Paired.length hpy
          obtain ⟨hqj, eq'⟩ := List.getElem?_eq_some_iff.mp hq
          rw [List.length_map, List.length_take] at hyl
          have hql := hqe q (List.mem_of_getElem? hq)
          obtain ⟨qa, rfl, hqa⟩ := hqv
          have fin : ∀ (H9 : Hp) (ta : Addr), Same H'' H9 → H9 ta = some (.tup (((i : Int) :: q).map V.int)) → ∃ acc, H9 Da = some (.lst acc) ∧ acc.length < sizeLine ∧ ∃ ys, (upd H9 Da (.lst (acc ++ [.ref ta]))) Da = some (.lst ys) ∧ Paired (PlV (upd H9 Da (.lst (acc ++ [.ref ta])))) ys (((spotsP c).take (j + 1)).map (fun q : List Int => (i : Int) :: q)) ∧ Same H4 (upd H9 Da (.lst (acc ++ [.ref ta]))) := by
            intro H9 ta s9 ht9
            have hD9 := s9 _ _ hD
            have tD : ∀ {b : Addr} {xs : List V}, H9 b = some (.tup xs) → (upd H9 Da (.lst (ys ++ [.ref ta]))) b = some (.tup xs) := fun e => by rw [upd_ne (ne_of e hD9 (by intro z; cases z))]; exact e
            refine ⟨ys, hD9, by rw [sizeLine_eq]; omega, _, upd_same, ?_, fun b o e => by rw [upd_ne (ne_of_none e nDa)]; exact s9 _ _ (sm' _ _ e)⟩
            rw [List.take_succ_eq_append_getElem hqj, List.map_append, eq']
            refine Paired.snoc (Paired.mono (fun _ _ ⟨a', e, q'⟩ => ⟨a', e, tD (s9 _ _ q')⟩) hpy) ⟨ta, rfl, tD ht9⟩
          refine ⟨rfl, ?_⟩
          unfold tYes
          dsimp only
          rw [if_pos rfl]
          refine ⟨_, rfl, (by show 1 ≤ sizeLine; decide), fun ta nta => ⟨_, rfl, ta, qa, _, _, rfl, rfl, SqT.of upd_same, SqT.of (by rw [upd_ne (ne_of_none (sm' _ _ hqa) nta)]; exact sm' _ _ hqa), by simp, ?_, fun e => ?_, fun e tb ntb => ?_⟩⟩
          · rw [List.length_map]
            show 1 + q.length ≤ sizeLine
            rw [sizeLine_eq]; omega
          · refine fin _ ta (same_upd nta) ?_
            have : q = [] := List.map_eq_nil_iff.mp e
            rw [this]
            exact upd_same
          · exact fin _ tb ((same_upd nta).trans (same_upd ntb)) upd_same
        · have hyl := Paired.length hpy
          rw [List.length_map, hul, List.take_of_length_le (Nat.le_refl _)] at hyl
          rw [hul, List.take_of_length_le (Nat.le_refl _)] at hpy
          have hwl := Paired.length hpw
          obtain ⟨hwl2, _⟩ := spotss_le (cs.take i) 0
          have hst := szs_take_le cs i
          have hf5 := sm' _ _ hf4
          refine ⟨fd, Da, ws, ys, rfl, rfl, hf5, hD, by rw [sizeLine_eq]; (try simp only [List.length_cons] at hwl); omega, ?_⟩
          have tF : ∀ {b : Addr} {xs : List V}, H' b = some (.tup xs) → (upd H' fd (.lst (ws ++ ys))) b = some (.tup xs) := fun e => by rw [upd_ne (ne_of e hf5 (by intro z; cases z))]; exact e
          have s5 : Same H2 H' := s3.trans (s4.trans sm')
          refine ⟨_, _, ws ++ ys, rfl, upd_same, ?_, fun b o e => by rw [upd_ne (ne_of_none e nfH)]; exact s5 _ _ (sm _ _ e), tF (s5 _ _ hp)⟩
          have e1 : spotsPs 0 (cs.take (i + 1)) = spotsPs 0 (cs.take i) ++ (spotsP c).map (fun q : List Int => (i : Int) :: q) := by
            rw [List.take_succ_eq_append_getElem hci, spotsPs_snoc, ec, List.length_take, show 0 + min i cs.length = i by omega]
          rw [e1]
          exact paired_app (Paired.mono (fun _ _ ⟨a', e, q'⟩ => ⟨a', e, tF (s5 _ _ q')⟩) hpw) (Paired.mono (fun _ _ ⟨a', e, q'⟩ => ⟨a', e, tF q'⟩) hpy)
theorem c_spots {f : Addr} {fd : FuncData} (F : Def K mg "_law_spots" sSpots f fd) (b : Binds K fd ["_law_shape_here"] []) (T : Blt4 mg) : ∀ N : Nat, Cal P w K mg base (1 + N) "_law_spots" (spSpots N) []
  | 0 => by
    have no : ∀ {vs H Q E}, spSpots 0 vs H Q E → False := fun ⟨_, d, _, _, _, h, _⟩ => by have := sz_pos d; omega
    exact cal0 F b .nil scSpots (fun vs H Q E h => (no h).elim) (fun cdv A outer s H vs Q E hr h => (no h).elim)
  | N + 1 => spots_step F b T (c_spots F b T N)
end
end K7

namespace K7
open PySem PySem.Spec PyProof.Rows L2 C8 XE XR SX
/-! _law_shape: a drawn shape, with a list of one number that tells how many labels are left -/
abbrev sShape : Stmt := top 34
mutual
def nh : D → Nat
  | .fl (.str _) => 1
  | .sq (_ :: cs) => nhs cs
  | _ => 0
def nhs : List D → Nat
  | [] => 0
  | c :: cs => nh c + nhs cs
end
theorem nhs_app : ∀ a b : List D, nhs (a ++ b) = nhs a + nhs b
  | [], b => by rw [List.nil_append, nhs, Nat.zero_add]
  | x :: a, b => by rw [List.cons_append, nhs, nhs, nhs_app a b, Nat.add_assoc]
mutual
theorem holes_nh : ∀ d : D, (holesP d).length = nh d
  | .fl x => by cases x <;> simp [holesP, nh]
  | .emp => by simp [holesP, nh]
  | .sq [] => by simp [holesP, nh]
  | .sq (x :: cs) => by rw [holesP, nh]; exact holess_nh cs 0
theorem holess_nh : ∀ (cs : List D) (k : Nat), (holesPs k cs).length = nhs cs
  | [], k => by rw [holesPs, nhs]; rfl
  | c :: cs, k => by rw [holesPs, nhs, List.length_append, List.length_map, holes_nh c, holess_nh cs]
end
/-- all but two is as it was -/
def But2 (a c : Addr) (H H' : Hp) : Prop := ∀ b o, H b = some o → b ≠ a → b ≠ c → H' b = some o
theorem But2.trans {a c : Addr} {H H' H'' : Hp} (h : But2 a c H H') (h' : But2 a c H' H'') : But2 a c H H'' := fun b o e n m => h' b o (h b o e n m) n m
theorem But.two {a c : Addr} {H H' : Hp} (h : But a H H') : But2 a c H H' := fun b o e n _ => h b o e n
theorem But2.same {a c : Addr} {H H' : Hp} (h : Same H H') : But2 a c H H' := fun b o e _ _ => h b o e
theorem But2.put {a c p : Addr} {o : HO} {H H' : Hp} (h : But2 a c H H') (hp : H p = none) : But2 a c H (upd H' p o) := fun b u e n m => by
  rw [upd_ne (ne_of_none e hp)]
  exact h b u e n m
theorem But2.free {H H' : Hp} {a c p : Addr} (h : But2 a c H H') (n : H' p = none) (na : p ≠ a) (nc : p ≠ c) : H p = none := by
  cases e : H p with
  | none => rfl
  | some o => rw [h p o e na nc] at n; cases n
theorem Hold.but2 {F : Addr → Prop} {B : Nat} {H H' : Hp} {st cl ll : Addr} {xs : List V} (hs : StAt B H st cl) (hl : H ll = some (.lst xs)) (hb : But2 st ll H H') (hF : ∀ a, F a → a ≠ st ∧ a ≠ ll) : Hold F H H' := by
  obtain ⟨ns, i, c, h0, n, e1, _⟩ := hs
  refine ⟨fun a vs e => hb _ _ e (ne_of e e1 (by intro z; cases z)) (ne_of e hl (by intro z; cases z)), fun a e => hb _ _ e (ne_of e e1 (by intro z; cases z)) (ne_of e hl (by intro z; cases z)), fun a vs e q => hb _ _ q (hF a e).1 (hF a e).2⟩
theorem RowsAt.but2 {B : Nat} {H H' : Hp} {st cl ll l : Addr} {n : Int} {rs : List Rw} (hs : StAt B H st cl) (hl : H ll = some (.lst [.int n])) (hb : But2 st ll H H') (hn : l ≠ ll) (h : RowsAt H l rs) : RowsAt H' l rs := by
  have h0 := h
  obtain ⟨vs, e, p⟩ := h
  obtain ⟨ns, i, c, h1, m, e1, e2, _⟩ := hs
  have lst : l ≠ st := by
    intro z
    subst z
    rw [e1] at e
    cases e
    cases p with
    | cons q t =>
      cases t with
      | cons q' t =>
        obtain ⟨_, z, _⟩ := q'
        cases z
  refine ⟨vs, hb _ _ e lst hn, Paired.mono (fun _ _ ⟨t, z, q⟩ => ⟨t, z, hb _ _ q (ne_of q e1 (by intro z; cases z)) (ne_of q hl (by intro z; cases z))⟩) p⟩
theorem menu_word : ∀ z ∈ menu, wordS z = true := by decide +kernel
theorem labs_word {rs : List Rw} (ok : RowsOk rs) {z : Str} (h : z ∈ labs rs) : wordS z = true := by
  obtain ⟨r, hr, rfl⟩ := List.mem_map.mp h
  rcases List.mem_append.mp hr with h' | h'
  · exact menu_word _ (ok.mem r h').1
  · rw [List.mem_singleton.mp h']; decide +kernel
/-- the list of what is left -/
structure LeftAt (H : Hp) (st cl l ll : Addr) (n : Nat) : Prop where
  at' : H ll = some (.lst [.int (n : Int)])
  st : ll ≠ st
  cl : ll ≠ cl
  l : ll ≠ l
theorem LeftAt.but {H H' : Hp} {st cl l ll : Addr} {n : Nat} (h : LeftAt H st cl l ll n) (b : But st H H') : LeftAt H' st cl l ll n := ⟨b _ _ h.at' h.st, h.st, h.cl, h.l⟩
theorem LeftAt.same {H H' : Hp} {st cl l ll : Addr} {n : Nat} (h : LeftAt H st cl l ll n) (b : Same H H') : LeftAt H' st cl l ll n := ⟨b _ _ h.at', h.st, h.cl, h.l⟩
theorem LeftAt.put {H : Hp} {st cl l ll p : Addr} {o : HO} {n : Nat} (h : LeftAt H st cl l ll n) (b : p ≠ ll) : LeftAt (upd H p o) st cl l ll n := ⟨by rw [upd_ne b.symm]; exact h.at', h.st, h.cl, h.l⟩
def spShape (N : Nat) : Sp := fun vs H Q _ => ∃ (st l ll hl : Addr) (rs : List Rw) (hs : List Str) (n B : Nat) (cl : Addr), vs = [.ref st, .ref l, .ref ll, .ref hl] ∧ n < N ∧ n ≤ 100 ∧ RowsAt H l rs ∧ RowsOk rs ∧ LeftAt H st cl l ll n ∧
  H hl = some (.lst (hs.map V.str)) ∧ hs ≠ [] ∧ hs.length ≤ 100 ∧ (∀ z ∈ hs, wordS z = true) ∧ StAt B H st cl ∧ B + 4 * n + 2 < 1000000000000000 ∧
  ∀ (v : V) (d : D) (n' : Nat) (H' : Hp), DAt nol H' v d → isSh d = true → n' ≤ n → sz d ≤ 3 * (n - n') + 1 → nh d ≤ (n - n') + 1 → LeftAt H' st cl l ll n' → StAt (B + (4 * (n - n') + 2)) H' st cl → But2 st ll H H' → Q v H'
abbrev NSh : List Str := ["_law_state", "_law_rows_here", "_law_left_here", "_law_holes_here", "_law_fits", "_law_label", "_law_many_here", "_law_found", "_law_k"]
theorem scShape : FnScope NSh ["_law_state", "_law_rows_here", "_law_left_here", "_law_holes_here"] (fnScope sShape) := fnScope_by (by decide +kernel)
section
variable {P : Program} {w : World} {K : PySem.W.Frag} {mg : Str → Option Value} {base : Heap}
theorem shape_step {k : Nat} {N : Nat} {f : Addr} {fd : FuncData} (F : Def K mg "_law_shape" sShape f fd) (b : Binds K fd ["_law_state", "_law_rows_here", "_law_left_here", "_law_holes_here"] []) (T : Blt4 mg) (hk : 2 ≤ k) (C : Cal P w K mg base 1 "_law_take" spTake []) (CO : Cal P w K mg base 2 "_law_one" spOne [])
    (CM : Cal P w K mg base 1 "_law_many" spMany []) (CS : Cal P w K mg base k "_law_shape" (spShape N) []) : Cal P w K mg base (k + 1) "_law_shape" (spShape (N + 1)) [] := by
  refine cal0 F b .nil scShape (fun vs H Q E h => ?_) (fun cdv A outer s H vs Q E hr h => ?_)
  · obtain ⟨st, l, ll, hl, rs, hs, n, B, cl, rfl, _⟩ := h
    rfl
  · obtain ⟨st, l, ll, hl, rs, hs, n, B, cl, rfl, n1, n9, hR, ok, hL, hhl, hne, hsl, hsw, hst, hB, kk⟩ := h
    have nd := scShape.nd
    have hu : (A.deeper (envOfC "_law_shape" (fnScope sShape) s.heap.objs.size f cdv)).units + 64 < cLine := by have := hr.un; omega
    refine ⟨_, pss_cut (ps_setLc (i := 4) (own := [("_law_label", 5), ("_law_many_here", 6)]) (g := gTup K 2 (gCons (gName 5) (gCons (gName 6) gNil))) (tt := tYes) rfl nd rfl rfl (by rfl) (pi_list (pv 1)) (blkOk_by (N := NSh) (sc := fnScope sShape) (by decide +kernel))
          (fun _ _ _ _ _ => pg_tup rfl (pgs_cons (pg_name (i := 5) nd rfl (Or.inl rfl)) (pgs_cons (pg_name (i := 6) nd rfl (Or.inl rfl)) pgs_nil))) (fun _ _ _ _ _ => pts_nil) (fun _ _ _ _ _ => pv 5))
      (pss_cons (ps_if (pw_or (pt_cmp (pc_eqI (pe_ix ix_list (pv 2) pe_int fun _ _ => rfl) pe_int)) (pw_or1 (pw_and (pt_cmpR (op_neNil hu) (pv 3) (pe_lst pa_nil) (nomark _)) (pw_and1 (pt_cmp (pc_eqI (pe_c C hr (by omega) (by rfl) (pa_cons (pv 0) (pa_cons pe_int pa_nil))) pe_int)))).pt)).pt
          (pss_one (ps_ret (pe_c CO hr (by omega) (by rfl) (pa_cons (pv 0) (pa_cons (pv 3) pa_nil))))) pss_nil)
      (pss_cons (ps_asg (pe_op op_sub (pe_ix ix_list (pv 2) pe_int fun _ _ => rfl) pe_int) (pg_sub (pv 2) pe_int set_list))
      (pss_cons (ps_set (i := 5) nd rfl (Or.inl rfl) (pe_c CO hr (by omega) (by rfl) (pa_cons (pv 0) (pa_cons (pv 4) pa_nil))))
      (pss_cons (ps_set (i := 7) nd rfl (Or.inl rfl) (pe_lst (pa_cons (pv 5) pa_nil)))
      (pss_cons (ps_for PassesOwn.never rfl (pi_range1 (by rfl) T.ran (pa_cons (pe_c CM hr (by omega) (by rfl) (pa_cons (pv 1) (pa_cons (pv 5) pa_nil))) pa_nil)) (pg_name (i := 8) nd rfl (Or.inl rfl))
          (pss_one (ps_expr (pe_bm PySem.F.plainAttrs_list PySem.F.slot_list_append PySem.F.type_list_append mt_append (pv 7) (pa_cons (pe_c CS hr (Nat.le_refl _) (by rfl) (pa_cons (pv 0) (pa_cons (pv 1) (pa_cons (pv 2) (pa_cons (pv 3) pa_nil))))) pa_nil)))))
      (pss_one (ps_ret (pe_callTy call_tuple_of (by rfl) T.tup (by decide +kernel) (pa_cons (pv 7) pa_nil))))))))), ?_⟩
    obtain ⟨us, hlv, hp⟩ := id hR
    have hlen := Paired.length hp
    have hok := ok.len
    have hll := hL.at'
    have hlst : hl ≠ st := by
      obtain ⟨ns, i, c, h1, m, e1, _⟩ := hst
      refine ne_of hhl e1 fun z => ?_
      cases hs with
      | nil => cases z
      | cons x xs => cases z
    have hlll : hl ≠ ll := by
      refine ne_of hhl hll fun z => ?_
      cases hs with
      | nil => cases z
      | cons x xs => cases z
    have hpos : 0 < hs.length := List.length_pos_iff.mpr hne
    -- the labels
    refine ⟨fun σ H' => ∃ (ft : Addr), σ = [some (.ref st), some (.ref l), some (.ref ll), some (.ref hl), some (.ref ft), none, none, none, none] ∧ H' ft = some (.lst (rs.map fun r => V.str r.1)) ∧ H ft = none ∧ Same H H', ?_, ?_⟩
    · refine ⟨_, rfl, l, rfl, ⟨us, SqL.of hlv⟩, fun D nD => ?_⟩
      refine lc_gen (J := Itl K l) rs.length (fun i H' => H' D = some (.lst ((rs.take i).map fun r => V.str r.1)) ∧ Same H H') ⟨upd_same, same_upd nD⟩ (fun i H' hi ⟨_, sm⟩ => ⟨us, us.getD i .non, SqL.of (sm _ _ hlv), by rw [List.getD_eq_getElem?_getD, List.getElem?_eq_getElem (by omega)]; rfl⟩)
        (fun H' ⟨_, sm⟩ => ⟨us, SqL.of (sm _ _ hlv), by omega⟩) (fun i H' v H'' hi ⟨hD, sm⟩ yl => ?_) (fun H' ⟨hD, sm⟩ => ⟨D, rfl, by rw [hD, List.take_of_length_le (Nat.le_refl _)], nD, sm⟩)
      obtain ⟨rfl, hx⟩ := yl
      have hx := hx _ (SqL.of (sm _ _ hlv))
      obtain ⟨r, hr, t, rfl, ht⟩ := paired_get hp hx
      refine ⟨t, [.str r.1, .int r.2], rfl, SqT.of (sm _ _ ht), rfl, .str r.1, [.int r.2], rfl, .int r.2, [], rfl, rfl, rfl, ?_⟩
      unfold tYes
      dsimp only
      rw [if_pos rfl]
      refine ⟨_, rfl, _, hD, by rw [List.length_map, List.length_take, sizeLine_eq]; omega, ?_, fun b o e => by rw [upd_ne (ne_of_none e nD)]; exact sm _ _ e⟩
      obtain ⟨hlt, e⟩ := List.getElem?_eq_some_iff.mp hr
      rw [upd_same, List.take_succ_eq_append_getElem hlt, List.map_append, e]
      rfl
    rintro σ' H1 ⟨ft, rfl, hf, nft, s1⟩
    have fst : ft ≠ st := (hst.new nft).1
    have ftl : ft ≠ ll := (ne_of_none hll nft).symm
    have finH : ∀ H2 B', B' ≤ B + 1 → But st H H2 → ∀ v H4, v ∈ hs.map V.str → StAt (B' + 1) H4 st cl → But st H2 H4 → Q v H4 := fun H2 B' hB' hb2 v H4 hv hs4 hb4 => by
      obtain ⟨z, hz, rfl⟩ := List.mem_map.mp hv
      refine kk _ (.fl (.str z)) n H4 ⟨rfl, rfl⟩ (hsw z hz) (Nat.le_refl _) ?_ ?_ (hL.but (hb2.trans hb4)) (hs4.mono (by omega)) (hb2.trans hb4).two
      · show 1 ≤ _
        omega
      · show 1 ≤ _
        omega
    refine ⟨_, rfl, ll, _, 0, _, rfl, rfl, SqL.of (s1 _ _ hll), rfl, (n : Int), 0, rfl, rfl, _, rfl, ite2 (fun c0 => ?_) (fun c0 => ?_)⟩
    · refine iteBt rfl ⟨_, rfl, _, rfl, st, hl, hs.map V.str, B, cl, rfl, .inl (s1 _ _ hhl), hlst, by rw [List.length_map]; exact hpos, by rw [List.length_map]; omega, hst.same s1, by omega, finH H1 B (by omega) (Same.but s1)⟩
    have n0 : 0 < n := by
      rcases Nat.eq_zero_or_pos n with e | e
      · exact absurd (by rw [e]; rfl) c0
      · exact e
    refine ⟨_, rfl, (by show 0 ≤ sizeLine; decide), fun p np => ⟨hl, p, _, rfl, rfl, SqL.of (by rw [upd_ne (ne_of_none (s1 _ _ hhl) np)]; exact s1 _ _ hhl), SqL.of upd_same, _, rfl, ?_⟩⟩
    have s2 : Same H (upd H1 p (.lst [])) := s1.trans (same_upd np)
    have hf2 : (upd H1 p (.lst [])) ft = some (.lst (rs.map fun r => V.str r.1)) := by rw [upd_ne (ne_of_none hf np)]; exact hf
    generalize upd H1 p (.lst []) = H2 at s2 hf2
    refine iteBt (by cases hs with | nil => exact absurd rfl hne | cons x xs => rfl) ⟨_, rfl, st, 3, B, cl, rfl, by decide, by decide, hst.same s2, by omega, fun d H3 _ _ hs3 hb3 => ⟨d, 0, rfl, rfl, _, rfl, ite2 (fun _ => ?_) (fun _ => ?_)⟩⟩
    · exact ⟨_, rfl, _, rfl, st, hl, hs.map V.str, B + 1, cl, rfl, .inl (hb3 _ _ (s2 _ _ hhl) hlst), hlst, by rw [List.length_map]; exact hpos, by rw [List.length_map]; omega, hs3, by omega, finH H3 (B + 1) (by omega) ((Same.but s2).trans hb3)⟩
    have hb03 : But st H H3 := (Same.but s2).trans hb3
    have hL3 := hL.but hb03
    have hf3 := hb3 _ _ hf2 fst
    have e4 : ((n : Int) - 1) = ((n - 1 : Nat) : Int) := by omega
    refine ⟨_, rfl, ll, _, 0, _, rfl, rfl, SqL.of hL3.at', rfl, (n : Int), 1, rfl, rfl, _, rfl, ll, _, 0, 0, rfl, rfl, hL3.at', rfl, ?_⟩
    have hL4 : LeftAt (upd H3 ll (.lst [.int ((n : Int) - 1)])) st cl l ll (n - 1) := ⟨by rw [upd_same, e4], hL.st, hL.cl, hL.l⟩
    have hs4 : StAt (B + 1) (upd H3 ll (.lst [.int ((n : Int) - 1)])) st cl := hs3.put hL.st hL.cl
    have hb4 : But2 st ll H (upd H3 ll (.lst [.int ((n : Int) - 1)])) := fun b o e n m => by rw [upd_ne m]; exact hb03 _ _ e n
    have hf4 : (upd H3 ll (.lst [.int ((n : Int) - 1)])) ft = some (.lst (rs.map fun r => V.str r.1)) := by rw [upd_ne ftl]; exact hf3
    show tSeq _ _ _ _ (upd H3 ll (.lst [.int ((n : Int) - 1)]))
    generalize upd H3 ll (.lst [.int ((n : Int) - 1)]) = H4 at hL4 hs4 hb4 hf4
    have rpos : 0 < rs.length := by
      obtain ⟨r, hr, _⟩ := ok.leaf
      exact List.length_pos_iff.mpr fun e => by rw [e] at hr; cases hr
    refine ⟨_, rfl, _, rfl, st, ft, _, B + 1, cl, rfl, .inl hf4, fst, by rw [List.length_map]; exact rpos, by rw [List.length_map]; omega, hs4, by omega, fun v H5 hv hs5 hb5 => ?_⟩
    obtain ⟨r, hr, rfl⟩ := List.mem_map.mp hv
    have hmz : many rs r.1 = some r.2 := many_mem ok (List.mem_append_left _ hr)
    obtain ⟨hrm, m0, m2⟩ := ok.mem r hr
    have hrl : r.1 ∈ labs rs := List.mem_map_of_mem (List.mem_append_left _ hr)
    have hL5 := hL4.but hb5
    have hb05 : But2 st ll H H5 := hb4.trans hb5.two
    refine ⟨_, rfl, (by show 1 ≤ sizeLine; decide), fun fd nfd => ?_⟩
    obtain ⟨fs, fc⟩ := hs5.new nfd
    have fll : fd ≠ ll := (ne_of_none hL5.at' nfd).symm
    have nfH : H fd = none := hb05.free nfd fs fll
    have hL6 := hL5.same (same_upd nfd (o := .lst [.str r.1]))
    have hs6 := hs5.same (same_upd nfd (o := .lst [.str r.1]))
    have hb06 : But2 st ll H (upd H5 fd (.lst [.str r.1])) := hb05.trans (But2.same (same_upd nfd))
    have hf6 : (upd H5 fd (.lst [.str r.1])) fd = some (.lst [.str r.1]) := upd_same
    generalize upd H5 fd (.lst [.str r.1]) = H6 at hL6 hs6 hb06 hf6
    refine ⟨_, rfl, _, rfl, l, r.1, rs, r.2, rfl, RowsAt.but2 hst hll hb06 hL.l.symm hR, ok, hmz, fun H7 s7 => ⟨r.2, rfl, by omega, by omega, ?_⟩⟩
    refine for_range (n := r.2.toNat) (fun i σ H' => ∃ (v8 : Option V) (vs : List V) (cs : List D) (n' : Nat), σ = [some (.ref st), some (.ref l), some (.ref ll), some (.ref hl), some (.ref ft), some (.str r.1), none, some (.ref fd), v8] ∧ H' fd = some (.lst (.str r.1 :: vs)) ∧ DAts nol H' vs cs ∧ isShs cs = true ∧ cs.length = i ∧ n' + 1 ≤ n ∧ szs cs ≤ 3 * (n - 1 - n') + i ∧ nhs cs ≤ (n - 1 - n') + i ∧ LeftAt H' st cl l ll n' ∧ StAt (B + (4 * (n - 1 - n') + 2 * i + 2)) H' st cl ∧ But2 st ll H H')
      ⟨none, [], [], n - 1, rfl, s7 _ _ hf6, trivial, rfl, rfl, by omega, Nat.zero_le _, Nat.zero_le _, hL6.same s7, (hs6.same s7).mono (by omega), hb06.trans (But2.same s7)⟩ ?_ ?_
    · rintro i σ H8 hi ⟨v8, vs, cs, n', rfl, hf8, hds, hss, hcl, hn', hsz, hnh, hL8, hs8, hb8⟩
      refine ⟨_, rfl, .inl ⟨rfl, _, SqL.of hf8⟩, _, rfl, _, rfl, _, rfl, _, rfl, st, l, ll, hl, rs, hs, n', _, cl, rfl, by omega, by omega, RowsAt.but2 hst hll hb8 hL.l.symm hR, ok, hL8, hb8 _ _ hhl hlst hlll, hne, hsl, hsw, hs8, by omega, fun v d n'' H9 hd hsh hle hsz' hnh' hL9 hs9 hb9 => ?_⟩
      have hf9 := hb9 _ _ hf8 fs fll
      have hl8 := hds.len
      refine ⟨fd, _, v, rfl, rfl, hf9, by rw [List.length_cons, sizeLine_eq]; omega, ?_⟩
      have h10 : Hold nol H9 (upd H9 fd (.lst (.str r.1 :: vs ++ [v]))) := ⟨fun a xs e => by rw [upd_ne (ne_of e hf9 (by intro z; cases z))]; exact e, fun a e => by rw [upd_ne (ne_of e hf9 (by intro z; cases z))]; exact e, fun _ _ h => h.elim⟩
      refine ⟨_, vs ++ [v], cs ++ [d], n'', rfl, upd_same, DAts.app (DAts.hold h10 _ (DAts.hold (Hold.but2 hs8 hL8.at' hb9 fun _ h => h.elim) _ hds)) ⟨DAt.hold h10 _ hd, trivial⟩, isShs_of fun e he => ?_, by rw [List.length_append, hcl]; rfl, by omega, ?_, ?_, hL9.put fll, (hs9.mono (by omega)).put fs fc, (hb8.trans hb9).put nfH⟩
      · rcases List.mem_append.mp he with he | he
        · exact isShs_mem hss e he
        · rw [List.mem_singleton.mp he]; exact hsh
      · rw [szs_app, show szs [d] = sz d + 0 from rfl]; omega
      · rw [nhs_app, show nhs [d] = nh d + 0 from rfl]; omega
    · rintro σ H8 ⟨v8, vs, cs, n', rfl, hf8, hds, hss, hcl, hn', hsz, hnh, hL8, hs8, hb8⟩
      refine ⟨_, rfl, fd, _, rfl, .inl ⟨SqL.of hf8, fun p np => ?_⟩⟩
      obtain ⟨pa, pc⟩ := hs8.new np
      have pl : p ≠ ll := (ne_of_none hL8.at' np).symm
      refine kk _ _ n' _ (new_tree np hds) (by rw [isSh, labs_word ok hrl, hss]; rfl) (by omega) ?_ ?_ (hL8.put pl) ((hs8.mono (by omega)).put pa pc) (hb8.put (hb8.free np pa pl))
      · show 1 + (1 + szs cs) ≤ _
        omega
      · show nhs cs ≤ _
        omega
theorem c_shape {f : Addr} {fd : FuncData} (F : Def K mg "_law_shape" sShape f fd) (b : Binds K fd ["_law_state", "_law_rows_here", "_law_left_here", "_law_holes_here"] []) (T : Blt4 mg) (C : Cal P w K mg base 1 "_law_take" spTake []) (CO : Cal P w K mg base 2 "_law_one" spOne [])
    (CM : Cal P w K mg base 1 "_law_many" spMany []) : ∀ N : Nat, Cal P w K mg base (2 + N) "_law_shape" (spShape N) []
  | 0 => by
    have no : ∀ {vs H Q E}, spShape 0 vs H Q E → False := fun ⟨_, _, _, _, _, _, n, _, _, _, h1, _⟩ => by omega
    exact cal0 F b .nil scShape (fun vs H Q E h => (no h).elim) (fun cdv A outer s H vs Q E hr h => (no h).elim)
  | N + 1 => shape_step F b T (Nat.le_add_right 2 N) C CO CM (c_shape F b T C CO CM N)
end
end K7

namespace K7
open PySem PySem.Spec PyProof.Rows L2 C8 XE XR SX
/-! _law_unlike_holes -/
abbrev sUnl : Stmt := top 35
def spUnl (N : Nat) : Sp := fun vs H Q _ => ∃ (v : V) (d : D) (wl : Addr) (ws : List Str), vs = [v, .ref wl] ∧ DAt nol H v d ∧ isSh d = true ∧ sz d ≤ N ∧ sz d ≤ 5000 ∧ H wl = some (.lst (ws.map V.str)) ∧ nh d ≤ ws.length ∧ ws.length ≤ 100 ∧ (∀ z ∈ ws, wordS z = true) ∧
  ∀ (v' : V) (d' : D) (H' : Hp), DAt nol H' v' d' → isSh d' = true → sz d' = sz d → nh d' = nh d → H' wl = some (.lst ((ws.drop (nh d)).map V.str)) → But wl H H' → Q v' H'
abbrev NUn : List Str := ["_law_shape_here", "_law_words_here", "_law_child"]
theorem scUnl : FnScope NUn ["_law_shape_here", "_law_words_here"] (fnScope sUnl) := fnScope_by (by decide +kernel)
theorem nhs_take_le (cs : List D) (i : Nat) : nhs (cs.take i) ≤ nhs cs := by
  have h := nhs_app (cs.take i) (cs.drop i)
  rw [List.take_append_drop] at h
  omega
theorem nhs_take_succ {xs : List D} {i : Nat} (h : i < xs.length) : nhs (xs.take (i + 1)) = nhs (xs.take i) + nh xs[i] := by
  rw [List.take_succ_eq_append_getElem h, nhs_app]
  rfl
section
variable {P : Program} {w : World} {K : PySem.W.Frag} {mg : Str → Option Value} {base : Heap}
theorem unl_step {k N : Nat} {f : Addr} {fd : FuncData} (F : Def K mg "_law_unlike_holes" sUnl f fd) (b : Binds K fd ["_law_shape_here", "_law_words_here"] []) (T : Blt4 mg) (CU : Cal P w K mg base k "_law_unlike_holes" (spUnl N) []) : Cal P w K mg base (k + 1) "_law_unlike_holes" (spUnl (N + 1)) [] := by
  refine cal0 F b .nil scUnl (fun vs H Q E h => ?_) (fun cdv A outer s H vs Q E hr h => ?_)
  · obtain ⟨v, d, wl, ws, rfl, _⟩ := h
    rfl
  · obtain ⟨v, d, wl, ws, rfl, hv, hsh, hN, hsz, hwl, hnw, hw9, hww, kk⟩ := h
    have nd := scUnl.nd
    refine ⟨_, pss_cons (ps_if (pt_val (pe_callB call_isi (by rfl) T.isi (by decide +kernel) (pa_cons (pv 0) (pa_cons (pe_bt "str" T.str) pa_nil))))
        (pss_one (ps_ret (pe_bm PySem.F.plainAttrs_list PySem.F.slot_list_pop PySem.F.type_list_pop mt_popAt (pv 1) (pa_cons pe_int pa_nil)))) pss_nil)
      (pss_one (ps_ret (pe_op op_catT (pe_tup (pa_cons (pe_ix ix_tup (pv 0) pe_int fun _ _ => rfl) pa_nil)) (pe_callTy call_tuple_of (by rfl) T.tup (by decide +kernel) (pa_cons
        (pe_lc (own := [("_law_child", 2)]) (g := gName 2) (tt := tYes) rfl nd (pi_tup (pe_slice sl_tup (pv 0) (po_some pe_int) po_none)) (blkOk_by (N := NUn) (sc := fnScope sUnl) (by decide +kernel)) (fun _ _ _ _ _ => pg_name (i := 2) nd rfl (Or.inl rfl)) (fun _ _ _ _ _ => pts_nil)
          (fun _ _ _ _ _ => pe_c CU hr (Nat.le_refl _) (by rfl) (pa_cons (pv 2) (pa_cons (pv 1) pa_nil)))) pa_nil))))), ?_⟩
    obtain ⟨Ty, ty, _, k2⟩ := d_ty (K := K) hv
    have ty0 := ty H fun _ _ e => e
    refine ⟨_, rfl, v, .ty "str", _, _, _, rfl, .ty _, ty0, k2, _, rfl, ?_⟩
    rcases isSh_inv hsh with ⟨z, rfl, hz⟩ | ⟨z, cs, rfl, hz, hcs⟩
    · have hn1 : nh (.fl (.str z)) = 1 := rfl
      cases ws with
      | nil => rw [hn1] at hnw; exact absurd hnw (by simp)
      | cons w0 ws =>
        refine iteBt rfl ⟨_, rfl, .inl ⟨rfl, _, SqL.of hwl⟩, wl, _, 0, (0 : Int).toNat, .str w0, rfl, rfl, hwl, by decide, by decide, seqIndex_of (by decide) (by rw [List.length_map, List.length_cons]; omega), rfl, ?_⟩
        refine kk _ (.fl (.str w0)) _ ⟨rfl, rfl⟩ (hww w0 List.mem_cons_self) rfl rfl (by rw [upd_same, hn1]; rfl) fun b o e n => by rw [upd_ne n]; exact e
    · refine iteBf rfl ?_
      obtain ⟨a, us, rfl, qa, _, hus⟩ := hv
      have qa : H a = some (.tup us) := qa.elim id fun e => e.1.elim
      match us, hus with
      | [], hus => exact hus.elim
      | u :: us, ⟨⟨eu, _⟩, hus⟩ =>
        subst eu
        have hul := hus.len
        have hsc : sz (.sq (.fl (.str z) :: cs)) = 2 + szs cs := by rw [sz, szs, sz]; omega
        have hnc : nh (.sq (.fl (.str z) :: cs)) = nhs cs := by rw [nh]
        have hcl := len_szs cs
        have hsl := sizeLine_eq
        refine ⟨_, rfl, a, _, 0, _, rfl, rfl, SqT.of qa, at_of (j := 0) rfl rfl, (by show 1 ≤ sizeLine; decide), fun t nt => ?_⟩
        have st : Same H (upd H t (.tup [.str z])) := same_upd nt
        have ht : (upd H t (.tup [.str z])) t = some (.tup [.str z]) := upd_same
        generalize upd H t (.tup [.str z]) = H1 at st ht
        refine ⟨_, rfl, 1, rfl, a, _, rfl, SqT.of (st _ _ qa), not_whole (by decide) (by simp), fun p np => ?_⟩
        rw [cutFrom (by decide)]
        have e3 : (V.str z :: us).drop (1 : Int).toNat = us := rfl
        rw [e3]
        refine ⟨p, rfl, ⟨_, SqT.of upd_same⟩, fun Da nDa => ?_⟩
        have sp : Same H1 (upd H1 p (.tup us)) := same_upd np
        have hpp : (upd H1 p (.tup us)) p = some (.tup us) := upd_same
        generalize upd H1 p (.tup us) = H2 at sp hpp nDa
        have s02 := st.trans sp
        have Dwl : Da ≠ wl := (ne_of_none (s02 _ _ hwl) nDa).symm
        refine lc_gen (J := Itt K p) us.length (fun j H' => ∃ vs' cs', H' Da = some (.lst vs') ∧ DAts nol H' vs' cs' ∧ isShs cs' = true ∧ cs'.length = j ∧ szs cs' = szs (cs.take j) ∧ nhs cs' = nhs (cs.take j) ∧ H' wl = some (.lst ((ws.drop (nhs (cs.take j))).map V.str)) ∧ But wl H2 H')
          ⟨[], [], upd_same, trivial, rfl, rfl, rfl, rfl, by rw [upd_ne Dwl.symm]; exact s02 _ _ hwl, Same.but (same_upd nDa)⟩
          (fun j H' hj ⟨_, _, _, _, _, _, _, _, _, b'⟩ => ⟨_, us.getD j .non, SqT.of (b' _ _ hpp (ne_of hpp (s02 _ _ hwl) (by intro z; cases z))), getD_at hj⟩) (fun H' ⟨_, _, _, _, _, _, _, _, _, b'⟩ => ⟨_, SqT.of (b' _ _ hpp (ne_of hpp (s02 _ _ hwl) (by intro z; cases z))), Nat.le_refl _⟩) (fun j H' x H'' hj ⟨vs', cs', hD, hds, hss, hcl', hszs, hnhs, hw', b'⟩ yl => ?_) (fun H' ⟨vs', cs', hD, hds, hss, hcl', hszs, hnhs, hw', b'⟩ => ?_)
        · obtain ⟨rfl, hx⟩ := yl
          have hx := hx _ (SqT.of (b' _ _ hpp (ne_of hpp (s02 _ _ hwl) (by intro z; cases z))))
          obtain ⟨c, hc, hxc⟩ := hus.get hx
          obtain ⟨hlt, ec⟩ := List.getElem?_eq_some_iff.mp hc
          have hszc := szs_get hc
          have hnt := nhs_take_succ hlt
          rw [ec] at hnt
          have hntl := nhs_take_le cs (j + 1)
          rw [hnc] at hnw
          have hdl : (ws.drop (nhs (cs.take j))).length = ws.length - nhs (cs.take j) := List.length_drop
          refine ⟨rfl, ?_⟩
          unfold tYes
          dsimp only
          rw [if_pos rfl]
          refine ⟨_, rfl, _, rfl, x, c, wl, ws.drop (nhs (cs.take j)), rfl, DAt.hold (Hold.but1 (s02 _ _ hwl) b' fun _ h => h.elim) _ (DAt.hold (.same s02) _ hxc), isShs_mem hcs c (List.mem_of_getElem? hc), by omega, by omega, hw', by omega, by omega, fun z hz => hww z (List.mem_of_mem_drop hz), fun v' d' H3 hd' hsh' hsz' hnh' hw3 hb3 => ?_⟩
          have hD3 := hb3 _ _ hD Dwl
          have hvl := hds.len
          have nD2 : H2 Da = none := nDa
          have h10 : Hold nol H3 (upd H3 Da (.lst (vs' ++ [v']))) := ⟨fun a xs e => by rw [upd_ne (ne_of e hD3 (by intro z; cases z))]; exact e, fun a e => by rw [upd_ne (ne_of e hD3 (by intro z; cases z))]; exact e, fun _ _ h => h.elim⟩
          refine ⟨_, hD3, by omega, vs' ++ [v'], cs' ++ [d'], upd_same, DAts.app (DAts.hold h10 _ (DAts.hold (Hold.but1 hw' hb3 fun _ h => h.elim) _ hds)) ⟨DAt.hold h10 _ hd', trivial⟩, isShs_of fun e he => ?_, by rw [List.length_append, hcl']; rfl, ?_, ?_, ?_, fun b o e n => by rw [upd_ne (ne_of_none e nD2)]; exact hb3 _ _ (b' _ _ e n) n⟩
          · rcases List.mem_append.mp he with he | he
            · exact isShs_mem hss e he
            · rw [List.mem_singleton.mp he]; exact hsh'
          · rw [szs_app, show szs [d'] = sz d' + 0 from rfl, szs_take_succ hlt, ec]; omega
          · rw [nhs_app, show nhs [d'] = nh d' + 0 from rfl, hnt]; omega
          · rw [upd_ne Dwl.symm, hw3, List.drop_drop, hnt]
        · rw [hul, List.take_length] at hszs hnhs hw'
          have hvl := hds.len
          have htH : H' t = some (.tup [.str z]) := b' _ _ (sp _ _ ht) (ne_of (sp _ _ ht) (s02 _ _ hwl) (by intro z; cases z))
          have hbf : But wl H H' := fun b o e n => b' _ _ (s02 _ _ e) n
          refine ⟨Da, vs', rfl, .inl ⟨SqL.of hD, fun q nq => ?_⟩⟩
          have sq : Same H' (upd H' q (.tup vs')) := same_upd nq
          have hqq : (upd H' q (.tup vs')) q = some (.tup vs') := upd_same
          generalize upd H' q (.tup vs') = H4 at sq hqq
          have ht4 := sq _ _ htH
          have hd4 := DAts.hold (.same sq) _ hds
          have hb4 : But wl H H4 := fun b o e n => sq _ _ (hbf _ _ e n)
          have s1 : isSh (.sq (.fl (.str z) :: cs')) = true := by rw [isSh, hz, hss]; rfl
          have s2 : sz (.sq (.fl (.str z) :: cs')) = sz (.sq (.fl (.str z) :: cs)) := by rw [hsc, sz, szs, sz]; omega
          have s3 : nh (.sq (.fl (.str z) :: cs')) = nh (.sq (.fl (.str z) :: cs)) := by rw [hnc, nh]; exact hnhs
          have hwe := sq _ _ hw'
          rw [← hnc] at hwe
          refine ⟨t, q, [.str z], vs', rfl, rfl, SqT.of ht4, SqT.of hqq, by simp, by rw [hvl, List.length_singleton]; omega, fun e => ?_, fun e tt ntt => ?_⟩
          · subst e
            exact kk _ (.sq (.fl (.str z) :: cs')) H4 ⟨t, _, rfl, .inl ht4, rfl, ⟨rfl, rfl⟩, hd4⟩ s1 s2 s3 hwe hb4
          · exact kk _ _ _ (new_tree ntt hd4) s1 s2 s3 (by rw [upd_ne (ne_of_none hwe ntt)]; exact hwe) fun b o e n => by
              have := hb4 _ _ e n
              rw [upd_ne (ne_of_none this ntt)]
              exact this
theorem c_unl {f : Addr} {fd : FuncData} (F : Def K mg "_law_unlike_holes" sUnl f fd) (b : Binds K fd ["_law_shape_here", "_law_words_here"] []) (T : Blt4 mg) : ∀ N : Nat, Cal P w K mg base (1 + N) "_law_unlike_holes" (spUnl N) []
  | 0 => by
    have no : ∀ {vs H Q E}, spUnl 0 vs H Q E → False := fun ⟨_, d, _, _, _, _, _, h1, _⟩ => by have := sz_pos d; omega
    exact cal0 F b .nil scUnl (fun vs H Q E h => (no h).elim) (fun cdv A outer s H vs Q E hr h => (no h).elim)
  | N + 1 => unl_step F b T (c_unl F b T N)
end
end K7

namespace K7
open PySem PySem.Spec PyProof.Rows L2 C8 XE XR SX
/-! _law_left -/
abbrev sLeft : Stmt := top 36
theorem But.two1 {st ll : Addr} {H H1 H2 : Hp} (h : But st H H1) (n : H ll = none) (h2 : But2 st ll H1 H2) : But st H H2 := fun b o e m => h2 b o (h b o e m) m (ne_of_none e n)
theorem But.on1 {st p : Addr} {H H1 H2 : Hp} (h : But st H H1) (n : H p = none) (h2 : But p H1 H2) : But st H H2 := fun b o e m => h2 b o (h b o e m) (ne_of_none e n)
theorem StAt.off {B : Nat} {H H' : Hp} {st cl p : Addr} (h : StAt B H st cl) (h1 : p ≠ st) (h2 : p ≠ cl) (b : But p H H') : StAt B H' st cl := h.keeps (fun o e => b _ _ e h1.symm) fun o e => b _ _ e h2.symm
def spLeft : Sp := fun vs H Q _ => ∃ (st l : Addr) (m : Int) (rs : List Rw) (B : Nat) (cl : Addr), vs = [.ref st, .ref l, .int m] ∧ 1 ≤ m ∧ m ≤ 3 ∧ RowsAt H l rs ∧ RowsOk rs ∧ StAt B H st cl ∧ B + 50 < 1000000000000000 ∧
  ∀ (v : V) (z : Str) (cs : List D) (H' : Hp), DAt nol H' v (.sq (.fl (.str z) :: cs)) → isSh (.sq (.fl (.str z) :: cs)) = true → nhs cs ≤ 4 → szs cs ≤ 8 → StAt (B + 50) H' st cl → But st H H' → Q v H'
abbrev NLe : List Str := ["_law_state", "_law_rows_here", "_law_most", "_law_label", "_law_many_here", "_law_left_here", "_law_found", "_law_k", "_law_words_here"]
theorem scLeft : FnScope NLe ["_law_state", "_law_rows_here", "_law_most"] (fnScope sLeft) := fnScope_by (by decide +kernel)
section
variable {P : Program} {w : World} {K : PySem.W.Frag} {mg : Str → Option Value} {base : Heap}
theorem c_left {f : Addr} {fd : FuncData} (F : Def K mg "_law_left" sLeft f fd) (b : Binds K fd ["_law_state", "_law_rows_here", "_law_most"] []) (T : Blt4 mg) (C : Cal P w K mg base 1 "_law_take" spTake []) (CO : Cal P w K mg base 2 "_law_one" spOne [])
    (CM : Cal P w K mg base 1 "_law_many" spMany []) (CW : Cal P w K mg base 3 "_law_words" spWords []) (CS : Cal P w K mg base 7 "_law_shape" (spShape 5) []) (CU : Cal P w K mg base 13 "_law_unlike_holes" (spUnl 12) []) : Cal P w K mg base 14 "_law_left" spLeft [] := by
  refine cal0 F b .nil scLeft (fun vs H Q E h => ?_) (fun cdv A outer s H vs Q E hr h => ?_)
  · obtain ⟨st, l, m, rs, B, cl, rfl, _⟩ := h
    rfl
  · obtain ⟨st, l, m, rs, B, cl, rfl, hm1, hm3, hR, ok, hst, hB, kk⟩ := h
    have nd := scLeft.nd
    refine ⟨_, pss_cons (ps_set (i := 3) nd rfl (Or.inl rfl) (pe_c CO hr (by decide) (by rfl) (pa_cons (pv 0) (pa_cons
          (pe_lc (own := [("_law_label", 3), ("_law_many_here", 4)]) (g := gTup K 2 (gCons (gName 3) (gCons (gName 4) gNil))) (tt := tYes) rfl nd (pi_list (pv 1)) (blkOk_by (N := NLe) (sc := fnScope sLeft) (by decide +kernel))
            (fun _ _ _ _ _ => pg_tup rfl (pgs_cons (pg_name (i := 3) nd rfl (Or.inl rfl)) (pgs_cons (pg_name (i := 4) nd rfl (Or.inl rfl)) pgs_nil))) (fun _ _ _ _ _ => pts_nil) (fun _ _ _ _ _ => pv 3)) pa_nil))))
      (pss_cons (ps_set (i := 5) nd rfl (Or.inl rfl) (pe_lst (pa_cons (pe_c C hr (by decide) (by rfl) (pa_cons (pv 0) (pa_cons (pv 2) pa_nil))) pa_nil)))
      (pss_cons (ps_set (i := 6) nd rfl (Or.inl rfl) (pe_lst (pa_cons (pv 3) pa_nil)))
      (pss_cons (ps_for PassesOwn.never rfl (pi_range1 (by rfl) T.ran (pa_cons (pe_c CM hr (by decide) (by rfl) (pa_cons (pv 1) (pa_cons (pv 3) pa_nil))) pa_nil)) (pg_name (i := 7) nd rfl (Or.inl rfl))
          (pss_one (ps_expr (pe_bm PySem.F.plainAttrs_list PySem.F.slot_list_append PySem.F.type_list_append mt_append (pv 6) (pa_cons (pe_c CS hr (by decide) (by rfl) (pa_cons (pv 0) (pa_cons (pv 1) (pa_cons (pv 5) (pa_cons (pe_lst (pa_cons pe_str pa_nil)) pa_nil))))) pa_nil)))))
      (pss_cons (ps_set (i := 8) nd rfl (Or.inl rfl) (pe_c CW hr (by decide) (by rfl) (pa_cons (pv 0) (pa_cons pe_int pa_nil))))
      (pss_cut (ps_if (pt_cmp (pc_eqI (pe_c C hr (by decide) (by rfl) (pa_cons (pv 0) (pa_cons pe_int pa_nil))) pe_int)) (pss_one (ps_asg pe_str (pg_sub (pv 8) pe_int set_list))) pss_nil)
      (pss_one (ps_ret (pe_c CU hr (by decide) (by rfl) (pa_cons (pe_callTy call_tuple_of (by rfl) T.tup (by decide +kernel) (pa_cons (pv 6) pa_nil)) (pa_cons (pv 8) pa_nil)))))))))), ?_⟩
    obtain ⟨us, hlv, hp⟩ := id hR
    have hlen := Paired.length hp
    have hok := ok.len
    have rpos : 0 < rs.length := by
      obtain ⟨r, hr, _⟩ := ok.leaf
      exact List.length_pos_iff.mpr fun e => by rw [e] at hr; cases hr
    refine ⟨_, rfl, _, rfl, l, rfl, ⟨us, SqL.of hlv⟩, fun Dl nD => ?_⟩
    obtain ⟨Ds, Dc⟩ := hst.new nD
    refine lc_gen (J := Itl K l) rs.length (fun i H' => H' Dl = some (.lst ((rs.take i).map fun r => V.str r.1)) ∧ Same H H') ⟨upd_same, same_upd nD⟩ (fun i H' hi ⟨_, sm⟩ => ⟨us, us.getD i .non, SqL.of (sm _ _ hlv), by rw [List.getD_eq_getElem?_getD, List.getElem?_eq_getElem (by omega)]; rfl⟩)
      (fun H' ⟨_, sm⟩ => ⟨us, SqL.of (sm _ _ hlv), by omega⟩) (fun i H' v H'' hi ⟨hD, sm⟩ yl => ?_) (fun H1 ⟨hD, s1⟩ => ?_)
    · obtain ⟨rfl, hx⟩ := yl
      have hx := hx _ (SqL.of (sm _ _ hlv))
      obtain ⟨r, hr, t, rfl, ht⟩ := paired_get hp hx
      refine ⟨t, [.str r.1, .int r.2], rfl, SqT.of (sm _ _ ht), rfl, .str r.1, [.int r.2], rfl, .int r.2, [], rfl, rfl, rfl, ?_⟩
      unfold tYes
      dsimp only
      rw [if_pos rfl]
      refine ⟨_, rfl, _, hD, by rw [List.length_map, List.length_take, sizeLine_eq]; omega, ?_, fun b o e => by rw [upd_ne (ne_of_none e nD)]; exact sm _ _ e⟩
      obtain ⟨hlt, e⟩ := List.getElem?_eq_some_iff.mp hr
      rw [upd_same, List.take_succ_eq_append_getElem hlt, List.map_append, e]
      rfl
    rw [List.take_of_length_le (Nat.le_refl _)] at hD
    refine ⟨st, Dl, _, B, cl, rfl, .inl hD, Ds, by rw [List.length_map]; exact rpos, by rw [List.length_map]; omega, hst.same s1, by omega, fun v H2 hv hs2 hb2 => ?_⟩
    obtain ⟨r, hr, rfl⟩ := List.mem_map.mp hv
    have hmz : many rs r.1 = some r.2 := many_mem ok (List.mem_append_left _ hr)
    obtain ⟨hrm, m0, m2⟩ := ok.mem r hr
    have hrl : r.1 ∈ labs rs := List.mem_map_of_mem (List.mem_append_left _ hr)
    have hb02 : But st H H2 := (Same.but s1).trans hb2
    -- the list of what is left
    refine ⟨_, rfl, _, rfl, st, m, B + 1, cl, rfl, by omega, by omega, hs2, by omega, fun d H3 d0 d1 hs3 hb3 => ⟨(by show 1 ≤ sizeLine; decide), fun ll nll => ?_⟩⟩
    obtain ⟨ls, lc⟩ := hs3.new nll
    have hb03 := hb02.trans hb3
    have nlH : H ll = none := hb03.free nll ls
    have lll : ll ≠ l := (ne_of_none hlv nlH).symm
    have ed : d = ((d.toNat : Nat) : Int) := by omega
    have hL4 : LeftAt (upd H3 ll (.lst [.int d])) st cl l ll d.toNat := ⟨by rw [upd_same, ← ed], ls, lc, lll⟩
    have hs4 : StAt (B + 2) (upd H3 ll (.lst [.int d])) st cl := hs3.put ls lc
    have hb4 : But st H (upd H3 ll (.lst [.int d])) := hb03.upd nlH
    generalize upd H3 ll (.lst [.int d]) = H4 at hL4 hs4 hb4
    refine ⟨_, rfl, (by show 1 ≤ sizeLine; decide), fun fd nfd => ?_⟩
    obtain ⟨fs, fc⟩ := hs4.new nfd
    have fll : fd ≠ ll := (ne_of_none hL4.at' nfd).symm
    have nfH : H fd = none := hb4.free nfd fs
    have hL5 := hL4.same (same_upd nfd (o := .lst [.str r.1]))
    have hs5 := hs4.same (same_upd nfd (o := .lst [.str r.1]))
    have hb5 : But st H (upd H4 fd (.lst [.str r.1])) := hb4.upd nfH
    have hf5 : (upd H4 fd (.lst [.str r.1])) fd = some (.lst [.str r.1]) := upd_same
    generalize upd H4 fd (.lst [.str r.1]) = H5 at hL5 hs5 hb5 hf5
    refine ⟨_, rfl, _, rfl, l, r.1, rs, r.2, rfl, hR.but hst hb5, ok, hmz, fun H6 s6 => ⟨r.2, rfl, by omega, by omega, ?_⟩⟩
    refine for_range (n := r.2.toNat) (fun i σ H' => ∃ (v7 : Option V) (vs : List V) (cs : List D) (n' : Nat), σ = [some (.ref st), some (.ref l), some (.int m), some (.str r.1), none, some (.ref ll), some (.ref fd), v7, none] ∧ H' fd = some (.lst (.str r.1 :: vs)) ∧ DAts nol H' vs cs ∧ isShs cs = true ∧ cs.length = i ∧ n' ≤ d.toNat ∧ szs cs ≤ 3 * (d.toNat - n') + i ∧ nhs cs ≤ (d.toNat - n') + i ∧ LeftAt H' st cl l ll n' ∧ StAt (B + 2 + (4 * (d.toNat - n') + 2 * i)) H' st cl ∧ But st H H')
      ⟨none, [], [], d.toNat, rfl, s6 _ _ hf5, trivial, rfl, rfl, by omega, Nat.zero_le _, Nat.zero_le _, hL5.same s6, (hs5.same s6).mono (by omega), hb5.trans (Same.but s6)⟩ ?_ ?_
    · rintro i σ H8 hi ⟨v7, vs, cs, n', rfl, hf8, hds, hss, hcl, hn', hsz, hnh, hL8, hs8, hb8⟩
      refine ⟨_, rfl, .inl ⟨rfl, _, SqL.of hf8⟩, _, rfl, _, rfl, _, rfl, (by show 1 ≤ sizeLine; decide), fun hl nhl => ?_⟩
      have s9 : Same H8 (upd H8 hl (.lst [.str "x"])) := same_upd nhl
      have hh9 : (upd H8 hl (.lst [.str "x"])) hl = some (.lst [.str "x"]) := upd_same
      generalize upd H8 hl (.lst [.str "x"]) = H9 at s9 hh9
      have hb9 := hb8.trans (Same.but s9)
      have hs9 := hs8.same s9
      have hL9 := hL8.same s9
      refine ⟨st, l, ll, hl, rs, ["x"], n', _, cl, rfl, by omega, by omega, hR.but hst hb9, ok, hL9, hh9, by simp, by simp, by decide +kernel, hs9, by omega, fun v dd n'' H10 hd hsh hle hsz' hnh' hL10 hs10 hb10 => ?_⟩
      have hf10 := hb10 _ _ (s9 _ _ hf8) fs fll
      have hl8 := hds.len
      have h10 : Hold nol H10 (upd H10 fd (.lst (.str r.1 :: vs ++ [v]))) := ⟨fun a xs e => by rw [upd_ne (ne_of e hf10 (by intro z; cases z))]; exact e, fun a e => by rw [upd_ne (ne_of e hf10 (by intro z; cases z))]; exact e, fun _ _ h => h.elim⟩
      refine ⟨fd, _, v, rfl, rfl, hf10, by rw [List.length_cons, sizeLine_eq]; omega, ?_⟩
      refine ⟨_, vs ++ [v], cs ++ [dd], n'', rfl, upd_same, DAts.app (DAts.hold h10 _ (DAts.hold (Hold.but2 hs9 hL9.at' hb10 fun _ h => h.elim) _ (DAts.hold (.same s9) _ hds))) ⟨DAt.hold h10 _ hd, trivial⟩, isShs_of fun e he => ?_, by rw [List.length_append, hcl]; rfl, by omega, ?_, ?_, hL10.put fll, (hs10.mono (by omega)).put fs fc, (hb9.two1 nlH hb10).upd nfH⟩
      · rcases List.mem_append.mp he with he | he
        · exact isShs_mem hss e he
        · rw [List.mem_singleton.mp he]; exact hsh
      · rw [szs_app, show szs [dd] = sz dd + 0 from rfl]; omega
      · rw [nhs_app, show nhs [dd] = nh dd + 0 from rfl]; omega
    · rintro σ H8 ⟨v7, vs, cs, n', rfl, hf8, hds, hss, hcl, hn', hsz, hnh, hL8, hs8, hb8⟩
      refine ⟨_, rfl, st, 4, _, cl, rfl, by decide, by decide, hs8, by omega, fun wl ws H9 nwl hwl hwlen _ hwm hs9 hb9 => ?_⟩
      obtain ⟨ws', wc⟩ := hs8.new nwl
      have wfd : fd ≠ wl := ne_of_none hf8 nwl
      have nwH : H wl = none := hb8.free nwl ws'
      have hf9 := hb9 _ _ hf8 fs
      have hd9 := DAts.hold (Hold.but hs8 hb9 fun _ h => h.elim) _ hds
      have hb09 := hb8.trans hb9
      have hww : ∀ z ∈ ws, wordS z = true := fun z hz => menu_word z (hwm z hz)
      match ws, hwlen with
      | [w0, w1, w2, w3], _ =>
      refine ⟨fun σ H' => ∃ (ws' : List Str) (v7 : Option V), σ = [some (.ref st), some (.ref l), some (.int m), some (.str r.1), none, some (.ref ll), some (.ref fd), v7, some (.ref wl)] ∧ H' wl = some (.lst (ws'.map V.str)) ∧ ws'.length = 4 ∧ (∀ z ∈ ws', wordS z = true) ∧ H' fd = some (.lst (.str r.1 :: vs)) ∧ DAts nol H' vs cs ∧ StAt (B + 50) H' st cl ∧ But st H H', ?_, ?_⟩
      · refine ⟨_, rfl, st, 6, _, cl, rfl, by decide, by decide, hs9, by omega, fun d6 H10 _ _ hs10 hb10 => ⟨d6, 0, rfl, rfl, _, rfl, ite2 (fun _ => ?_) (fun _ => ?_)⟩⟩
        · have hwl10 := hb10 _ _ hwl ws'
          refine ⟨_, rfl, wl, _, 0, 0, rfl, rfl, hwl10, rfl, ["keep", w1, w2, w3], _, rfl, upd_same, rfl, fun z hz => ?_, by rw [upd_ne wfd]; exact hb10 _ _ hf9 fs, ?_, (hs10.mono (by omega)).put ws' wc, (hb09.trans hb10).upd nwH⟩
          · rcases List.mem_cons.mp hz with rfl | hz
            · decide +kernel
            · exact hww z (List.mem_cons_of_mem _ hz)
          · exact DAts.hold ⟨fun a xs e => by rw [upd_ne (ne_of e hwl10 (by intro z; cases z))]; exact e, fun a e => by rw [upd_ne (ne_of e hwl10 (by intro z; cases z))]; exact e, fun _ _ h => h.elim⟩ _ (DAts.hold (Hold.but hs9 hb10 fun _ h => h.elim) _ hd9)
        · exact ⟨[w0, w1, w2, w3], _, rfl, hb10 _ _ hwl ws', rfl, hww, hb10 _ _ hf9 fs, DAts.hold (Hold.but hs9 hb10 fun _ h => h.elim) _ hd9, hs10.mono (by omega), hb09.trans hb10⟩
      rintro σ H10 ⟨ws, v7, rfl, hwl, hwlen, hww, hf, hd, hs, hb⟩
      refine ⟨_, rfl, fd, _, rfl, .inl ⟨SqL.of hf, fun p np => ?_⟩⟩
      obtain ⟨ps, pc⟩ := hs.new np
      have sp : Same H10 (upd H10 p (.tup (.str r.1 :: vs))) := same_upd np
      have hsh : isSh (.sq (.fl (.str r.1) :: cs)) = true := by rw [isSh, labs_word ok hrl, hss]; rfl
      have hsc : sz (.sq (.fl (.str r.1) :: cs)) = 2 + szs cs := by rw [sz, szs, sz]; omega
      have hnc : nh (.sq (.fl (.str r.1) :: cs)) = nhs cs := by rw [nh]
      refine ⟨_, rfl, .ref p, .sq (.fl (.str r.1) :: cs), wl, ws, rfl, new_tree np hd, hsh, by omega, by omega, sp _ _ hwl, by omega, by omega, hww, fun v' d' H' hd' hsh' hsz' hnh' _ hb' => ?_⟩
      rcases isSh_inv hsh' with ⟨z, rfl, _⟩ | ⟨z, cs', rfl, hz, hcs⟩
      · rw [hsc, sz] at hsz'
        omega
      · have hsc' : sz (.sq (.fl (.str z) :: cs')) = 2 + szs cs' := by rw [sz, szs, sz]; omega
        rw [nh, hnc] at hnh'
        exact kk v' z cs' H' hd' hsh' (by omega) (by omega) ((hs.same sp).off ws' wc hb') ((hb.trans (Same.but sp)).on1 nwH hb')
end
end K7

namespace K7
open PySem PySem.Spec PyProof.Rows L2 C8 XE XR SX
/-! _law_right -/
abbrev sRight : Stmt := top 37
theorem isT_shN {rs : List Rw} (ok : RowsOk rs) : ∀ (n : Nat) (t : D), sz t ≤ n → isT rs t = true → isSh t = true
  | 0, t, h, _ => by have := sz_pos t; omega
  | n + 1, t, h, ht => by
    obtain ⟨z, cs, m, rfl, hm, _, hts⟩ := isT_inv ht
    rw [isSh, labs_word ok (many_some hm), isShs_of fun c hc => ?_]
    · rfl
    · obtain ⟨i, hi⟩ := List.getElem?_of_mem hc
      have := szs_get hi
      have e : sz (.sq (.fl (.str z) :: cs)) = 2 + szs cs := by rw [sz, szs, sz]; omega
      exact isT_shN ok n c (by omega) (isTs_get hts hi)
theorem isT_sh {rs : List Rw} (ok : RowsOk rs) {t : D} (h : isT rs t = true) : isSh t = true := isT_shN ok _ t (Nat.le_refl _) h
mutual
theorem holes_word : ∀ d : D, isSh d = true → ∀ q ∈ holesP d, wordS q.1 = true
  | .fl x, h, q, hq => by
    rcases isSh_inv h with ⟨z, e, hz⟩ | ⟨z, cs, e, _⟩
    · cases e
      rw [List.mem_singleton.mp hq]
      exact hz
    · cases e
  | .emp, h, q, hq => by cases hq
  | .sq [], h, q, hq => by cases hq
  | .sq (x :: cs), h, q, hq => by
    rcases isSh_inv h with ⟨z, e, hz⟩ | ⟨z, cs', e, _, hcs⟩
    · cases e
    · injection e with e
      injection e with e1 e2
      subst e2
      exact holess_word cs 0 hcs q hq
theorem holess_word : ∀ (cs : List D) (k : Nat), isShs cs = true → ∀ q ∈ holesPs k cs, wordS q.1 = true
  | [], k, h, q, hq => by cases hq
  | c :: cs, k, h, q, hq => by
    rw [isShs, Bool.and_eq_true] at h
    rw [holesPs] at hq
    rcases List.mem_append.mp hq with hq | hq
    · obtain ⟨p, hp, rfl⟩ := List.mem_map.mp hq
      exact holes_word c h.1 p hp
    · exact holess_word cs (k + 1) h.2 q hq
end
theorem rep_flat (n : Nat) (x : V) : (List.replicate n [x]).flatten = List.replicate n x := by
  induction n with
  | zero => rfl
  | succ n ih => rw [List.replicate_succ, List.flatten_cons, ih]; rfl
theorem dats_rep {F : Addr → Prop} {H : Hp} {h : Str} : ∀ n : Nat, DAts F H (List.replicate n (.str h)) (List.replicate n (.fl (.str h)))
  | 0 => trivial
  | n + 1 => ⟨⟨rfl, rfl⟩, dats_rep n⟩
theorem szs_rep {x : V} : ∀ n : Nat, szs (List.replicate n (.fl x)) = n
  | 0 => rfl
  | n + 1 => by rw [List.replicate_succ, szs, sz, szs_rep n]; omega
def spRight : Sp := fun vs H Q _ => ∃ (st l : Addr) (v : V) (d : D) (m : Int) (rs : List Rw) (B : Nat) (cl : Addr), vs = [.ref st, .ref l, v, .int m] ∧ 1 ≤ m ∧ m ≤ 4 ∧ DAt nol H v d ∧ isSh d = true ∧ sz d ≤ 12 ∧ RowsAt H l rs ∧ RowsOk rs ∧ StAt B H st cl ∧ B + 60 < 1000000000000000 ∧
  ∀ (v' : V) (d' : D) (H' : Hp), DAt nol H' v' d' → isSh d' = true → sz d' ≤ 30 → StAt (B + 60) H' st cl → But st H H' → Q v' H'
abbrev NRi : List Str := ["_law_state", "_law_rows_here", "_law_left_here", "_law_most", "_law_holes_here", "_law_hole", "_law_place", "_law_found", "_law_names"]
theorem scRight : FnScope NRi ["_law_state", "_law_rows_here", "_law_left_here", "_law_most"] (fnScope sRight) := fnScope_by (by decide +kernel)
theorem mt_lcountK {X : Cx} {K : PySem.W.Frag} (h : X.K = K) : MtR X "list.count" (rCntF K) := by subst h; exact mt_lcountF
section
variable {P : Program} {w : World} {K : PySem.W.Frag} {mg : Str → Option Value} {base : Heap}
theorem c_right {f : Addr} {fd : FuncData} (F : Def K mg "_law_right" sRight f fd) (b : Binds K fd ["_law_state", "_law_rows_here", "_law_left_here", "_law_most"] []) (T : Blt4 mg) (hany : mg "any" = none) (C : Cal P w K mg base 1 "_law_take" spTake [])
    (CT : Cal P w K mg base 7 "_law_tree" (spTree 4) []) (CS : Cal P w K mg base 7 "_law_shape" (spShape 5) []) (CH : Cal P w K mg base 31 "_law_holes" (spHoles 30) []) (CP : Cal P w K mg base 31 "_law_spots" (spSpots 30) []) : Cal P w K mg base 32 "_law_right" spRight [] := by
  refine cal0 F b .nil scRight (fun vs H Q E h => ?_) (fun cdv A outer s H vs Q E hr h => ?_)
  · obtain ⟨st, l, v, d, m, rs, B, cl, rfl, _⟩ := h
    rfl
  · obtain ⟨st, l, v, d, m, rs, B, cl, rfl, hm1, hm4, hv, hsh, hsz, hR, ok, hst, hB, kk⟩ := h
    have nd := scRight.nd
    have hu : (A.deeper (envOfC "_law_right" (fnScope sRight) s.heap.objs.size f cdv)).units + 64 < cLine := by have := hr.un; omega
    refine ⟨_, pss_cut (ps_setLc (i := 4) (own := [("_law_hole", 5), ("_law_place", 6)]) (g := gTup K 2 (gCons (gName 5) (gCons (gName 6) gNil))) (tt := tYes) rfl nd rfl rfl (by rfl) (pi_list (pe_c CH hr (by decide) (by rfl) (pa_cons (pv 2) pa_nil))) (blkOk_by (N := NRi) (sc := fnScope sRight) (by decide +kernel))
          (fun _ _ _ _ _ => pg_tup rfl (pgs_cons (pg_name (i := 5) nd rfl (Or.inl rfl)) (pgs_cons (pg_name (i := 6) nd rfl (Or.inl rfl)) pgs_nil))) (fun _ _ _ _ _ => pts_nil) (fun _ _ _ _ _ => pv 5))
      (pss_cons (ps_if (pt_cmpR (op_eqNil hu) (pv 4) (pe_lst pa_nil) (nomark _)) (pss_one (ps_ret (pe_c CT hr (by decide) (by rfl) (pa_cons (pv 0) (pa_cons (pv 1) (pa_cons (pe_op op_add pe_int (pe_c C hr (by decide) (by rfl) (pa_cons (pv 0) (pa_cons (pv 3) pa_nil)))) pa_nil)))))) pss_nil)
      (pss_cons (ps_set (i := 7) nd rfl (Or.inl rfl) (pe_c CS hr (by decide) (by rfl) (pa_cons (pv 0) (pa_cons (pv 1) (pa_cons (pe_lst (pa_cons (pe_c C hr (by decide) (by rfl) (pa_cons (pv 0) (pa_cons (pe_op op_add (pv 3) pe_int) pa_nil))) pa_nil)) (pa_cons (pv 4) pa_nil))))))
      (pss_cut (ps_set (i := 8) nd rfl (by first | exact Or.inl rfl | exact Or.inr rfl) (pe_lc (own := [("_law_hole", 5), ("_law_place", 6)]) (g := gTup K 2 (gCons (gName 5) (gCons (gName 6) gNil))) (tt := tYes) rfl nd (pi_list (pe_c CH hr (by decide) (by rfl) (pa_cons (pv 7) pa_nil))) (blkOk_by (N := NRi) (sc := fnScope sRight) (by decide +kernel))
          (fun _ _ _ _ _ => pg_tup rfl (pgs_cons (pg_name (i := 5) nd rfl (Or.inl rfl)) (pgs_cons (pg_name (i := 6) nd rfl (Or.inl rfl)) pgs_nil))) (fun _ _ _ _ _ => pts_nil) (fun _ _ _ _ _ => pv 5)))
      (pss_cut (ps_if (pt_val (pe_callB (cr_any rfl) (by rfl) hany (by decide +kernel) (pa_cons (pe_lc (own := [("_law_hole", 5)]) (g := gName 5) (tt := tYes) rfl nd (pi_list (pv 8)) (blkOk_by (N := NRi) (sc := fnScope sRight) (by decide +kernel)) (fun _ _ _ _ _ => pg_name (i := 5) nd rfl (Or.inl rfl)) (fun _ _ _ _ _ => pts_nil)
            (fun _ _ _ _ _ => pe_cmp (pc_gt (show PE _ _ (tBM K "list" (rCntF K) _ _) from pe_bm PySem.F.plainAttrs_list PySem.F.slot_list_count PySem.F.type_list_count (mt_lcountK (K := K) rfl) (pv 8) (pa_cons (pv 5) pa_nil)) pe_int))) pa_nil)))
          (pss_one (ps_set (i := 7) nd rfl (Or.inl rfl) (pe_op op_catT (pe_tup (pa_cons (pe_ix ix_tup (pv 7) pe_int fun _ _ => rfl) pa_nil)) (pe_callTy call_tuple_of (by rfl) T.tup (by decide +kernel) (pa_cons
            (pe_op op_rep (pe_lst (pa_cons (pe_ix ix_list (pv 4) pe_int fun _ _ => rfl) pa_nil)) (pe_op op_sub (pe_callB call_len_seq (by rfl) T.len PySem.boot_len (pa_cons (pv 7) pa_nil)) pe_int)) pa_nil))))) pss_nil)
      (pss_cut (ps_if (pw_and (pt_cmp (pc_eqI (pe_c C hr (by decide) (by rfl) (pa_cons (pv 0) (pa_cons pe_int pa_nil))) pe_int)) (pw_and1 (pt_cmp (pc_lt (pe_callB call_len_seq (by rfl) T.len PySem.boot_len (pa_cons (pe_c CP hr (by decide) (by rfl) (pa_cons (pv 7) pa_nil)) pa_nil)) (pv 3))))).pt
          (pss_one (ps_set (i := 7) nd rfl (Or.inl rfl) (pe_tup (pa_cons pe_str (pa_cons (pv 7) pa_nil))))) pss_nil)
      (pss_one (ps_ret (pv 7)))))))), ?_⟩
    have hsl := sizeLine_eq
    refine ⟨fun σ H' => ∃ (hl : Addr) (hs : List Str), σ = [some (.ref st), some (.ref l), some v, some (.int m), some (.ref hl), none, none, none, none] ∧ H' hl = some (.lst (hs.map V.str)) ∧ hs.length ≤ 30 ∧ (∀ z ∈ hs, wordS z = true) ∧ H hl = none ∧ Same H H', ?_, ?_⟩
    · refine ⟨_, rfl, v, d, rfl, hv, hsh, by omega, by omega, fun lq us H1 nlq s1 hlq hpu => ⟨lq, rfl, ⟨us, SqL.of hlq⟩, fun Da nDa => ?_⟩⟩
      have hul := Paired.length hpu
      have hqw := holes_word d hsh
      have hql := (holes_le d).1
      generalize holesP d = qs at hpu hul hqw hql
      refine lc_gen (J := Itl K lq) us.length (fun i H' => H' Da = some (.lst (((qs.take i).map fun q : Str × List Int => q.1).map V.str)) ∧ Same H1 H') ⟨upd_same, same_upd nDa⟩ (fun i H' hi ⟨_, sm⟩ => ⟨us, us.getD i .non, SqL.of (sm _ _ hlq), getD_at hi⟩) (fun H' ⟨_, sm⟩ => ⟨us, SqL.of (sm _ _ hlq), Nat.le_refl _⟩) (fun i H' x H'' hi ⟨hD, sm⟩ yl => ?_) (fun H' ⟨hD, sm⟩ => ?_)
      · obtain ⟨rfl, hx⟩ := yl
        have hx := hx _ (SqL.of (sm _ _ hlq))
        obtain ⟨q, hq, qt, qa, rfl, hqt, hqa⟩ := paired_get hpu hx
        obtain ⟨hlt, e⟩ := List.getElem?_eq_some_iff.mp hq
        refine ⟨qt, [.str q.1, .ref qa], rfl, SqT.of (sm _ _ hqt), rfl, .str q.1, [.ref qa], rfl, .ref qa, [], rfl, rfl, rfl, ?_⟩
        unfold tYes
        dsimp only
        rw [if_pos rfl]
        refine ⟨_, rfl, _, hD, by rw [List.length_map, List.length_map, List.length_take]; omega, ?_, fun b o e => by rw [upd_ne (ne_of_none e nDa)]; exact sm _ _ e⟩
        rw [upd_same, List.take_succ_eq_append_getElem hlt, List.map_append, List.map_append, e]
        rfl
      · rw [List.take_of_length_le (by omega)] at hD
        refine ⟨Da, _, rfl, hD, by rw [List.length_map]; omega, fun z hz => ?_, same_free s1 nDa, s1.trans sm⟩
        obtain ⟨q, hq, rfl⟩ := List.mem_map.mp hz
        exact hqw q hq
    rintro σ' H1 ⟨hl, hs, rfl, hhl, hhn, hhw, nhl, s1⟩
    have hlst : hl ≠ st := (hst.new nhl).1
    refine ⟨_, rfl, (by show 0 ≤ sizeLine; decide), fun e ne => ⟨hl, e, _, rfl, rfl, SqL.of (by rw [upd_ne (ne_of_none hhl ne)]; exact hhl), SqL.of upd_same, _, rfl, ?_⟩⟩
    have s2 : Same H (upd H1 e (.lst [])) := s1.trans (same_upd ne)
    have hhl2 : (upd H1 e (.lst [])) hl = some (.lst (hs.map V.str)) := by rw [upd_ne (ne_of_none hhl ne)]; exact hhl
    generalize upd H1 e (.lst []) = H2 at s2 hhl2
    have hs2 := hst.same s2
    have hb2 : But st H H2 := Same.but s2
    cases hs with
    | nil =>
      refine iteBt rfl ⟨_, rfl, _, rfl, _, rfl, _, rfl, st, m, B, cl, rfl, by omega, by omega, hs2, by omega, fun dd H3 d0 d1 hs3 hb3 => ⟨1, dd, rfl, rfl, st, l, 1 + dd, rs, B + 1, cl, rfl, by omega, by omega, by omega, hR.but hst (hb2.trans hb3), ok, hs3, by omega, fun v' t H4 hd hi hz hs4 hb4 => ?_⟩⟩
      exact kk v' t H4 hd (isT_sh ok hi) (by omega) (hs4.mono (by omega)) ((hb2.trans hb3).trans hb4)
    | cons h0 hs =>
    refine iteBf rfl ?_
    refine ⟨_, rfl, _, rfl, _, rfl, _, rfl, m, 1, rfl, rfl, st, m + 1, B, cl, rfl, by omega, by omega, hs2, by omega, fun dd H3 d0 d1 hs3 hb3 => ⟨(by show 1 ≤ sizeLine; decide), fun ll nll => ?_⟩⟩
    obtain ⟨ls, lc⟩ := hs3.new nll
    have hb03 := hb2.trans hb3
    have nlH : H ll = none := hb03.free nll ls
    obtain ⟨rv, hlv, _⟩ := id hR
    have lll : ll ≠ l := (ne_of_none hlv nlH).symm
    have ed : dd = ((dd.toNat : Nat) : Int) := by omega
    have hL4 : LeftAt (upd H3 ll (.lst [.int dd])) st cl l ll dd.toNat := ⟨by rw [upd_same, ← ed], ls, lc, lll⟩
    have hs4 : StAt (B + 1) (upd H3 ll (.lst [.int dd])) st cl := hs3.put ls lc
    have hb4 : But st H (upd H3 ll (.lst [.int dd])) := hb03.upd nlH
    have hh3 := hb3 _ _ hhl2 hlst
    have hh4 : (upd H3 ll (.lst [.int dd])) hl = some (.lst ((h0 :: hs).map V.str)) := by rw [upd_ne (ne_of_none hh3 nll)]; exact hh3
    have hlll : hl ≠ ll := ne_of_none hh3 nll
    generalize upd H3 ll (.lst [.int dd]) = H4 at hL4 hs4 hb4 hh4
    refine ⟨_, rfl, st, l, ll, hl, rs, h0 :: hs, dd.toNat, B + 1, cl, rfl, by omega, by omega, hR.but hst hb4, ok, hL4, hh4, by simp, by omega, hhw, hs4, by omega, fun v7 d7 n' H5 hd7 hsh7 hle hsz7 hnh7 hL5 hs5 hb5 => ?_⟩
    have hb05 : But st H H5 := hb4.two1 nlH hb5
    have hh5 := hb5 _ _ hh4 hlst hlll
    -- the names
    refine ⟨fun σ H' => ∃ (nl : Addr) (ns : List Str), σ = [some (.ref st), some (.ref l), some v, some (.int m), some (.ref hl), none, none, some v7, some (.ref nl)] ∧ H' nl = some (.lst (ns.map V.str)) ∧ ns.length = nh d7 ∧ Same H5 H', ?_, ?_⟩
    · refine ⟨_, rfl, v7, d7, rfl, hd7, hsh7, by omega, by omega, fun lq us H1 nlq s1 hlq hpu => ⟨lq, rfl, ⟨us, SqL.of hlq⟩, fun Da nDa => ?_⟩⟩
      have hul := Paired.length hpu
      have hqn := holes_nh d7
      have hql := (holes_le d7).1
      generalize holesP d7 = qs at hpu hul hqn hql
      refine lc_gen (J := Itl K lq) us.length (fun i H' => H' Da = some (.lst (((qs.take i).map fun q : Str × List Int => q.1).map V.str)) ∧ Same H1 H') ⟨upd_same, same_upd nDa⟩ (fun i H' hi ⟨_, sm⟩ => ⟨us, us.getD i .non, SqL.of (sm _ _ hlq), getD_at hi⟩) (fun H' ⟨_, sm⟩ => ⟨us, SqL.of (sm _ _ hlq), Nat.le_refl _⟩) (fun i H' x H'' hi ⟨hD, sm⟩ yl => ?_) (fun H' ⟨hD, sm⟩ => ?_)
      · obtain ⟨rfl, hx⟩ := yl
        have hx := hx _ (SqL.of (sm _ _ hlq))
        obtain ⟨q, hq, qt, qa, rfl, hqt, hqa⟩ := paired_get hpu hx
        obtain ⟨hlt, e⟩ := List.getElem?_eq_some_iff.mp hq
        refine ⟨qt, [.str q.1, .ref qa], rfl, SqT.of (sm _ _ hqt), rfl, .str q.1, [.ref qa], rfl, .ref qa, [], rfl, rfl, rfl, ?_⟩
        unfold tYes
        dsimp only
        rw [if_pos rfl]
        refine ⟨_, rfl, _, hD, by rw [List.length_map, List.length_map, List.length_take]; omega, ?_, fun b o e => by rw [upd_ne (ne_of_none e nDa)]; exact sm _ _ e⟩
        rw [upd_same, List.take_succ_eq_append_getElem hlt, List.map_append, List.map_append, e]
        rfl
      · rw [List.take_of_length_le (by omega)] at hD
        exact ⟨Da, _, rfl, hD, by rw [List.length_map]; exact hqn, s1.trans sm⟩
    rintro σ' H6 ⟨nl, ns, rfl, hnl, hnn, s6⟩
    have hd6 := DAt.hold (.same s6) _ hd7
    have hh6 := s6 _ _ hh5
    -- more than two of one name
    refine ⟨fun σ H' => ∃ (v8 : V) (d8 : D), σ = [some (.ref st), some (.ref l), some v, some (.int m), some (.ref hl), none, none, some v8, some (.ref nl)] ∧ DAt nol H' v8 d8 ∧ isSh d8 = true ∧ sz d8 ≤ 13 ∧ Same H6 H', ?_, ?_⟩
    · refine ⟨_, rfl, nl, rfl, ⟨_, SqL.of hnl⟩, fun Da nDa => ?_⟩
      refine lc_gen (J := Itl K nl) ns.length (fun i H' => ∃ bs : List Bool, H' Da = some (.lst (bs.map V.bl)) ∧ bs.length = i ∧ (∀ b ∈ bs, b = true → 2 < ns.length) ∧ Same H6 H') ⟨[], upd_same, rfl, (fun _ h => by cases h), same_upd nDa⟩ (fun i H' hi ⟨_, _, _, _, sm⟩ => ⟨_, .str ns[i], SqL.of (sm _ _ hnl), by rw [List.getElem?_map, List.getElem?_eq_getElem hi]; rfl⟩) (fun H' ⟨_, _, _, _, sm⟩ => ⟨_, SqL.of (sm _ _ hnl), by rw [List.length_map]; exact Nat.le_refl _⟩) (fun i H' x H'' hi ⟨bs, hD, hbl, hbt, sm⟩ yl => ?_) (fun H' ⟨bs, hD, hbl, hbt, sm⟩ => ?_)
      · obtain ⟨rfl, hx⟩ := yl
        have hx := hx _ (SqL.of (sm _ _ hnl))
        rw [List.getElem?_map, List.getElem?_eq_getElem hi] at hx
        obtain rfl := Option.some.inj hx
        refine ⟨rfl, ?_⟩
        unfold tYes
        dsimp only
        rw [if_pos rfl]
        refine ⟨_, rfl, .inl ⟨rfl, _, SqL.of (sm _ _ hnl)⟩, _, rfl, nl, _, _, rfl, rfl, SqL.of (sm _ _ hnl), rfl, List.all_eq_true.mpr fun y hy => ?_, fun c c0 c1 => ⟨c, 2, rfl, rfl, _, hD, by rw [List.length_map]; omega, bs ++ [decide (2 < c)], by rw [upd_same, List.map_append]; rfl, by rw [List.length_append, hbl]; rfl, fun b hb e => ?_, fun b o e => by rw [upd_ne (ne_of_none e nDa)]; exact sm _ _ e⟩⟩
        · obtain ⟨z, _, rfl⟩ := List.mem_map.mp hy
          rfl
        · rcases List.mem_append.mp hb with hb | hb
          · exact hbt b hb e
          · rw [List.mem_singleton.mp hb] at e
            have := of_decide_eq_true e
            rw [List.length_map] at c1
            omega
      · refine ⟨Da, bs, rfl, SqL.of hD, _, rfl, ite2 (fun ca => ?_) (fun _ => ?_)⟩
        · obtain ⟨b, hb, eb⟩ := List.any_eq_true.mp ca
          have h2 := hbt b hb eb
          rw [hnn] at h2
          rcases isSh_inv hsh7 with ⟨z, rfl, _⟩ | ⟨z, cs, rfl, hz, hcs⟩
          · rw [nh] at h2
            omega
          · have hd' := DAt.hold (.same sm) _ hd6
            obtain ⟨a, us, rfl, qa, _, hus⟩ := hd'
            have qa : H' a = some (.tup us) := qa.elim id fun e => e.1.elim
            match us, hus with
            | [], hus => exact hus.elim
            | u :: cvs, ⟨⟨eu, _⟩, hus⟩ =>
              subst eu
              have hcl := hus.len
              have hsc : sz (.sq (.fl (.str z) :: cs)) = 2 + szs cs := by rw [sz, szs, sz]; omega
              have hls := len_szs cs
              refine ⟨_, rfl, a, _, 0, _, rfl, rfl, SqT.of qa, at_of (j := 0) rfl rfl, (by show 1 ≤ sizeLine; decide), fun t nt => ?_⟩
              have sA : Same H' (upd H' t (.tup [.str z])) := same_upd nt
              have ht : (upd H' t (.tup [.str z])) t = some (.tup [.str z]) := upd_same
              generalize upd H' t (.tup [.str z]) = HA at sA ht
              refine ⟨_, rfl, hl, _, 0, _, rfl, rfl, SqL.of (sA _ _ (sm _ _ hh6)), at_of (j := 0) rfl rfl, (by show 1 ≤ sizeLine; decide), fun r nr => ?_⟩
              have sB : Same HA (upd HA r (.lst [.str h0])) := same_upd nr
              have hr : (upd HA r (.lst [.str h0])) r = some (.lst [.str h0]) := upd_same
              generalize upd HA r (.lst [.str h0]) = HB at sB hr
              have ek : ((((V.str z :: cvs).length : Nat) : Int) - 1).toNat = cs.length := by rw [List.length_cons]; omega
              refine ⟨_, rfl, a, _, rfl, .inr (SqT.of (sB _ _ (sA _ _ qa))), ((V.str z :: cvs).length : Nat), 1, rfl, rfl, r, _, [.str h0], rfl, rfl, hr, by omega, by rw [List.length_cons]; omega, by rw [ek, List.length_singleton]; omega, fun p np => ?_⟩
              rw [ek, rep_flat]
              have sC : Same HB (upd HB p (.lst (List.replicate cs.length (.str h0)))) := same_upd np
              have hp : (upd HB p (.lst (List.replicate cs.length (.str h0)))) p = some (.lst (List.replicate cs.length (.str h0))) := upd_same
              generalize upd HB p (.lst (List.replicate cs.length (.str h0))) = HC at sC hp
              refine ⟨p, _, rfl, .inl ⟨SqL.of hp, fun q nq => ?_⟩⟩
              have sD : Same HC (upd HC q (.tup (List.replicate cs.length (.str h0)))) := same_upd nq
              have hq : (upd HC q (.tup (List.replicate cs.length (.str h0)))) q = some (.tup (List.replicate cs.length (.str h0))) := upd_same
              generalize upd HC q (.tup (List.replicate cs.length (.str h0))) = HD at sD hq
              have s9 : Same H6 HD := sm.trans (sA.trans (sB.trans (sC.trans sD)))
              refine ⟨t, q, [.str z], _, rfl, rfl, SqT.of (sD _ _ (sC _ _ (sB _ _ ht))), SqT.of hq, by simp, by rw [List.length_replicate, List.length_singleton]; omega, fun e => ?_, fun e tt ntt => ?_⟩
              · have e0 : cs.length = 0 := by have := congrArg List.length e; rw [List.length_replicate] at this; exact this
                have e1 : cs = [] := List.length_eq_zero_iff.mp e0
                rw [e1, nh, nhs] at h2
                omega
              · refine ⟨.ref tt, .sq (.fl (.str z) :: List.replicate cs.length (.fl (.str h0))), rfl, new_tree ntt (dats_rep cs.length), ?_, ?_, s9.trans (same_upd ntt)⟩
                · rw [isSh, hz, isShs_of fun c hc => ?_]
                  · rfl
                  · rw [List.eq_of_mem_replicate hc]
                    exact hhw h0 List.mem_cons_self
                · rw [sz, szs, sz, szs_rep]
                  omega
        · exact ⟨v7, d7, rfl, DAt.hold (.same sm) _ hd6, hsh7, by omega, sm⟩
    rintro σ' H7 ⟨v8, d8, rfl, hd8, hsh8, hsz8, s7⟩
    have hb07 : But st H H7 := hb05.trans (Same.but (s6.trans s7))
    have hs7 : StAt (B + 30) H7 st cl := (hs5.same (s6.trans s7)).mono (by omega)
    -- keep
    refine ⟨fun σ H' => ∃ (v9 : V) (d9 : D), σ = [some (.ref st), some (.ref l), some v, some (.int m), some (.ref hl), none, none, some v9, some (.ref nl)] ∧ DAt nol H' v9 d9 ∧ isSh d9 = true ∧ sz d9 ≤ 30 ∧ StAt (B + 60) H' st cl ∧ But st H H', ?_, fun σ H' ⟨v9, d9, e, h1, h2, h3, h4, h5⟩ => ?_⟩
    · refine ⟨_, rfl, st, 12, B + 30, cl, rfl, by decide, by decide, hs7, by omega, fun d2 H9 _ _ hs9 hb9 => ⟨d2, 0, rfl, rfl, _, rfl, ?_⟩⟩
      have hd9 := DAt.hold (Hold.but hs7 hb9 fun _ h => h.elim) _ hd8
      have hb09 := hb07.trans hb9
      refine ite2 (fun _ => ?_) (fun _ => iteF ⟨v8, d8, rfl, hd9, hsh8, by omega, hs9.mono (by omega), hb09⟩)
      refine ⟨_, rfl, v8, d8, rfl, hd9, hsh8, by omega, by omega, fun lq us H10 nlq s10 hlq _ => ⟨lq, us, rfl, .inl (SqL.of hlq), _, rfl, (us.length : Nat), m, rfl, rfl, _, rfl, ?_⟩⟩
      have hd10 := DAt.hold (.same s10) _ hd9
      have hb10 := hb09.trans (Same.but s10)
      refine ite2 (fun _ => ⟨_, rfl, (by show 2 ≤ sizeLine; decide), fun p np => ?_⟩) (fun _ => ⟨v8, d8, rfl, hd10, hsh8, by omega, (hs9.same s10).mono (by omega), hb10⟩)
      refine ⟨.ref p, .sq [.fl (.str "keep"), d8], rfl, new_tree np ⟨hd10, trivial⟩, ?_, ?_, ((hs9.same s10).mono (by omega)).same (same_upd np), hb10.trans (Same.but (same_upd np))⟩
      · rw [isSh, isShs, hsh8, isShs]
        decide +kernel
      · rw [sz, szs, sz, szs, szs]
        omega
    · subst e
      exact ⟨_, rfl, kk v9 d9 H' h1 h2 h3 h4 h5⟩
end
end K7

namespace K7
open PySem PySem.Spec PyProof.Rows L2 C8 XE XR SX
/-! _law_rule -/
abbrev sRule : Stmt := top 38
theorem dats_map {H H' : Hp} : ∀ {cs : List D} {us : List V}, (∀ c ∈ cs, ∀ v, DAt nol H v c → DAt nol H' v c) → DAts nol H us cs → DAts nol H' us cs
  | [], [], _, _ => trivial
  | c :: cs, u :: us, h, ⟨k, t⟩ => ⟨h c List.mem_cons_self u k, dats_map (fun c hc => h c (List.mem_cons_of_mem _ hc)) t⟩
  | [], _ :: _, _, k => k.elim
  | _ :: _, [], _, k => k.elim
theorem sh_tupsN {H H' : Hp} (h : ∀ a vs, H a = some (.tup vs) → H' a = some (.tup vs)) : ∀ (n : Nat) (d : D), sz d ≤ n → isSh d = true → ∀ v, DAt nol H v d → DAt nol H' v d
  | 0, d, hn, _, _, _ => by have := sz_pos d; omega
  | n + 1, d, hn, hs, v, hv => by
    rcases isSh_inv hs with ⟨z, rfl, _⟩ | ⟨z, cs, rfl, _, hcs⟩
    · exact hv
    · obtain ⟨a, us, rfl, qa, o, hus⟩ := hv
      match us, hus with
      | [], hus => exact hus.elim
      | u :: us, ⟨k0, hus⟩ =>
        refine ⟨a, _, rfl, .inl (h _ _ (qa.elim id fun e => e.1.elim)), o, k0, dats_map (fun c hc w hw => ?_) hus⟩
        obtain ⟨i, hi⟩ := List.getElem?_of_mem hc
        have := szs_get hi
        have e : sz (.sq (.fl (.str z) :: cs)) = 2 + szs cs := by rw [sz, szs, sz]; omega
        exact sh_tupsN h n c (by omega) (isShs_mem hcs c hc) w hw
theorem sh_tups {H H' : Hp} (h : ∀ a vs, H a = some (.tup vs) → H' a = some (.tup vs)) {d : D} (hs : isSh d = true) {v : V} (hv : DAt nol H v d) : DAt nol H' v d := sh_tupsN h _ d (Nat.le_refl _) hs v hv
def spRule : Sp := fun vs H Q _ => ∃ (st l : Addr) (m : Int) (rs : List Rw) (B : Nat) (cl : Addr), vs = [.ref st, .ref l, .int m] ∧ 1 ≤ m ∧ m ≤ 3 ∧ RowsAt H l rs ∧ RowsOk rs ∧ StAt B H st cl ∧ B + 250 < 1000000000000000 ∧
  ∀ (p kd bd : Addr) (vl vr : V) (dl dr : D) (H' : Hp), H' p = some (.tup [vl, vr, .ref kd, .ref bd]) → DAt nol H' vl dl → isSh dl = true → isSq dl = true → sz dl ≤ 12 → DAt nol H' vr dr → isSh dr = true → sz dr ≤ 30 → StAt (B + 250) H' st cl → But st H H' → Q (.ref p) H'
abbrev NRu : List Str := ["_law_state", "_law_rows_here", "_law_most", "_law_left_here", "_law_right_here", "_law_kinds", "_law_bars", "_law_hole", "_law_place", "_law_way", "_law_some", "_law_label"]
theorem scRule : FnScope NRu ["_law_state", "_law_rows_here", "_law_most"] (fnScope sRule) := fnScope_by (by decide +kernel)
section
variable {P : Program} {w : World} {K : PySem.W.Frag} {mg : Str → Option Value} {base : Heap}
theorem c_rule {f : Addr} {fd : FuncData} (F : Def K mg "_law_rule" sRule f fd) (b : Binds K fd ["_law_state", "_law_rows_here", "_law_most"] []) (T : Blt4 mg) (C : Cal P w K mg base 1 "_law_take" spTake [])
    (CL : Cal P w K mg base 1 "_law_labels" spLabels []) (CLe : Cal P w K mg base 14 "_law_left" spLeft []) (CR : Cal P w K mg base 32 "_law_right" spRight []) (CH : Cal P w K mg base 31 "_law_holes" (spHoles 30) []) : Cal P w K mg base 33 "_law_rule" spRule [] := by
  refine cal0 F b .nil scRule (fun vs H Q E h => ?_) (fun cdv A outer s H vs Q E hr h => ?_)
  · obtain ⟨st, l, m, rs, B, cl, rfl, _⟩ := h
    rfl
  · obtain ⟨st, l, m, rs, B, cl, rfl, hm1, hm3, hR, ok, hst, hB, kk⟩ := h
    have nd := scRule.nd
    have hu : (A.deeper (envOfC "_law_rule" (fnScope sRule) s.heap.objs.size f cdv)).units + 1 < cLine := by have := hr.un; omega
    refine ⟨_, pss_cons (ps_set (i := 3) nd rfl (Or.inl rfl) (pe_c CLe hr (by decide) (by rfl) (pa_cons (pv 0) (pa_cons (pv 1) (pa_cons (pv 2) pa_nil)))))
      (pss_cons (ps_set (i := 4) nd rfl (Or.inl rfl) (pe_c CR hr (by decide) (by rfl) (pa_cons (pv 0) (pa_cons (pv 1) (pa_cons (pv 3) (pa_cons pe_int pa_nil))))))
      (pss_cons (ps_par (i := 5) (j := 6) rfl nd rfl rfl (by decide) rfl rfl (pa_cons pe_dnewK (pa_cons pe_dnewK pa_nil)) (by rfl))
      (pss_cons (ps_for PassesOwn.never rfl (pi_list (pe_c CH hr (by decide) (by rfl) (pa_cons (pv 3) pa_nil))) (pg_tup rfl (pgs_cons (pg_name (i := 7) nd rfl (Or.inl rfl)) (pgs_cons (pg_name (i := 8) nd rfl (Or.inl rfl)) pgs_nil)))
          (pss_cons (ps_set (i := 9) nd rfl (Or.inl rfl) (pe_c C hr (by decide) (by rfl) (pa_cons (pv 0) (pa_cons pe_int pa_nil))))
          (pss_cons (ps_setLc (i := 10) (own := [("_law_label", 11)]) (g := gName 11) rfl nd rfl rfl (by rfl) (pi_list (pe_c CL hr (by decide) (by rfl) (pa_cons (pv 1) pa_nil))) (blkOk_by (N := NRu) (sc := fnScope sRule) (by decide +kernel)) (fun _ _ _ _ _ => pg_name (i := 11) nd rfl (Or.inl rfl))
            (fun _ _ _ _ _ => pts_one (pt_cmp (pc_eqI (pe_c C hr (by decide) (by rfl) (pa_cons (pv 0) (pa_cons pe_int pa_nil))) pe_int))) (fun _ _ _ _ _ => pv 11))
          (pss_cut (ps_if (pt_cmp (pc_eqI (pv 9) pe_int)) (pss_one (ps_dput hu (pv 5) (pv 7) (pv 10) rfl)) pss_nil)
          (pss_one (ps_if (pt_cmp (pc_eqI (pv 9) pe_int)) (pss_one (ps_dput hu (pv 6) (pv 7) (pv 10) rfl)) pss_nil))))))
      (pss_one (ps_ret (pe_tup (pa_cons (pv 3) (pa_cons (pv 4) (pa_cons (pv 5) (pa_cons (pv 6) pa_nil)))))))))), ?_⟩
    have hsl := sizeLine_eq
    refine ⟨_, rfl, _, rfl, _, rfl, st, l, m, rs, B, cl, rfl, hm1, hm3, hR, ok, hst, by omega, fun vl z cs H1 hdl hsh hnh hszs hs1 hb1 => ?_⟩
    have hsc : sz (.sq (.fl (.str z) :: cs)) = 2 + szs cs := by rw [sz, szs, sz]; omega
    have hnc : nh (.sq (.fl (.str z) :: cs)) = nhs cs := by rw [nh]
    have hsq : isSq (.sq (.fl (.str z) :: cs)) = true := rfl
    generalize D.sq (.fl (.str z) :: cs) = dl at hdl hsh hsc hnc hsq
    refine ⟨_, rfl, _, rfl, _, rfl, st, l, vl, dl, 4, rs, B + 50, cl, rfl, by decide, by decide, hdl, hsh, by omega, hR.but hst hb1, ok, hs1, by omega, fun vr dr H2 hdr hshr hszr hs2 hb2 => ?_⟩
    have hb02 := hb1.trans hb2
    have hdl2 := DAt.hold (Hold.but hs1 hb2 fun _ h => h.elim) _ hdl
    refine fun kd nkd => ?_
    obtain ⟨ks, kc⟩ := hs2.new nkd
    have nkH : H kd = none := hb02.free nkd ks
    have sa : Same H2 (upd H2 kd (.dK [])) := same_upd nkd
    have hka : (upd H2 kd (.dK [])) kd = some (.dK []) := upd_same
    generalize upd H2 kd (.dK []) = Ha at sa hka
    refine fun bd nbd => ⟨_, _, rfl, ?_⟩
    have hsa := hs2.same sa
    obtain ⟨bs, bc⟩ := hsa.new nbd
    have nbH : H bd = none := (hb02.trans (Same.but sa)).free nbd bs
    have kbd : kd ≠ bd := ne_of_none hka nbd
    have sb : Same H2 (upd Ha bd (.dK [])) := sa.trans (same_upd nbd)
    have hk3 : (upd Ha bd (.dK [])) kd = some (.dK []) := by rw [upd_ne kbd]; exact hka
    have hb3 : (upd Ha bd (.dK [])) bd = some (.dK []) := upd_same
    generalize upd Ha bd (.dK []) = H3 at sb hk3 hb3
    have hs3 := hs2.same sb
    have hb03 := hb02.trans (Same.but sb)
    have hdl3 := DAt.hold (.same sb) _ hdl2
    refine ⟨_, rfl, vl, dl, rfl, hdl3, hsh, by omega, by omega, fun lq us H4 nlq s4 hlq hpu => ⟨lq, rfl, ⟨us, SqL.of hlq⟩, ?_⟩⟩
    have hul := Paired.length hpu
    rw [holes_nh dl] at hul
    generalize holesP dl = qs at hpu
    obtain ⟨lqs, lqc⟩ := hs3.new nlq
    have lqk : lq ≠ kd := (ne_of_none hk3 nlq).symm
    have lqb : lq ≠ bd := (ne_of_none hb3 nlq).symm
    have hdl4 := DAt.hold (.same s4) _ hdl3
    have hdr4 := DAt.hold (.same s4) _ (DAt.hold (.same sb) _ hdr)
    refine for_gen (J := Itl K lq) us.length (fun i σ H' => ∃ (v7 v8 v9 v10 : Option V) (k1 k2 : List (Key × V)), σ = [some (.ref st), some (.ref l), some (.int m), some vl, some vr, some (.ref kd), some (.ref bd), v7, v8, v9, v10, none] ∧ H' kd = some (.dK k1) ∧ k1.length ≤ i ∧ H' bd = some (.dK k2) ∧ k2.length ≤ i ∧ H' lq = some (.lst us) ∧ (∀ a vs, H4 a = some (.tup vs) → H' a = some (.tup vs)) ∧ StAt (B + 110 + 20 * i) H' st cl ∧ But st H H')
      ⟨none, none, none, none, [], [], rfl, s4 _ _ hk3, Nat.le_refl _, s4 _ _ hb3, Nat.le_refl _, hlq, fun _ _ e => e, (hs3.same s4).mono (by omega), hb03.trans (Same.but s4)⟩
      (fun i σ H' hi ⟨_, _, _, _, _, _, _, _, _, _, _, h, _⟩ => ⟨us, us.getD i .non, SqL.of h, getD_at hi⟩) (fun σ H' ⟨_, _, _, _, _, _, _, _, _, _, _, h, _⟩ => ⟨us, SqL.of h, Nat.le_refl _⟩) ?_
      (fun σ H' ⟨v7, v8, v9, v10, k1, k2, e, _, _, _, _, _, ht, hs, hb⟩ => ?_)
    · rintro i σ H7 x H8 hi ⟨v7, v8, v9, v10, k1, k2, rfl, hk7, hkl, hb7, hbl, hlq7, ht7, hs7, hbt7⟩ ⟨rfl, hx⟩
      have hx := hx _ (SqL.of hlq7)
      obtain ⟨q, hq, qt, qa, rfl, hqt, hqa⟩ := paired_get hpu hx
      refine ⟨qt, [.str q.1, .ref qa], rfl, SqT.of (ht7 _ _ hqt), rfl, .str q.1, [.ref qa], rfl, .ref qa, [], rfl, rfl, ?_⟩
      refine ⟨_, rfl, st, 8, _, cl, rfl, by decide, by decide, hs7, by omega, fun d8 H9 _ _ hs9 hb9 => ?_⟩
      have hlq9 := hb9 _ _ hlq7 lqs
      have hk9 := hb9 _ _ hk7 ks
      have hbd9 := hb9 _ _ hb7 bs
      have ht9 := (Hold.but (F := nol) hs7 hb9 fun _ h => h.elim).tup
      have hbt9 := hbt7.trans hb9
      refine ⟨_, rfl, l, rs, rfl, hR.but hst hbt9, ok, fun q' H10 nq' s10 hq' => ⟨q', rfl, ⟨_, SqL.of hq'⟩, fun Da nDa => ?_⟩⟩
      have hs10 := hs9.same s10
      obtain ⟨Ds, Dc⟩ := hs10.new nDa
      have q's : q' ≠ st := (hs9.new nq').1
      have hla : (labs rs).length ≤ 15 := by unfold labs nums; rw [List.length_map, List.length_append]; have := ok.len; simp; omega
      refine lc_gen (J := Itl K q') (labs rs).length (fun j H' => ∃ ss : List Str, H' Da = some (.lst (ss.map V.str)) ∧ ss.length ≤ j ∧ StAt (B + 110 + 20 * i + 1 + j) H' st cl ∧ But st H10 H') ⟨[], upd_same, Nat.le_refl _, (hs10.same (same_upd nDa)).mono (by omega), Same.but (same_upd nDa)⟩
        (fun j H' hj ⟨_, _, _, _, b'⟩ => ⟨_, .str (labs rs)[j], SqL.of (b' _ _ hq' q's), by rw [List.getElem?_map, List.getElem?_eq_getElem hj]; rfl⟩) (fun H' ⟨_, _, _, _, b'⟩ => ⟨_, SqL.of (b' _ _ hq' q's), by rw [List.length_map]; exact Nat.le_refl _⟩) (fun j H' x H'' hj ⟨ss, hD, hsl', hs', b'⟩ yl => ?_) (fun H' ⟨ss, hD, hsl', hs', b'⟩ => ?_)
      · obtain ⟨rfl, hx⟩ := yl
        have hx := hx _ (SqL.of (b' _ _ hq' q's))
        rw [List.getElem?_map, List.getElem?_eq_getElem hj] at hx
        obtain rfl := Option.some.inj hx
        refine ⟨rfl, _, rfl, st, 2, _, cl, rfl, by decide, by decide, hs', by omega, fun d2 H12 _ _ hs12 hb12 => ⟨d2, 0, rfl, rfl, _, rfl, ?_⟩⟩
        have hD12 := hb12 _ _ hD Ds
        refine ite2 (fun _ => ?_) (fun _ => ?_)
        · exact ⟨_, rfl, _, hD12, by rw [List.length_map]; omega, ss ++ [(labs rs)[j]], by rw [upd_same, List.map_append]; rfl, by rw [List.length_append, List.length_singleton]; omega, (hs12.put Ds Dc).mono (by omega), fun b o e n => by rw [upd_ne (ne_of_none e nDa)]; exact hb12 _ _ (b' _ _ e n) n⟩
        · exact ⟨ss, hD12, by omega, hs12.mono (by omega), fun b o e n => hb12 _ _ (b' _ _ e n) n⟩
      · have b9 : But st H9 H' := (Same.but s10).trans b'
        have hk' := b9 _ _ hk9 ks
        have hbd' := b9 _ _ hbd9 bs
        have hlq' := b9 _ _ hlq9 lqs
        have ht' := (Hold.but (F := nol) hs9 b9 fun _ h => h.elim).tup
        have hbt' := hbt9.trans b9
        have hs'' : StAt (B + 110 + 20 * (i + 1)) H' st cl := hs'.mono (by omega)
        refine ⟨fun σ H2 => ∃ (k1 : List (Key × V)), σ = [some (.ref st), some (.ref l), some (.int m), some vl, some vr, some (.ref kd), some (.ref bd), some (.str q.1), some (.ref qa), some (.int d8), some (.ref Da), none] ∧ H2 kd = some (.dK k1) ∧ k1.length ≤ i + 1 ∧ H2 bd = some (.dK k2) ∧ H2 lq = some (.lst us) ∧ (∀ a vs, H4 a = some (.tup vs) → H2 a = some (.tup vs)) ∧ StAt (B + 110 + 20 * (i + 1)) H2 st cl ∧ But st H H2, ?_, ?_⟩
        · refine ⟨_, rfl, d8, 0, rfl, rfl, _, rfl, ite2 (fun _ => ?_) (fun _ => ⟨k1, rfl, hk', by omega, hbd', hlq', fun a vs e => ht' _ _ (ht9 _ _ (ht7 _ _ e)), hs'', hbt'⟩)⟩
          refine ⟨_, rfl, _, rfl, _, rfl, kd, _, rfl, DPut.k (k := .inr q.1) hk' (by omega), putK k1 (.inr q.1) (.ref Da), rfl, upd_same, ?_, by rw [upd_ne kbd.symm]; exact hbd', by rw [upd_ne lqk]; exact hlq', fun a vs e => ?_, hs''.put ks kc, hbt'.upd nkH⟩
          · have := DSub.putK_len k1 (.inr q.1) (.ref Da)
            omega
          · have e' := ht' _ _ (ht9 _ _ (ht7 _ _ e))
            rw [upd_ne (ne_of e' hk' (by intro z; cases z))]
            exact e'
        rintro σ H2 ⟨k1', rfl, hk2, hk2l, hb2', hlq2, ht2, hs2', hbt2⟩
        refine ⟨_, rfl, d8, 1, rfl, rfl, _, rfl, ite2 (fun _ => ?_) (fun _ => ⟨_, _, _, _, k1', k2, rfl, hk2, hk2l, hb2', by omega, hlq2, ht2, hs2', hbt2⟩)⟩
        refine ⟨_, rfl, _, rfl, _, rfl, bd, _, rfl, DPut.k (k := .inr q.1) hb2' (by omega), _, _, _, _, k1', putK k2 (.inr q.1) (.ref Da), rfl, by rw [upd_ne kbd]; exact hk2, hk2l, upd_same, ?_, by rw [upd_ne lqb]; exact hlq2, fun a vs e => ?_, hs2'.put bs bc, hbt2.upd nbH⟩
        · have := DSub.putK_len k2 (.inr q.1) (.ref Da)
          omega
        · have e' := ht2 _ _ e
          rw [upd_ne (ne_of e' hb2' (by intro z; cases z))]
          exact e'
    · subst e
      refine ⟨_, rfl, _, rfl, _, rfl, _, rfl, (by show 4 ≤ sizeLine; decide), fun p np => ?_⟩
      have sp := same_upd np (o := .tup [vl, vr, .ref kd, .ref bd])
      exact kk p kd bd vl vr dl dr _ upd_same (DAt.hold (.same sp) _ (sh_tups ht hsh hdl4)) hsh hsq (by omega) (DAt.hold (.same sp) _ (sh_tups ht hshr hdr4)) hshr hszr ((hs.same sp).mono (by omega)) (hb.trans (Same.but sp))
end
end K7

namespace K7
open PySem PySem.Spec PyProof.Rows L2 C8 XE XR SX
/-! where a text goes wrong: sign by sign -/
inductive Wy where
  | beg
  | wrd
  | hol
  | blk
  | fin
deriving DecidableEq
def letB (c : Nat) : Bool := decide (c ∈ TL.tl letters)
def nxt (h : Bool) (w : Wy) (m dp c : Nat) : Option (Wy × Nat × Nat) :=
  if w = .beg ∧ c = 63 ∧ h = true then some (.hol, 0, dp)
  else if (w = .beg ∨ w = .wrd) ∧ letB c = true ∧ m < 8 then some (.wrd, m + 1, dp)
  else if w = .hol ∧ letB c = true ∧ m < 8 then some (.hol, m + 1, dp)
  else if w = .blk then (if c = 32 then some (.beg, 0, dp) else none)
  else if w = .beg ∨ (m = 0 ∧ w = .hol) then none
  else if c = 40 ∧ w = .wrd then some (.beg, 0, dp + 1)
  else if c = 44 ∧ 0 < dp then some (.blk, 0, dp)
  else if c = 41 ∧ 0 < dp then some (.fin, 0, dp - 1)
  else none
def okE (w : Wy) (m dp : Nat) : Bool := decide (dp = 0 ∧ (w = .fin ∨ ((w = .wrd ∨ w = .hol) ∧ 0 < m)))
def flt (h : Bool) : Wy → Nat → Nat → Nat → List Nat → Option Nat
  | w, m, dp, k, [] => if okE w m dp = true then none else some k
  | w, m, dp, k, c :: cs => match nxt h w m dp c with
    | none => some k
    | some s => flt h s.1 s.2.1 s.2.2 (k + 1) cs
theorem let63 : letB 63 = false := by decide +kernel
theorem let40 : letB 40 = false := by decide +kernel
theorem let41 : letB 41 = false := by decide +kernel
theorem let44 : letB 44 = false := by decide +kernel
/-- behind a node -/
def nx2 (isW : Bool) (dp c : Nat) : Option (Wy × Nat × Nat) := if c = 40 ∧ isW = true then some (.beg, 0, dp + 1) else if c = 44 ∧ 0 < dp then some (.blk, 0, dp) else if c = 41 ∧ 0 < dp then some (.fin, 0, dp - 1) else none
def aft (h isW : Bool) (dp n : Nat) : List Nat → Option Nat
  | [] => if dp = 0 then none else some n
  | c :: r => match nx2 isW dp c with
    | none => some n
    | some s => flt h s.1 s.2.1 s.2.2 (n + 1) r
theorem flt_fin {h : Bool} {dp n : Nat} : ∀ {r : List Nat}, flt h .fin 0 dp n r = aft h false dp n r
  | [] => by
    unfold flt aft okE
    by_cases hd : dp = 0
    · simp [hd]
    · simp [hd]
  | c :: r => by
    have e : nxt h .fin 0 dp c = nx2 false dp c := by
      unfold nxt nx2
      simp
    unfold flt aft
    rw [e]
theorem flt_wrd {h : Bool} {m dp n : Nat} (hm : 1 ≤ m) : ∀ {r : List Nat}, (m = 8 ∨ ∀ c, r.head? = some c → letB c = false) → flt h .wrd m dp n r = aft h true dp n r
  | [], _ => by
    unfold flt aft okE
    by_cases hd : dp = 0
    · simp [hd, show 0 < m by omega]
    · simp [hd]
  | c :: r, hh => by
    have hl : ¬ (letB c = true ∧ m < 8) := fun ⟨a, b⟩ => hh.elim (fun e => by omega) fun g => by rw [g c rfl] at a; cases a
    have e : nxt h .wrd m dp c = nx2 true dp c := by
      unfold nxt nx2
      simp [hl]
    unfold flt aft
    rw [e]
theorem flt_hol {h : Bool} {m dp n : Nat} (hm : 1 ≤ m) : ∀ {r : List Nat}, (m = 8 ∨ ∀ c, r.head? = some c → letB c = false) → flt h .hol m dp n r = aft h false dp n r
  | [], _ => by
    unfold flt aft okE
    by_cases hd : dp = 0
    · simp [hd, show 0 < m by omega]
    · simp [hd]
  | c :: r, hh => by
    have hl : ¬ (letB c = true ∧ m < 8) := fun ⟨a, b⟩ => hh.elim (fun e => by omega) fun g => by rw [g c rfl] at a; cases a
    have e : nxt h .hol m dp c = nx2 false dp c := by
      unfold nxt nx2
      simp [hl, show ¬ m = 0 by omega]
    unfold flt aft
    rw [e]
/-- letters -/
theorem flt_letW {h : Bool} {dp : Nat} : ∀ {z r : List Nat} {m n : Nat}, (∀ c ∈ z, letB c = true) → m + z.length ≤ 8 → flt h .wrd m dp n (z ++ r) = flt h .wrd (m + z.length) dp (n + z.length) r
  | [], r, m, n, _, _ => rfl
  | c :: z, r, m, n, hz, hl => by
    rw [List.length_cons] at hl
    have e : nxt h .wrd m dp c = some (.wrd, m + 1, dp) := by
      unfold nxt
      simp [hz c List.mem_cons_self, show m < 8 by omega]
    rw [List.cons_append, flt, e]
    show flt h .wrd (m + 1) dp (n + 1) (z ++ r) = _
    rw [flt_letW (fun c hc => hz c (List.mem_cons_of_mem _ hc)) (by omega), List.length_cons]
    congr 1 <;> omega
theorem flt_letH {h : Bool} {dp : Nat} : ∀ {z r : List Nat} {m n : Nat}, (∀ c ∈ z, letB c = true) → m + z.length ≤ 8 → flt h .hol m dp n (z ++ r) = flt h .hol (m + z.length) dp (n + z.length) r
  | [], r, m, n, _, _ => rfl
  | c :: z, r, m, n, hz, hl => by
    rw [List.length_cons] at hl
    have e : nxt h .hol m dp c = some (.hol, m + 1, dp) := by
      unfold nxt
      simp [hz c List.mem_cons_self, show m < 8 by omega]
    rw [List.cons_append, flt, e]
    show flt h .hol (m + 1) dp (n + 1) (z ++ r) = _
    rw [flt_letH (fun c hc => hz c (List.mem_cons_of_mem _ hc)) (by omega), List.length_cons]
    congr 1 <;> omega
/-- the word that is read: letters, at most eight -/
def wd (r : List Nat) : List Nat := (r.take 8).takeWhile letB
theorem wd_let {r : List Nat} : ∀ c ∈ wd r, letB c = true := fun c hc => by
  have := List.all_takeWhile (p := letB) (l := r.take 8)
  exact List.all_eq_true.mp this c hc
theorem wd_len {r : List Nat} : (wd r).length ≤ 8 := by
  have h1 := (List.takeWhile_prefix letB (l := r.take 8)).length_le
  have h2 := List.length_take_le 8 r
  unfold wd
  omega
theorem wd_app (r : List Nat) : ∃ r', r = wd r ++ r' ∧ ((wd r).length = 8 ∨ ∀ c, r'.head? = some c → letB c = false) := by
  have e : r.take 8 = wd r ++ (r.take 8).dropWhile letB := (List.takeWhile_append_dropWhile ..).symm
  refine ⟨(r.take 8).dropWhile letB ++ r.drop 8, ?_, ?_⟩
  · rw [← List.append_assoc, ← e, List.take_append_drop]
  · cases hd : (r.take 8).dropWhile letB with
    | nil =>
      by_cases h8 : 8 ≤ r.length
      · left
        rw [hd, List.append_nil] at e
        rw [← e, List.length_take]
        omega
      · right
        intro c hc
        rw [List.drop_eq_nil_of_le (by omega)] at hc
        cases hc
    | cons x xs =>
      right
      intro c hc
      have : c = x := (Option.some.inj hc).symm
      have hx := List.head?_dropWhile_not letB (r.take 8)
      rw [hd] at hx
      rw [this]
      simpa using hx
end K7

namespace K7
open PySem PySem.Spec PyProof.Rows L2 C8 XE XR SX
/-! what is open of any text, and what its next sign does -/
abbrev FR := Str × List D
def sepd : List D → List Nat
  | [] => []
  | d :: ds => tx d ++ 44 :: 32 :: sepd ds
def preF : List FR → List Nat
  | [] => []
  | (z, dn) :: fs => preF fs ++ (TL.tl z ++ 40 :: sepd dn)
inductive Cl where
  | bad (k : Nat)
  | done (d : D) (n : Nat)
  | more (fs : List FR) (n : Nat)
def clG : D → List FR → Nat → List Nat → Cl
  | cur, [], n, _ => .done cur n
  | _, _ :: _, n, [] => .bad n
  | cur, (z, dn) :: fs, n, c :: r => if c = 44 then (if r.head? = some 32 then .more ((z, dn ++ [cur]) :: fs) (n + 2) else .bad (n + 1))
      else if c = 41 then clG (.sq (.fl (.str z) :: (dn ++ [cur]))) fs (n + 1) r else .bad n
def okFs (b : Bool) (fs : List FR) : Prop := ∀ fr ∈ fs, wordS fr.1 = true ∧ isShHs b fr.2 = true
theorem sepd_app : ∀ {a b : List D}, sepd (a ++ b) = sepd a ++ sepd b
  | [], b => rfl
  | x :: a, b => by rw [List.cons_append, sepd, sepd, sepd_app]; simp
theorem seps_snoc : ∀ {ds : List D} {cur : D}, seps (ds ++ [cur]) = 44 :: 32 :: (sepd ds ++ tx cur)
  | [], cur => by show 44 :: 32 :: (tx cur ++ []) = _; rw [List.append_nil]; rfl
  | e :: es, cur => by
    show 44 :: 32 :: (tx e ++ seps (es ++ [cur])) = 44 :: 32 :: ((tx e ++ 44 :: 32 :: sepd es) ++ tx cur)
    rw [seps_snoc]
    simp
theorem shHs_snoc {b : Bool} {ds : List D} {cur : D} (h : isShHs b ds = true) (hc : isShH b cur = true) : isShHs b (ds ++ [cur]) = true := by
  rw [shHs_app, h, isShHs, hc]
  rfl
theorem tx_closed {b : Bool} {z : Str} {dn : List D} {cur : D} (h : isShHs b dn = true) (hc : isShH b cur = true) : tx (.sq (.fl (.str z) :: (dn ++ [cur]))) = TL.tl z ++ 40 :: (sepd dn ++ (tx cur ++ [41])) := by
  have hs := shHs_sh h
  have hcs := shH_sh hc
  cases dn with
  | nil =>
    rw [List.nil_append, tx_node hcs rfl]
    simp [seps, sepd]
  | cons d ds =>
    rw [isShs, Bool.and_eq_true] at hs
    have e2 : isShs (ds ++ [cur]) = true := isShs_of fun x hx => by
      rcases List.mem_append.mp hx with hx | hx
      · exact isShs_mem hs.2 x hx
      · rw [List.mem_singleton.mp hx]; exact hcs
    rw [List.cons_append, tx_node hs.1 e2, seps_snoc]
    simp [sepd]
theorem closed_ok {b : Bool} {z : Str} {dn : List D} {cur : D} (hz : wordS z = true) (h : isShHs b dn = true) (hc : isShH b cur = true) : isShH b (.sq (.fl (.str z) :: (dn ++ [cur]))) = true := by
  rw [isShH, hz, shHs_snoc h hc]
  rfl
/-- refused -/
theorem clG_bad {h : Bool} : ∀ {fs : List FR} {cur : D} {n k : Nat} {r : List Nat}, clG cur fs n r = .bad k → aft h false fs.length n r = some k
  | [], cur, n, k, r, e => by unfold clG at e; cases e
  | f :: fs, cur, n, k, [], e => by
    unfold clG at e
    cases e
    rfl
  | (z, dn) :: fs, cur, n, k, c :: r, e => by
    unfold clG at e
    unfold aft nx2
    by_cases h44 : c = 44
    · subst h44
      rw [if_pos rfl] at e
      have : (nx2 false ((z, dn) :: fs).length 44) = some (.blk, 0, ((z, dn) :: fs).length) := by unfold nx2; simp
      simp only [show ¬ ((44 : Nat) = 40 ∧ False) by decide, List.length_cons, Nat.zero_lt_succ, and_self, if_true, Bool.false_eq_true, and_false, if_false]
      cases r with
      | nil =>
        rw [if_neg (by simp)] at e
        cases e
        rfl
      | cons c' r' =>
        by_cases h32 : c' = 32
        · subst h32
          rw [if_pos (show (32 :: r').head? = some 32 from rfl)] at e
          cases e
        · rw [if_neg (by simpa using h32)] at e
          cases e
          unfold flt
          have : nxt h .blk 0 (fs.length + 1) c' = none := by unfold nxt; simp [h32]
          rw [this]
    · rw [if_neg h44] at e
      by_cases h41 : c = 41
      · subst h41
        rw [if_pos rfl] at e
        simp only [show ¬ (41 : Nat) = 44 by decide, List.length_cons, Nat.zero_lt_succ, and_true, Bool.false_eq_true, and_false, false_and, if_false, if_true]
        rw [Nat.add_sub_cancel, flt_fin]
        exact clG_bad e
      · rw [if_neg h41] at e
        cases e
        simp [h44, h41]
/-- more is to come -/
theorem clG_more {h b : Bool} : ∀ {fs fs' : List FR} {cur : D} {n n' : Nat} {r : List Nat}, clG cur fs n r = .more fs' n' → okFs b fs → isShH b cur = true → ∃ pre r', r = pre ++ r' ∧ n' = n + pre.length ∧ 1 ≤ pre.length ∧ aft h false fs.length n r = flt h .beg 0 fs'.length n' r' ∧ preF fs ++ (tx cur ++ pre) = preF fs' ∧ okFs b fs' ∧ fs' ≠ []
  | [], fs', cur, n, n', r, e, _, _ => by unfold clG at e; cases e
  | f :: fs, fs', cur, n, n', [], e, _, _ => by unfold clG at e; cases e
  | (z, dn) :: fs, fs', cur, n, n', c :: r, e, ok, hc => by
    obtain ⟨hz, hdn⟩ := ok (z, dn) List.mem_cons_self
    have ok' : okFs b fs := fun fr hfr => ok fr (List.mem_cons_of_mem _ hfr)
    unfold clG at e
    by_cases h44 : c = 44
    · subst h44
      rw [if_pos rfl] at e
      cases r with
      | nil =>
        rw [if_neg (by simp)] at e
        cases e
      | cons c' r' =>
        by_cases h32 : c' = 32
        · subst h32
          rw [if_pos (show (32 :: r').head? = some 32 from rfl)] at e
          cases e
          refine ⟨[44, 32], r', rfl, rfl, by simp, ?_, ?_, ?_, by simp⟩
          · have e1 : nx2 false ((z, dn) :: fs).length 44 = some (.blk, 0, ((z, dn) :: fs).length) := by unfold nx2; simp
            rw [aft, e1]
            show flt h .blk 0 ((z, dn) :: fs).length (n + 1) (32 :: r') = _
            rw [flt]
            rfl
          · show (preF fs ++ (TL.tl z ++ 40 :: sepd dn)) ++ (tx cur ++ [44, 32]) = preF fs ++ (TL.tl z ++ 40 :: sepd (dn ++ [cur]))
            rw [sepd_app]
            simp [sepd]
          · intro fr hfr
            rcases List.mem_cons.mp hfr with rfl | hfr
            · exact ⟨hz, shHs_snoc hdn hc⟩
            · exact ok' fr hfr
        · rw [if_neg (by simpa using h32)] at e
          cases e
    · rw [if_neg h44] at e
      by_cases h41 : c = 41
      · subst h41
        rw [if_pos rfl] at e
        obtain ⟨pre, r', e1, e2, e3, e4, e5, e6, e7⟩ := clG_more (h := h) e ok' (closed_ok hz hdn hc)
        refine ⟨41 :: pre, r', by rw [e1]; rfl, by rw [e2, List.length_cons]; omega, by simp, ?_, ?_, e6, e7⟩
        · have e8 : nx2 false ((z, dn) :: fs).length 41 = some (.fin, 0, ((z, dn) :: fs).length - 1) := by unfold nx2; simp
          rw [aft, e8]
          show flt h .fin 0 (fs.length + 1 - 1) (n + 1) r = _
          rw [Nat.add_sub_cancel, flt_fin]
          exact e4
        · rw [← e5, tx_closed hdn hc]
          show (preF fs ++ (TL.tl z ++ 40 :: sepd dn)) ++ (tx cur ++ 41 :: pre) = _
          simp
      · rw [if_neg h41] at e
        cases e
/-- all is closed -/
theorem clG_done {h b : Bool} : ∀ {fs : List FR} {cur d : D} {n n' : Nat} {r : List Nat}, clG cur fs n r = .done d n' → okFs b fs → isShH b cur = true → ∃ pre r', r = pre ++ r' ∧ n' = n + pre.length ∧ aft h false fs.length n r = aft h false 0 n' r' ∧ preF fs ++ (tx cur ++ pre) = tx d ∧ isShH b d = true
  | [], cur, d, n, n', r, e, _, hc => by
    unfold clG at e
    cases e
    exact ⟨[], r, rfl, rfl, rfl, by simp [preF], hc⟩
  | f :: fs, cur, d, n, n', [], e, _, _ => by unfold clG at e; cases e
  | (z, dn) :: fs, cur, d, n, n', c :: r, e, ok, hc => by
    obtain ⟨hz, hdn⟩ := ok (z, dn) List.mem_cons_self
    have ok' : okFs b fs := fun fr hfr => ok fr (List.mem_cons_of_mem _ hfr)
    unfold clG at e
    by_cases h44 : c = 44
    · subst h44
      rw [if_pos rfl] at e
      split at e <;> cases e
    · rw [if_neg h44] at e
      by_cases h41 : c = 41
      · subst h41
        rw [if_pos rfl] at e
        obtain ⟨pre, r', e1, e2, e4, e5, e6⟩ := clG_done (h := h) e ok' (closed_ok hz hdn hc)
        refine ⟨41 :: pre, r', by rw [e1]; rfl, by rw [e2, List.length_cons]; omega, ?_, ?_, e6⟩
        · have e8 : nx2 false ((z, dn) :: fs).length 41 = some (.fin, 0, ((z, dn) :: fs).length - 1) := by unfold nx2; simp
          rw [aft, e8]
          show flt h .fin 0 (fs.length + 1 - 1) (n + 1) r = _
          rw [Nat.add_sub_cancel, flt_fin]
          exact e4
        · rw [← e5, tx_closed hdn hc]
          show (preF fs ++ (TL.tl z ++ 40 :: sepd dn)) ++ (tx cur ++ 41 :: pre) = _
          simp
      · rw [if_neg h41] at e
        cases e
theorem preF_len : ∀ {fs : List FR}, fs.length ≤ (preF fs).length ∧ ∀ fr ∈ fs, fr.2.length ≤ (preF fs).length
  | [] => ⟨Nat.le_refl _, fun _ h => by cases h⟩
  | (z, dn) :: fs => by
    obtain ⟨h1, h2⟩ := preF_len (fs := fs)
    have e : (preF ((z, dn) :: fs)).length = (preF fs).length + ((TL.tl z).length + ((sepd dn).length + 1)) := by
      show (preF fs ++ (TL.tl z ++ 40 :: sepd dn)).length = _
      simp
    have hd : ∀ l : List D, l.length ≤ (sepd l).length := fun l => by
      induction l with
      | nil => exact Nat.le_refl _
      | cons x l ih =>
        have : (sepd (x :: l)).length = (tx x).length + ((sepd l).length + 2) := by
          show (tx x ++ 44 :: 32 :: sepd l).length = _
          simp
        rw [List.length_cons, this]
        omega
    refine ⟨by rw [e, List.length_cons]; omega, fun fr hfr => ?_⟩
    rcases List.mem_cons.mp hfr with rfl | hfr
    · have := hd dn
      rw [e]
      show dn.length ≤ _
      omega
    · have := h2 fr hfr
      omega
/-- aft with the mark of a word, where no bracket opens -/
theorem aft_word {h : Bool} {dp n : Nat} : ∀ {r : List Nat}, (∀ c, r.head? = some c → c ≠ 40) → aft h true dp n r = aft h false dp n r
  | [], _ => rfl
  | c :: r, hh => by
    have := hh c rfl
    unfold aft nx2
    simp [this]
theorem aft_end {h : Bool} {n : Nat} : ∀ {r : List Nat}, aft h false 0 n r = if r = [] then none else some n
  | [] => rfl
  | c :: r => by
    unfold aft nx2
    simp
theorem sz_tx : ∀ (n : Nat) {d : D}, sz d ≤ n → isSh d = true → sz d ≤ 2 * (tx d).length
  | 0, d, h, _ => by have := sz_pos d; omega
  | n + 1, d, hn, h => by
    rcases isSh_inv h with ⟨z, rfl, hz⟩ | ⟨z, cs, rfl, hz, hcs⟩
    · rw [tx_hole, List.length_cons]
      show 1 ≤ _
      omega
    · have hsc : sz (.sq (.fl (.str z) :: cs)) = 2 + szs cs := by rw [sz, szs, sz]; omega
      have hz1 := word_pos hz
      rw [TL.len_tl] at hz1
      have key : ∀ l : List D, (∀ c ∈ l, c ∈ cs) → szs l ≤ 2 * (seps l).length := fun l => by
        induction l with
        | nil => intro _; exact Nat.le_refl _
        | cons x xs ih =>
          intro hl
          have hx := hl x List.mem_cons_self
          obtain ⟨i, hi⟩ := List.getElem?_of_mem hx
          have h1 := szs_get hi
          have h2 := sz_tx n (d := x) (by omega) (isShs_mem hcs x hx)
          have h3 := ih fun c hc => hl c (List.mem_cons_of_mem _ hc)
          have e : (seps (x :: xs)).length = (tx x).length + (seps xs).length + 2 := by
            show (44 :: 32 :: (tx x ++ seps xs)).length = _
            simp
          rw [szs, e]
          omega
      cases cs with
      | nil =>
        rw [tx_leaf]
        rw [hsc, szs]
        omega
      | cons c cs =>
        have hk := key (c :: cs) fun _ h => h
        have hcs' := hcs
        rw [isShs, Bool.and_eq_true] at hcs'
        rw [tx_node hcs'.1 hcs'.2, hsc]
        have e : (seps (c :: cs)).length = (tx c).length + (seps cs).length + 2 := by
          show (44 :: 32 :: (tx c ++ seps cs)).length = _
          simp
        rw [e] at hk
        simp only [List.length_append, List.length_cons, List.length_nil]
        omega
end K7

/-! Making an own exception whose __init__ says super().__init__(text) and stores its parameters. -/
namespace XI
open PySem PySem.W PySem.Calls PyProof.Rows PySem.HandSPX
section
variable {prog : Program} {w : World} {M : Model} {A : Around} {E : Value → Shared → Prop} {hp : Heap} {g : Array GenState} {d : Drawn} {t : Nat} {os : OsState}
variable {cn cq : Str} {C N : Addr} {bs bm tl : List Value} {sn : List Str} {sub : List Value} {ab : Bool} {col : Option Bool} {dd : Option Addr} {k0 k1 k2 k3 k5 : Option Value} {B n0 n1 : String} {us : List Value} {kw : List (Str × Value)}
theorem chk (FB : ExcBaseFacts B n0 n1 tl) (ht : ∀ Y : String, bm.contains (.type Y) = tl.contains (.type Y)) {Q : Unit → Shared → Prop}
    (oC : hp.get? C = some (excClassObj cn cq C N bs bm true sn sub ab col dd k0 k1 k2 k3 k5 n0)) (q : Q () ⟨hp, g, d, t, os⟩) : wpAny M A (checkBuiltinCall n0 ⟨.ref C :: us, kw⟩) Q E ⟨hp, g, d, t, os⟩ := by
  have inB : (Value.ref C :: bm).contains (.type B) = true := by simp only [List.contains_cons, ht, FB.hasB, Bool.or_true]
  have st := FB.noStar
  simp only [checkBuiltinCall, FB.newKind, FB.newSplit, FB.newRow]
  repeat (first
    | (refine wpAny_isSubtype_exc oC ?_; rw [inB])
    | refine wpAny_loadPart_at oC ?_
    | refine wpAny_madeBy_exc oC ?_
    | refine wpAny_staticBase_exc oC ?_
    | wp_step
    | simp only [bne_self_eq_false, Bool.false_eq_true, if_false])
  exact q
theorem chkT {Q : Unit → Shared → Prop} (oC : hp.get? C = some (excClassObj cn cq C N bs bm true sn sub ab col dd k0 k1 k2 k3 k5 n0)) (q : Q () ⟨hp, g, d, t, os⟩) :
    wpAny M A (checkBuiltinCall "type.__call__" ⟨.ref C :: us, kw⟩) Q E ⟨hp, g, d, t, os⟩ := by
  have z := tc_sub
  have ty : (⟨hp, g, d, t, os⟩ : Shared).TypeIs (.ref C) "type" := ⟨_, oC, rfl⟩
  simp only [checkBuiltinCall, tc_kind, tc_split]
  repeat (any_goals (first
    | assumption
    | with_reducible refine wpAny_onRaise ?_
    | with_reducible refine wpAny_loadPart_at oC ?_
    | with_reducible refine wpAny_map ?_
    | wp_step))
end
section
variable {prog : Program} {w : World} {A : Around} {E : Value → Shared → Prop} {R : Result → Shared → Prop} {hp : Heap} {g : Array GenState} {d : Drawn} {t : Nat} {os : OsState}
variable {cn cq : Str} {C N fI : Addr} {bs bm tl : List Value} {sn : List Str} {sub : List Value} {ab : Bool} {col : Option Bool} {dd : Option Addr} {k0 k1 k2 k3 k5 : Option Value} {B n0 n1 : String} {us : List Value} {kw : List (Str × Value)}
/-- the tuple of the arguments, and the new exception behind it -/
abbrev two (hp : Heap) (C : Addr) (us : List Value) : Heap := (hp.push (kdv_tup us)).push (excO C hp.objs.size)
theorem newE (FB : ExcBaseFacts B n0 n1 tl) (ht : ∀ Y : String, bm.contains (.type Y) = tl.contains (.type Y)) (oC : hp.get? C = some (excClassObj cn cq C N bs bm true sn sub ab col dd k0 k1 k2 k3 k5 n0)) (hl : us.length ≤ sizeLine)
    (q : R (.ok (.ret (.ref (hp.objs.size + 1)))) ⟨two hp C us, g, d, t, os⟩) : codeAny (model prog w) A (.builtin n0 ⟨.ref C :: us, kw⟩) R ⟨hp, g, d, t, os⟩ := by
  have en := FB.ends
  have inB : (Value.ref C :: bm).contains (.type B) = true := by simp only [List.contains_cons, ht, FB.hasB, Bool.or_true]
  have noA : (Value.ref C :: bm).contains (.type "AttributeError") = false := by rw [List.contains_cons, ht, FB.noAttr] <;> rfl
  have noN : (Value.ref C :: bm).contains (.type "NameError") = false := by rw [List.contains_cons, ht, FB.noName] <;> rfl
  refine codeAny_builtinAt FB.entry ?_
  unfold Builtin.«BaseException.__new__»
  refine PySem.wpAt_bind ?_
  show PySem.wpAt _ _ _ (stack >>= _) _ _ _
  refine PySem.wpAt_bind (PySem.wpAt_stack fun p below => PySem.wpAt_of_wpAny ?_)
  wp_walk
  refine PySem.wpAt_of_wpAny ?_
  rw [FB.owner]
  repeat (first
    | (with_reducible refine wpAny_isSubtype_exc oC ?_; first | rw [inB] | rw [noA] | rw [noN])
    | with_reducible refine wpAny_madeHere_exc FB.canon oC ?_
    | with_reducible refine wpAny_loadPart_at oC ?_
    | wp_step)
  show R _ _
  rw [Heap.size_push]
  exact q
theorem tcall (FB : ExcBaseFacts B n0 n1 tl) (ht : ∀ Y : String, bm.contains (.type Y) = tl.contains (.type Y)) {Q : Fin → Shared → Prop}
    (oC : hp.get? C = some (excClassObj cn cq C N bs bm true sn sub ab col dd k0 k1 k2 k3 k5 n0)) (li : Looks (model prog w) hp (typeLookup (.ref C) "__init__") (some (.ref fI)))
    (lb : ∀ self, Looks (model prog w) hp (bindSpecial (.ref fI) self) (.ref fI, [self])) (hl : us.length ≤ sizeLine)
    (q : codeAny (model prog w) A (.call (.ref fI) ⟨.ref (hp.objs.size + 1) :: us, kw⟩) (fun r s' => match r with | .ok (.ret v) => v = .none ∧ Q (.done (.ret (.ref (hp.objs.size + 1)))) s' | .ok _ => False | .error e => E e s') ⟨two hp C us, g, d, t, os⟩) :
    wpAny (model prog w) A (Builtin.«type.__call__» ⟨.ref C :: us, kw⟩) Q E ⟨hp, g, d, t, os⟩ := by
  repeat (first
    | with_reducible refine wpAny_madeBy_exc oC ?_
    | with_reducible refine wpAny_loadPart_at oC ?_
    | wp_step)
  refine codeAny_call_builtin_code (Code.quiet_builtin _ FB.quiet) (chk FB ht oC ?_)
  refine newE FB ht oC hl ?_
  show wpAny _ _ _ _ _ _
  have kp : ∀ b o, hp.get? b = some o → (two hp C us).get? b = some o := fun b o e => Heap.get?_push_of_some _ (Heap.get?_push_of_some _ e)
  have oC1 := kp _ _ oC
  have oX : (two hp C us).get? (hp.objs.size + 1) = some (excO C hp.objs.size) := by heap_get
  have inC : (Value.ref C :: bm).contains (.ref C) = true := by simp
  have li1 := li.keeps kp
  have lb1 := (lb (.ref (hp.objs.size + 1))).keeps kp
  unfold isInstance
  repeat (first
    | (with_reducible refine wpAny_isSubtype_exc oC1 ?_; rw [inC])
    | with_reducible refine wpAny_loadPart_at oX ?_
    | wp_step)
  show wpAny _ _ (typeLookup (.ref C) _) _ _ _
  refine li1.at (wpAny_holding (wpAny_bind (lb1.at ?_)))
  refine wpAny_bind (wpAny_call (codeAny_mono q fun r s' z => ?_))
  rcases r with e | (v | _ | _ | _) <;> first | exact z | exact z.elim | skip
  obtain ⟨rfl, z⟩ := z
  first
    | exact wpAny_pure (wpAny_pure z)
    | (wp_walk; exact z)
/-- C(us, kw): the new exception, then its own __init__ -/
theorem callE (FB : ExcBaseFacts B n0 n1 tl) (ht : ∀ Y : String, bm.contains (.type Y) = tl.contains (.type Y))
    (oC : hp.get? C = some (excClassObj cn cq C N bs bm true sn sub ab col dd k0 k1 k2 k3 k5 n0)) (li : Looks (model prog w) hp (typeLookup (.ref C) "__init__") (some (.ref fI)))
    (lb : ∀ self, Looks (model prog w) hp (bindSpecial (.ref fI) self) (.ref fI, [self])) (hl : us.length ≤ sizeLine)
    (q : codeAny (model prog w) (A.under (.builtin "type.__call__" ⟨.ref C :: us, kw⟩)) (.call (.ref fI) ⟨.ref (hp.objs.size + 1) :: us, kw⟩) (InitBack (hp.objs.size + 1) R) ⟨two hp C us, g, d, t, os⟩) :
    codeAny (model prog w) A (.call (.ref C) ⟨us, kw⟩) R ⟨hp, g, d, t, os⟩ := by
  have z1 := tc_lookup
  have z2 := tc_bind (.ref C)
  have ty : (⟨hp, g, d, t, os⟩ : Shared).TypeIs (.ref C) "type" := ⟨_, oC, rfl⟩
  refine codeAny_of_tree ?_
  show wpAny _ _ (callAny (.ref C) _) _ _ _
  repeat (any_goals (first
    | assumption
    | with_reducible refine wpAny_loadPart_at oC ?_
    | wp_step))
  refine ⟨rfl, codeAny_call_builtin_at (Code.quiet_builtin _ (by decide +kernel)) entry_typeCall (chkT oC (tcall FB ht oC li lb hl (codeAny_mono q fun r s' z => ?_)))⟩
  rcases r with e | (v | _ | _ | _) <;> exact z
end
end XI

namespace XI
open PySem PySem.W PySem.Calls PyProof.Rows PySem.HandSPX
section
variable {prog : Program} {w : World} {A : Around} {E : Value → Shared → Prop} {R : Result → Shared → Prop} {s : Shared} {K : Frag} {mg mb : Str → Option Value} {C fI cc cda x L t0 : Addr} {qual tx : Str} {scope : Scope} {params : Arguments} {body : List Stmt}
/-- behind the wrapper's call the args are laid anew -/
theorem wrapCall {cn cq : Str} {N u : Addr} {bs bm tl : List Value} {sn : List Str} {sub : List Value} {ab : Bool} {col : Option Bool} {dd : Option Addr} {k0 k1 k2 k3 k5 : Option Value} {B n0 n1 : String} {us : List Value} {Q : Value → Shared → Prop}
    (FB : ExcBaseFacts B n0 n1 tl) (oC : s.heap.get? C = some (excClassObj cn cq C N bs bm true sn sub ab col dd k0 k1 k2 k3 k5 n0)) (ox : s.heap.get? x = some (excO C t0)) (ou : s.heap.get? u = some (kxs_mw n1 x)) (hl : us.length ≤ sizeLine)
    (q : ∀ h' t1, (∀ b o, b ≠ x → s.heap.get? b = some o → h'.get? b = some o) → h'.get? x = some (excO C t1) → Q .none { s with heap := h' }) : wpAny (model prog w) A (call (.ref u) us) Q E s := by
  obtain ⟨hp, g, d, tk, os⟩ := s
  refine wpAny_call (codeAny_of_tree ?_)
  show wpAny _ A.in1 (callAny (.ref u) ⟨us, []⟩) _ _ _
  simp only [callAny]
  refine wpAny_bind (wpAny_load ou ?_)
  simp only [show (Value.type "method-wrapper" == Value.type "method" || Value.type "method-wrapper" == Value.type "builtin_function_or_method" || Value.type "method-wrapper" == Value.type "method-wrapper") = true by decide, if_true, kxs_mw]
  refine KFB.if_so (by decide) (wpAny_bind (check_bound_init FB.toExcCallFacts oC ox rfl (wpAny_bind (wpAny_pure (wpAny_pure ⟨plainId_quiet FB.init.plain _, codeAny_builtin FB.initEntry ?_⟩)))))
  exact exc_init_tree (t0 := t0) (cls := .ref C) (dv := none) (c2 := .none) (c3 := .none) (b4 := .bool false) ox hl fun h' kp e _ => q h' _ kp e
theorem superPart {p0 p1 p2 p3 p4 p5 : Pos} {k : Nat} {Q : Flow → Shared → Prop} {oc od doc pm an ct osl dV kV} {cl : Value} {cld : Option Addr} {csl : Array (Option Value)} {ccl : Value} {cdd : Option Addr} {ccs : Array (Option Value)} {vs : Array Value} {file : Str} {tf : Tok} {m : Str → Option Value}
    (X : K.In s.heap) (gl : s.heap.Ns mainGlobals mg) (bl : s.heap.Ns builtinsNs mb) (hbb : ∀ y : Str, y ≠ "__name__" → mb y = bootBuiltins y) (hsu : mg "super" = none)
    (hf : K.lookup fI = some ⟨oc, od, .func (ksFn "__init__" qual params body scope dV kV doc pm an (.ref cda) ct cc), osl⟩) (hp1 : ∃ ar, (params.posonlyargs ++ params.args).head? = some ar ∧ ar.arg = ("self" : Str))
    (hcell : K.lookup cc = some ⟨cl, cld, .cell (some (.ref C)), csl⟩) (hcode : K.lookup cda = some ⟨ccl, cdd, .fields vs, ccs⟩) (hvs : vs[2]? = some (.str file tf)) (hfile : ((prog.main.file : Str) == file) = true)
    (htop : (prog.main.scope.names.lookup ("super" : Str)).isSome = false)
    (T : L2.OexC K C) (hsup : ks_superIn K C C "__init__" = some (some (.builtin "ValueError.__init__"))) (hop : nsIn K cStatics "thirdparty.any" = some none) (hB : subIn K (.ref C) (.type "ValueError") = some true) (hmr : mroIn K C (.ref C) = some true)
    (hks : scope.names.lookup ("super" : Str) = some .globalImplicit) (hkc : scope.names.lookup ("__class__" : Str) = some .free) (hka : scope.names.lookup ("self" : Str) = some .local) (hk : scope.kind = .function)
    (ns : s.heap.Ns L m) (hm : m "self" = some (.ref x)) (ox : s.heap.get? x = some (excO C t0)) (nx : K.lookup x = none)
    (q : ∀ h' t' t1, (∀ b o, b ≠ x → s.heap.get? b = some o → h'.get? b = some o) → h'.get? x = some (excO C t1) → Q .next { s with heap := h', toks := t' })
    {pl : Sem Bool} (he : eval (.Call (.Attribute (.Call (.Name "super" p0) [] [] p1) "__init__" p2) [.Constant (.str tx) k p3] [] p4) (ksEnv qual scope L fI (.ref cda) cc) = (do
      let ov ← attributeBase (.Call (.Name "super" p0) [] [] p1) "__init__" (ksEnv qual scope L fI (.ref cda) cc) (eval (.Call (.Name "super" p0) [] [] p1) (ksEnv qual scope L fI (.ref cda) cc))
      standAt p2.atName
      let (fx, first) ← holding [ov] (getMethod ov "__init__" pl)
      callWith p4 fx first (backTo p4 (starEach [.Constant (.str tx) k p3] (ksEnv qual scope L fI (.ref cda) cc))) [])) (hsw : swapsWith (.Call (.Attribute (.Call (.Name "super" p0) [] [] p1) "__init__" p2) [.Constant (.str tx) k p3] [] p4) none p5.line (ksEnv qual scope L fI (.ref cda) cc) = pure false) :
    PySem.wpAt (model prog w) A (.func body (ksEnv qual scope L fI (.ref cda) cc)) (exec (.Expr (.Call (.Attribute (.Call (.Name "super" p0) [] [] p1) "__init__" p2) [.Constant (.str tx) k p3] [] p4) p5) (ksEnv qual scope L fI (.ref cda) cc)) Q E s := by
  obtain ⟨nm, qq, N, bs, bm, sn, sub, ab, col, dd, k0, k1, k2, k3, k5, hC, hbm⟩ := T.cls
  have hcl : clsIn K C = some { name := nm, bases := bs, mro := .ref C :: bm, ns := N, qualname := qq, hasDict := true, slotNames := sn, subclasses := sub, abstract := ab, collection := col, hasDel := false } := by unfold clsIn; rw [hC] <;> rfl
  obtain ⟨ar, har, hara⟩ := hp1
  have hxC : x ≠ C := fun z => by
    rw [z, hC] at nx
    cases nx
  obtain ⟨hp, g, d, t, os⟩ := s
  have oC : hp.get? C = _ := X _ _ hC
  refine ks_wpAt_Expr_any (ks_wpAt_MethodCall ?_ he) (by simp [interactive, hk]) hsw
  refine ks_wpAt_super_base hks hkc (by decide +kernel) rfl (X _ _ hf) rfl har rfl (X _ _ hcode) rfl hvs hfile htop ?_
  refine ks_loadName_global hk hks (loadGlobal_builtin gl hsu bl ((hbb _ (by decide +kernel)).trans (by decide +kernel)) ⟨rfl, ?_⟩)
  refine wpAny_loadName_free hk hkc rfl ⟨_, X _ _ hcell, rfl⟩ ?_
  rw [hara]
  refine wpAny_loadName_local hk hka ns hm ?_
  refine ks_wpAny_isType_cls oC rfl ⟨rfl, ?_⟩
  refine ks_wpAny_call_super oC rfl ox rfl (fun c e => by cases e) (looks_mroIn X hmr) fun h1 e1 kp1 => ?_
  have X1 : K.In h1 := X.keeps kp1
  have I1 : InstAt h1 x (excO C t0) C none := ⟨kp1 _ _ ox, rfl, rfl, trivial⟩
  have al : alongIn K "__init__" (((Value.ref C :: bm).dropWhile (· != .ref C)).drop 1) = some (some (.builtin "ValueError.__init__")) := by
    have z := hsup
    unfold ks_superIn at z
    rw [hcl] at z
    exact z
  refine kxs_getMethod kxs_ValueError (K := K) e1 (looks_opaque X1 hop) ((looks_clsIn X1 hcl).andThen .now) rfl X1 al (I1.type.andThen (looks_subIn X1 hB)) hxC (by decide +kernel) ?_
  have kp2 : ∀ b o, hp.get? b = some o → (h1.push (kxs_mw "ValueError.__init__" x)).get? b = some o := fun b o e => Heap.get?_push_of_some _ (kp1 _ _ e)
  have ou : (h1.push (kxs_mw "ValueError.__init__" x)).get? h1.objs.size = some (kxs_mw "ValueError.__init__" x) := Heap.get?_push_at rfl rfl
  refine kxs_callWith (i := "ValueError.__init__") (x := x) rfl (evalArgs_plain ?_)
  refine spliced_cons (Constant_str (k := k) (pos := p3) (spliced_nil ⟨ou, ?_⟩))
  exact wrapCall PySem.F.excBase_ValueError (kp2 _ _ oC) (kp2 _ _ ox) ou (by show 1 ≤ sizeLine; decide) fun h' t1 kq ex => q h' _ t1 (fun b o hb e => kq b o hb (kp2 b o e)) ex
/-- the rows self.f = f -/
inductive Stores : List Str → List Stmt → Prop where
  | nil : Stores [] []
  | cons {f : Str} {q1 q2 q3 q4 : Pos} {fs : List Str} {b : List Stmt} (h : Stores fs b) : Stores (f :: fs) (.Assign [.Attribute (.Name "self" q1) f q2] (.Name f q3) q4 :: b)
/-- an exception at x of the class at C, made since h: what its attributes are -/
structure ExAt (h h' : Heap) (L x C : Addr) (fs : List (Str × Value)) : Prop where
  keep : ∀ b o, b ≠ x → h.get? b = some o → h'.get? b = some o
  some0 : fs = [] → ∃ t1, h'.get? x = some (excO C t1)
  some1 : fs ≠ [] → ∃ t1 dx m0, h'.get? x = some { cls := .ref C, dict := some dx, data := .fields #[.ref t1, .none, .none, .none, .bool false, .none] } ∧ L < dx ∧ dx ≠ x ∧ h'.Ns1 dx m0 ∧ (∀ y, m0 y = fs.lookup y) ∧ Within m0 (fs.map (·.1))
theorem lookup_cons2 {α : Type} (y f : Str) (v : α) (fs : List (Str × α)) : ((f, v) :: fs).lookup y = if y = f then some v else fs.lookup y := by
  by_cases e : y = f
  · rw [if_pos e, List.lookup_cons, show (y == f) = true from beq_iff_eq.mpr e]
  · rw [if_neg e, List.lookup_cons, show (y == f) = false from beq_eq_false_iff_ne.mpr e]
theorem storesRun {hb : Heap} {env : Env} {m : Str → Option Value} {Q : Flow → Shared → Prop} (T : L2.OexC K C) (hk : env.scope.kind = .function) (hself : env.kindOf "self" = some .local) (hm : m "self" = some (.ref x)) (nx : K.lookup x = none) (hxL : x ≠ env.locals) (hLs : hb.objs.size ≤ env.locals)
    (hxs : x < hb.objs.size) (hKb : K.In hb) : ∀ (todo : List (Str × Value)) (b : List Stmt) (old : List (Str × Value)) (s : Shared), Stores (todo.map (·.1)) b → old.length + todo.length ≤ 900 → (∀ p ∈ todo, env.kindOf p.1 = some .local ∧ (p.1 == ("__debug__" : Str)) = false ∧ m p.1 = some p.2 ∧ findIn K (.ref C) p.1 = some none) →
      K.In s.heap → s.heap.Ns env.locals m → ExAt hb s.heap env.locals x C old → (∀ h' t', ExAt hb h' env.locals x C (todo.reverse ++ old) → Q .next { s with heap := h', toks := t' }) → wpAny (model prog w) A (execs b env) Q E s
  | [], _, old, s, .nil, _, _, _, _, D, q => wpAny_execs_nil (q s.heap s.toks D)
  | (f, v) :: todo, _, old, s, .cons hS, hl, hp, X, ns, D, q => by
    obtain ⟨nm, qq, N, bs, bm, sn, sub, ab, col, dd, k0, k1, k2, k3, k5, hC, hbm⟩ := T.cls
    have hcl : clsIn K C = some { name := nm, bases := bs, mro := .ref C :: bm, ns := N, qualname := qq, hasDict := true, slotNames := sn, subclasses := sub, abstract := ab, collection := col, hasDel := false } := by unfold clsIn; rw [hC] <;> rfl
    obtain ⟨l1, l2, l3, l4⟩ := hp (f, v) List.mem_cons_self
    have go : ∀ h' t', K.In h' → h'.Ns env.locals m → ExAt hb h' env.locals x C ((f, v) :: old) → wpAny (model prog w) A (execs _ env) Q E { s with heap := h', toks := t' } := fun h' t' X' ns' D' =>
      storesRun T hk hself hm nx hxL hLs hxs hKb todo _ ((f, v) :: old) { s with heap := h', toks := t' } hS (by simp only [List.length_cons] at hl ⊢; omega) (fun p hp' => hp p (List.mem_cons_of_mem _ hp')) X' ns' D' fun h2 t2 D2 => q h2 t2 (by rw [List.reverse_cons, List.append_assoc]; exact D2)
    refine wpAny_execs_cons (plainObj_wpAny_Assign_Attribute ?_)
    refine wpAny_Name (wpAny_loadName_local hk l1 ns l3 ?_) l2
    refine wpAny_Name (wpAny_loadName_local hk hself ns hm ?_) (by decide)
    obtain ⟨h, g, d, t, os⟩ := s
    have keepK : ∀ h' : Heap, (∀ b o, b ≠ x → h.get? b = some o → h'.get? b = some o) → K.In h' := fun h' kp a o e => kp a o (fun z => by rw [z, nx] at e; cases e) (X a o e)
    have hlt := ns.lt
    cases old with
    | nil =>
      obtain ⟨t1, ho⟩ := D.some0 rfl
      refine set_plain X (ox := excO C t1) (od := none) ⟨ho, rfl, rfl, trivial⟩ T.sa ?_
      refine exc_osa X ho hcl (show refsVE (.ref C :: bm) = true from hbm) rfl l4 fun h' tk' dx kp dn dne hx hn => ?_
      obtain ⟨oL, eL, pL, e1, e2⟩ := ns
      have hbd : env.locals < dx := Nat.lt_of_lt_of_le hlt dn
      refine go h' tk' (keepK h' kp) ⟨oL, eL, pL, kp _ _ (Ne.symm hxL) e1, e2⟩ ⟨fun b o hbx e => kp b o hbx (D.keep b o hbx e), (fun z => nomatch z), fun _ => ⟨t1, dx, _, hx, hbd, dne, hn, fun y => ?_, ?_⟩⟩
      · rw [lookup_cons2] <;> rfl
      · exact .cons f v .nil
    | cons p old =>
      obtain ⟨t1, dx, m0, ho, dn, dne, hns, hmap, hw⟩ := D.some1 (by simp)
      obtain ⟨oD, _, _, hoD, _, _⟩ := hns.count hw
      refine set_plain X (ox := { cls := .ref C, dict := some dx, data := .fields #[.ref t1, .none, .none, .none, .bool false, .none] }) (od := some oD) ⟨ho, rfl, rfl, hoD⟩ T.sa ?_
      refine PySem.OEX.osa_old X ho hns hw (by simp only [List.length_map, List.length_cons] at hl ⊢; omega) hcl (show refsVE (.ref C :: bm) = true from hbm) rfl l4 fun h' tk' kp hn => ?_
      obtain ⟨oL, eL, pL, e1, e2⟩ := ns
      refine go h' tk' (fun a o e => ?_) ⟨oL, eL, pL, kp _ _ (Nat.ne_of_lt dn) e1, e2⟩ ⟨fun b o hbx e => kp b o (Nat.ne_of_lt (Nat.lt_of_lt_of_le (Heap.lt_size e) (Nat.le_trans hLs (Nat.le_of_lt dn)))) (D.keep b o hbx e), (fun z => nomatch z), fun _ => ⟨t1, dx, _, kp _ _ (Ne.symm dne) ho, dn, dne, hn, fun y => ?_, ?_⟩⟩
      · refine kp a o (fun z => ?_) (X a o e)
        have y := Heap.lt_size (hKb a o e)
        rw [z] at y
        exact absurd (Nat.lt_of_lt_of_le y (Nat.le_trans hLs (Nat.le_of_lt dn))) (Nat.lt_irrefl _)
      · rw [lookup_cons2, hmap]
      · exact .cons f v hw
/-- what the written part and the text say of C's own __init__ -/
structure IniK (prog : Program) (K : Frag) (C fI : Addr) (qual : Str) (params : Arguments) (body : List Stmt) (scope : Scope) (fs : List Str) : Prop where
  fn : ∃ oc od dV kV doc pm an cda ct osl cc cl cld csl ccl cdd ccs, ∃ (vs : Array Value) (file : Str) (tf : Tok), K.lookup fI = some ⟨oc, od, .func (ksFn "__init__" qual params body scope dV kV doc pm an (.ref cda) ct cc), osl⟩ ∧ codeIn K (.ref cda) qual = true ∧
    K.lookup cc = some ⟨cl, cld, .cell (some (.ref C)), csl⟩ ∧ K.lookup cda = some ⟨ccl, cdd, .fields vs, ccs⟩ ∧ vs[2]? = some (.str file tf) ∧ ((prog.main.file : Str) == file) = true
  sup : ks_superIn K C C "__init__" = some (some (.builtin "ValueError.__init__"))
  ini : findIn K (.ref C) "__init__" = some (some (.ref fI))
  ity : typeIn K (.ref fI) = some (.type "function")
  opa : nsIn K cStatics "thirdparty.any" = some none
  suB : subIn K (.ref C) (.type "ValueError") = some true
  suC : mroIn K C (.ref C) = some true
  par : (params.posonlyargs ++ params.args).head?.map (·.arg) = some "self"
  top : (prog.main.scope.names.lookup ("super" : Str)).isSome = false
  ssu : scope.names.lookup ("super" : Str) = some .globalImplicit
  scl : scope.names.lookup ("__class__" : Str) = some .free
  sse : scope.names.lookup ("self" : Str) = some .local
  kin : scope.kind = .function
  cel : ∀ y ∈ scope.names, y.2 ≠ .cell
  nco : scope.isCoroutine = false
  nge : scope.isGenerator = false
  fie : ∀ f ∈ fs, scope.names.lookup f = some .local ∧ (f == ("__debug__" : Str)) = false ∧ findIn K (.ref C) f = some none ∧ f ≠ "self"
  ndf : fs.Nodup
  bod : ∃ (p0 p1 p2 p3 p4 p5 : Pos) (k : Nat) (tx : Str) (b : List Stmt), body = .Expr (.Call (.Attribute (.Call (.Name "super" p0) [] [] p1) "__init__" p2) [.Constant (.str tx) k p3] [] p4) p5 :: b ∧ Stores fs b ∧
    ∀ (L fI' cda' cc' : Addr), ∃ pl, eval (.Call (.Attribute (.Call (.Name "super" p0) [] [] p1) "__init__" p2) [.Constant (.str tx) k p3] [] p4) (ksEnv qual scope L fI' (.ref cda') cc') = (do
      let ov ← attributeBase (.Call (.Name "super" p0) [] [] p1) "__init__" (ksEnv qual scope L fI' (.ref cda') cc') (eval (.Call (.Name "super" p0) [] [] p1) (ksEnv qual scope L fI' (.ref cda') cc'))
      standAt p2.atName
      let (fx, first) ← holding [ov] (getMethod ov "__init__" pl)
      callWith p4 fx first (backTo p4 (starEach [.Constant (.str tx) k p3] (ksEnv qual scope L fI' (.ref cda') cc'))) []) ∧ swapsWith (.Call (.Attribute (.Call (.Name "super" p0) [] [] p1) "__init__" p2) [.Constant (.str tx) k p3] [] p4) none p5.line (ksEnv qual scope L fI' (.ref cda') cc') = pure false
theorem lookup_nd {α : Type} : ∀ {l : List (Str × α)} {f : Str} {v : α}, (l.map (·.1)).Nodup → (f, v) ∈ l → l.lookup f = some v
  | [], _, _, _, h => nomatch h
  | (f', v') :: l, f, v, nd, h => by
    rw [lookup_cons2]
    rcases List.mem_cons.mp h with e | h
    · cases e
      rw [if_pos rfl]
    · have nd' := List.nodup_cons.mp nd
      by_cases e : f = f'
      · exact absurd (List.mem_map.mpr ⟨(f, v), h, e⟩) nd'.1
      · rw [if_neg e]
        exact lookup_nd nd'.2 h
theorem zip_fst : ∀ {fs : List Str} {us : List Value}, us.length = fs.length → (fs.zip us).map (·.1) = fs
  | [], [], _ => rfl
  | f :: fs, u :: us, h => by
    have z : us.length = fs.length := Nat.succ.inj h
    simp only [List.zip_cons_cons, List.map_cons, zip_fst z]
theorem initE {fs : List Str} {us : List Value} {args : Args} (J : IniK prog K C fI qual params body scope fs) (T : L2.OexC K C) (X : K.In s.heap) (gl : s.heap.Ns mainGlobals mg) (bl : s.heap.Ns builtinsNs mb) (hbb : ∀ y : Str, y ≠ "__name__" → mb y = bootBuiltins y) (hsu : mg "super" = none)
    (hlim : s.heap.NoLimit) (hroom : A.depth < recursionLimit) (hus : us.length = fs.length) (hfl : fs.length ≤ 900)
    (hbind : ∀ fd : FuncData, (∃ oc od osl, K.lookup fI = some ⟨oc, od, .func fd, osl⟩) → BindsTo s fd args (("self", .ref x) :: fs.zip us)) (ox : s.heap.get? x = some (excO C t0)) (nx : K.lookup x = none)
    (q : ∀ h' t', ExAt s.heap h' s.heap.objs.size x C (fs.zip us).reverse → R (.ok (.ret .none)) { s with heap := h', toks := t' }) : codeAny (model prog w) A (.call (.ref fI) args) R s := by
  obtain ⟨oc, od, dV, kV, doc, pm, an, cda, ct, osl, cc, cl, cld, csl, ccl, cdd, ccs, vs, file, tf, hf, hcd, hcell, hcode, hvs, hfile⟩ := J.fn
  obtain ⟨p0, p1, p2, p3, p4, p5, k, tx, b, rfl, hS, hev⟩ := J.bod
  refine ks_codeAny_call_defAt hroom (X _ _ hf) rfl hlim (codeRec_of X hcd) rfl (hbind _ ⟨_, _, _, hf⟩) J.cel (fun y hy => ?_) (fun h1 hn kp => ?_) J.nco J.nge J.kin
  · rcases List.mem_cons.mp hy with rfl | hy
    · exact J.sse
    · exact (J.fie y.1 (List.of_mem_zip hy).1).1
  · obtain ⟨pl, he, hsw⟩ := hev s.heap.objs.size fI cda cc
    have par : ∃ ar, (params.posonlyargs ++ params.args).head? = some ar ∧ ar.arg = ("self" : Str) := by
      cases z : (params.posonlyargs ++ params.args).head? with
      | none => have y := J.par; rw [z] at y; cases y
      | some ar => have y := J.par; rw [z] at y; exact ⟨ar, rfl, Option.some.inj y⟩
    have hxL : x ≠ s.heap.objs.size := Nat.ne_of_lt (Heap.lt_size ox)
    have zf := zip_fst hus
    have nd : (((("self", Value.ref x) :: fs.zip us) : List (Str × Value)).reverse.map (·.1)).Nodup := by
      rw [List.map_reverse, List.map_cons, zf]
      refine (List.reverse_perm _).nodup_iff.mpr ?_
      exact List.nodup_cons.mpr ⟨fun z => (J.fie _ z).2.2.2 rfl, J.ndf⟩
    have mm : ∀ p ∈ ((("self", Value.ref x) :: fs.zip us) : List (Str × Value)), ((("self", Value.ref x) :: fs.zip us) : List (Str × Value)).reverse.lookup p.1 = some p.2 := fun p hp => lookup_nd nd (List.mem_reverse.mpr hp)
    refine ks_wpAt_execs_cons (superPart (X.keeps kp) (gl.keeps kp) (bl.keeps kp) hbb hsu hf par hcell hcode hvs hfile J.top T J.sup J.opa J.suB J.suC J.ssu J.scl J.sse J.kin hn (mm _ List.mem_cons_self) (kp _ _ ox) nx (fun h2 t2 t1 kp2 ex => ?_) he hsw)
    have kp3 : ∀ b o, b ≠ x → s.heap.get? b = some o → h2.get? b = some o := fun b o hb e => kp2 b o hb (kp b o e)
    obtain ⟨oL, eL, pL, e1, e2⟩ := hn
    refine PySem.wpAt_of_wpAny (storesRun (hb := s.heap) (env := ksEnv qual scope s.heap.objs.size fI (.ref cda) cc) T J.kin J.sse (mm _ List.mem_cons_self) nx hxL (Nat.le_refl _) (Heap.lt_size ox) X (fs.zip us) b [] _ (by rw [zf]; exact hS) (by have z := congrArg List.length zf; rw [List.length_map] at z; show 0 + _ ≤ 900; omega) (fun p hp => ?_) (fun a o e => kp3 a o (fun z => by rw [z, nx] at e; cases e) (X a o e)) ⟨oL, eL, pL, kp2 _ _ (Ne.symm hxL) e1, e2⟩ ⟨kp3, fun _ => ⟨t1, ex⟩, fun z => absurd rfl z⟩ fun h' t' D => ?_)
    · have y := J.fie p.1 (List.of_mem_zip hp).1
      exact ⟨y.1, y.2.1, mm p (List.mem_cons_of_mem _ hp), y.2.2.1⟩
    · rw [List.append_nil] at D
      exact q h' t' D
end
end XI

namespace XI
open PySem PySem.Spec PyProof.Rows L2
/-- the abstract heap behind C(..): the new exception at a, its own dict at d -/
def mkH (H : Hp) (a d C : Addr) : List (Str × V) → Hp
  | [] => upd H a (exo a C none)
  | p :: fl => upd (upd H d (exd d (p :: fl))) a (exo a C (some d))
theorem mkH_ne {H : Hp} {a d C b : Addr} : ∀ {fl : List (Str × V)}, b ≠ a → b ≠ d → mkH H a d C fl b = H b
  | [], h, _ => upd_ne h
  | _ :: _, h, h2 => (upd_ne h).trans (upd_ne h2)
theorem same_mk {H : Hp} {a d C : Addr} {fl : List (Str × V)} (ha : H a = none) (hd : H d = none) : Same H (mkH H a d C fl) := fun b o e => by
  rw [mkH_ne (ne_of_none e ha) (ne_of_none e hd)]
  exact e
theorem relO_zip {fs : List Str} : ∀ {vs : List V} {us : List Value}, Vals vs us → ∀ y, RelO ((fs.zip vs).reverse.lookup y) ((fs.zip us).reverse.lookup y) := by
  have key : ∀ (fs : List Str) (vs : List V) (us : List Value) (al : List (Str × V)) (bl : List (Str × Value)), Vals vs us → (∀ y, RelO (al.lookup y) (bl.lookup y)) → ∀ y, RelO (((fs.zip vs).reverse ++ al).lookup y) (((fs.zip us).reverse ++ bl).lookup y) := by
    intro fs
    induction fs with
    | nil => intro vs us al bl _ h y; exact h y
    | cons f fs ih =>
      intro vs us al bl r h y
      cases r with
      | nil => exact h y
      | cons rv rr =>
        simp only [List.zip_cons_cons, List.reverse_cons, List.append_assoc, List.singleton_append]
        refine ih _ _ _ _ rr (fun z => ?_) y
        rw [lookup_cons2, lookup_cons2]
        by_cases e : z = f
        · rw [if_pos e, if_pos e]; exact rv
        · rw [if_neg e, if_neg e]; exact h z
  intro vs us r y
  have z := key fs vs us [] [] r (fun _ => True.intro) y
  rw [List.append_nil, List.append_nil] at z
  exact z
theorem n21 (n : Nat) : n + 2 ≠ n + 1 := by omega
theorem n12 (n : Nat) : n + 1 ≤ n + 2 := by omega
theorem nlt {n m : Nat} (h : n + 2 < m) : n ≤ m := by omega
theorem nlt1 {n m : Nat} (h : n + 2 < m) : n + 1 ≤ m := by omega
section
variable {X : Cx} {pins : List (Addr × Obj)} {σ : L2.St} {H : Hp} {s : Shared} {C fI : Addr} {qual : Str} {params : Arguments} {body : List Stmt} {scope : Scope} {fs : List Str}
/-- C(us, ks = ws): what the parameters but self hold is vals -/
theorem mkE {us ws vals : List Value} {vs : List V} {ks : List Str} {Q : VK} {E : Value → Shared → Prop} (J : IniK X.prog X.K C fI qual params body scope fs) (T : OexC X.K C) (hsu : X.mg "super" = none) (hr : Room 1 X.A) (I : Inv X pins σ H s)
    (hl : us.length ≤ sizeLine) (r : Vals vs vals) (hv : vals.length = fs.length) (hfl : fs.length ≤ 900)
    (hbind : ∀ (s : Shared) (y : Value) (fd : FuncData), (∃ oc od osl, X.K.lookup fI = some ⟨oc, od, .func fd, osl⟩) → BindsTo s fd ⟨y :: us, ks.zip ws⟩ (("self", y) :: fs.zip vals))
    (q : ∀ a d, H a = none → H d = none → d ≠ a → Q (.ref a) (mkH H a d C (fs.zip vs).reverse)) : wpAny (model X.prog X.w) X.A (call (.ref C) us (ks.zip ws)) (EP X pins σ Q) E s := by
  obtain ⟨nm, qq, N, bs, bm, sn, sub, ab, col, dd, k0, k1, k2, k3, k5, hC, hbm⟩ := T.cls
  obtain ⟨hp, g, dr, tk, os⟩ := s
  have X0 := I.kIn
  have kp : ∀ b o, hp.get? b = some o → (two hp C us).get? b = some o := fun b o e => Heap.get?_push_of_some _ (Heap.get?_push_of_some _ e)
  have hsz : (two hp C us).objs.size = hp.objs.size + 2 := by rw [Heap.size_push, Heap.size_push]
  have hget : (two hp C us).get? (hp.objs.size + 1) = some (PySem.HandSPX.excO C hp.objs.size) := by heap_get
  have nx : X.K.lookup (hp.objs.size + 1) = none := by
    cases e : X.K.lookup (hp.objs.size + 1) with
    | none => rfl
    | some o => exact absurd (Nat.lt_of_succ_lt (Heap.lt_size (X0 _ _ e))) (Nat.lt_irrefl _)
  obtain ⟨mb, hb1, hb2⟩ := I.mod.blt
  have hn : H (hp.objs.size + 1) = none := I.hok.fresh (Nat.le_succ _)
  refine wpAny_call (callE PySem.F.excBase_ValueError (fun Y => PySem.HandSPX.refsVE_contains Y bm hbm) (X0 _ _ hC) (PySem.W.looks_findIn X0 J.ini) (fun self => PySem.W.bind_fn X0 self J.ity) hl
    (initE (s := ⟨two hp C us, g, dr, tk, os⟩) J T (X0.keeps kp) ((I.mod.glob.keeps I.bk).keeps kp) ((hb1.keeps I.bk).keeps kp) hb2 hsu (I.nolimit.keeps kp) (by have := hr.dp; show X.A.depth + 1 < _; omega) hv hfl (fun fd hfd => hbind _ _ fd hfd) hget nx fun h' t' D => ⟨rfl, ?_⟩))
  have K2 : ∀ b o, hp.get? b = some o → h'.get? b = some o := fun b o e => D.keep b o (Nat.ne_of_lt (Nat.lt_succ_of_lt (Heap.lt_size e))) (kp b o e)
  have neb : ∀ {b : Addr} {o : Obj}, hp.get? b = some o → b ≠ hp.objs.size + 1 := fun e => Nat.ne_of_lt (Nat.lt_succ_of_lt (Heap.lt_size e))
  have rel := relO_zip (fs := fs) r
  have done : ∀ (d : Addr) (H' : Hp), d ≠ hp.objs.size + 1 → H d = none → hp.objs.size + 1 ≤ d → (∀ b, b ≠ hp.objs.size + 1 → b ≠ d → H' b = H b) → HOk X.prog X.w H' h' → Q (.ref (hp.objs.size + 1)) H' →
      EP X pins σ Q (.ref (hp.objs.size + 1)) ⟨h', g, dr, t', os⟩ := fun d H' _ hd hdl hH hok q' => by
    have ned : ∀ {b : Addr} {o : Obj}, hp.get? b = some o → b ≠ d := fun e => Nat.ne_of_lt (Nat.lt_of_lt_of_le (Nat.lt_succ_of_lt (Heap.lt_size e)) hdl)
    have st : ∀ b o, H b = some o → H' b = some o := fun b o e => by
      rw [hH b (ne_of_none e hn) (ne_of_none e hd)]
      exact e
    refine ⟨.ref (hp.objs.size + 1), H', I.un (t' := t') (h' := h') ⟨fun b o e _ _ _ => K2 b o e, fun b o e _ _ _ => ⟨o.slots, K2 b o e⟩, fun b o e n _ => ?_, fun b o e _ => ⟨o, K2 b o e⟩, fun b xs e => st _ _ e, fun b o u e => st _ _ e, fun b ps e => ⟨#[], by rw [st _ _ e]; simp⟩⟩ hok, rfl, q'⟩
    rw [hH b (neb e) (ned e)]
    exact n
  have old : ∀ (H' : Hp), (∀ b o, H b = some o → H' b = some o) → ∀ b o, H b = some o → ObjOk X.prog X.w H' h' b o := fun H' st b o e =>
    (I.hok b o e).stay (fun c v _ z => K2 c v z) (fun c z => st _ _ z) fun c xs z => st _ _ z
  by_cases hfs : fs = []
  · subst hfs
    obtain ⟨t1, ho⟩ := D.some0 rfl
    have hd : H (hp.objs.size + 2) = none := I.hok.fresh (Nat.le_add_right _ 2)
    have q' := q (hp.objs.size + 1) (hp.objs.size + 2) hn hd (n21 _)
    have e0 : mkH H (hp.objs.size + 1) (hp.objs.size + 2) C (([] : List Str).zip vs).reverse = upd H (hp.objs.size + 1) (exo (hp.objs.size + 1) C none) := rfl
    rw [e0] at q'
    refine done (hp.objs.size + 2) _ (n21 _) hd (n12 _) (fun b h1 _ => upd_ne h1) (fun b o e => ?_) q'
    by_cases hb : b = hp.objs.size + 1
    · subst hb
      rw [upd_same] at e
      cases e
      exact exo_ok ho
    · rw [upd_ne hb] at e
      exact old _ (fun c u z => by rw [upd_ne (ne_of_none z hn)]; exact z) b o e
  · have hne : (fs.zip vals).reverse ≠ [] := fun z => by
      have z2 := congrArg List.length z
      rw [List.length_reverse, List.length_zip, hv, Nat.min_self] at z2
      exact hfs (List.length_eq_zero_iff.mp z2)
    obtain ⟨t1, dx, m0, ho, dn, dne, hns, hmap, hw⟩ := D.some1 hne
    have dn' : hp.objs.size + 2 < dx := by rw [← hsz]; exact dn
    have hd : H dx = none := I.hok.fresh (nlt dn')
    have q' := q (hp.objs.size + 1) dx hn hd dne
    have rel' : ∀ f, RelO ((fs.zip vs).reverse.lookup f) (m0 f) := fun f => by rw [hmap]; exact rel f
    cases hfl2 : (fs.zip vs).reverse with
    | nil =>
      have z2 := congrArg List.length hfl2
      rw [List.length_reverse, List.length_zip, r.length, hv, Nat.min_self] at z2
      exact absurd (List.length_eq_zero_iff.mp z2) hfs
    | cons p fl =>
      rw [hfl2] at q' rel'
      refine done dx _ dne hd (nlt1 dn') (fun b h1 h2 => (upd_ne h1).trans (upd_ne h2)) (fun b o e => ?_) q'
      by_cases hb : b = hp.objs.size + 1
      · subst hb
        have e' := upd_same.symm.trans e
        cases e'
        exact exo_ok ho
      · have e' := (upd_ne hb).symm.trans e
        by_cases hb2 : b = dx
        · subst hb2
          have e2 := upd_same.symm.trans e'
          cases e2
          exact exd_ok hns rel'
        · have e2 := (upd_ne hb2).symm.trans e'
          exact old _ (fun c u z => by
            show upd (upd H dx _) _ _ c = _
            rw [upd_ne (ne_of_none z hn), upd_ne (ne_of_none z hd)]
            exact z) b o e2
end
end XI

namespace XI
open PySem PySem.Spec PyProof.Rows L2
/-- an own exception class under its name, with the parameters fs of its __init__ (all stored) -/
structure EC (prog : Program) (K : PySem.W.Frag) (mg : Str → Option Value) (x : Str) (C : Addr) (fs : List Str) : Prop where
  ini : ∃ fI qual params body scope, IniK prog K C fI qual params body scope fs ∧
    (∀ (s : Shared) (y : Value) (fd : FuncData), (∃ oc od osl, K.lookup fI = some ⟨oc, od, .func fd, osl⟩) → ∀ us : List Value, us.length = fs.length → BindsTo s fd ⟨y :: us, []⟩ (("self", y) :: fs.zip us)) ∧
    ∀ (s : Shared) (y : Value) (fd : FuncData), (∃ oc od osl, K.lookup fI = some ⟨oc, od, .func fd, osl⟩) → ∀ (ks : List Str) (ws us : List Value), ks.length = ws.length → (ks.zip ws).Perm (fs.zip us) → us.length = fs.length → ks.length = fs.length → BindsTo s fd ⟨[y], ks.zip ws⟩ (("self", y) :: fs.zip us)
  oex : OexC K C
  gC : mg x = some (.ref C)
  su : mg "super" = none
  is : ExcC K C
  fl : fs.length ≤ 900
def tMkP (C : Addr) (fs : List Str) (t : TA) : TE := fun σ H Q => t σ H fun vs H1 => vs.length = fs.length ∧ ∀ a d, H1 a = none → H1 d = none → d ≠ a → Q (.ref a) (mkH H1 a d C (fs.zip vs).reverse)
def tMkK (C : Addr) (fs : List Str) (g : List V → List V) (t : TA) : TE := fun σ H Q => t σ H fun ws H1 => ∀ a d, H1 a = none → H1 d = none → d ≠ a → Q (.ref a) (mkH H1 a d C (fs.zip (g ws)).reverse)
section
variable {X : Cx} {x : Str} {C : Addr} {fs : List Str} {e : Expr} {es : List Expr} {kws : List Keyword} {t : TA} {te : TE} {p pos : Pos}
theorem lenOk {vs : List V} {us : List Value} {n : Nat} (r : Vals vs us) (h : vs.length = n) (hn : n ≤ 900) : us.length ≤ sizeLine := by
  rw [← r.length, h, sizeLine_eq]
  omega
theorem pe_excP (c : EC X.prog X.K X.mg x C fs) (hr : Room 1 X.A) (hg : Gl X x) (ha : PA X (e :: es) t) (hdb : (x == ("__debug__" : Str)) = false := by decide)
    (he : starEach (e :: es) X.env = (false, eval e X.env) :: starEach es X.env := by rfl) (hpl : (backTo pos (starEach es X.env)).any (·.1) = false := by rfl) : PE X (.Call (.Name x p) (e :: es) [] pos) (tMkP C fs t) := by
  obtain ⟨fI, qual, params, body, scope, J, b1, _⟩ := c.ini
  refine ⟨fun pins s σ H Q I h => ?_⟩
  refine wpAny_Call_Name_kw (ld_glob I hg c.gC ?_ hdb)
  refine PySem.W.callWith_K (h₀ := X.base) I.ok.mod.kin c.oex.kC (thn (ha.run pos pins s σ H _ I h) fun us s1 ⟨vs, H1, I1, r, hl, q⟩ => ⟨I1.kIn, ?_⟩) he hpl
  exact mkE (ks := []) (ws := []) J c.oex c.su hr I1 (lenOk r hl c.fl) r (r.length.symm.trans hl) c.fl (fun s y fd hf => b1 s y fd hf us (r.length.symm.trans hl)) q
theorem pe_exc0 (c : EC X.prog X.K X.mg x C []) (hr : Room 1 X.A) (hg : Gl X x) (hdb : (x == ("__debug__" : Str)) = false := by decide) : PE X (.Call (.Name x p) [] [] pos) (tMkP C [] tNil) := by
  obtain ⟨fI, qual, params, body, scope, J, b1, _⟩ := c.ini
  refine ⟨fun pins s σ H Q I h => ?_⟩
  refine wpAny_Call_Name_kw (ld_glob I hg c.gC ?_ hdb)
  refine PySem.W.callWith_K0 I.kIn c.oex.kC ?_
  exact mkE (ks := []) (ws := []) (us := []) (vs := []) (vals := []) J c.oex c.su hr I (Nat.zero_le _) .nil rfl (Nat.zero_le _) (fun s y fd hf => b1 s y fd hf [] rfl) h.2
theorem pe_excK {ks : List Str} {g : List V → List V} {gu : List Value → List Value} (c : EC X.prog X.K X.mg x C fs) (hr : Room 1 X.A) (hg : Gl X x) (hk : PK X kws t) (hall : (backToKw pos (keywordEach kws X.env)).all (·.1.isSome) = true := by rfl)
    (hks : (backToKw pos (keywordEach kws X.env)).filterMap (·.1) = ks := by rfl) (hkl : ks.length = fs.length := by rfl)
    (hgu : ∀ (vs : List V) (us : List Value), Vals vs us → us.length = fs.length → Vals (g vs) (gu us) ∧ (gu us).length = fs.length ∧ (ks.zip us).Perm (fs.zip (gu us))) (hdb : (x == ("__debug__" : Str)) = false := by decide)
    (hpl : ((backTo pos (starEach [] X.env)).any (·.1) || (backToKw pos (keywordEach kws X.env)).any (·.1.isNone)) = false := by rfl) :
    PE X (.Call (.Name x p) [] kws pos) (fun σ H Q => t σ H fun ws H1 => ws.length = fs.length ∧ ∀ a d, H1 a = none → H1 d = none → d ≠ a → Q (.ref a) (mkH H1 a d C (fs.zip (g ws)).reverse)) := by
  obtain ⟨fI, qual, params, body, scope, J, _, b2⟩ := c.ini
  refine ⟨fun pins s σ H Q I h => ?_⟩
  refine wpAny_Call_Name_kw (ld_glob I hg c.gC ?_ hdb)
  refine PySem.W.callWith_KW0 (h₀ := X.base) I.ok.mod.kin c.oex.kC hall (thn (hk.run pos pins s σ H _ I h) fun ws s1 ⟨vs, H1, I1, r, hl, q⟩ => ⟨I1.kIn, ?_⟩) hpl
  rw [hks]
  have e1 : ws.length = fs.length := r.length.symm.trans hl
  obtain ⟨r2, l2, pm⟩ := hgu vs ws r e1
  exact mkE (us := []) J c.oex c.su hr I1 (Nat.zero_le _) r2 l2 c.fl (fun s y fd hf => b2 s y fd hf ks ws (gu ws) (hkl.trans e1.symm) pm l2 hkl) q
/-- e.f, e an exception that was made -/
def tExf (K : PySem.W.Frag) (f : Str) (te : TE) : TE := fun σ H Q => te σ H fun y H1 => ∃ a C d fl v, y = .ref a ∧ H1 a = some (exo a C (some d)) ∧ H1 d = some (exd d fl) ∧ ExcC K C ∧ PySem.W.findIn K (.ref C) f = some none ∧ fl.lookup f = some v ∧ Q v H1
theorem inst_exo {pins : List (Addr × Obj)} {σ : L2.St} {H : Hp} {s : Shared} {a d : Addr} {fl : List (Str × V)} (I : Inv X pins σ H s) (ha : H a = some (exo a C (some d))) (hd : H d = some (exd d fl)) :
    ∃ (ox od : Obj) (mA : Str → Option Value), PySem.W.InstAt s.heap a ox C (some od) ∧ (∀ f, PySem.W.lookIn f od = some (mA f)) ∧ ∀ f, RelO (fl.lookup f) (mA f) := by
  obtain ⟨t1, ho⟩ := exo_at I.hok ha
  obtain ⟨mA, hns, rel⟩ := exd_at I.hok hd
  obtain ⟨od, e, hl⟩ := lookIn_ns hns
  exact ⟨_, od, mA, ⟨ho, rfl, rfl, e⟩, hl, rel⟩
theorem pe_exf {f : Str} (he : PE X e te) (hb : attributeBase e f X.env (eval e X.env) = eval e X.env := by rfl) : PE X (.Attribute e f pos) (tExf X.K f te) := by
  refine ⟨fun pins s σ H Q I h => ?_⟩
  refine attr_of hb (thn (he.run pins s σ H _ I h) fun u s1 hh => ?_)
  obtain ⟨y, H1, I1, ry, a, C, d, fl, v, rfl, ea, ed, T, hno, hv, q⟩ := hh
  obtain rfl : u = Value.ref a := ry
  obtain ⟨ox, od, mA, J, hl, rel⟩ := inst_exo I1 ea ed
  obtain ⟨u, hu, ru⟩ := RelO.some_of (v := v) (o := mA f) (by rw [← hv]; exact rel f)
  exact HandSPX.exc_get I1.kIn J T.hg T.hk T.hs (PySem.W.findObj_own T.hd hno rfl (by rw [hl, hu])) (handed_of ru) ⟨v, H1, I1.tok _, ru, q⟩
/-- isinstance(e, c), e an exception that was made -/
def rIsX (K : PySem.W.Frag) : List V → Hp → VK → Prop := fun xs H Q => ∃ (a C : Addr) (c : V) (u : Value) (b : Bool), xs = [.ref a, c] ∧ ClsV c u ∧ (H a = some (exo a C none) ∨ ∃ d fl, H a = some (exo a C (some d)) ∧ H d = some (exd d fl)) ∧ ExcC K C ∧ PySem.W.kitOne K (.ref C) u = some b ∧ Q (.bl b) H
theorem call_isX : CallR X (.builtin "isinstance") (rIsX X.K) := by
  intro pins s σ H xs us Q I r h
  obtain ⟨a, C, c, u, b, rfl, hc, hE, T, hk, q⟩ := h
  obtain ⟨u1, u2, rfl, r1, r2⟩ := vals2 r
  obtain rfl : u1 = Value.ref a := r1
  have e2 := hc.eq r2
  subst e2
  have cl : (PySem.W.clsIn X.K C).isSome = true := by
    obtain ⟨cd, h1, _⟩ := PySem.W.any_some T.hd
    rw [h1] <;> rfl
  have fin : ∀ {ox : Obj} {od : Option Obj}, PySem.W.InstAt s.heap a ox C od → wpAny (model X.prog X.w) X.A (call (.builtin "isinstance") [.ref a, u2]) (EP X pins σ Q) X.xe s := fun J =>
    PySem.W.kia_one (PySem.W.kitx_exc cl T.hg T.hk T.hs T.ha T.hn T.ht T.hm) I.kIn J hk (fun z => nomatch z) fun tk => ⟨.bl b, H, I.tok tk, rfl, q⟩
  rcases hE with ea | ⟨d, fl, ea, ed⟩
  · obtain ⟨t1, ho⟩ := exo_at I.hok ea
    exact fin (od := none) ⟨ho, rfl, rfl, trivial⟩
  · obtain ⟨ox, od, mA, J, _, _⟩ := inst_exo I ea ed
    exact fin J
end
end XI

namespace XI
open PySem PySem.Spec PyProof.Rows L2
/-- what stands of an exception's fields behind its making: nothing, or its own dict at d -/
def dH (H : Hp) (d : Addr) : List (Str × V) → Hp
  | [] => H
  | p :: fl => upd H d (.xd (p :: fl))
def dO (d : Addr) : List (Str × V) → Option Addr
  | [] => none
  | _ :: _ => some d
section
variable {X : Cx} {pins : List (Addr × Obj)} {σ : L2.St} {H : Hp} {s : Shared} {C fI : Addr} {qual : Str} {params : Arguments} {body : List Stmt} {scope : Scope} {fs : List Str}
/-- the making of an exception that is let go at once (to be raised) -/
theorem mkM {us ws vals : List Value} {vs : List V} {ks : List Str} {Q : XK} {E : Value → Shared → Prop} (J : IniK X.prog X.K C fI qual params body scope fs) (T : OexC X.K C) (hsu : X.mg "super" = none) (hr : Room 1 X.A) (I : Inv X pins σ H s)
    (hl : us.length ≤ sizeLine) (r : Vals vs vals) (hv : vals.length = fs.length) (hfl : fs.length ≤ 900)
    (hbind : ∀ (s : Shared) (y : Value) (fd : FuncData), (∃ oc od osl, X.K.lookup fI = some ⟨oc, od, .func fd, osl⟩) → BindsTo s fd ⟨y :: us, ks.zip ws⟩ (("self", y) :: fs.zip vals))
    (q : ∀ d, H d = none → Q (.ref C) (dO d (fs.zip vs).reverse) (dH H d (fs.zip vs).reverse)) : wpAny (model X.prog X.w) X.A (call (.ref C) us (ks.zip ws)) (MkP X pins σ Q) E s := by
  obtain ⟨nm, qq, N, bs, bm, sn, sub, ab, col, dd, k0, k1, k2, k3, k5, hC, hbm⟩ := T.cls
  obtain ⟨hp, g, dr, tk, os⟩ := s
  have X0 := I.kIn
  have kp : ∀ b o, hp.get? b = some o → (two hp C us).get? b = some o := fun b o e => Heap.get?_push_of_some _ (Heap.get?_push_of_some _ e)
  have hsz : (two hp C us).objs.size = hp.objs.size + 2 := by rw [Heap.size_push, Heap.size_push]
  have hget : (two hp C us).get? (hp.objs.size + 1) = some (PySem.HandSPX.excO C hp.objs.size) := by heap_get
  have nx : X.K.lookup (hp.objs.size + 1) = none := by
    cases e : X.K.lookup (hp.objs.size + 1) with
    | none => rfl
    | some o => exact absurd (Nat.lt_of_succ_lt (Heap.lt_size (X0 _ _ e))) (Nat.lt_irrefl _)
  obtain ⟨mb, hb1, hb2⟩ := I.mod.blt
  have hn : H (hp.objs.size + 1) = none := I.hok.fresh (Nat.le_succ _)
  refine wpAny_call (callE PySem.F.excBase_ValueError (fun Y => PySem.HandSPX.refsVE_contains Y bm hbm) (X0 _ _ hC) (PySem.W.looks_findIn X0 J.ini) (fun self => PySem.W.bind_fn X0 self J.ity) hl
    (initE (s := ⟨two hp C us, g, dr, tk, os⟩) J T (X0.keeps kp) ((I.mod.glob.keeps I.bk).keeps kp) ((hb1.keeps I.bk).keeps kp) hb2 hsu (I.nolimit.keeps kp) (by have := hr.dp; show X.A.depth + 1 < _; omega) hv hfl (fun fd hfd => hbind _ _ fd hfd) hget nx fun h' t' D => ⟨rfl, ?_⟩))
  have K2 : ∀ b o, hp.get? b = some o → h'.get? b = some o := fun b o e => D.keep b o (Nat.ne_of_lt (Nat.lt_succ_of_lt (Heap.lt_size e))) (kp b o e)
  have neb : ∀ {b : Addr} {o : Obj}, hp.get? b = some o → b ≠ hp.objs.size + 1 := fun e => Nat.ne_of_lt (Nat.lt_succ_of_lt (Heap.lt_size e))
  have rel := relO_zip (fs := fs) r
  obtain ⟨G, gk', gn'⟩ := restrict h' fun b => decide (b ≠ hp.objs.size + 1)
  have gk : ∀ b, b ≠ hp.objs.size + 1 → G.get? b = h'.get? b := fun b hb => gk' b (decide_eq_true hb)
  have ge : G.get? (hp.objs.size + 1) = none := gn' _ (by simp)
  have K3 : ∀ b o, hp.get? b = some o → G.get? b = some o := fun b o e => (gk b (neb e)).trans (K2 b o e)
  have sub : ∀ b o, G.get? b = some o → h'.get? b = some o := fun b o z => by
    by_cases hb : b = hp.objs.size + 1
    · rw [hb, ge] at z
      cases z
    · exact (gk b hb).symm.trans z
  have done : ∀ (d : Addr) (H' : Hp) (od : Option Addr) (tu : Addr), d ≠ hp.objs.size + 1 → H d = none → hp.objs.size + 1 ≤ d → (∀ b, b ≠ d → H' b = H b) → HOk X.prog X.w H' G → h'.get? (hp.objs.size + 1) = some ({ cls := .ref C, dict := od, data := .fields #[.ref tu, .none, .none, .none, .bool false, .none] } : Obj) → Q (.ref C) od H' →
      MkP X pins σ Q (.ref (hp.objs.size + 1)) ⟨h', g, dr, t', os⟩ := fun d H' od tu nd hd hdl hH hok ha q' => by
    have ned : ∀ {b : Addr} {o : Obj}, hp.get? b = some o → b ≠ d := fun e => Nat.ne_of_lt (Nat.lt_of_lt_of_le (Nat.lt_succ_of_lt (Heap.lt_size e)) hdl)
    have st : ∀ b o, H b = some o → H' b = some o := fun b o e => by
      rw [hH b (ne_of_none e hd)]
      exact e
    have J1 : Inv X pins σ H' ⟨G, g, dr, t', os⟩ := I.un (t' := t') (h' := G) ⟨fun b o e _ _ _ => K3 b o e, fun b o e _ _ _ => ⟨o.slots, K3 b o e⟩, fun b o e n _ => by rw [hH b (ned e)]; exact n, fun b o e _ => ⟨o, K3 b o e⟩, fun b xs e => st _ _ e, fun b o u e => st _ _ e, fun b ps e => ⟨#[], by rw [st _ _ e]; simp⟩⟩ hok
    refine ⟨hp.objs.size + 1, _, _, ⟨G, g, dr, t', os⟩, H', .ref C, od, rfl, J1, sub, ge, ha, ⟨rfl, rfl⟩, rfl, rfl, ?_, rfl, J1.bare, raises_own T.exC T.tyC, q'⟩
    rw [hH _ nd.symm]
    exact hn
  have old : ∀ (H' : Hp), (∀ b o, H b = some o → H' b = some o) → ∀ b o, H b = some o → ObjOk X.prog X.w H' G b o := fun H' st b o e =>
    (I.hok b o e).stay (fun c v _ z => K3 c v z) (fun c z => st _ _ z) fun c xs z => st _ _ z
  by_cases hfs : fs = []
  · subst hfs
    obtain ⟨t1, ho⟩ := D.some0 rfl
    have hd : H (hp.objs.size + 2) = none := I.hok.fresh (Nat.le_add_right _ 2)
    exact done (hp.objs.size + 2) H none t1 (n21 _) hd (n12 _) (fun b _ => rfl) (fun b o e => old _ (fun c u z => z) b o e) ho (q (hp.objs.size + 2) hd)
  · have hne : (fs.zip vals).reverse ≠ [] := fun z => by
      have z2 := congrArg List.length z
      rw [List.length_reverse, List.length_zip, hv, Nat.min_self] at z2
      exact hfs (List.length_eq_zero_iff.mp z2)
    obtain ⟨t1, dx, m0, ho, dn, dne, hns, hmap, hw⟩ := D.some1 hne
    have dn' : hp.objs.size + 2 < dx := by rw [← hsz]; exact dn
    have hd : H dx = none := I.hok.fresh (nlt dn')
    have q' := q dx hd
    have rel' : ∀ f, RelO ((fs.zip vs).reverse.lookup f) (m0 f) := fun f => by rw [hmap]; exact rel f
    cases hfl2 : (fs.zip vs).reverse with
    | nil =>
      have z2 := congrArg List.length hfl2
      rw [List.length_reverse, List.length_zip, r.length, hv, Nat.min_self] at z2
      exact absurd (List.length_eq_zero_iff.mp z2) hfs
    | cons p fl =>
      rw [hfl2] at q' rel'
      refine done dx _ (some dx) t1 dne hd (nlt1 dn') (fun b h2 => upd_ne h2) (fun b o e => ?_) ho q'
      by_cases hb2 : b = dx
      · subst hb2
        have e2 := upd_same.symm.trans e
        cases e2
        exact ⟨m0, hns.at fun o y => (gk b dne).trans y, rel'⟩
      · have e2 := (upd_ne hb2).symm.trans e
        exact old _ (fun c u z => by
          show upd H dx _ c = _
          rw [upd_ne (ne_of_none z hd)]
          exact z) b o e2
end
section
variable {X : Cx} {x : Str} {C : Addr} {fs : List Str} {e : Expr} {es : List Expr} {t : TA} {p pos : Pos}
/-- raise C(e, ..) -/
theorem pmk_X (c : EC X.prog X.K X.mg x C fs) (hr : Room 1 X.A) (hg : Gl X x) (ha : PA X (e :: es) t) (hdb : (x == ("__debug__" : Str)) = false := by decide)
    (he : starEach (e :: es) X.env = (false, eval e X.env) :: starEach es X.env := by rfl) (hpl : (backTo pos (starEach es X.env)).any (·.1) = false := by rfl) :
    PMk X (.Call (.Name x p) (e :: es) [] pos) (fun σ H Q => t σ H fun vs H1 => vs.length = fs.length ∧ ∀ d, H1 d = none → Q (.ref C) (dO d (fs.zip vs).reverse) (dH H1 d (fs.zip vs).reverse)) := by
  intro pins s σ H Q I h
  obtain ⟨fI, qual, params, body, scope, J, b1, _⟩ := c.ini
  refine wpAny_Call_Name_kw (ld_glob I hg c.gC ?_ hdb)
  refine PySem.W.callWith_K (h₀ := X.base) I.ok.mod.kin c.oex.kC (thn (ha.run pos pins s σ H _ I h) fun us s1 ⟨vs, H1, I1, r, hl, q⟩ => ⟨I1.kIn, ?_⟩) he hpl
  exact mkM (ks := []) (ws := []) J c.oex c.su hr I1 (lenOk r hl c.fl) r (r.length.symm.trans hl) c.fl (fun s y fd hf => b1 s y fd hf us (r.length.symm.trans hl)) q
theorem pmk_X0 (c : EC X.prog X.K X.mg x C []) (hr : Room 1 X.A) (hg : Gl X x) (hdb : (x == ("__debug__" : Str)) = false := by decide) : PMk X (.Call (.Name x p) [] [] pos) (fun _ H Q => Q (.ref C) none H) := by
  intro pins s σ H Q I h
  obtain ⟨fI, qual, params, body, scope, J, b1, _⟩ := c.ini
  refine wpAny_Call_Name_kw (ld_glob I hg c.gC ?_ hdb)
  refine PySem.W.callWith_K0 I.kIn c.oex.kC ?_
  exact mkM (ks := []) (ws := []) (us := []) (vs := []) (vals := []) J c.oex c.su hr I (Nat.zero_le _) .nil rfl (Nat.zero_le _) (fun s y fd hf => b1 s y fd hf [] rfl) fun d _ => h
end
end XI

/-! a method called, an object made, in a try -/
namespace XI
open PySem PySem.Spec PyProof.Rows L2
section
variable {X : Cx} {CX : CXT} {k : Nat} {f C : Addr} {fd : FuncData} {ps : List Str} {sp : Sp} {E : L2.St → XK} {x m : Str} {p pos apos : Pos} {e o : Expr} {es : List Expr} {ta : TE} {t : TA}
def tMethS (C : Addr) (m : Str) (sp : Sp) (E : L2.St → XK) (ta : TE) (t : TA) : TE := fun σ H Q => ta σ H fun x H1 => ∃ a dx fs, x = .ref a ∧ H1 a = some (.ins C dx fs) ∧ fs.lookup m = none ∧ t σ H1 fun vs H2 => sp (x :: vs) H2 Q (E σ)
theorem pe_methS {pl : Sem Bool} (he : PE X o ta) (c : Cls X.K C) (hm : Meth X.K C m f) (F : FnOk X.prog X.w X.K X.mg X.base CX k f fd ps sp) (hr : Room k X.A) (hb : Binds X.K fd ps []) (hx : ∀ σ, PassesAt CX X σ (E σ)) (ha : PA X (e :: es) t)
    (hst : starEach (e :: es) X.env = (false, eval e X.env) :: starEach es X.env := by rfl) (hpl : (backTo pos (starEach es X.env)).any (·.1) = false := by rfl)
    (ht : eval (.Call (.Attribute o m apos) (e :: es) [] pos) X.env = (do
      let ov ← eval o X.env; standAt apos.atName
      let (g, first) ← holding [ov] (getMethod ov m pl)
      callWith pos g first (backTo pos (starEach (e :: es) X.env)) (backToKw pos (keywordEach [] X.env))) := by rfl) : PE X (.Call (.Attribute o m apos) (e :: es) [] pos) (tMethS C m sp E ta t) := by
  refine ⟨fun pins s σ H Q I h => PySem.W.methodCall_KW (pl := pl) (thn (he.run pins s σ H _ I h) fun u s1 hh => ?_) ht⟩
  obtain ⟨y, H1, I1, ry, a, dx, fs, rfl, ea, l, q⟩ := hh
  obtain rfl : u = Value.ref a := ry
  refine getmeth_ok I1 ea c hm l (PySem.W.callWith_K (first := [.ref a]) (h₀ := X.base) I.ok.mod.kin hm.kp (thn (ha.run pos pins s1 σ H1 _ I1 q) fun us s2 hh2 => ?_) hst hpl)
  obtain ⟨vs, H2, I2, r, q2⟩ := hh2
  exact ⟨I2.kIn, run_fnS (us := .ref a :: us) (vs := .ref a :: vs) F hr hb (hx σ) I2 (.cons rfl r) q2⟩
def tMakeS (C : Addr) (sp : Sp) (E : L2.St → XK) (t : TA) : TE := fun σ H Q => t σ H fun vs H1 => ∀ y dx, H1 y = none → H1 dx = none → dx ≠ y → sp (.ref y :: vs) (upd (upd H1 dx (.own y)) y (.ins C dx [])) (fun v H2 => v = .non ∧ Q (.ref y) H2) (E σ)
theorem run_makeS {pins : List (Addr × Obj)} {σ : L2.St} {H : Hp} {s : Shared} {Q : VK} {us : List Value} {vs : List V} (M : Mk X.K C f) (F : FnOk X.prog X.w X.K X.mg X.base CX k f fd ps sp) (hr : Room (k + 1) X.A) (hb : Binds X.K fd ps [])
    (hx : PassesAt CX X σ (E σ)) (I : Inv X pins σ H s) (r : Vals vs us)
    (h : ∀ y dx, H y = none → H dx = none → dx ≠ y → sp (.ref y :: vs) (upd (upd H dx (.own y)) y (.ins C dx [])) (fun v H2 => v = .non ∧ Q (.ref y) H2) (E σ)) : wpAny (model X.prog X.w) X.A (call (.ref C) us) (EP X pins σ Q) X.xe s := by
  obtain ⟨N, hN⟩ : ∃ N, N = s.heap.objs.size := ⟨_, rfl⟩
  have q0 := h (s.heap.objs.size + 1) s.heap.objs.size (I.hok.fresh (Nat.le_succ _)) (I.hok.fresh (Nat.le_refl _)) (Nat.ne_of_lt (Nat.lt_succ_self _))
  have I2 := Inv.made (C := C) I
  have r2 : Vals (V.ref (s.heap.objs.size + 1) :: vs) (Value.ref (s.heap.objs.size + 1) :: us) := .cons rfl r
  have hl : (Value.ref (s.heap.objs.size + 1) :: us).length = ps.length := by rw [← r2.length, F.len _ _ _ _ q0]
  have hb2 := hb _ (Value.ref (s.heap.objs.size + 1) :: us) I2.kIn (by rw [List.append_nil]; exact hl)
  rw [List.append_nil] at hb2
  refine wpAny_call (make_map (f := f) I.kIn M.makes M.init (beq_iff_eq.mp M.fn) (codeAny_mono (F.run _ X.stack _ _ ⟨_, []⟩ _ _ _ (E σ) (hr.make C us []) (I2.env0.make C us []) hb2 r2 q0) fun r s' hq' => ?_))
  cases r with
  | error er => exact hx pins _ _ er s' I2 hq'
  | ok fl =>
    cases fl with
    | ret u =>
      obtain ⟨v, H', I3, rv, ev, q3⟩ := I2.after hq'
      subst ev
      exact ⟨rv, ⟨V.ref (s.heap.objs.size + 1), H', I3, rfl, q3⟩⟩
    | next => exact hq'.elim
    | brk => exact hq'.elim
    | cont => exact hq'.elim
theorem pe_makeS (M : Mk X.K C f) (F : FnOk X.prog X.w X.K X.mg X.base CX k f fd ps sp) (hr : Room (k + 1) X.A) (hg : Gl X x) (hm : X.mg x = some (.ref C)) (hb : Binds X.K fd ps []) (hx : ∀ σ, PassesAt CX X σ (E σ)) (ha : PA X (e :: es) t)
    (hdb : (x == ("__debug__" : Str)) = false := by decide) (he : starEach (e :: es) X.env = (false, eval e X.env) :: starEach es X.env := by rfl) (hpl : (backTo pos (starEach es X.env)).any (·.1) = false := by rfl) :
    PE X (.Call (.Name x p) (e :: es) [] pos) (tMakeS C sp E t) := by
  refine ⟨fun pins s σ H Q I h => wpAny_Call_Name_kw (ld_glob I hg hm ?_ hdb)⟩
  refine PySem.W.callWith_K (h₀ := X.base) I.ok.mod.kin M.kp (thn (ha.run pos pins s σ H _ I h) fun us s1 hh => ?_) he hpl
  obtain ⟨vs, H1, I1, r, q⟩ := hh
  exact ⟨I1.kIn, run_makeS M F hr hb (hx σ) I1 r q⟩
end
end XI

namespace K7
open PySem PySem.Spec PyProof.Rows L2 C8 XE XI XR SX
/-! word_at of any text -/
/-- what it raises, with one field -/
def exO (BL : Addr) (f : Str) (v : V) (H : Hp) (E : XK) : Prop := ∀ H' d, Same H H' → H' d = none → E (.ref BL) (some d) (upd H' d (.xd [(f, v)]))
/-- a def that may let an own exception out, by its body -/
theorem fnX {P : Program} {w : World} {K : PySem.W.Frag} {mg : Str → Option Value} {base : Heap} {x qual : Str} {st : Stmt} {f : Addr} {fd : FuncData} {N ps : List Str} {k : Nat} {sp : Sp} (F : C8.Fun K x qual st f fd) (S : FnScope N ps (fnScope st)) (len : ∀ vs H Q E, sp vs H Q E → vs.length = ps.length)
    (hbody : ∀ (cdv : Value) (A : Around) (outer : List Env) (s : Shared) (H : Hp) (vs : List V) (Q : VK) (E : XK), Room k (A.deeper (envOfC qual (fnScope st) s.heap.objs.size f cdv)) → sp vs H Q E →
      ∃ t, PSs (cxOf (L2.CX P w) P w K mg base N qual (fnScope st) f cdv A outer s H E) (fnBody st) t ∧ t { nx := fun _ H' => Q .non H', rt := Q } (start N vs) H) : FnOk P w K mg base (L2.CX P w) (k + 1) f fd ps sp := by
  obtain ⟨oc, od, dV, kV, doc, pm, an, cdv, ct, osl, rfl, lk, hcd⟩ := F.ex
  exact fn_of lk hcd S len fun A outer s H vs Q E hr hsp => hbody cdv A outer s H vs Q E hr hsp
theorem wordS_wd {r : List Nat} (h : wd r ≠ []) : wordS (S (wd r)) = true := by
  have h1 : (S (wd r)).length = (wd r).length := rfl
  have h2 := wd_len (r := r)
  have h3 : 1 ≤ (wd r).length := List.length_pos_iff.mpr h
  unfold wordS
  rw [Bool.and_eq_true, Bool.and_eq_true]
  refine ⟨decide_eq_true (by rw [h1]; exact h3), decide_eq_true (by rw [h1]; exact h2), List.all_eq_true.mpr fun c hc => ?_⟩
  exact wd_let (r := r) c hc
def spWA (BT : Addr) : Sp := fun vs H Q E => ∃ (T : Str) (n : Nat), vs = [.str T, .int n] ∧ T.length ≤ 1000000 ∧ n ≤ T.length ∧ (wd ((TL.tl T).drop n) = [] → exO BT "at" (.int n) H E) ∧ (wd ((TL.tl T).drop n) ≠ [] → Q (.str (S (wd ((TL.tl T).drop n)))) H)
section
variable {P : Program} {w : World} {K : PySem.W.Frag} {mg : Str → Option Value} {base : Heap}
theorem c_wordAtG {BT f : Addr} {fd : FuncData} (F : Def K mg "word_at" sWordAt f fd) (T : Blt4 mg) (G : Gl mg) (EB : EC P K mg "BadText" BT ["at"]) : FnOk P w K mg base (L2.CX P w) 2 f fd ["text", "at"] (spWA BT) := by
  refine fnX F.fn scWordAt (fun vs H Q E h => ?_) (fun cdv A outer s H vs Q E hr h => ?_)
  · obtain ⟨X, n, rfl, _⟩ := h
    rfl
  · obtain ⟨X, n, rfl, hX, hn, kE, k⟩ := h
    have nd := scWordAt.nd
    refine ⟨_, pss_cons (ps_set (i := 2) nd rfl (Or.inl rfl) (pv 1))
      (pss_cut (ps_while (passes_of rfl) (pw_and (pt_cmp (pc_lt (pv 2) (pe_callB call_len_str (by rfl) T.len PySem.boot_len (pa_cons (pv 0) pa_nil)))) (pw_and (pt_cmp (pc_lt (pv 2) (pe_op op_add (pv 1) (pe_gc (by rfl) G.lon)))) (pw_and1 (pt_cmpR op_in_sign (pe_ix ix_str (pv 0) (pv 2) fun _ _ => rfl) (pe_gc (by rfl) G.let_) rfl)))).pt
        (pss_one (ps_set (i := 2) nd rfl (Or.inl rfl) (pe_op op_add (pv 2) pe_int))))
      (pss_cons (ps_if (pt_cmp (pc_eqI (pv 2) (pv 1))) (pss_one (ps_raise rfl (takes_of rfl rfl rfl rfl) (pmk_X EB (hr.mono (by decide)) (by rfl) (pa_cons (pv 1) pa_nil)))) pss_nil)
      (pss_one (ps_ret (pe_slice sl_str (pv 0) (po_some (pv 1)) (po_some (pv 2))))))), ?_⟩
    obtain ⟨r', he, hr'⟩ := wd_app ((TL.tl X).drop n)
    generalize hz : wd ((TL.tl X).drop n) = zl at kE k he hr'
    have hlet : ∀ c ∈ zl, c ∈ TL.tl letters := fun c hc => by
      rw [← hz] at hc
      exact of_decide_eq_true (wd_let c hc)
    have hz8 : zl.length ≤ 8 := by rw [← hz]; exact wd_len
    have hlX : (TL.tl X).length = X.length := (TL.len_tl X).symm
    have htot : X.length = n + zl.length + r'.length := by
      have := congrArg List.length he
      rw [List.length_drop, List.length_append] at this
      omega
    have hsl : X.length ≤ sizeLine := by rw [sizeLine_eq]; omega
    have sign : ∀ (i c : Nat), (zl ++ r')[i]? = some c → atI X.cps.toList ((n + i : Nat) : Int) = some c := fun i c h => by
      refine atI_nat ?_
      have : (TL.tl X)[n + i]? = ((TL.tl X).drop n)[i]? := by rw [List.getElem?_drop]
      show (TL.tl X)[n + i]? = _
      rw [this, he]
      exact h
    have fin : cutS X (some (n : Int)) (some ((n + zl.length : Nat) : Int)) = S zl := by
      rw [cut_S hn (by omega), he, show n + zl.length - n = zl.length by omega, List.take_left' rfl]
    refine ⟨_, rfl, ?_⟩
    refine ⟨fun σ H' => σ = [some (.str X), some (.int n), some (.int ((n + zl.length : Nat) : Int))] ∧ H' = H, ?_, ?_⟩
    · refine ⟨fun μ σ H' => ∃ i : Nat, μ = zl.length - i ∧ i ≤ zl.length ∧ σ = [some (.str X), some (.int n), some (.int ((n + i : Nat) : Int))] ∧ H' = H, ⟨_, 0, rfl, Nat.zero_le _, rfl, rfl⟩, ?_⟩
      rintro μ σ H' ⟨i, rfl, hi, rfl, rfl⟩
      have ex : i = zl.length → [some (V.str X), some (.int n), some (.int ((n + i : Nat) : Int))] = [some (V.str X), some (.int n), some (.int ((n + zl.length : Nat) : Int))] ∧ H' = H' := fun e => by rw [e]; exact ⟨rfl, rfl⟩
      refine ⟨_, rfl, _, rfl, X, rfl, hsl, (n + i : Nat), X.length, rfl, rfl, _, rfl, ?_⟩
      by_cases h1 : n + i < X.length
      · refine iteBt (decide_eq_true (by omega)) ?_
        refine ⟨_, rfl, _, rfl, _, _, rfl, rfl, _, _, rfl, rfl, _, rfl, ?_⟩
        by_cases h2 : i < 8
        · refine iteBt (decide_eq_true (by omega)) ?_
          obtain ⟨c, hc⟩ : ∃ c, (zl ++ r')[i]? = some c := ⟨_, List.getElem?_eq_getElem (by rw [List.length_append]; omega)⟩
          refine ⟨_, rfl, _, rfl, X, _, c, rfl, rfl, hsl, sign i c hc, c, letters, rfl, rfl, _, rfl, ?_⟩
          by_cases h3 : i = zl.length
          · have hr0 : r'.head? = some c := by
              rw [List.getElem?_append_right (by omega), show i - zl.length = 0 by omega] at hc
              rw [List.head?_eq_getElem?]
              exact hc
            have hn0 : decide (c ∈ letters.cps.toList) = false := by
              rcases hr' with h8 | h8
              · omega
              · exact h8 c hr0
            exact iteBf hn0 (ex h3)
          · rw [List.getElem?_append_left (by omega)] at hc
            refine iteBt (decide_eq_true (hlet c (List.mem_of_getElem? hc))) ?_
            refine ⟨fun σ H2 => σ = [some (.str X), some (.int n), some (.int ((n + (i + 1) : Nat) : Int))] ∧ H2 = H', fun σ' H'' ⟨e1, e2⟩ => ⟨zl.length - (i + 1), by omega, i + 1, rfl, by omega, e1, e2⟩, ?_⟩
            refine ⟨_, rfl, _, 1, rfl, rfl, ?_, rfl⟩
            show [some (V.str X), some (.int n), some (.int (((n + i : Nat) : Int) + 1))] = _
            rw [show ((n + i : Nat) : Int) + 1 = ((n + (i + 1) : Nat) : Int) by omega]
        · exact iteBf (decide_eq_false (by omega)) (ex (by omega))
      · exact iteBf (decide_eq_false (by omega)) (ex (by omega))
    rintro σ H1 ⟨rfl, rfl⟩
    refine ⟨_, rfl, _, rfl, _, _, rfl, rfl, _, rfl, ite2 (fun c => ?_) (fun c => ?_)⟩
    · have c := of_decide_eq_true c
      exact ⟨_, rfl, rfl, fun dd ndd => kE (List.length_eq_zero_iff.mp (by omega)) H1 dd (Same.refl _) ndd⟩
    · have hne : zl ≠ [] := fun e => c (decide_eq_true (by rw [e]; rfl))
      refine ⟨_, rfl, _, rfl, (n : Int), rfl, _, rfl, ((n + zl.length : Nat) : Int), rfl, X, rfl, hsl, ?_⟩
      rw [fin]
      exact k hne
end
end K7

namespace K7
open PySem PySem.Spec PyProof.Rows L2 C8 XE XI XR SX
/-! closed of any text -/
def ofF (f : FR) : Fr := (f.1, f.2, [])
def frO (fs : List FR) : List Fr := (fs.map ofF).reverse
theorem frO_cons (z : Str) (dn : List D) (fs : List FR) : frO ((z, dn) :: fs) = frO fs ++ [(z, dn, [])] := by
  show (ofF (z, dn) :: fs.map ofF).reverse = _
  rw [List.reverse_cons]
  rfl
def spCG (BT : Addr) : Sp := fun vs H Q E => ∃ (T : Str) (n : Nat) (o : Addr) (v : V) (cur : D) (ps : List Addr) (fs : List FR) (H0 : Hp), vs = [.str T, .int n, .ref o, v] ∧ T.length ≤ 1000000 ∧ n ≤ T.length ∧ Op H0 H o ps (frO fs) ∧ DAt nol H v cur ∧ fs.length ≤ 10000 ∧ (∀ fr ∈ fs, fr.2.length ≤ 10000) ∧
  (∀ k, clG cur fs n ((TL.tl T).drop n) = .bad k → ∀ H' d, Same H0 H' → H' d = none → E (.ref BT) (some d) (upd H' d (.xd [("at", .int (k : Nat))]))) ∧
  (∀ D' (n' : Nat), clG cur fs n ((TL.tl T).drop n) = .done D' n' → ∀ v' t H', Op H0 H' o [] [] → DAt nol H' v' D' → H' t = some (.tup [v', .int n']) → Q (.ref t) H') ∧
  ∀ fs' (n' : Nat), clG cur fs n ((TL.tl T).drop n) = .more fs' n' → ∀ ps' v' t H', Op H0 H' o ps' (frO fs') → H' t = some (.tup [v', .int n']) → Q (.ref t) H'
theorem eqs (l : List Nat) (d : Nat) : decide (V.str (S (l.take 1)) = V.str (S [d])) = decide (l.head? = some d) := by
  refine decide_eq_decide.mpr ⟨fun e => ?_, fun e => ?_⟩
  · have e : l.take 1 = [d] := congrArg TL.tl (V.str.inj e)
    cases l with
    | nil => cases e
    | cons x l => injection e with e _; rw [e]; rfl
  · cases l with
    | nil => cases e
    | cons x l => cases e; rfl
section
variable {P : Program} {w : World} {K : PySem.W.Frag} {mg : Str → Option Value} {base : Heap}
theorem c_closedG {BT f : Addr} {fd : FuncData} (F : Def K mg "closed" sClosed f fd) (T : Blt4 mg) (EB : EC P K mg "BadText" BT ["at"]) : FnOk P w K mg base (L2.CX P w) 2 f fd ["text", "at", "opened", "node"] (spCG BT) := by
  refine fnX F.fn scClosed (fun vs H Q E h => ?_) (fun cdv A outer s H vs Q E hr h => ?_)
  · obtain ⟨X, n, o, v, cur, ps, fs, H0, rfl, _⟩ := h
    rfl
  · obtain ⟨X, n, o, v, cur, ps, frs, H0, rfl, hX, hn, hop, hv, hfl, hfd, kB, kL, kR⟩ := h
    have nd := scClosed.nd
    refine ⟨_, pss_cons (ps_while (passes_of rfl) (pt_truth (pv 2) (by intro _; rfl))
        (pss_cons (ps_expr (pe_bm PySem.F.plainAttrs_list PySem.F.slot_list_append PySem.F.type_list_append mt_append (pe_ix ix_list (pv 2) (pe_un un_neg pe_int) fun _ _ => rfl) (pa_cons (pv 3) pa_nil)))
        (pss_cons (ps_set (i := 4) nd rfl (Or.inl rfl) (pe_slice sl_str (pv 0) (po_some (pv 1)) (po_some (pe_op op_add (pv 1) pe_int))))
        (pss_cons (ps_if (pt_cmpR op_eq (pv 4) pe_str (nomark _))
            (pss_cons (ps_if (pt_cmpR op_ne (pe_slice sl_str (pv 0) (po_some (pe_op op_add (pv 1) pe_int)) (po_some (pe_op op_add (pv 1) pe_int))) pe_str (nomark _)) (pss_one (ps_raise rfl (takes_of rfl rfl rfl rfl) (pmk_X EB (hr.mono (by decide)) (by rfl) (pa_cons (pe_op op_add (pv 1) pe_int) pa_nil)))) pss_nil)
            (pss_one (ps_ret (pe_tup (pa_cons (pv 3) (pa_cons (pe_op op_add (pv 1) pe_int) pa_nil)))))) pss_nil)
        (pss_cons (ps_if (pt_cmpR op_ne (pv 4) pe_str (nomark _)) (pss_one (ps_raise rfl (takes_of rfl rfl rfl rfl) (pmk_X EB (hr.mono (by decide)) (by rfl) (pa_cons (pv 1) pa_nil)))) pss_nil)
        (pss_cons (ps_set (i := 3) nd rfl (Or.inl rfl) (pe_callTy call_tuple_of (by rfl) T.tup (by decide +kernel) (pa_cons (pe_bm0 PySem.F.plainAttrs_list PySem.F.slot_list_pop PySem.F.type_list_pop mt_pop (pv 2)) pa_nil)))
        (pss_one (ps_set (i := 1) nd rfl (Or.inl rfl) (pe_op op_add (pv 1) pe_int)))))))))
      (pss_one (ps_ret (pe_tup (pa_cons (pv 3) (pa_cons (pv 1) pa_nil))))), ?_⟩
    have hsl : X.length ≤ sizeLine := by rw [sizeLine_eq]; omega
    have hlX : (TL.tl X).length = X.length := (TL.len_tl X).symm
    generalize hC : clG cur frs n ((TL.tl X).drop n) = C at kB kL kR
    refine ⟨fun m σ H' => ∃ (n' : Nat) (v4 : Option V) (cur' : D) (v' : V) (ps' : List Addr) (fs : List FR), σ = [some (.str X), some (.int n'), some (.ref o), some v', v4] ∧ m = fs.length ∧ n' ≤ X.length ∧ Op H0 H' o ps' (frO fs) ∧ DAt nol H' v' cur' ∧ fs.length ≤ 10000 ∧ (∀ fr ∈ fs, fr.2.length ≤ 10000) ∧ clG cur' fs n' ((TL.tl X).drop n') = C,
      ⟨_, n, none, cur, v, ps, frs, rfl, rfl, hn, hop, hv, hfl, hfd, hC⟩, ?_⟩
    rintro m σ H1 ⟨n1, v4, c1, v1, ps1, fs1, rfl, rfl, hn1, hop1, hv1, hfl1, hfd1, hcl⟩
    refine ⟨_, rfl, !(ps1.map V.ref).isEmpty, .inl ⟨_, SqL.of hop1.ho, rfl⟩, ?_⟩
    cases fs1 with
    | nil =>
      have hps : ps1 = [] := by
        have := hop1.fr
        cases this
        rfl
      subst hps
      refine iteBf rfl ⟨_, rfl, _, rfl, (by show 2 ≤ sizeLine; decide), fun t nt => ?_⟩
      exact kL c1 n1 hcl.symm v1 t _ (hop1.same (same_upd nt)) (DAt.hold (.same (same_upd nt)) _ hv1) upd_same
    | cons fr fs =>
      obtain ⟨z, dn⟩ := fr
      have hfr0 := hop1.fr
      rw [frO_cons] at hfr0
      obtain ⟨qs, p, rfl, hq, us, hp, hus⟩ := paired_snoc hfr0
      have hpo : p ≠ o := fun e => hop1.on (by rw [← e]; simp)
      have hpq : p ∉ qs := by
        have := hop1.nd
        rw [List.nodup_append] at this
        exact fun h => this.2.2 p h p (List.mem_singleton.mpr rfl) rfl
      have hqn : qs.Nodup := by
        have := hop1.nd
        rw [List.nodup_append] at this
        exact this.1
      rw [List.length_cons] at hfl1
      have hdn : dn.length ≤ 10000 := hfd1 (z, dn) List.mem_cons_self
      have hul : us.length = dn.length := hus.len
      have hlast : atI ((qs ++ [p]).map V.ref) (-1) = some (.ref p) := by
        rw [List.map_append]
        exact atI_last _ _
      refine iteBt (by simp) ?_
      refine ⟨fun σ H' => ∃ (n' : Nat) (v4 : Option V) (cur' : D) (v' : V) (ps' : List Addr) (fs' : List FR), σ = [some (.str X), some (.int n'), some (.ref o), some v', v4] ∧ fs'.length = fs.length ∧ n' ≤ X.length ∧ Op H0 H' o ps' (frO fs') ∧ DAt nol H' v' cur' ∧ fs'.length ≤ 10000 ∧ (∀ fr ∈ fs', fr.2.length ≤ 10000) ∧ clG cur' fs' n' ((TL.tl X).drop n') = C,
        fun σ' H' ⟨n', v4, c', v', ps', fs', e1, e2, e3⟩ => ⟨fs'.length, by rw [e2, List.length_cons]; exact Nat.lt_succ_self _, n', v4, c', v', ps', fs', e1, rfl, e3⟩, ?_⟩
      refine ⟨_, rfl, 1, rfl, o, _, -1, .ref p, rfl, rfl, SqL.of hop1.ho, hlast, .inl ⟨rfl, _, SqL.of hp⟩, _, rfl, p, _, v1, rfl, rfl, hp, by rw [sizeLine_eq, List.length_cons]; omega, ?_⟩
      have b1 : But p H1 (upd H1 p (.lst (.str z :: us ++ [v1]))) := fun c u e n => by rw [upd_ne n]; exact e
      have hp2 : (upd H1 p (.lst (.str z :: us ++ [v1]))) p = some (.lst (.str z :: (us ++ [v1]))) := upd_same
      have ho2 : (upd H1 p (.lst (.str z :: us ++ [v1]))) o = some (.lst ((qs ++ [p]).map V.ref)) := by rw [upd_ne hpo.symm]; exact hop1.ho
      have hq2 := fr_keep (o := .lst (.str z :: us ++ [v1])) hp hpq hq
      have hv2 : DAt nol (upd H1 p (.lst (.str z :: us ++ [v1]))) v1 c1 := DAt.hold (.but1 hp b1 fun _ g => g.elim) _ hv1
      have hus2 : DAts nol (upd H1 p (.lst (.str z :: us ++ [v1]))) (us ++ [v1]) (dn ++ [c1]) := DAts.app (DAts.hold (.but1 hp b1 fun _ g => g.elim) _ hus) ⟨hv2, trivial⟩
      have s02 : Same H0 (upd H1 p (.lst (.str z :: us ++ [v1]))) := fun c u e => by rw [upd_ne (ne_of_none e (hop1.np p (by simp)))]; exact hop1.sm _ _ e
      generalize upd H1 p (.lst (.str z :: us ++ [v1])) = H2 at hp2 ho2 hq2 hv2 hus2 s02
      generalize hR : (TL.tl X).drop n1 = R at hcl
      have hRl := congrArg List.length hR
      rw [List.length_drop] at hRl
      refine ⟨_, rfl, _, rfl, (n1 : Int), rfl, _, rfl, (n1 : Int), 1, rfl, rfl, ((n1 + 1 : Nat) : Int), rfl, X, rfl, hsl, ?_⟩
      rw [cut_S hn1 (by omega), hR, show n1 + 1 - n1 = 1 by omega]
      refine ⟨_, rfl, rfl, _, rfl, ite2 (fun c => ?_) (fun c => ?_)⟩
      · have hh : R.head? = some 44 := of_decide_eq_true ((eqs R 44).symm.trans c)
        obtain ⟨r, rfl⟩ : ∃ r, R = 44 :: r := by
          cases R with
          | nil => cases hh
          | cons x r => cases hh; exact ⟨r, rfl⟩
        rw [List.length_cons] at hRl
        have e2 : (TL.tl X).drop (n1 + 1) = r := by rw [← List.drop_drop, hR]; rfl
        refine ⟨_, rfl, _, rfl, (n1 : Int), 1, rfl, rfl, ((n1 + 1 : Nat) : Int), rfl, _, rfl, (n1 : Int), 2, rfl, rfl, ((n1 + 2 : Nat) : Int), rfl, X, rfl, hsl, ?_⟩
        rw [cut_S (by omega) (by omega), e2, show n1 + 2 - (n1 + 1) = 1 by omega]
        refine ⟨rfl, _, rfl, ?_⟩
        have hx := eqs r 32
        by_cases h32 : r.head? = some 32
        · rw [decide_eq_true h32] at hx
          refine iteBf (by first | (show (!decide (V.str (S (List.take 1 r)) = V.str (S [32]))) = false; rw [hx]; rfl) | (show decide (V.str (S (List.take 1 r)) ≠ V.str (S [32])) = false; exact decide_eq_false fun e => e (of_decide_eq_true hx))) ?_
          refine ⟨_, rfl, _, rfl, (n1 : Int), 2, rfl, rfl, (by show 2 ≤ sizeLine; decide), fun tp ntp => ?_⟩
          have hcl' : C = .more ((z, dn ++ [c1]) :: fs) (n1 + 2) := by
            rw [← hcl]
            show (if 44 = 44 then (if r.head? = some 32 then Cl.more ((z, dn ++ [c1]) :: fs) (n1 + 2) else .bad (n1 + 1)) else _) = _
            rw [if_pos rfl, if_pos h32]
          have hk := kR ((z, dn ++ [c1]) :: fs) (n1 + 2) hcl' (qs ++ [p]) v1 tp (upd H2 tp (.tup [v1, .int ((n1 : Int) + 2)])) ?_ ?_
          · exact hk
          · refine Op.same ?_ (same_upd ntp)
            refine ⟨s02, hop1.no, hop1.np, hop1.nd, hop1.on, ho2, ?_⟩
            rw [frO_cons]
            exact paired_app hq2 (.cons ⟨us ++ [v1], hp2, hus2⟩ .nil)
          · rw [upd_same]
            rfl
        · rw [decide_eq_false h32] at hx
          refine iteBt (by first | (show (!decide (V.str (S (List.take 1 r)) = V.str (S [32]))) = true; rw [hx]; rfl) | (show decide (V.str (S (List.take 1 r)) ≠ V.str (S [32])) = true; exact decide_eq_true (of_decide_eq_false hx))) ?_
          have hcl' : C = .bad (n1 + 1) := by
            rw [← hcl]
            show (if 44 = 44 then (if r.head? = some 32 then Cl.more ((z, dn ++ [c1]) :: fs) (n1 + 2) else .bad (n1 + 1)) else _) = _
            rw [if_pos rfl, if_neg h32]
          exact ⟨_, rfl, (n1 : Int), 1, rfl, rfl, rfl, fun dd ndd => kB (n1 + 1) hcl' H2 dd s02 ndd⟩
      · have h44 : ¬ R.head? = some 44 := fun h => c ((eqs R 44).trans (decide_eq_true h))
        refine ⟨_, rfl, rfl, _, rfl, ?_⟩
        have hx := eqs R 41
        by_cases h41 : R.head? = some 41
        · rw [decide_eq_true h41] at hx
          obtain ⟨r, rfl⟩ : ∃ r, R = 41 :: r := by
            cases R with
            | nil => cases h41
            | cons x r => cases h41; exact ⟨r, rfl⟩
          rw [List.length_cons] at hRl
          refine iteBf (by first | (show (!decide (V.str (S (List.take 1 (41 :: r))) = V.str (S [41]))) = false; rw [hx]; rfl) | (show decide (V.str (S (List.take 1 (41 :: r))) ≠ V.str (S [41])) = false; exact decide_eq_false fun e => e (of_decide_eq_true hx))) ?_
          have hcl' : clG (.sq (.fl (.str z) :: (dn ++ [c1]))) fs (n1 + 1) r = C := by
            rw [← hcl]
            show _ = (if 41 = 44 then _ else if 41 = 41 then clG (.sq (.fl (.str z) :: (dn ++ [c1]))) fs (n1 + 1) r else _)
            rw [if_neg (by decide), if_pos rfl]
          refine ⟨_, rfl, .inl ⟨rfl, _, SqL.of ho2⟩, o, _, .ref p, rfl, rfl, ho2, by simp, ?_⟩
          have ed : ((qs ++ [p]).map V.ref).dropLast = qs.map V.ref := by simp
          rw [ed]
          have hp3 : (upd H2 o (.lst (qs.map V.ref))) p = some (.lst (.str z :: (us ++ [v1]))) := by rw [upd_ne hpo]; exact hp2
          refine ⟨p, _, rfl, .inl ⟨SqL.of hp3, fun tp ntp => ?_⟩⟩
          have bo : But o H2 (upd H2 o (.lst (qs.map V.ref))) := fun c u e n => by rw [upd_ne n]; exact e
          have hoq : o ∉ qs := fun h => hop1.on (List.mem_append_left _ h)
          have st : Same (upd H2 o (.lst (qs.map V.ref))) (upd (upd H2 o (.lst (qs.map V.ref))) tp (.tup (.str z :: (us ++ [v1])))) := same_upd ntp
          refine ⟨_, rfl, (n1 : Int), 1, rfl, rfl, n1 + 1, _, .sq (.fl (.str z) :: (dn ++ [c1])), .ref tp, qs, fs, rfl, rfl, by omega, ?_, ?_, by omega, fun fr hfr => hfd1 fr (List.mem_cons_of_mem _ hfr), by rw [← List.drop_drop, hR]; exact hcl'⟩
          · refine Op.same ⟨fun c u e => by rw [upd_ne (ne_of_none e hop1.no)]; exact s02 _ _ e, hop1.no, fun q hq => hop1.np q (List.mem_append_left _ hq), hqn, hoq, upd_same, fr_keep ho2 hoq hq2⟩ st
          · exact ⟨tp, _, rfl, .inl upd_same, rfl, ⟨rfl, rfl⟩, DAts.hold (.same st) _ (DAts.hold (.but1 ho2 bo fun _ g => g.elim) _ hus2)⟩
        · rw [decide_eq_false h41] at hx
          refine iteBt (by first | (show (!decide (V.str (S (List.take 1 R)) = V.str (S [41]))) = true; rw [hx]; rfl) | (show decide (V.str (S (List.take 1 R)) ≠ V.str (S [41])) = true; exact decide_eq_true (of_decide_eq_false hx))) ?_
          have hcl' : C = .bad n1 := by
            rw [← hcl]
            cases R with
            | nil => rfl
            | cons x r =>
              show (if x = 44 then _ else if x = 41 then _ else Cl.bad n1) = _
              rw [if_neg (fun e => h44 (by rw [e]; rfl)), if_neg (fun e => h41 (by rw [e]; rfl))]
          exact ⟨_, rfl, rfl, fun dd ndd => kB n1 hcl' H2 dd s02 ndd⟩
end
end K7

namespace K7
open PySem PySem.Spec PyProof.Rows L2 C8 XE XI XR SX
/-! read_whole of any text -/
theorem wd_nil {R : List Nat} (h : wd R = []) : R = [] ∨ ∃ c r, R = c :: r ∧ letB c = false := by
  cases R with
  | nil => exact .inl rfl
  | cons c r =>
    refine .inr ⟨c, r, rfl, ?_⟩
    cases hc : letB c with
    | false => rfl
    | true =>
      unfold wd at h
      rw [List.take_succ_cons, List.takeWhile_cons, if_pos hc] at h
      cases h
theorem flt_no {b : Bool} {dp n : Nat} {R : List Nat} (h : wd R = []) (h63 : b = true → R.head? ≠ some 63) : flt b .beg 0 dp n R = some n := by
  rcases wd_nil h with rfl | ⟨c, r, rfl, hc⟩
  · unfold flt okE
    simp
  · unfold flt
    have : nxt b .beg 0 dp c = none := by
      unfold nxt
      rw [if_neg (fun z => h63 z.2.2 (by rw [z.2.1]; rfl))]
      simp [hc]
    rw [this]
theorem flt_noH {b : Bool} {dp n : Nat} {R : List Nat} (h : wd R = []) : flt b .hol 0 dp n R = some n := by
  rcases wd_nil h with rfl | ⟨c, r, rfl, hc⟩
  · unfold flt okE
    simp
  · unfold flt
    have : nxt b .hol 0 dp c = none := by
      unfold nxt
      simp [hc]
    rw [this]
theorem flt_mark {dp n : Nat} {R : List Nat} : flt true .beg 0 dp n (63 :: R) = flt true .hol 0 dp (n + 1) R := by
  rw [flt]
  rfl
theorem flt_begW {b : Bool} {dp n : Nat} {zl r : List Nat} (hl : ∀ c ∈ zl, letB c = true) (h1 : zl ≠ []) (h8 : zl.length ≤ 8) (hh : zl.length = 8 ∨ ∀ c, r.head? = some c → letB c = false) : flt b .beg 0 dp n (zl ++ r) = aft b true dp (n + zl.length) r := by
  cases zl with
  | nil => exact absurd rfl h1
  | cons c z =>
    have hc := hl c List.mem_cons_self
    have h63 : c ≠ 63 := fun e => by
      rw [e, let63] at hc
      cases hc
    have e : nxt b .beg 0 dp c = some (.wrd, 1, dp) := by
      unfold nxt
      simp [hc, h63]
    rw [List.cons_append, flt, e]
    show flt b .wrd 1 dp (n + 1) (z ++ r) = _
    rw [List.length_cons] at h8 hh ⊢
    rw [flt_letW (fun c hc => hl c (List.mem_cons_of_mem _ hc)) (by omega), flt_wrd (by omega) (by rw [Nat.add_comm]; exact hh)]
    congr 1
    omega
theorem flt_holW {b : Bool} {dp n : Nat} {zl r : List Nat} (hl : ∀ c ∈ zl, letB c = true) (h1 : zl ≠ []) (h8 : zl.length ≤ 8) (hh : zl.length = 8 ∨ ∀ c, r.head? = some c → letB c = false) : flt b .hol 0 dp n (zl ++ r) = aft b false dp (n + zl.length) r := by
  have : 1 ≤ zl.length := List.length_pos_iff.mpr h1
  rw [flt_letH hl (by omega), flt_hol (by omega) (by rw [Nat.zero_add]; exact hh)]
theorem aft_open {b : Bool} {dp n : Nat} {r : List Nat} : aft b true dp n (40 :: r) = flt b .beg 0 (dp + 1) (n + 1) r := by
  rw [aft]
  rfl
def spRG (BT : Addr) : Sp := fun vs H Q E => ∃ (X : Str) (b : Bool), vs = [.str X, .bl b] ∧ X.length ≤ 10000 ∧ (∀ k, flt b .beg 0 0 0 (TL.tl X) = some k → exO BT "at" (.int (k : Nat)) H E) ∧
  (flt b .beg 0 0 0 (TL.tl X) = none → ∀ d v H', Same H H' → DAt nol H' v d → isShH b d = true → tx d = TL.tl X → Q v H')
section
variable {P : Program} {w : World} {K : PySem.W.Frag} {mg : Str → Option Value} {base : Heap}
theorem c_readG {BT f fa fc : Addr} {fd da dc : FuncData} (F : Def K mg "read_whole" sRead f fd) (T : Blt4 mg) (Gk : Gm mg) (EB : EC P K mg "BadText" BT ["at"]) (DA : Def K mg "word_at" sWordAt fa da) (ba : Binds K da ["text", "at"] []) (FA : FnOk P w K mg base (L2.CX P w) 2 fa da ["text", "at"] (spWA BT))
    (DC : Def K mg "closed" sClosed fc dc) (bc : Binds K dc ["text", "at", "opened", "node"] []) (FC : FnOk P w K mg base (L2.CX P w) 2 fc dc ["text", "at", "opened", "node"] (spCG BT)) : FnOk P w K mg base (L2.CX P w) 3 f fd ["text", "holes"] (spRG BT) := by
  refine fnX F.fn scRead (fun vs H Q E h => ?_) (fun cdv A outer s H vs Q E hr h => ?_)
  · obtain ⟨d, b, rfl, _⟩ := h
    rfl
  · obtain ⟨X, hb, rfl, hlen, kE, k⟩ := h
    have nd := scRead.nd
    refine ⟨_, pss_cons (ps_set (i := 2) nd rfl (Or.inl rfl) (pe_lst pa_nil))
      (pss_cons (ps_set (i := 3) nd rfl (Or.inl rfl) pe_int)
      (pss_cut (ps_while (passes_of rfl) (pt_val pe_bl)
        (pss_cut (ps_set (i := 4) nd rfl (Or.inl rfl) (pe_and (pv 1) (pe_one (pe_cmpR op_eq (pe_slice sl_str (pv 0) (po_some (pv 3)) (po_some (pe_op op_add (pv 3) pe_int))) (pe_gc (by rfl) Gk.mark) (nomark _)))))
        (pss_cut (ps_if (pt_val (pv 4)) (pss_one (ps_set (i := 3) nd rfl (Or.inl rfl) (pe_op op_add (pv 3) pe_int))) pss_nil)
        (pss_cut (ps_set (i := 5) nd rfl (Or.inl rfl) (pe_call FA (hr.mono (by decide)) (by rfl) DA.mgf DA.kp ba .nil (passes_call (takes_of rfl rfl rfl rfl) (fun _ _ _ _ h => h)) (pa_cons (pv 0) (pa_cons (pv 3) pa_nil))))
        (pss_cons (ps_set (i := 3) nd rfl (Or.inl rfl) (pe_op op_add (pv 3) (pe_callB call_len_str (by rfl) T.len PySem.boot_len (pa_cons (pv 5) pa_nil))))
        (pss_one (ps_if (pw_and (pt_not (pt_val (pv 4))) (pw_and1 (pt_cmpR op_eq (pe_slice sl_str (pv 0) (po_some (pv 3)) (po_some (pe_op op_add (pv 3) pe_int))) pe_str (nomark _)))).pt
          (pss_cons (ps_expr (pe_bm PySem.F.plainAttrs_list PySem.F.slot_list_append PySem.F.type_list_append mt_append (pv 2) (pa_cons (pe_lst (pa_cons (pv 5) pa_nil)) pa_nil)))
          (pss_one (ps_set (i := 3) nd rfl (Or.inl rfl) (pe_op op_add (pv 3) pe_int))))
          (pss_cons (ps_asg (pe_call FC (hr.mono (by decide)) (by rfl) DC.mgf DC.kp bc .nil (passes_call (takes_of rfl rfl rfl rfl) (fun _ _ _ _ h => h)) (pa_cons (pv 0) (pa_cons (pv 3) (pa_cons (pv 2) (pa_cons (pe_ifExp (pt_val (pv 4)) (pv 5) (pe_tup (pa_cons (pv 5) pa_nil))) pa_nil))))) (pg_tup rfl (pgs_cons (pg_name (i := 6) nd rfl (Or.inl rfl)) (pgs_cons (pg_name (i := 3) nd rfl (Or.inl rfl)) pgs_nil))))
          (pss_one (ps_if (pt_not (pt_truth (pv 2) (by intro _; rfl))) (pss_one ps_break) pss_nil))))))))))
      (pss_cons (ps_if (pt_cmp (pc_lt (pv 3) (pe_callB call_len_str (by rfl) T.len PySem.boot_len (pa_cons (pv 0) pa_nil)))) (pss_one (ps_raise rfl (takes_of rfl rfl rfl rfl) (pmk_X EB (hr.mono (by decide)) (by rfl) (pa_cons (pv 3) pa_nil)))) pss_nil)
      (pss_one (ps_ret (pv 6)))))), ?_⟩
    have hlX : (TL.tl X).length = X.length := (TL.len_tl X).symm
    have hsl : X.length ≤ sizeLine := by rw [sizeLine_eq]; omega
    refine ⟨(by show 0 ≤ sizeLine; decide), fun o no => ?_⟩
    generalize hF : flt hb .beg 0 0 0 (TL.tl X) = FF at kE k
    refine ⟨fun σ H' => ∃ (n : Nat) (v4 v5 : Option V) (v' : V) (d : D), σ = [some (.str X), some (.bl hb), some (.ref o), some (.int n), v4, v5, some v'] ∧ Same H H' ∧ DAt nol H' v' d ∧ isShH hb d = true ∧ n ≤ X.length ∧ TL.tl X = tx d ++ (TL.tl X).drop n ∧ FF = aft hb false 0 n ((TL.tl X).drop n), ?_, ?_⟩
    · let Iv : Nat → L2.St → Hp → Prop := fun m σ H' => ∃ (n : Nat) (v4 v5 v6 : Option V) (ps : List Addr) (fs : List FR), σ = [some (.str X), some (.bl hb), some (.ref o), some (.int n), v4, v5, v6] ∧ m = X.length - n ∧ n ≤ X.length ∧ TL.tl X = preF fs ++ (TL.tl X).drop n ∧ okFs hb fs ∧ Op H H' o ps (frO fs) ∧ FF = flt hb .beg 0 fs.length n ((TL.tl X).drop n)
      refine ⟨Iv, ⟨_, 0, none, none, none, [], [], rfl, rfl, Nat.zero_le _, rfl, (fun _ h => by cases h), ⟨same_upd no, no, (fun p hp => by cases hp), .nil, (by simp), upd_same, .nil⟩, hF.symm⟩, ?_⟩
      rintro m σ H1 ⟨n, v4, v5, v6, ps, fs, rfl, rfl, hn, htl, hok, hop, hfl⟩
      have hpn : (preF fs).length = n := by
        have := congrArg List.length htl
        rw [List.length_append, List.length_drop] at this
        omega
      obtain ⟨hfl1, hfl2⟩ := preF_len (fs := fs)
      have hps := Paired.length hop.fr
      have hfo : (frO fs).length = fs.length := by unfold frO; rw [List.length_reverse, List.length_map]
      refine ⟨true, rfl, ?_⟩
      refine iteBt rfl ⟨fun σ H' => ∃ m', m' < X.length - n ∧ Iv m' σ H', fun _ _ h => h, ?_⟩
      generalize hR : (TL.tl X).drop n = R at htl hfl
      have hRl := congrArg List.length hR
      rw [List.length_drop] at hRl
      -- marked
      let mk : Bool := hb && decide (R.head? = some 63)
      refine ⟨fun σ H' => σ = [some (.str X), some (.bl hb), some (.ref o), some (.int n), some (.bl mk), v5, v6] ∧ H' = H1, ?_, ?_⟩
      · refine ⟨_, rfl, hb, rfl, ?_⟩
        have hmk : decide (V.str (cutS X (some (n : Int)) (some ((n + 1 : Nat) : Int))) = V.str "?") = decide (R.head? = some 63) := by
          rw [cut_S hn (by omega), hR, show n + 1 - n = 1 by omega]
          exact eqs R 63
        cases hb with
        | false => exact iteBf rfl ⟨rfl, rfl⟩
        | true =>
          refine iteBt rfl ?_
          refine ⟨_, rfl, _, rfl, (n : Int), rfl, _, rfl, (n : Int), 1, rfl, rfl, ((n + 1 : Nat) : Int), rfl, X, rfl, hsl, rfl, ?_, rfl⟩
          rw [hmk]
          rfl
      rintro σ H2 ⟨rfl, rfl⟩
      -- behind the mark
      have hmkE : mk = (hb && decide (R.head? = some 63)) := rfl
      clear_value mk
      obtain ⟨R1, hRR⟩ : ∃ R1, R = (if mk = true then [63] else []) ++ R1 := by
        cases mk with
        | false => exact ⟨R, rfl⟩
        | true =>
          have h := hmkE.symm
          rw [Bool.and_eq_true] at h
          have h2 := of_decide_eq_true h.2
          cases R with
          | nil => cases h2
          | cons x r => cases h2; exact ⟨r, rfl⟩
      have hmb : mk = true → hb = true := fun e => by
        rw [e] at hmkE
        have h := hmkE.symm
        rw [Bool.and_eq_true] at h
        exact h.1
      have hm63 : mk = false → hb = true → R1.head? ≠ some 63 := fun e eb h => by
        rw [e, if_neg Bool.false_ne_true, List.nil_append] at hRR
        rw [e, eb, hRR, h] at hmkE
        cases hmkE
      refine ⟨fun σ H' => ∃ n1 : Nat, σ = [some (.str X), some (.bl hb), some (.ref o), some (.int n1), some (.bl mk), v5, v6] ∧ H' = H2 ∧ n1 ≤ X.length ∧ n ≤ n1 ∧ (TL.tl X).drop n1 = R1 ∧ (mk = true → FF = flt hb .hol 0 fs.length n1 R1) ∧ (mk = false → FF = flt hb .beg 0 fs.length n1 R1), ?_, ?_⟩
      · refine ⟨_, rfl, mk, rfl, ?_⟩
        cases mk with
        | true =>
          rw [if_pos rfl] at hRR
          have hRR : R = 63 :: R1 := hRR
          rw [hRR, List.length_cons] at hRl
          refine iteBt rfl ⟨_, rfl, (n : Int), 1, rfl, rfl, n + 1, rfl, rfl, by omega, by omega, by rw [← List.drop_drop, hR, hRR]; rfl, fun _ => ?_, fun e => by cases e⟩
          rw [hfl, hRR, hmb rfl, flt_mark]
        | false =>
          rw [if_neg Bool.false_ne_true, List.nil_append] at hRR
          exact iteBf rfl ⟨n, rfl, rfl, hn, Nat.le_refl _, by rw [hR, hRR], (fun e => by cases e), fun _ => by rw [hfl, hRR]⟩
      rintro σ H3 ⟨n1, rfl, rfl, hn1, hnn, hR1, hf1, hf2⟩
      have hR1l := congrArg List.length hR1
      rw [List.length_drop] at hR1l
      -- the word
      refine ⟨fun σ H' => wd R1 ≠ [] ∧ σ = [some (.str X), some (.bl hb), some (.ref o), some (.int n1), some (.bl mk), some (.str (S (wd R1))), v6] ∧ H' = H3, ?_, ?_⟩
      · refine ⟨_, rfl, _, rfl, X, n1, rfl, by omega, hn1, fun hw => ?_, fun hw => ?_⟩
        · rw [hR1] at hw
          have hk : FF = some n1 := by
            cases mk with
            | true => rw [hf1 rfl, flt_noH hw]
            | false => rw [hf2 rfl, flt_no hw (hm63 rfl)]
          exact fun H' d s nd => kE n1 hk H' d (hop.sm.trans s) nd
        · rw [hR1] at hw ⊢
          exact ⟨hw, rfl, rfl⟩
      rintro σ H4 ⟨hw, rfl, rfl⟩
      obtain ⟨r', he, hr'⟩ := wd_app R1
      have hw1 : 1 ≤ (wd R1).length := List.length_pos_iff.mpr hw
      have hwz := wordS_wd hw
      have hw8 := wd_len (r := R1)
      have hwl := wd_let (r := R1)
      generalize hz : wd R1 = zl at he hr' hw hw1 hwz hw8 hwl
      have hSl : (S zl).length = zl.length := rfl
      rw [he, List.length_append] at hR1l
      have hn2 : n1 + zl.length ≤ X.length := by omega
      have he2 : (TL.tl X).drop (n1 + zl.length) = r' := by rw [← List.drop_drop, hR1, he, List.drop_left' rfl]
      have htxS : tx (.sq [.fl (.str (S zl))]) = zl := tx_leaf _
      have htxH : tx (.fl (.str (S zl))) = 63 :: zl := tx_hole _
      refine ⟨_, rfl, _, rfl, S zl, rfl, by rw [hSl, sizeLine_eq]; omega, (n1 : Int), ((S zl).length : Int), rfl, rfl, ?_⟩
      rw [hSl]
      have cut2 : cutS X (some ((n1 : Int) + (zl.length : Int))) (some ((n1 : Int) + (zl.length : Int) + 1)) = S (r'.take 1) := by
        have e1 : (n1 : Int) + (zl.length : Int) = ((n1 + zl.length : Nat) : Int) := by omega
        have e2 : (n1 : Int) + (zl.length : Int) + 1 = ((n1 + zl.length + 1 : Nat) : Int) := by omega
        rw [e2, e1, cut_S hn2 (by omega), he2, show n1 + zl.length + 1 - (n1 + zl.length) = 1 by omega]
      -- what closed does
      have cB : ∀ (cur : D), FF = aft hb false fs.length (n1 + zl.length) r' → ∀ kk, clG cur fs (n1 + zl.length) ((TL.tl X).drop (n1 + zl.length)) = .bad kk → FF = some kk := fun cur hfc kk hcl => by
        rw [he2] at hcl
        rw [hfc, clG_bad hcl]
      have cD : ∀ (cur : D), isShH hb cur = true → TL.tl X = preF fs ++ (tx cur ++ r') → FF = aft hb false fs.length (n1 + zl.length) r' → ∀ D' n', clG cur fs (n1 + zl.length) ((TL.tl X).drop (n1 + zl.length)) = .done D' n' →
          isShH hb D' = true ∧ n' ≤ X.length ∧ TL.tl X = tx D' ++ (TL.tl X).drop n' ∧ FF = aft hb false 0 n' ((TL.tl X).drop n') := fun cur hsh htc hfc D' n' hcl => by
        rw [he2] at hcl
        obtain ⟨pre, r2, e1, e2, e3, e4, e5⟩ := clG_done (h := hb) hcl hok hsh
        have hd : (TL.tl X).drop n' = r2 := by rw [e2, ← List.drop_drop, he2, e1, List.drop_left' rfl]
        have hl := congrArg List.length e1
        rw [List.length_append] at hl
        refine ⟨e5, by omega, ?_, by rw [hfc, e3, hd]⟩
        rw [hd, ← e4, htc, e1]
        simp
      have cM : ∀ (cur : D), isShH hb cur = true → TL.tl X = preF fs ++ (tx cur ++ r') → FF = aft hb false fs.length (n1 + zl.length) r' → ∀ fs' n', clG cur fs (n1 + zl.length) ((TL.tl X).drop (n1 + zl.length)) = .more fs' n' →
          fs' ≠ [] ∧ n1 < n' ∧ n' ≤ X.length ∧ TL.tl X = preF fs' ++ (TL.tl X).drop n' ∧ okFs hb fs' ∧ FF = flt hb .beg 0 fs'.length n' ((TL.tl X).drop n') := fun cur hsh htc hfc fs' n' hcl => by
        rw [he2] at hcl
        obtain ⟨pre, r2, e1, e2, e3, e4, e5, e6, e7⟩ := clG_more (h := hb) hcl hok hsh
        have hd : (TL.tl X).drop n' = r2 := by rw [e2, ← List.drop_drop, he2, e1, List.drop_left' rfl]
        have hl := congrArg List.length e1
        rw [List.length_append] at hl
        refine ⟨e7, by omega, by omega, ?_, e6, by rw [hfc, e4, hd]⟩
        rw [hd, ← e5, htc, e1]
        simp
      cases mk with
      | true =>
        rw [if_pos rfl] at hRR
        have hRR : R = 63 :: R1 := hRR
        refine ⟨_, rfl, true, rfl, iteBf rfl ?_⟩
        refine ⟨_, rfl, _, rfl, _, rfl, _, rfl, true, rfl, iteBt rfl ⟨_, rfl, ?_⟩⟩
        have hsh0 : isShH hb (.fl (.str (S zl))) = true := by rw [isShH, hmb rfl, hwz]; rfl
        have htc : TL.tl X = preF fs ++ (tx (.fl (.str (S zl))) ++ r') := by rw [htxH, htl, hRR, he]; rfl
        have hfc : FF = aft hb false fs.length (n1 + zl.length) r' := by rw [hf1 rfl, he, flt_holW hwl hw hw8 hr']
        refine ⟨X, n1 + zl.length, o, _, .fl (.str (S zl)), ps, fs, H, rfl, by omega, hn2, hop, ⟨rfl, rfl⟩, by omega, fun fr hfr => by have := hfl2 fr hfr; omega, fun kk hcl H' d s nd => kE kk (cB _ hfc kk hcl) H' d s nd, ?_, ?_⟩
        · intro D' n' hcl v' t H6 hop6 hv6 ht6
          obtain ⟨hsh, hn', htl', hff⟩ := cD _ hsh0 htc hfc D' n' hcl
          refine ⟨t, _, rfl, SqT.of ht6, rfl, v', _, rfl, .int (n' : Nat), [], rfl, rfl, ?_⟩
          refine ⟨_, rfl, false, .inl ⟨[], SqL.of hop6.ho, rfl⟩, iteBt rfl ?_⟩
          exact ⟨n', _, _, v', D', rfl, hop6.sm, hv6, hsh, hn', htl', hff⟩
        · intro fs' n' hcl ps' v' t H6 hop6 ht6
          obtain ⟨hne, hlt, hn', htl', hok', hff⟩ := cM _ hsh0 htc hfc fs' n' hcl
          have hpl5 := Paired.length hop6.fr
          have hne' : ps' ≠ [] := fun e => by
            rw [e] at hpl5
            have : (frO fs').length = fs'.length := by unfold frO; rw [List.length_reverse, List.length_map]
            rw [this] at hpl5
            exact hne (List.length_eq_zero_iff.mp hpl5.symm)
          refine ⟨t, _, rfl, SqT.of ht6, rfl, v', _, rfl, .int (n' : Nat), [], rfl, rfl, ?_⟩
          refine ⟨_, rfl, !(ps'.map V.ref).isEmpty, .inl ⟨_, SqL.of hop6.ho, rfl⟩, iteBf (by cases ps' with | nil => exact absurd rfl hne' | cons => rfl) ?_⟩
          exact ⟨X.length - n', by omega, n', _, _, _, ps', fs', rfl, rfl, hn', htl', hok', hop6, hff⟩
      | false =>
        rw [if_neg Bool.false_ne_true, List.nil_append] at hRR
        refine ⟨_, rfl, false, rfl, iteBt rfl ?_⟩
        have hff0 : FF = aft hb true fs.length (n1 + zl.length) r' := by rw [hf2 rfl, he, flt_begW hwl hw hw8 hr']
        refine ⟨_, rfl, _, rfl, _, rfl, _, rfl, _, 1, rfl, rfl, _, rfl, X, rfl, hsl, rfl, _, rfl, ?_⟩
        rw [cut2]
        refine ite2 (fun c => ?_) (fun c => ?_)
        · have hh : r'.head? = some 40 := of_decide_eq_true ((eqs r' 40).symm.trans c)
          obtain ⟨r2, rfl⟩ : ∃ r, r' = 40 :: r := by
            cases r' with
            | nil => cases hh
            | cons x r => cases hh; exact ⟨r, rfl⟩
          rw [List.length_cons] at hR1l
          refine ⟨_, rfl, .inl ⟨rfl, _, SqL.of hop.ho⟩, _, rfl, (by show 1 ≤ sizeLine; decide), fun lp nlp => ?_⟩
          have sl : Same H4 (upd H4 lp (.lst [.str (S zl)])) := same_upd nlp
          have hopl := hop.same sl
          have hlp : (upd H4 lp (.lst [.str (S zl)])) lp = some (.lst [.str (S zl)]) := upd_same
          have nlH : H lp = none := same_free hop.sm nlp
          have lpo : lp ≠ o := (ne_of_none hop.ho nlp).symm
          have lps : lp ∉ ps := fun h => by
            obtain ⟨i, hi⟩ := List.getElem?_of_mem h
            obtain ⟨fr, _, us, e, _⟩ := paired_get hop.fr hi
            rw [nlp] at e
            cases e
          generalize upd H4 lp (.lst [.str (S zl)]) = H5 at sl hopl hlp
          refine ⟨o, ps.map V.ref, .ref lp, rfl, rfl, hopl.ho, by rw [List.length_map, sizeLine_eq]; omega, ?_⟩
          have hd : (TL.tl X).drop (n1 + zl.length + 1) = r2 := by rw [← List.drop_drop, he2]; rfl
          refine ⟨_, rfl, _, 1, rfl, rfl, X.length - (n1 + zl.length + 1), by omega, n1 + zl.length + 1, some (.bl false), some (.str (S zl)), v6, ps ++ [lp], (S zl, []) :: fs, ?_, rfl, by omega, ?_, ?_, ?_, ?_⟩
          · rw [show ((n1 + zl.length + 1 : Nat) : Int) = (n1 : Int) + (zl.length : Int) + 1 by omega]
            rfl
          · rw [hd]
            show _ = (preF fs ++ (zl ++ [40])) ++ r2
            rw [htl, hRR, he]
            simp
          · intro fr hfr
            rcases List.mem_cons.mp hfr with rfl | hfr
            · exact ⟨hwz, rfl⟩
            · exact hok fr hfr
          · refine ⟨fun a u e => by rw [upd_ne (ne_of_none e hop.no)]; exact hopl.sm _ _ e, hop.no, fun q hq => ?_, ?_, ?_, by rw [upd_same, List.map_append]; rfl, ?_⟩
            · rcases List.mem_append.mp hq with hq | hq
              · exact hop.np q hq
              · rw [List.mem_singleton.mp hq]; exact nlH
            · rw [List.nodup_append]
              exact ⟨hop.nd, by simp, fun a ha b hb e => lps (by rw [← List.mem_singleton.mp hb, ← e]; exact ha)⟩
            · intro h
              rcases List.mem_append.mp h with h | h
              · exact hop.on h
              · exact lpo (List.mem_singleton.mp h).symm
            · rw [frO_cons]
              exact paired_app (fr_keep hopl.ho hop.on hopl.fr) (.cons ⟨[], by rw [upd_ne lpo]; exact hlp, trivial⟩ .nil)
          · rw [hd, hff0, aft_open]
            rfl
        · have h40 : ∀ c, r'.head? = some c → c ≠ 40 := fun x hx e => c ((eqs r' 40).trans (decide_eq_true (by rw [hx, e])))
          refine ⟨_, rfl, _, rfl, _, rfl, _, rfl, false, rfl, iteBf rfl ⟨_, rfl, (by show 1 ≤ sizeLine; decide), fun tp ntp => ?_⟩⟩
          have hsh0 : isShH hb (.sq [.fl (.str (S zl))]) = true := by rw [isShH, hwz]; rfl
          have htc : TL.tl X = preF fs ++ (tx (.sq [.fl (.str (S zl))]) ++ r') := by rw [htxS, htl, hRR, he]
          have hfc : FF = aft hb false fs.length (n1 + zl.length) r' := by rw [hff0, aft_word h40]
          refine ⟨X, n1 + zl.length, o, _, .sq [.fl (.str (S zl))], ps, fs, H, rfl, by omega, hn2, hop.same (same_upd ntp), ⟨tp, _, rfl, .inl upd_same, rfl, ⟨rfl, rfl⟩, trivial⟩, by omega, fun fr hfr => by have := hfl2 fr hfr; omega, fun kk hcl H' d s nd => kE kk (cB _ hfc kk hcl) H' d s nd, ?_, ?_⟩
          · intro D' n' hcl v' t H6 hop6 hv6 ht6
            obtain ⟨hsh, hn', htl', hff⟩ := cD _ hsh0 htc hfc D' n' hcl
            refine ⟨t, _, rfl, SqT.of ht6, rfl, v', _, rfl, .int (n' : Nat), [], rfl, rfl, ?_⟩
            refine ⟨_, rfl, false, .inl ⟨[], SqL.of hop6.ho, rfl⟩, iteBt rfl ?_⟩
            exact ⟨n', _, _, v', D', rfl, hop6.sm, hv6, hsh, hn', htl', hff⟩
          · intro fs' n' hcl ps' v' t H6 hop6 ht6
            obtain ⟨hne, hlt, hn', htl', hok', hff⟩ := cM _ hsh0 htc hfc fs' n' hcl
            have hpl5 := Paired.length hop6.fr
            have hne' : ps' ≠ [] := fun e => by
              rw [e] at hpl5
              have : (frO fs').length = fs'.length := by unfold frO; rw [List.length_reverse, List.length_map]
              rw [this] at hpl5
              exact hne (List.length_eq_zero_iff.mp hpl5.symm)
            refine ⟨t, _, rfl, SqT.of ht6, rfl, v', _, rfl, .int (n' : Nat), [], rfl, rfl, ?_⟩
            refine ⟨_, rfl, !(ps'.map V.ref).isEmpty, .inl ⟨_, SqL.of hop6.ho, rfl⟩, iteBf (by cases ps' with | nil => exact absurd rfl hne' | cons => rfl) ?_⟩
            exact ⟨X.length - n', by omega, n', _, _, _, ps', fs', rfl, rfl, hn', htl', hok', hop6, hff⟩
    · rintro σ H1 ⟨n, v4, v5, v', d, rfl, sm, hv, hsh, hn, htl, hff⟩
      rw [aft_end] at hff
      refine ⟨_, rfl, _, rfl, X, rfl, hsl, (n : Int), (X.length : Int), rfl, rfl, _, rfl, ite2 (fun c => ?_) (fun c => ?_)⟩
      · have c := of_decide_eq_true c
        have hne : (TL.tl X).drop n ≠ [] := fun e => by
          have := congrArg List.length e
          rw [List.length_drop, List.length_nil] at this
          omega
        rw [if_neg hne] at hff
        exact ⟨_, rfl, rfl, fun dd ndd => kE n hff H1 dd sm ndd⟩
      · have hnX : ¬ (n : Int) < (X.length : Int) := fun e => c (decide_eq_true e)
        have he : (TL.tl X).drop n = [] := List.drop_eq_nil_of_le (by omega)
        rw [if_pos he] at hff
        rw [he, List.append_nil] at htl
        exact ⟨_, rfl, k hff d v' H1 sm hv hsh htl.symm⟩
end
end K7

/-! a text times a number; the list of the signs of a text -/
namespace SLX
open PySem PySem.Spec PyProof.Rows L2
def rep (z : Str) (k : Nat) : Str := ⟨(List.replicate k z.cps.toList).flatten.toArray⟩
theorem foldl_rep (c : Array Nat) : ∀ (k : Nat) (acc : Array Nat), ((List.replicate k c).foldl (· ++ ·) acc).toList = acc.toList ++ (List.replicate k c.toList).flatten
  | 0, acc => by simp
  | k + 1, acc => by
    rw [List.replicate_succ, List.foldl_cons, foldl_rep c k, List.replicate_succ]
    simp
theorem mul_rep (z : Str) (k : Nat) : Txt.mul z (k : Int) = rep z k := by
  have hm : Str.mk ((List.replicate k z.cps).foldl (· ++ ·) #[]) = rep z k := by
    unfold rep
    congr 1
    apply Array.toList_inj.mp
    rw [foldl_rep]
    simp
  unfold Txt.mul
  by_cases h0 : k = 0
  · subst h0
    rw [if_pos (by decide)]
    rfl
  · rw [if_neg (by omega)]
    split
    · rename_i h
      rw [Bool.or_eq_true] at h
      rcases h with h | h
      · have h : (k : Int) = 1 := eq_of_beq h
        have h : k = 1 := by omega
        subst h
        unfold rep
        simp
      · have h : z.length = 0 := eq_of_beq h
        have hz : z.cps = #[] := Array.eq_empty_of_size_eq_zero h
        unfold rep
        rw [hz]
        cases z
        simp at hz ⊢
        exact hz
    · rw [Int.toNat_natCast]
      exact hm
def rMulS : R2 := fun x y H Q => ∃ (z : Str) (k : Nat), x = .str z ∧ y = .int k ∧ z.length ≤ 100 ∧ k ≤ 100000 ∧ Q (.str (rep z k)) H
section
variable {X : Cx}
theorem op_mulS : OpR X (binaryOp .Mult) rMulS := by
  intro pins s σ H x y v u Q I rx ry h
  obtain ⟨z, k, rfl, rfl, hz, hk, q⟩ := h
  obtain ⟨t, rfl⟩ := rx
  obtain ⟨t', rfl⟩ := ry
  have hb : z.length * k ≤ 100 * 100000 := Nat.mul_le_mul hz hk
  refine SB.mul ⟨?_, fun h1 h2 => ?_, fun h1 h2 => ?_⟩ fun t' tk => ⟨.str (rep z k), H, I.tok _, ⟨_, by rw [mul_rep]⟩, q⟩
  · rw [Bool.or_eq_false_iff]
    exact ⟨decide_eq_false (by omega), decide_eq_false (by omega)⟩
  · have h3 : (100 : Int) ≤ (2 ^ 63 - 1) / (k : Int) := by
      rw [Int.le_ediv_iff_mul_le (by omega)]
      omega
    omega
  · unfold Builtin.Str.tooLong
    rw [Int.toNat_natCast]
    first | exact decide_eq_false (by rw [sizeLine_eq]; omega) | (simp; omega) | (have := sizeLine_eq; simp [sizeLine] at *; omega)
theorem call_list_sg (hc : X.calm = true) : CallR X (.type "list") (fun xs H Q => ∃ z : Str, xs = [.str z] ∧ z.length ≤ 100000 ∧ ∀ p, H p = none → Q (.ref p) (upd H p (.lst (z.cps.toList.map fun c => .str ⟨#[c]⟩)))) := by
  intro pins s σ H xs us Q I r h
  obtain ⟨z, rfl, hz, q⟩ := h
  obtain ⟨u, rfl, t, rfl⟩ := vals1 r
  have hl : z.cps.size ≤ sizeLine := Nat.le_trans hz (by rw [sizeLine_eq]; omega)
  refine call_list_str (I.ok.hd hc) z t (fun h' tk acc' c' hkeep hS hacc => ?_) hl
  refine ⟨.ref s.heap.objs.size, _, I.laid hkeep (Nat.le_refl _) (show ObjOk X.prog X.w _ _ _ (.lst (z.cps.toList.map fun c => .str ⟨#[c]⟩)) from ⟨?_, acc'.toList, c', ?_, ?_⟩), rfl, q _ (I.hok.fresh (Nat.le_refl _))⟩
  · rw [List.length_map]
    simpa using hl
  · refine vals_of_at (by rw [List.length_map]; simp [hacc.1]) fun j x w h1 h2 => ?_
    obtain ⟨c, u, e1, e2⟩ := hacc.2 j w (by rw [← Array.getElem?_toList]; exact h2)
    rw [List.getElem?_map, Array.getElem?_toList, e1] at h1
    cases h1
    exact ⟨u, e2⟩
  · rw [Array.toArray_toList]
    exact hS
end
end SLX

namespace K7
open PySem PySem.Spec PyProof.Rows L2 C8 XE XI XR SX
/-! read_tree, read_shape of any text; _law_next, _law_fault -/
def spRX (BT : Addr) (b : Bool) : Sp := fun vs H Q E => ∃ (X : Str), vs = [.str X] ∧ X.length ≤ 10000 ∧ (∀ k, flt b .beg 0 0 0 (TL.tl X) = some k → exO BT "at" (.int (k : Nat)) H E) ∧
  (flt b .beg 0 0 0 (TL.tl X) = none → ∀ d v H', Same H H' → DAt nol H' v d → isShH b d = true → tx d = TL.tl X → Q v H')
abbrev sNx : Stmt := top 39
abbrev sFa : Stmt := top 40
abbrev NNx : List Str := ["_law_stand", "_law_sign", "_law_holes_here", "_law_way", "_law_many_here", "_law_deep", "_law_is_letter"]
abbrev NFa : List Str := ["_law_text_here", "_law_holes_here", "_law_stand", "_law_k", "_law_sign", "_law_is_whole"]
theorem scNx : FnScope NNx ["_law_stand", "_law_sign", "_law_holes_here"] (fnScope sNx) := fnScope_by (by decide +kernel)
theorem scFa : FnScope NFa ["_law_text_here", "_law_holes_here"] (fnScope sFa) := fnScope_by (by decide +kernel)
def wyS : Wy → Str
  | .beg => "begin"
  | .wrd => "word"
  | .hol => "hole"
  | .blk => "blank"
  | .fin => "end"
theorem wyS_inj : ∀ {a b : Wy}, decide (V.str (wyS a) = V.str (wyS b)) = decide (a = b) := by
  intro a b
  cases a <;> cases b <;> decide +kernel
theorem eq1 (c d : Nat) : decide (V.str (S [c]) = V.str (S [d])) = decide (c = d) := by
  refine decide_eq_decide.mpr ⟨fun e => ?_, fun e => by rw [e]⟩
  have e : [c] = [d] := congrArg TL.tl (V.str.inj e)
  injection e
def n7 (dp c : Nat) : Option (Wy × Nat × Nat) := if c = 41 ∧ 0 < dp then some (.fin, 0, dp - 1) else none
def n6 (dp c : Nat) : Option (Wy × Nat × Nat) := if c = 44 ∧ 0 < dp then some (.blk, 0, dp) else n7 dp c
def n5 (y : Wy) (dp c : Nat) : Option (Wy × Nat × Nat) := if c = 40 ∧ y = .wrd then some (.beg, 0, dp + 1) else n6 dp c
def n4 (y : Wy) (m dp c : Nat) : Option (Wy × Nat × Nat) := if y = .beg ∨ (m = 0 ∧ y = .hol) then none else n5 y dp c
def n3 (y : Wy) (m dp c : Nat) : Option (Wy × Nat × Nat) := if y = .blk then (if c = 32 then some (.beg, 0, dp) else none) else n4 y m dp c
def n2 (y : Wy) (m dp c : Nat) : Option (Wy × Nat × Nat) := if y = .hol ∧ letB c = true ∧ m < 8 then some (.hol, m + 1, dp) else n3 y m dp c
def n1 (y : Wy) (m dp c : Nat) : Option (Wy × Nat × Nat) := if (y = .beg ∨ y = .wrd) ∧ letB c = true ∧ m < 8 then some (.wrd, m + 1, dp) else n2 y m dp c
theorem nxt_1 (h : Bool) (y : Wy) (m dp c : Nat) : nxt h y m dp c = if y = .beg ∧ c = 63 ∧ h = true then some (.hol, 0, dp) else n1 y m dp c := rfl
def spNx : Sp := fun vs H Q _ => ∃ (p : Addr) (c m dp : Nat) (y : Wy) (b : Bool), vs = [.ref p, .str (S [c]), .bl b] ∧ H p = some (.tup [.str (wyS y), .int m, .int dp]) ∧ m ≤ 1000000 ∧ dp ≤ 1000000 ∧
  (nxt b y m dp c = none → ∀ H', Same H H' → Q .non H') ∧ ∀ s, nxt b y m dp c = some s → ∀ q H', Same H H' → H' q = some (.tup [.str (wyS s.1), .int s.2.1, .int s.2.2]) → Q (.ref q) H'
section
variable {P : Program} {w : World} {K : PySem.W.Frag} {mg : Str → Option Value} {base : Heap}
theorem c_rtG {BT f fr : Addr} {fd dr : FuncData} (F : Def K mg "read_tree" sRT f fd) (DR : Def K mg "read_whole" sRead fr dr) (br : Binds K dr ["text", "holes"] []) (FR : FnOk P w K mg base (L2.CX P w) 3 fr dr ["text", "holes"] (spRG BT)) : FnOk P w K mg base (L2.CX P w) 4 f fd ["text"] (spRX BT false) := by
  refine fnX F.fn scRT (fun vs H Q E h => ?_) (fun cdv A outer s H vs Q E hr h => ?_)
  · obtain ⟨X, rfl, _⟩ := h
    rfl
  · obtain ⟨X, rfl, hl, kE, k⟩ := h
    exact ⟨_, pss_one (ps_ret (pe_call FR (hr.mono (by decide)) (by rfl) DR.mgf DR.kp br .nil (passes_call (takes_of rfl rfl rfl rfl) (fun _ _ _ _ h => h)) (pa_cons (pv 0) (pa_cons pe_bl pa_nil)))), _, rfl, X, false, rfl, hl, kE, k⟩
theorem c_rsG {BT f fr : Addr} {fd dr : FuncData} (F : Def K mg "read_shape" sRS f fd) (DR : Def K mg "read_whole" sRead fr dr) (br : Binds K dr ["text", "holes"] []) (FR : FnOk P w K mg base (L2.CX P w) 3 fr dr ["text", "holes"] (spRG BT)) : FnOk P w K mg base (L2.CX P w) 4 f fd ["text"] (spRX BT true) := by
  refine fnX F.fn scRS (fun vs H Q E h => ?_) (fun cdv A outer s H vs Q E hr h => ?_)
  · obtain ⟨X, rfl, _⟩ := h
    rfl
  · obtain ⟨X, rfl, hl, kE, k⟩ := h
    exact ⟨_, pss_one (ps_ret (pe_call FR (hr.mono (by decide)) (by rfl) DR.mgf DR.kp br .nil (passes_call (takes_of rfl rfl rfl rfl) (fun _ _ _ _ h => h)) (pa_cons (pv 0) (pa_cons pe_bl pa_nil)))), _, rfl, X, true, rfl, hl, kE, k⟩
theorem c_nx {f : Addr} {fd : FuncData} (F : Def K mg "_law_next" sNx f fd) (b : Binds K fd ["_law_stand", "_law_sign", "_law_holes_here"] []) (T : Blt4 mg) : Cal P w K mg base 1 "_law_next" spNx [] := by
  refine cal0 F b .nil scNx (fun vs H Q E h => ?_) (fun cdv A outer s H vs Q E hr h => ?_)
  · obtain ⟨p, c, m, dp, y, b, rfl, _⟩ := h
    rfl
  · obtain ⟨p, c, m, dp, y, hb, rfl, hp, hm, hd, k0, k1⟩ := h
    have nd := scNx.nd
    refine ⟨_, (pss_cut (ps_asg (pv 0) (pg_tup rfl (pgs_cons (pg_name (i := 3) nd rfl (Or.inl rfl)) (pgs_cons (pg_name (i := 4) nd rfl (Or.inl rfl)) (pgs_cons (pg_name (i := 5) nd rfl (Or.inl rfl)) pgs_nil)))))
      (pss_cut (ps_set (i := 6) nd rfl (Or.inl rfl) (pe_cmpR op_in_sign (pv 1) pe_str (by rfl)))
      (pss_cut (ps_if (pw_and (pt_cmpR op_eq (pv 3) pe_str (nomark _)) (pw_and (pt_cmpR op_eq (pv 1) pe_str (nomark _)) (pw_and1 (pt_val (pv 2))))).pt
        (pss_one (ps_ret (pe_tup (pa_cons pe_str (pa_cons pe_int (pa_cons (pv 5) pa_nil)))))) pss_nil)
      (pss_cut (ps_if (pw_and (pt_cmpR op_in_seq (pv 3) (pe_tup (pa_cons pe_str (pa_cons pe_str pa_nil))) (by rfl)) (pw_and (pt_val (pv 6)) (pw_and1 (pt_cmp (pc_lt (pv 4) pe_int))))).pt
        (pss_one (ps_ret (pe_tup (pa_cons pe_str (pa_cons (pe_op op_add (pv 4) pe_int) (pa_cons (pv 5) pa_nil)))))) pss_nil)
      (pss_cut (ps_if (pw_and (pt_cmpR op_eq (pv 3) pe_str (nomark _)) (pw_and (pt_val (pv 6)) (pw_and1 (pt_cmp (pc_lt (pv 4) pe_int))))).pt
        (pss_one (ps_ret (pe_tup (pa_cons pe_str (pa_cons (pe_op op_add (pv 4) pe_int) (pa_cons (pv 5) pa_nil)))))) pss_nil)
      (pss_cut (ps_if (pt_cmpR op_eq (pv 3) pe_str (nomark _))
        (pss_one (ps_ret (pe_ifExp (pt_cmpR op_eq (pv 1) pe_str (nomark _)) (pe_tup (pa_cons pe_str (pa_cons pe_int (pa_cons (pv 5) pa_nil)))) pe_non))) pss_nil)
      (pss_cut (ps_if (pw_or (pt_cmpR op_eq (pv 3) pe_str (nomark _)) (pw_or1 (pw_and (pt_cmp (pc_eqI (pv 4) pe_int)) (pw_and1 (pt_cmpR op_eq (pv 3) pe_str (nomark _)))).pt)).pt
        (pss_one (ps_ret pe_non)) pss_nil)
      (pss_cut (ps_if (pw_and (pt_cmpR op_eq (pv 1) pe_str (nomark _)) (pw_and1 (pt_cmpR op_eq (pv 3) pe_str (nomark _)))).pt
        (pss_one (ps_ret (pe_tup (pa_cons pe_str (pa_cons pe_int (pa_cons (pe_op op_add (pv 5) pe_int) pa_nil)))))) pss_nil)
      (pss_cut (ps_if (pw_and (pt_cmpR op_eq (pv 1) pe_str (nomark _)) (pw_and1 (pt_cmp (pc_gt (pv 5) pe_int)))).pt
        (pss_one (ps_ret (pe_tup (pa_cons pe_str (pa_cons pe_int (pa_cons (pv 5) pa_nil)))))) pss_nil)
      (pss_one (ps_ret (pe_ifExp (pw_and (pt_cmpR op_eq (pv 1) pe_str (nomark _)) (pw_and1 (pt_cmp (pc_gt (pv 5) pe_int)))).pt (pe_tup (pa_cons pe_str (pa_cons pe_int (pa_cons (pe_op op_sub (pv 5) pe_int) pa_nil)))) pe_non)))))))))))), ?_⟩
    have eW : ∀ z : Wy, decide (V.str (wyS y) = V.str (wyS z)) = decide (y = z) := fun z => wyS_inj
    have sl2 : (2 : Nat) ≤ sizeLine := by decide
    have sl3 : (3 : Nat) ≤ sizeLine := by decide
    let s7 : L2.St := [some (.ref p), some (.str (S [c])), some (.bl hb), some (.str (wyS y)), some (.int m), some (.int dp), some (.bl (letB c))]
    have mk : ∀ (t : Wy × Nat × Nat), nxt hb y m dp c = some t → ∀ H1, Same H H1 → ∀ q, H1 q = none → Q (.ref q) (upd H1 q (.tup [.str (wyS t.1), .int t.2.1, .int t.2.2])) := fun t e H1 s1 q nq => k1 t e q _ (s1.trans (same_upd nq)) upd_same
    have n8 : decide (((m : Nat) : Int) < 8) = decide (m < 8) := decide_eq_decide.mpr (by omega)
    have d0 : decide (((dp : Nat) : Int) > 0) = decide (0 < dp) := decide_eq_decide.mpr (by omega)
    refine ⟨fun σ H' => σ = [some (.ref p), some (.str (S [c])), some (.bl hb), some (.str (wyS y)), some (.int m), some (.int dp), none] ∧ H' = H, ?_, ?_⟩
    · exact ⟨_, rfl, p, _, rfl, SqT.of hp, rfl, _, _, rfl, _, _, rfl, _, _, rfl, rfl, rfl, rfl⟩
    rintro σ H1 ⟨rfl, rfl⟩
    refine ⟨fun σ H' => σ = s7 ∧ H' = H1, ?_, ?_⟩
    · exact ⟨_, rfl, c, letters, rfl, rfl, rfl, rfl⟩
    rintro σ H2 ⟨rfl, rfl⟩
    -- a mark
    refine ⟨fun σ H' => σ = s7 ∧ H' = H2 ∧ nxt hb y m dp c = n1 y m dp c, ?_, ?_⟩
    · refine ⟨_, rfl, rfl, _, rfl, ite2 (fun c1 => ⟨_, rfl, rfl, _, rfl, ite2 (fun c2 => ⟨_, rfl, hb, rfl, ?_⟩) (fun c2 => ?_)⟩) (fun c1 => ?_)⟩
      · have c1 : y = .beg := of_decide_eq_true ((eW .beg).symm.trans c1)
        have c2 : c = 63 := of_decide_eq_true ((eq1 c 63).symm.trans c2)
        cases hb with
        | true => exact iteBt rfl ⟨_, rfl, sl3, mk (.hol, 0, dp) (by rw [nxt_1, if_pos ⟨c1, c2, rfl⟩]) H2 (Same.refl _)⟩
        | false => exact iteBf rfl ⟨rfl, rfl, by rw [nxt_1, if_neg (fun z => by cases z.2.2)]⟩
      · exact ⟨rfl, rfl, by rw [nxt_1, if_neg (fun z => c2 ((eq1 c 63).trans (decide_eq_true z.2.1)))]⟩
      · exact ⟨rfl, rfl, by rw [nxt_1, if_neg (fun z => c1 ((eW .beg).trans (decide_eq_true z.1)))]⟩
    rintro σ H3 ⟨rfl, rfl, hN⟩
    refine ⟨fun σ H' => σ = s7 ∧ Same H3 H' ∧ nxt hb y m dp c = n2 y m dp c, ?_, ?_⟩
    · refine ⟨_, rfl, sl2, fun q nq => ⟨q, _, rfl, .inr (SqT.of upd_same), rfl, rfl, _, rfl, ?_⟩⟩
      have s4 : Same H3 (upd H3 q (.tup [.str "begin", .str "word"])) := same_upd nq
      have hin : inV (V.str (wyS y)) [V.str "begin", V.str "word"] = decide (y = .beg ∨ y = .wrd) := by cases y <;> decide +kernel
      refine ite2 (fun c1 => ⟨_, rfl, _, rfl, ite2 (fun c2 => ⟨_, rfl, _, _, rfl, rfl, _, rfl, ite2 (fun c3 => ?_) (fun c3 => ?_)⟩) (fun c2 => ?_)⟩) (fun c1 => ?_)
      · have c1 : y = .beg ∨ y = .wrd := of_decide_eq_true (hin.symm.trans c1)
        have c3 : m < 8 := of_decide_eq_true (n8.symm.trans c3)
        have e : nxt hb y m dp c = some (.wrd, m + 1, dp) := by rw [hN, n1, if_pos ⟨c1, c2, c3⟩]
        exact ⟨_, rfl, _, 1, rfl, rfl, _, rfl, sl3, mk _ e _ s4⟩
      · exact ⟨rfl, s4, by rw [hN, n1, if_neg (fun z => c3 (n8.trans (decide_eq_true z.2.2)))]⟩
      · exact ⟨rfl, s4, by rw [hN, n1, if_neg (fun z => c2 z.2.1)]⟩
      · exact ⟨rfl, s4, by rw [hN, n1, if_neg (fun z => c1 (hin.trans (decide_eq_true z.1)))]⟩
    rintro σ H4 ⟨rfl, s4, hN⟩
    refine ⟨fun σ H' => σ = s7 ∧ Same H3 H' ∧ nxt hb y m dp c = n3 y m dp c, ?_, ?_⟩
    · refine ⟨_, rfl, rfl, _, rfl, ite2 (fun c1 => ⟨_, rfl, _, rfl, ite2 (fun c2 => ⟨_, rfl, _, _, rfl, rfl, _, rfl, ite2 (fun c3 => ?_) (fun c3 => ?_)⟩) (fun c2 => ?_)⟩) (fun c1 => ?_)⟩
      · have c1 : y = .hol := of_decide_eq_true ((eW .hol).symm.trans c1)
        have c3 : m < 8 := of_decide_eq_true (n8.symm.trans c3)
        have e : nxt hb y m dp c = some (.hol, m + 1, dp) := by rw [hN, n2, if_pos ⟨c1, c2, c3⟩]
        exact ⟨_, rfl, _, 1, rfl, rfl, _, rfl, sl3, mk _ e _ s4⟩
      · exact ⟨rfl, s4, by rw [hN, n2, if_neg (fun z => c3 (n8.trans (decide_eq_true z.2.2)))]⟩
      · exact ⟨rfl, s4, by rw [hN, n2, if_neg (fun z => c2 z.2.1)]⟩
      · exact ⟨rfl, s4, by rw [hN, n2, if_neg (fun z => c1 ((eW .hol).trans (decide_eq_true z.1)))]⟩
    rintro σ H5 ⟨rfl, s5, hN⟩
    refine ⟨fun σ H' => σ = s7 ∧ Same H3 H' ∧ nxt hb y m dp c = n4 y m dp c, ?_, ?_⟩
    · refine ⟨_, rfl, rfl, _, rfl, ite2 (fun c1 => ⟨_, rfl, rfl, _, rfl, ite2 (fun c2 => ?_) (fun c2 => ?_)⟩) (fun c1 => ?_)⟩
      · have c1 : y = .blk := of_decide_eq_true ((eW .blk).symm.trans c1)
        have c2 : c = 32 := of_decide_eq_true ((eq1 c 32).symm.trans c2)
        have e : nxt hb y m dp c = some (.beg, 0, dp) := by rw [hN, n3, if_pos c1, if_pos c2]
        exact ⟨_, rfl, sl3, mk _ e _ s5⟩
      · have c1 : y = .blk := of_decide_eq_true ((eW .blk).symm.trans c1)
        exact k0 (by rw [hN, n3, if_pos c1, if_neg (fun z => c2 ((eq1 c 32).trans (decide_eq_true z)))]) _ s5
      · exact ⟨rfl, s5, by rw [hN, n3, if_neg (fun z => c1 ((eW .blk).trans (decide_eq_true z)))]⟩
    rintro σ H6 ⟨rfl, s6, hN⟩
    refine ⟨fun σ H' => σ = s7 ∧ Same H3 H' ∧ nxt hb y m dp c = n5 y dp c, ?_, ?_⟩
    · refine ⟨_, rfl, rfl, _, rfl, ite2 (fun c1 => ?_) (fun c1 => ⟨_, rfl, _, _, rfl, rfl, _, rfl, ite2 (fun c2 => ⟨_, rfl, rfl, _, rfl, ite2 (fun c3 => ?_) (fun c3 => ?_)⟩) (fun c2 => ?_)⟩)⟩
      · have c1 : y = .beg := of_decide_eq_true ((eW .beg).symm.trans c1)
        exact k0 (by rw [hN, n4, if_pos (.inl c1)]) _ s6
      · have c3 : y = .hol := of_decide_eq_true ((eW .hol).symm.trans c3)
        have c2 : ((m : Nat) : Int) = 0 := of_decide_eq_true c2
        exact k0 (by rw [hN, n4, if_pos (.inr ⟨by omega, c3⟩)]) _ s6
      · exact ⟨rfl, s6, by rw [hN, n4, if_neg (fun z => z.elim (fun z => c1 ((eW .beg).trans (decide_eq_true z))) fun z => c3 ((eW .hol).trans (decide_eq_true z.2)))]⟩
      · exact ⟨rfl, s6, by rw [hN, n4, if_neg (fun z => z.elim (fun z => c1 ((eW .beg).trans (decide_eq_true z))) fun z => c2 (decide_eq_true (by omega)))]⟩
    rintro σ H7 ⟨rfl, s7', hN⟩
    refine ⟨fun σ H' => σ = s7 ∧ Same H3 H' ∧ nxt hb y m dp c = n6 dp c, ?_, ?_⟩
    · refine ⟨_, rfl, rfl, _, rfl, ite2 (fun c1 => ⟨_, rfl, rfl, _, rfl, ite2 (fun c2 => ?_) (fun c2 => ?_)⟩) (fun c1 => ?_)⟩
      · have c1 : c = 40 := of_decide_eq_true ((eq1 c 40).symm.trans c1)
        have c2 : y = .wrd := of_decide_eq_true ((eW .wrd).symm.trans c2)
        have e : nxt hb y m dp c = some (.beg, 0, dp + 1) := by rw [hN, n5, if_pos ⟨c1, c2⟩]
        exact ⟨_, rfl, _, 1, rfl, rfl, sl3, mk _ e _ s7'⟩
      · exact ⟨rfl, s7', by rw [hN, n5, if_neg (fun z => c2 ((eW .wrd).trans (decide_eq_true z.2)))]⟩
      · exact ⟨rfl, s7', by rw [hN, n5, if_neg (fun z => c1 ((eq1 c 40).trans (decide_eq_true z.1)))]⟩
    rintro σ H8 ⟨rfl, s8, hN⟩
    refine ⟨fun σ H' => σ = s7 ∧ Same H3 H' ∧ nxt hb y m dp c = n7 dp c, ?_, ?_⟩
    · refine ⟨_, rfl, rfl, _, rfl, ite2 (fun c1 => ⟨_, rfl, _, _, rfl, rfl, _, rfl, ite2 (fun c2 => ?_) (fun c2 => ?_)⟩) (fun c1 => ?_)⟩
      · have c1 : c = 44 := of_decide_eq_true ((eq1 c 44).symm.trans c1)
        have c2 : 0 < dp := of_decide_eq_true (d0.symm.trans c2)
        have e : nxt hb y m dp c = some (.blk, 0, dp) := by rw [hN, n6, if_pos ⟨c1, c2⟩]
        exact ⟨_, rfl, sl3, mk _ e _ s8⟩
      · exact ⟨rfl, s8, by rw [hN, n6, if_neg (fun z => c2 (d0.trans (decide_eq_true z.2)))]⟩
      · exact ⟨rfl, s8, by rw [hN, n6, if_neg (fun z => c1 ((eq1 c 44).trans (decide_eq_true z.1)))]⟩
    rintro σ H9 ⟨rfl, s9, hN⟩
    refine ⟨_, rfl, rfl, _, rfl, ite2 (fun c1 => ⟨_, rfl, _, _, rfl, rfl, _, rfl, ite2 (fun c2 => ?_) (fun c2 => ?_)⟩) (fun c1 => ?_)⟩
    · have c1 : c = 41 := of_decide_eq_true ((eq1 c 41).symm.trans c1)
      have c2 : 0 < dp := of_decide_eq_true (d0.symm.trans c2)
      have e : nxt hb y m dp c = some (.fin, 0, dp - 1) := by rw [hN, n7, if_pos ⟨c1, c2⟩]
      have e1 : ((dp : Nat) : Int) - 1 = ((dp - 1 : Nat) : Int) := by omega
      refine ⟨_, rfl, _, 1, rfl, rfl, sl3, fun q nq => ?_⟩
      have := mk _ e _ s9 q nq
      rw [← e1] at this
      exact this
    · exact k0 (by rw [hN, n7, if_neg (fun z => c2 (d0.trans (decide_eq_true z.2)))]) _ s9
    · exact k0 (by rw [hN, n7, if_neg (fun z => c1 ((eq1 c 41).trans (decide_eq_true z.1)))]) _ s9
end
end K7

/-! for i, c in enumerate(a text of ascii signs) -/
namespace ESX
open PySem PySem.Spec PySem.W PyProof.Rows L2
def IteS (x : Str) : It :=
  ⟨fun i _ => i < x.cps.size, fun i H v H' => ∃ T c, v = .ref T ∧ H T = none ∧ H' = upd H T (.tup [.int (i : Nat), .str ⟨#[c]⟩]) ∧ x.cps[i]? = some c, fun i _ => x.cps.size ≤ i⟩
theorem turn_enumS {P : Program} {w : World} {K : PySem.W.Frag} {elts : List Expr} {kk : Nat} {tpos : Pos} (e it : Addr) (x : Str) (t : Tok) :
    Turn P w K (.Tuple elts kk tpos) (IteS x) [e, it] e (fun i h => (∃ old, IsEnum h e it ((i : Nat) : Int) old) ∧ h.IsStrIter it "str_ascii_iterator" x t i ∧ e ≠ it) where
  mem := by simp
  obj := fun i h st b hb => by
    obtain ⟨⟨old, k1⟩, ⟨o, ho, hc, hd⟩, _⟩ := st
    rcases List.mem_cons.mp hb with rfl | hb
    · exact ⟨_, k1, fun v q => nomatch q⟩
    · obtain rfl := List.mem_singleton.mp hb
      exact ⟨o, ho, fun v q => by rw [hd] at q; cases q⟩
  keep := fun i h h' st k => by
    obtain ⟨⟨old, k1⟩, ⟨o, ho, r⟩, k3⟩ := st
    exact ⟨⟨old, k e (by simp) _ k1⟩, ⟨o, k it (by simp) o ho, r⟩, k3⟩
  item := by
    intro X hP hw hK hc i pins s σ H E I hf st hg
    subst hP hw hK
    obtain ⟨⟨old, k1⟩, k2, k3⟩ := st
    have l1 : e < s.heap.objs.size := Heap.lt_size k1
    have l2 : it < s.heap.objs.size := by obtain ⟨_, q, _⟩ := k2; exact Heap.lt_size q
    refine wpAny_pyNext_enum_itemD (Draws.strAscii (A := X.A.in1) (show X.A.in1.handled = none from I.ok.hd hc) it x t) k1 k2 hg k3 (by simp [k3]) fun y h' tk hy ho st' hT hsz hk => ?_
    obtain ⟨c, u, hcx, rfl⟩ := hy
    refine ⟨_, rfl, wpAny_letOwnedTupleGo_enum (s := { s with heap := h', toks := tk + 1 }) ho fun h'' he' sb => ?_⟩
    have hT2 : h''.get? s.heap.objs.size = some { cls := .type "tuple", data := .seq #[.int i tk, .str ⟨#[c]⟩ u] } := (sb.2 _ (Nat.ne_of_gt l1)).trans hT
    have nw : ObjOk X.prog X.w (upd H s.heap.objs.size (.tup [.int (i : Nat), .str ⟨#[c]⟩])) h'' s.heap.objs.size (.tup [.int (i : Nat), .str ⟨#[c]⟩]) :=
      ⟨by show 2 ≤ sizeLine; decide, [.int i tk, .str ⟨#[c]⟩ u], .cons ⟨_, rfl⟩ (.cons ⟨_, rfl⟩ .nil), ⟨_, hT2, rfl, _, rfl⟩⟩
    have I1 : Inv X pins σ (upd H s.heap.objs.size (.tup [.int (i : Nat), .str ⟨#[c]⟩])) { s with heap := h'', toks := tk + 1 } :=
      I.turnedNew (ch := [e, it]) (fun b ob hb q => (sb.2 b (fun z => hb (by simp [z]))).trans (hk b ob (fun z => hb (by simp [z])) (fun z => hb (by simp [z])) q)) hf (Nat.le_refl _) nw
    refine ⟨.ref s.heap.objs.size, _, I1, rfl, ⟨_, c, rfl, I.hok.fresh (Nat.le_refl _), rfl, hcx⟩, ⟨⟨.str ⟨#[c]⟩ u, ?_⟩, ?_, k3⟩, fun b hb => ?_⟩
    · rw [show ((i + 1 : Nat) : Int) = (i : Int) + 1 by omega]
      exact he'
    · obtain ⟨o, ho, r⟩ := st'
      exact ⟨o, (sb.2 it (Ne.symm k3)).trans ho, r⟩
    · have hb' : b < s.heap.objs.size := by
        rcases List.mem_cons.mp hb with rfl | hb
        · exact l1
        · obtain rfl := List.mem_singleton.mp hb
          exact l2
      rw [upd_ne (Nat.ne_of_lt hb')]
      exact (hf b hb).1
  done := by
    intro X hP hw hK hc i pins s σ H E I hf st hg
    subst hP hw hK
    obtain ⟨⟨old, k1⟩, k2, k3⟩ := st
    obtain ⟨f0, f1, f2, f3, f4, f5⟩ := hf it (by simp)
    have hx : x.cps[i]? = none := Array.getElem?_eq_none hg
    have hh : X.A.in1.handled = none := I.ok.hd hc
    have ty : s.TypeIs (.ref e) "enumerate" := ⟨_, k1, rfl⟩
    unfold pyNext
    refine wpAny_bind (wpAny_attempt (wpAny_callSpecial?_slot (name := Str.ofString "__next__") ty F.slot_enumerate_next (wpAny_call_entry F.slot_enumerate_next ty F.entry_enumerate_next ?_ (F.args_enumerate_next_1 _))))
    show wpAny _ _ (field (.ref e) 2 >>= _) _ _ _
    refine wpAny_bind (wpAny_field k1 rfl (x := .ref it) rfl ?_)
    refine wpAny_bind (wpAny_nextOf_ascii_end hh k2 hx fun h' y he' hx' => ?_)
    obtain ⟨o, ho, hc⟩ := hx'
    exact wpAny_bind (wpAny_isInstance (T := "StopIteration") (b := true) ⟨o, ho, hc⟩ isSubtype_stop (wpAny_pure ⟨rfl, I.turned (t' := s.toks) (fun b o hb q => he' b o hb q) f0 f1 f3 f4 f5⟩))
  self := fun A i s Q E st h => by
    obtain ⟨⟨_, k1⟩, _⟩ := st
    exact wpAny_pyIter_enum k1 h
def iEnumS (ta : TA) : TI := fun σ H R => ta σ H fun vs H1 => ∃ x : Str, vs = [.str x] ∧ x.cps.all (· < 128) = true ∧ R (IteS x) H1
theorem pi_enumS {X : Cx} {e : Expr} {ta : TA} {p pos tpos : Pos} {elts : List Expr} {kk : Nat} (hg : Gl X "enumerate") (hm : X.mg "enumerate" = none) (ha : PA X [e] ta) (hs : starEach [e] X.env = [(false, eval e X.env)] := by rfl) :
    PI X (.Tuple elts kk tpos) (.Call (.Name "enumerate" p) [e] [] pos) (iEnumS ta) := by
  refine ⟨fun pins s σ H R I h => ?_⟩
  refine Call_ (ld_blt I hg hm boot_enumerate (PyProof.Rows.callWith_type1 (thn (ha.run pos pins s σ H _ I h) fun us s1 ⟨vs, H1, I1, r1, q1⟩ => ?_) hs rfl))
  obtain ⟨x, rfl, hall, q⟩ := q1
  cases r1 with
  | cons r rr =>
    cases rr
    obtain ⟨t, rfl⟩ := r
    refine call_enumerate_str fun h' he hit hsz hk => wpAny_pyIter_enum he ?_
    have hty : strIterType x = "str_ascii_iterator" := by unfold strIterType; rw [if_pos hall]
    rw [hty] at hit
    have I2 : Inv X pins σ H1 { s1 with heap := h' } := I1.kept (t' := s1.toks) hk
    refine ⟨s1.heap.objs.size + 1, [s1.heap.objs.size + 1, s1.heap.objs.size], _, _, H1, rfl, I2, turn_enumS (s1.heap.objs.size + 1) s1.heap.objs.size x t, ⟨⟨.none, he⟩, hit, Nat.succ_ne_self _⟩, fun b hb => ?_, q⟩
    have hle : s1.heap.objs.size ≤ b := by
      rcases List.mem_cons.mp hb with rfl | hb
      · exact Nat.le_add_right _ _
      · obtain rfl := List.mem_singleton.mp hb
        exact Nat.le_refl _
    exact I1.fpOk hle (I1.hok.fresh hle)
end ESX

namespace K7
open PySem PySem.Spec PyProof.Rows L2 C8 XE XI XR SX
/-! _law_fault -/

def spFa : Sp := fun vs H Q _ => ∃ (X : Str) (b : Bool), vs = [.str X, .bl b] ∧ X.length ≤ 10000 ∧ X.cps.all (· < 128) = true ∧
  ∀ H', Same H H' → (flt b .beg 0 0 0 (TL.tl X) = none → Q .non H') ∧ (∀ k : Nat, flt b .beg 0 0 0 (TL.tl X) = some k → Q (.int k) H')
theorem nxt_bd {b : Bool} {y : Wy} {m dp c : Nat} {t : Wy × Nat × Nat} (h : nxt b y m dp c = some t) : t.2.1 ≤ 8 ∧ t.2.2 ≤ dp + 1 := by
  unfold nxt at h
  repeat' split at h
  all_goals first | (cases h; done) | (cases h; simp; try omega)
section
variable {P : Program} {w : World} {K : PySem.W.Frag} {mg : Str → Option Value} {base : Heap}
theorem c_fa {f : Addr} {fd : FuncData} (F : Def K mg "_law_fault" sFa f fd) (b : Binds K fd ["_law_text_here", "_law_holes_here"] []) (T : Blt4 mg) (C_next : Cal P w K mg base 1 "_law_next" spNx []) : Cal P w K mg base 2 "_law_fault" spFa [] := by
  refine cal0 F b .nil scFa (fun vs H Q E h => ?_) (fun cdv A outer s H vs Q E hr h => ?_)
  · obtain ⟨X, b, rfl, _⟩ := h
    rfl
  · obtain ⟨X, hb, rfl, hl, ha, k⟩ := h
    have nd := scFa.nd
    refine ⟨_, (pss_cons (ps_set (i := 2) nd rfl (Or.inl rfl) (pe_tup (pa_cons pe_str (pa_cons pe_int (pa_cons pe_int pa_nil)))))
      (pss_cut (ps_for PassesOwn.never rfl (ESX.pi_enumS (by rfl) T.enu (pa_cons (pv 0) pa_nil)) (pg_tup rfl (pgs_cons (pg_name (i := 3) nd rfl (Or.inl rfl)) (pgs_cons (pg_name (i := 4) nd rfl (Or.inl rfl)) pgs_nil)))
        (pss_cons (ps_set (i := 2) nd rfl (Or.inl rfl) (pe_c C_next hr (by decide) (by rfl) (pa_cons (pv 2) (pa_cons (pv 4) (pa_cons (pv 1) pa_nil)))))
        (pss_one (ps_if (pt_cmp (pc_isN (pv 2)))
          (pss_one (ps_ret (pv 3))) pss_nil))))
      (pss_cut (ps_set (i := 5) nd rfl (Or.inl rfl) (pe_and (pe_cmp (pc_eqI (pe_ix ix_tup (pv 2) pe_int fun _ _ => rfl) pe_int) rfl) (pe_one (pe_or (pe_cmpR op_eq (pe_ix ix_tup (pv 2) pe_int fun _ _ => rfl) pe_str (nomark _)) (pe_one (pe_and (pe_cmpR op_in_seq (pe_ix ix_tup (pv 2) pe_int fun _ _ => rfl) (pe_tup (pa_cons pe_str (pa_cons pe_str pa_nil))) (by rfl)) (pe_one (pe_cmp (pc_gt (pe_ix ix_tup (pv 2) pe_int fun _ _ => rfl) pe_int) rfl))))))))
      (pss_one (ps_ret (pe_ifExp (pt_val (pv 5)) pe_non (pe_callB call_len_str (by rfl) T.len PySem.boot_len (pa_cons (pv 0) pa_nil)))))))), ?_⟩
    have hlX : (TL.tl X).length = X.length := (TL.len_tl X).symm
    have hsl : X.length ≤ sizeLine := by rw [sizeLine_eq]; omega
    have sl2 : (2 : Nat) ≤ sizeLine := by decide
    refine ⟨(by show 3 ≤ sizeLine; decide), fun p np => ?_⟩
    have sp : Same H (upd H p (.tup [.str "begin", .int 0, .int 0])) := same_upd np
    have hp : (upd H p (.tup [.str "begin", .int 0, .int 0])) p = some (.tup [.str "begin", .int 0, .int 0]) := upd_same
    generalize upd H p (.tup [.str "begin", .int 0, .int 0]) = H1 at sp hp
    generalize hF : flt hb .beg 0 0 0 (TL.tl X) = FF at k
    refine ⟨fun σ H' => ∃ (p : Addr) (v3 v4 : Option V) (y : Wy) (m dp : Nat), σ = [some (.str X), some (.bl hb), some (.ref p), v3, v4, none] ∧ Same H H' ∧ H' p = some (.tup [.str (wyS y), .int m, .int dp]) ∧ FF = if okE y m dp = true then none else some X.length, ?_, ?_⟩
    · refine ⟨_, rfl, X, rfl, ha, for_gen (J := ESX.IteS X) X.length (fun i σ H' => ∃ (p : Addr) (v3 v4 : Option V) (y : Wy) (m dp : Nat), σ = [some (.str X), some (.bl hb), some (.ref p), v3, v4, none] ∧ Same H H' ∧ H' p = some (.tup [.str (wyS y), .int m, .int dp]) ∧ m ≤ 8 ∧ dp ≤ i ∧ FF = flt hb y m dp i ((TL.tl X).drop i)) ⟨p, none, none, .beg, 0, 0, rfl, sp, hp, Nat.zero_le _, Nat.zero_le _, hF.symm⟩
        (fun i σ H' hi _ => hi) (fun σ H' _ => Nat.le_refl _) ?_ ?_⟩
      · rintro i σ H' x H2 hi ⟨p, v3, v4, y, m, dp, rfl, sm, hp', hm, hd, hff⟩ ⟨T', c, rfl, nT, rfl, hc⟩
        have sT : Same H' (upd H' T' (.tup [.int (i : Nat), .str ⟨#[c]⟩])) := same_upd nT
        have hT : (upd H' T' (.tup [.int (i : Nat), .str ⟨#[c]⟩])) T' = some (.tup [.int (i : Nat), .str ⟨#[c]⟩]) := upd_same
        generalize upd H' T' (.tup [.int (i : Nat), .str ⟨#[c]⟩]) = H3 at sT hT
        have hdr : (TL.tl X).drop i = c :: (TL.tl X).drop (i + 1) := by
          have h1 : i < (TL.tl X).length := by omega
          rw [List.drop_eq_getElem_cons h1]
          have h2 : (TL.tl X)[i]? = some c := by
            show X.cps.toList[i]? = some c
            rw [Array.getElem?_toList]
            exact hc
          rw [List.getElem?_eq_getElem h1] at h2
          rw [Option.some.inj h2]
        rw [hdr, flt] at hff
        refine ⟨T', _, rfl, SqT.of hT, rfl, _, _, rfl, _, _, rfl, rfl, ?_⟩
        refine ⟨_, rfl, _, rfl, _, rfl, p, c, m, dp, y, hb, rfl, sT _ _ hp', by omega, by omega, fun hn H4 s4 => ?_, fun t ht q H4 s4 hq => ?_⟩
        · rw [hn] at hff
          refine ⟨_, rfl, true, rfl, iteBt rfl ⟨_, rfl, (k _ (sm.trans (sT.trans s4))).2 i hff⟩⟩
        · rw [ht] at hff
          obtain ⟨h1, h2⟩ := nxt_bd ht
          exact ⟨_, rfl, false, rfl, iteBf rfl ⟨q, _, _, t.1, t.2.1, t.2.2, rfl, sm.trans (sT.trans s4), hq, h1, by omega, hff⟩⟩
      · rintro σ H' ⟨p, v3, v4, y, m, dp, rfl, sm, hp', hm, hd, hff⟩
        rw [List.drop_eq_nil_of_le (by omega), flt] at hff
        exact ⟨p, v3, v4, y, m, dp, rfl, sm, hp', hff⟩
    rintro σ H2 ⟨p, v3, v4, y, m, dp, rfl, sm, hp', hff⟩
    have at0 : atI [V.str (wyS y), .int m, .int dp] 0 = some (.str (wyS y)) := at_of (j := 0) (by omega) rfl
    have at1 : atI [V.str (wyS y), .int m, .int dp] 1 = some (.int m) := at_of (j := 1) (by omega) rfl
    have at2 : atI [V.str (wyS y), .int m, .int dp] 2 = some (.int dp) := at_of (j := 2) (by omega) rfl
    refine ⟨fun σ H' => σ = [some (.str X), some (.bl hb), some (.ref p), v3, v4, some (.bl (okE y m dp))] ∧ Same H H', ?_, ?_⟩
    · have okq : okE y m dp = (decide (dp = 0) && (decide (y = .fin) || (decide (y = .wrd ∨ y = .hol) && decide (0 < m)))) := by
        unfold okE
        by_cases h1 : dp = 0 <;> by_cases h2 : y = .fin <;> by_cases h3 : (y = .wrd ∨ y = .hol) <;> by_cases h4 : 0 < m <;> simp [h1, h2, h3, h4]
      have d0 : decide (((dp : Nat) : Int) = 0) = decide (dp = 0) := decide_eq_decide.mpr (by omega)
      have m0 : decide (((m : Nat) : Int) > 0) = decide (0 < m) := decide_eq_decide.mpr (by omega)
      have hin : inV (V.str (wyS y)) [V.str "word", V.str "hole"] = decide (y = .wrd ∨ y = .hol) := by cases y <;> decide +kernel
      refine ⟨_, rfl, p, _, 2, _, rfl, rfl, SqT.of hp', at2, (dp : Int), 0, rfl, rfl, _, rfl, ?_⟩
      by_cases hd : dp = 0
      · refine iteBt (d0.trans (decide_eq_true hd)) ?_
        refine ⟨_, rfl, p, _, 0, _, rfl, rfl, SqT.of hp', at0, rfl, _, rfl, ?_⟩
        by_cases hy : y = .fin
        · refine iteBt (wyS_inj (b := .fin) |>.trans (decide_eq_true hy)) ⟨?_, sm⟩
          rw [okq, decide_eq_true hd, decide_eq_true hy]
          rfl
        · refine iteBf (wyS_inj (b := .fin) |>.trans (decide_eq_false hy)) ?_
          refine ⟨_, rfl, p, _, 0, _, rfl, rfl, SqT.of hp', at0, sl2, fun q nq => ⟨q, _, rfl, .inr (SqT.of upd_same), rfl, rfl, _, rfl, ?_⟩⟩
          have s4 : Same H2 (upd H2 q (.tup [.str "word", .str "hole"])) := same_upd nq
          refine ite2 (fun c => ?_) (fun c => ?_)
          · have c : (y = .wrd ∨ y = .hol) := of_decide_eq_true (hin.symm.trans c)
            refine ⟨_, rfl, p, _, 1, _, rfl, rfl, SqT.of (s4 _ _ hp'), at1, (m : Int), 0, rfl, rfl, ?_, sm.trans s4⟩
            rw [okq, decide_eq_true hd, decide_eq_false hy, decide_eq_true c, ← m0]
            rfl
          · have c : ¬ (y = .wrd ∨ y = .hol) := fun h => c (hin.trans (decide_eq_true h))
            refine ⟨?_, sm.trans s4⟩
            rw [okq, decide_eq_true hd, decide_eq_false hy, decide_eq_false c]
            rfl
      · refine iteBf (d0.trans (decide_eq_false hd)) ⟨?_, sm⟩
        rw [okq, decide_eq_false hd]
        rfl
    rintro σ H3 ⟨rfl, s3⟩
    refine ⟨_, rfl, okE y m dp, rfl, ite2 (fun c => ?_) (fun c => ?_)⟩
    · rw [if_pos c] at hff
      exact (k _ s3).1 hff
    · rw [if_neg c] at hff
      exact ⟨_, rfl, X, rfl, hsl, (k _ s3).2 _ hff⟩
end
end K7

namespace K7
open PySem PySem.Spec PyProof.Rows L2 C8 XE XI XR SX
/-! _law_bent -/
abbrev sBe : Stmt := top 42
abbrev NBe : List Str := ["_law_state", "_law_text_here", "_law_at", "_law_sign", "_law_way", "_law_some"]
theorem scBe : FnScope NBe ["_law_state", "_law_text_here"] (fnScope sBe) := fnScope_by (by decide +kernel)
def asc (X : Str) : Bool := X.cps.all (· < 128)
theorem asc_iff {X : Str} : asc X = true ↔ ∀ c ∈ TL.tl X, c < 128 := by
  unfold asc
  rw [← Array.all_toList, List.all_eq_true]
  exact ⟨fun h c hc => of_decide_eq_true (h c hc), fun h c hc => decide_eq_true (h c hc)⟩
theorem asc_app {X Y : Str} (h : asc X = true) (h' : asc Y = true) : asc (X ++ Y) = true := by
  rw [asc_iff] at *
  intro c hc
  have e : TL.tl (X ++ Y) = TL.tl X ++ TL.tl Y := by
    show (X.cps ++ Y.cps).toList = _
    rw [Array.toList_append]
  rw [e] at hc
  exact (List.mem_append.mp hc).elim (h c) (h' c)
theorem asc_cut {X : Str} {lo hi : Option Int} (h : asc X = true) : asc (cutS X lo hi) = true := by
  rw [asc_iff] at *
  intro c hc
  refine h c ?_
  have hc : c ∈ (X.cps.toList.drop (HT.sIx X.length 0 lo)).take (HT.sIx X.length X.length hi - HT.sIx X.length 0 lo) := hc
  exact List.mem_of_mem_drop (List.mem_of_mem_take hc)
theorem len_app (X Y : Str) : (X ++ Y).length = X.length + Y.length := by
  show (X.cps ++ Y.cps).size = _
  rw [Array.size_append]
  rfl
/-- both halves of a cut -/
theorem cut_both (X : Str) (n : Nat) : (cutS X none (some (n : Int))).length + (cutS X (some (n : Int)) none).length ≤ X.length := by
  show (((X.cps.toList.drop (HT.sIx X.length 0 none)).take (HT.sIx X.length X.length (some (n : Int)) - HT.sIx X.length 0 none)).toArray).size + (((X.cps.toList.drop (HT.sIx X.length 0 (some (n : Int)))).take (HT.sIx X.length X.length none - HT.sIx X.length 0 (some (n : Int)))).toArray).size ≤ X.cps.size
  rw [List.size_toArray, List.length_take, List.length_drop, List.size_toArray, List.length_take, List.length_drop, Array.length_toList]
  have h1 : HT.sIx X.length 0 none = 0 := rfl
  have h2 : HT.sIx X.length X.length none = X.length := rfl
  have h3 : HT.sIx X.length X.length (some (n : Int)) = HT.sIx X.length 0 (some (n : Int)) := rfl
  rw [h1, h2, h3]
  have : X.cps.size = X.length := rfl
  omega
def spBe : Sp := fun vs H Q _ => ∃ (st : Addr) (X : Str) (B : Nat) (cl : Addr), vs = [.ref st, .str X] ∧ X.length ≤ 4000 ∧ asc X = true ∧ StAt B H st cl ∧ B + 4 < 1000000000000000 ∧
  ∀ Y H', asc Y = true → Y.length ≤ 2 * X.length + 9 → StAt (B + 4) H' st cl → But st H H' → Q (.str Y) H'
section
variable {P : Program} {w : World} {K : PySem.W.Frag} {mg : Str → Option Value} {base : Heap}
theorem c_be {f : Addr} {fd : FuncData} (F : Def K mg "_law_bent" sBe f fd) (b : Binds K fd ["_law_state", "_law_text_here"] []) (T : Blt4 mg) (C_take : Cal P w K mg base 1 "_law_take" spTake []) (C_one : Cal P w K mg base 2 "_law_one" spOne []) : Cal P w K mg base 3 "_law_bent" spBe [] := by
  refine cal0 F b .nil scBe (fun vs H Q E h => ?_) (fun cdv A outer s H vs Q E hr h => ?_)
  · obtain ⟨st, X, B, cl, rfl, _⟩ := h
    rfl
  · obtain ⟨st, X, B, cl, rfl, hl, ha, hs, hB, k⟩ := h
    have nd := scBe.nd
    refine ⟨_, (pss_cut (ps_par (i := 2) (j := 3) rfl nd rfl rfl (by decide) rfl rfl (pa_cons (pe_c C_take hr (by decide) (by rfl) (pa_cons (pv 0) (pa_cons (pe_op op_add (pe_callB call_len_str (by rfl) T.len PySem.boot_len (pa_cons (pv 1) pa_nil)) pe_int) pa_nil))) (pa_cons (pe_c C_one hr (by decide) (by rfl) (pa_cons (pv 0) (pa_cons (pe_callTy (SLX.call_list_sg rfl) (by rfl) T.list (by decide +kernel) (pa_cons pe_str pa_nil)) pa_nil))) pa_nil)) (by rfl))
      (pss_cut (ps_set (i := 4) nd rfl (Or.inl rfl) (pe_c C_take hr (by decide) (by rfl) (pa_cons (pv 0) (pa_cons pe_int pa_nil))))
      (pss_cut (ps_if (pt_cmp (pc_eqI (pv 4) pe_int))
        (pss_cut (ps_set (i := 5) nd rfl (Or.inl rfl) (pe_lst (pa_cons pe_str (pa_cons (pe_slice sl_str (pv 1) po_none (po_some (pv 2))) (pa_cons (pe_op op_add_str (pv 1) (pv 1)) (pa_cons (pe_op op_add_str (pv 1) pe_str) (pa_cons pe_str pa_nil)))))))
        (pss_one (ps_ret (pe_c C_one hr (by decide) (by rfl) (pa_cons (pv 0) (pa_cons (pe_op op_cat (pv 5) (pe_lst (pa_cons (pe_op op_add_str (pv 1) pe_str) (pa_cons (pe_op op_add_str pe_str (pv 1)) (pa_cons (pe_op op_add_str (pv 1) pe_str) pa_nil))))) pa_nil)))))) pss_nil)
      (pss_one (ps_ret (pe_op op_add_str (pe_op op_add_str (pe_slice sl_str (pv 1) po_none (po_some (pv 2))) (pe_ifExp (pt_cmp (pc_lt (pv 4) pe_int)) (pv 3) pe_str)) (pe_slice sl_str (pv 1) (po_some (pe_op op_add (pv 2) (pe_callTy call_int1 (by rfl) T.int (by decide +kernel) (pa_cons (pe_cmp (pc_gt (pv 4) pe_int) rfl) pa_nil)))) po_none))))))), ?_⟩
    have hsl : X.length ≤ sizeLine := by rw [sizeLine_eq]; omega
    have szl := sizeLine_eq
    refine ⟨fun σ H' => ∃ (n : Nat) (c : Nat), σ = [some (.ref st), some (.str X), some (.int n), some (.str ⟨#[c]⟩), none, none] ∧ n ≤ X.length ∧ c < 128 ∧ StAt (B + 2) H' st cl ∧ But st H H', ?_, ?_⟩
    · refine ⟨_, rfl, _, rfl, X, rfl, hsl, (X.length : Int), 1, rfl, rfl, st, _, B, cl, rfl, by omega, by omega, hs, by omega, fun d H1 d0 d1 hs1 b1 => ?_⟩
      refine ⟨_, rfl, _, rfl, (by decide +kernel), fun p np => ?_⟩
      have sp : Same H1 (upd H1 p (.lst (("ab(),? Z0,)(" : Str).cps.toList.map fun c => V.str ⟨#[c]⟩))) := same_upd np
      refine ⟨st, p, _, B + 1, cl, rfl, .inl upd_same, (hs1.new np).1, (by decide +kernel), (by decide +kernel), hs1.same sp, by omega, fun v H2 hv hs2 b2 => ?_⟩
      obtain ⟨c, hc, rfl⟩ := List.mem_map.mp hv
      have c128 : c < 128 := (by decide +kernel : ∀ c ∈ ("ab(),? Z0,)(" : Str).cps.toList, c < 128) c hc
      refine ⟨_, _, rfl, d.toNat, c, ?_, by omega, c128, hs2, b1.trans ((Same.but sp).trans b2)⟩
      rw [Int.toNat_of_nonneg d0]
      rfl
    rintro σ H1 ⟨n, c, rfl, hn, hc, hs1, b1⟩
    have hsg : asc ⟨#[c]⟩ = true := by rw [asc_iff]; intro x hx; rw [List.mem_singleton.mp hx]; exact hc
    refine ⟨fun σ H' => ∃ (d : Int), σ = [some (.ref st), some (.str X), some (.int n), some (.str ⟨#[c]⟩), some (.int d), none] ∧ 0 ≤ d ∧ StAt (B + 3) H' st cl ∧ But st H H', ?_, ?_⟩
    · exact ⟨_, rfl, st, _, _, cl, rfl, by decide, by decide, hs1, by omega, fun d H2 d0 d1 hs2 b2 => ⟨d, rfl, d0, hs2, b1.trans b2⟩⟩
    rintro σ H2 ⟨d, rfl, d0, hs2, b2⟩
    refine ⟨fun σ H' => σ = [some (.ref st), some (.str X), some (.int n), some (.str ⟨#[c]⟩), some (.int d), none] ∧ H' = H2, ?_, ?_⟩
    · refine ⟨_, rfl, d, 7, rfl, rfl, _, rfl, ite2 (fun _ => ?_) (fun _ => ⟨rfl, rfl⟩)⟩
      have good : ∀ {Y : Str}, asc Y = true → Y.length ≤ 2 * X.length + 9 → ∃ Z, V.str Y = .str Z ∧ asc Z = true ∧ Z.length ≤ 2 * X.length + 9 := fun h1 h2 => ⟨_, rfl, h1, h2⟩
      have h1 : ∀ Z : Str, asc Z = true → Z.length ≤ 9 → asc (X ++ Z) = true ∧ (X ++ Z).length ≤ 2 * X.length + 9 ∧ asc (Z ++ X) = true ∧ (Z ++ X).length ≤ 2 * X.length + 9 := fun Z a b => ⟨asc_app ha a, by rw [len_app]; omega, asc_app a ha, by rw [len_app]; omega⟩
      refine ⟨fun σ H' => ∃ (p : Addr) (ys : List V), σ = [some (.ref st), some (.str X), some (.int n), some (.str ⟨#[c]⟩), some (.int d), some (.ref p)] ∧ H2 p = none ∧ H' p = some (.lst ys) ∧ Same H2 H' ∧ ys.length = 5 ∧ ∀ v ∈ ys, ∃ Z, v = .str Z ∧ asc Z = true ∧ Z.length ≤ 2 * X.length + 9, ?_, ?_⟩
      · refine ⟨_, rfl, _, rfl, (n : Int), rfl, X, rfl, hsl, _, rfl, _, rfl, X, X, rfl, rfl, by omega, _, rfl, X, ")", rfl, rfl, (by have : (")" : Str).length = 1 := rfl; omega), (by show 5 ≤ sizeLine; decide), fun p np => ⟨p, _, rfl, np, upd_same, same_upd np, rfl, ?_⟩⟩
        intro v hv
        simp only [List.mem_cons, List.not_mem_nil, or_false] at hv
        rcases hv with rfl | rfl | rfl | rfl | rfl
        · exact good (show asc "" = true by decide +kernel) (Nat.le_trans (show ("" : Str).length ≤ 0 from Nat.le_refl 0) (Nat.zero_le _))
        · exact good (asc_cut ha) (by have := cutS_length X none (some (n : Int)); omega)
        · exact good (asc_app ha ha) (by rw [len_app]; omega)
        · exact good (h1 ")" (by decide +kernel) (by decide +kernel)).1 (h1 ")" (by decide +kernel) (by decide +kernel)).2.1
        · exact good (by decide +kernel) (by have : ("abcdefghi" : Str).length = 9 := by decide +kernel
                                             omega)
      · rintro σ H3 ⟨p, ys, rfl, np, hp, s3, hl5, hys⟩
        have ls : ∀ Z : Str, Z.length ≤ 9 → X.length + Z.length ≤ sizeLine := fun Z h => by omega
        refine ⟨_, rfl, _, rfl, _, rfl, X, ", a", rfl, rfl, ls _ (by decide +kernel), _, rfl, " ", X, rfl, rfl, (by have := ls " " (by decide +kernel); omega), _, rfl, X, " ", rfl, rfl, ls _ (by decide +kernel), (by show 3 ≤ sizeLine; decide), fun q nq => ?_⟩
        have s4 : Same H3 (upd H3 q (.lst [.str (X ++ ", a"), .str (" " ++ X), .str (X ++ " ")])) := same_upd nq
        refine ⟨p, q, ys, _, rfl, rfl, s4 _ _ hp, upd_same, by rw [hl5]; show 5 + 3 ≤ sizeLine; decide, fun r nr => ?_⟩
        have s5 := s3.trans (s4.trans (same_upd nr (o := .lst (ys ++ [.str (X ++ ", a"), .str (" " ++ X), .str (X ++ " ")]))))
        have hs5 := hs2.same s5
        refine ⟨st, r, _, B + 3, cl, rfl, .inl upd_same, ?_, by simp, by rw [List.length_append, hl5]; show 5 + 3 < 1000000; decide, hs5, by omega, fun v H6 hv hs6 b6 => ?_⟩
        · exact (hs2.same (s3.trans s4)).new nr |>.1
        · obtain ⟨Z, rfl, z1, z2⟩ : ∃ Z, v = .str Z ∧ asc Z = true ∧ Z.length ≤ 2 * X.length + 9 := by
            rcases List.mem_append.mp hv with hv | hv
            · exact hys v hv
            · simp only [List.mem_cons, List.not_mem_nil, or_false] at hv
              have ha1 := h1 ", a" (by decide +kernel) (by decide +kernel)
              have ha2 := h1 " " (by decide +kernel) (by decide +kernel)
              rcases hv with rfl | rfl | rfl
              · exact good ha1.1 ha1.2.1
              · exact good ha2.2.2.1 ha2.2.2.2
              · exact good ha2.1 ha2.2.1
          exact k Z H6 z1 z2 hs6 (b2.trans ((Same.but s5).trans b6))
    rintro σ H3 ⟨rfl, rfl⟩
    have hc1 := cut_both X n
    have fin : ∀ (g : Str) (m : Nat), asc g = true → g.length ≤ 1 → (m = n ∨ m = n + 1) → Q (.str (cutS X none (some (n : Int)) ++ g ++ cutS X (some (m : Int)) none)) H3 := fun g m hg hg1 hm => by
      refine k _ _ (asc_app (asc_app (asc_cut ha) hg) (asc_cut ha)) ?_ (hs2.mono (by omega)) b2
      rw [len_app, len_app]
      have h2 := cutS_length X none (some (n : Int))
      have h3 := cutS_length X (some (m : Int)) none
      omega
    have tail : ∀ (g : Str), asc g = true → g.length ≤ 1 → ∀ (m : Int), (m = n ∨ m = n + 1) → Q (.str (cutS X none (some (n : Int)) ++ g ++ cutS X (some m) none)) H3 := fun g hg hg1 m hm => by
      rcases hm with rfl | rfl
      · exact fin g n hg hg1 (.inl rfl)
      · have := fin g (n + 1) hg hg1 (.inr rfl)
        rw [show ((n + 1 : Nat) : Int) = (n : Int) + 1 by omega] at this
        exact this
    have h2 := cutS_length X none (some (n : Int))
    refine ⟨_, rfl, _, rfl, (n : Int), rfl, X, rfl, hsl, _, rfl, d, 5, rfl, rfl, _, rfl, ite2 (fun c1 => ?_) (fun c1 => ?_)⟩
    · refine ⟨_, rfl, _, ⟨#[c]⟩, rfl, rfl, (by have : (⟨#[c]⟩ : Str).length = 1 := rfl; omega), _, rfl, _, rfl, _, rfl, d, 2, rfl, rfl, .inr ⟨_, rfl, (n : Int), _, rfl, rfl, _, rfl, X, rfl, hsl, _, _, rfl, rfl, ?_, tail _ hsg (Nat.le_refl 1) _ ?_⟩⟩
      · refine Nat.le_trans (Nat.add_le_add (Nat.le_of_eq (len_app _ _)) (cutS_length _ _ _)) ?_
        have : (⟨#[c]⟩ : Str).length = 1 := rfl
        omega
      · split <;> omega
    · refine ⟨_, "", rfl, rfl, (by have : ("" : Str).length = 0 := rfl; omega), _, rfl, _, rfl, _, rfl, d, 2, rfl, rfl, .inr ⟨_, rfl, (n : Int), _, rfl, rfl, _, rfl, X, rfl, hsl, _, _, rfl, rfl, ?_, tail "" (by decide +kernel) (by decide +kernel) _ ?_⟩⟩
      · refine Nat.le_trans (Nat.add_le_add (Nat.le_of_eq (len_app _ _)) (cutS_length _ _ _)) ?_
        have : ("" : Str).length = 0 := rfl
        omega
      · split <;> omega
end
end K7

namespace K7
open PySem PySem.Spec PyProof.Rows L2 C8 XE XI LamX
/-! _law_tried: it calls what it got -/
abbrev sTd : Stmt := top 43
abbrev NTd : List Str := ["_law_ask", "_law_found", "e"]
theorem scTd : FnScope NTd ["_law_ask"] (fnScope sTd) := fnScope_by (by decide +kernel)
/-- what stands of an own exception class with one field, besides EC -/
structure XX (K : PySem.W.Frag) (mg : Str → Option Value) (x f : Str) (C : Addr) : Prop where
  xf : XfC K C
  no : PySem.W.findIn K (.ref C) f = some none
  ex : PySem.W.exmOne K (.ref C) (.ref C) = some true
  gl : mg x = some (.ref C)
/-- ("read", what it gives) or ("bad", the place) -/
def TRef (NP : Addr) : (XK → Hp → VK → Prop) → Hp → VK → Prop := fun tl H Q =>
  ∀ (E' : XK) (Q' : VK), (∀ d v H', H' d = some (.xd [("at", v)]) → (∀ p, H' p = none → Q (.ref p) (upd H' p (.tup [.str "bad", v]))) → E' (.ref NP) (some d) H') →
    (∀ v H', (∀ p, H' p = none → Q (.ref p) (upd H' p (.tup [.str "read", v]))) → Q' v H') → tl E' H Q'
theorem ref_gives {X : Cx} {q : Str} {g NP : Addr} {cdg : Value} (XN : XX X.K X.mg "BadText" "at" NP) : GivesTo X NTd "_law_tried" (fnScope sTd) g cdg (fnBody sTd) "_law_ask" q (TRef NP) := by
  intro f c' s H Q tl act hc h
  refine ⟨_, pss_cut (ps_try_as (X := (cxOf C8.CX0 X.prog X.w X.K X.mg X.base NTd "_law_tried" (fnScope sTd) g cdg X.A X.stack s H C8.E0).nox) (i := 2) (c := .ref NP)
      (tb := fun W D σ H => ∃ Ech : XK, (∀ cls d σ' H', Ech cls d H' → W cls d σ' H') ∧ tAsg (tTup (tCons (tC (.str "read")) (tCons (fun σZ HZ Q => σZ[0]? = some (some (.ref f)) ∧ HZ c' = some (CodeO c' q) ∧ tl Ech HZ Q) tNil))) (gName 1) D σ H)
      (ts := fun a cls d D σ H => σ.length = 3 → tAsg (tTup (tCons (tC (.str "bad")) (tCons (tXf a cls d NP "at" (tVar 2)) tNil))) (gName 1) D σ H) (Wout := fun _ _ _ _ => False) rfl rfl scTd.nd rfl rfl ⟨rfl, by decide, Or.inl XN.gl⟩ LamX.takes0
      (fun W pn xe tk _ => ?_)
      (fun a oe cls d pn hz hf => ?_))
    (pss_one (ps_ret (pv 1))), ?_⟩
  · refine ⟨fun pins s' σ H' D I h' => ?_⟩
    obtain ⟨Ech, hW, h1⟩ := h'
    refine PSs.run ?_ pins s' σ H' D I h1
    exact pss_one (ps_set (i := 1) scTd.nd rfl (Or.inl rfl) (pe_tup (pa_cons pe_str (pa_cons (act W pn xe Ech _ _ tk hW) pa_nil))))
  · refine ⟨fun pins s' σ H' D I h' => ?_⟩
    refine PSs.run ?_ pins s' σ H' D I (h' I.len)
    exact pss_one (ps_set (i := 1) scTd.nd rfl (Or.inl rfl) (pe_tup (pa_cons pe_str (pa_cons (pe_xf XN.xf XN.no hz hf (pv 2)) pa_nil))))
  · refine ⟨fun σ H' => ∃ p, σ[1]? = some (some (.ref p)) ∧ Q (.ref p) H', ?_, ?_⟩
    · refine ⟨fun cls od H' => cls = .ref NP ∧ ∃ d v, od = some d ∧ H' d = some (.xd [("at", v)]) ∧ ∀ p, H' p = none → Q (.ref p) (upd H' p (.tup [.str "bad", v])), ?_, ?_⟩
      · rintro cls od σ' H' ⟨rfl, d, v, rfl, hd, k⟩
        refine ⟨true, XN.ex, fun _ a ha hlen => ?_, fun z => nomatch z⟩
        rw [List.length_set] at hlen
        match σ', hlen with
        | [x0, x1, x2], _ => exact ⟨_, rfl, rfl, rfl, d, _, v, rfl, hd, rfl, (by show 2 ≤ sizeLine; decide), fun p np => ⟨p, rfl, k p np⟩⟩
      · refine ⟨rfl, hc, ?_⟩
        refine h _ _ (fun d v H' hd k => ⟨rfl, d, v, rfl, hd, k⟩) (fun v H' k => ?_)
        exact ⟨(by show 2 ≤ sizeLine; decide), fun p np => ⟨p, rfl, k p np⟩⟩
    · rintro σ H1 ⟨p, e, q⟩
      exact ⟨_, e, q⟩
section
variable {X : Cx}
theorem pe_td {T : List (Addr × Str)} {g NP c P : Addr} {fd : FuncData} {k : Nat} {params : Arguments} {body : Expr} {scope : Scope} {t : XK → TE} {p lpos pos : Pos} (DR : Def X.K X.mg "_law_tried" sTd g fd) (br : Binds X.K fd ["_law_ask"] []) (XN : XX X.K X.mg "BadText" "at" NP) (hg : L2.Gl X "_law_tried")
    (TB : TabB X.base X.mg c P) (hcode : X.env.code = .ref c) (hmT : (P, X.env.qual ++ "<lambda>") ∈ T) (hu : ∀ p ∈ T, p.1 = P → p.2 = X.env.qual ++ "<lambda>") (hr : Room (k + 2) X.A) (L : LamS X.env.scope scope) (hdef : defaultsOf params X.env = ([], []))
    (hbind : ∀ (q : Str) (cl : List (Str × Addr)) (pm cv ctv : Value), bindArgs (PySem.W.kla_fn "<lambda>" q params body scope cl pm cv ctv) ⟨[], []⟩ = pure [])
    (hbody : ∀ (A : Around) (outer : List Env) (s : Shared) (H : Hp) (E : XK) (f c' : Addr), Room k (A.deeper (lamEnv X scope s.heap.objs.size f c')) → PE (lamCx X A outer s H E scope f c') body (t E)) :
    PE X (.Call (.Name "_law_tried" p) [.Lambda params body scope lpos] [] pos) (tLam T (TRef NP) t) := by
  obtain ⟨oc, od, dV, kV, doc, pm, an, cdv, ct, osl, rfl, lk, hcd⟩ := DR.fn.ex
  exact pe_lamcall hg DR.mgf DR.kp lk hcd br scTd rfl (Or.inl rfl) (ref_gives XN) TB hcode hmT hu hr L hdef hbind hbody
end
end K7

namespace K7
open PySem PySem.Spec PyProof.Rows L2 C8 XE XI XR SX
/-! _law_is_chain -/
abbrev sIc : Stmt := top 44
abbrev NIc : List Str := ["_law_found", "_law_deep", "_law_k"]
theorem scIc : FnScope NIc ["_law_found", "_law_deep"] (fnScope sIc) := fnScope_by (by decide +kernel)
def chD : Nat → D
  | 0 => .sq [.fl (.str "b")]
  | n + 1 => .sq [.fl (.str "a"), chD n]
def spIc : Sp := fun vs H Q _ => ∃ (v : V) (n : Nat), vs = [v, .int n] ∧ n ≤ 1000 ∧ DAt nol H v (chD n) ∧ ∀ H', Same H H' → Q (.bl true) H'
section
variable {P : Program} {w : World} {K : PySem.W.Frag} {mg : Str → Option Value} {base : Heap}
theorem c_ic {f : Addr} {fd : FuncData} (F : Def K mg "_law_is_chain" sIc f fd) (b : Binds K fd ["_law_found", "_law_deep"] []) (T : Blt4 mg) : Cal P w K mg base 1 "_law_is_chain" spIc [] := by
  refine cal0 F b .nil scIc (fun vs H Q E h => ?_) (fun cdv A outer s H vs Q E hr h => ?_)
  · obtain ⟨v, n, rfl, _⟩ := h
    rfl
  · obtain ⟨v, n, rfl, hn, hv, k⟩ := h
    have nd := scIc.nd
    have hu : (A.deeper (envOfC "_law_is_chain" (fnScope sIc) s.heap.objs.size f cdv)).units + 64 < cLine := by have := hr.un; omega
    refine ⟨_, (pss_cut (ps_for PassesOwn.never rfl (pi_range1 (by rfl) T.ran (pa_cons (pv 1) pa_nil)) (pg_name (i := 2) nd rfl (Or.inl rfl))
        (pss_cons (ps_if (pw_or (pt_not (pt_val (pe_callB call_isi (by rfl) T.isi (by decide +kernel) (pa_cons (pv 0) (pa_cons (pe_bt "tuple" T.tup) pa_nil))))) (pw_or (pt_cmp (pc_neI (pe_callB call_len_seq (by rfl) T.len PySem.boot_len (pa_cons (pv 0) pa_nil)) pe_int)) (pw_or1 (pt_cmpR op_ne (pe_ix ix_tup (pv 0) pe_int fun _ _ => rfl) pe_str (nomark _))))).pt pss_never pss_nil)
        (pss_one (ps_set (i := 0) nd rfl (Or.inl rfl) (pe_ix ix_tup (pv 0) pe_int fun _ _ => rfl)))))
      (pss_one (ps_ret (pe_cmpR (op_eqD hu) (pv 0) (pe_tup (pa_cons pe_str pa_nil)) (nomark _))))), ?_⟩
    refine ⟨fun σ H' => ∃ (v : V) (v2 : Option V), σ = [some v, some (.int n), v2] ∧ DAt nol H' v (chD 0) ∧ Same H H', ?_, ?_⟩
    · refine ⟨_, rfl, (n : Int), rfl, by omega, by omega, ?_⟩
      refine for_range (n := (n : Int).toNat) (fun i σ H' => ∃ (v : V) (v2 : Option V), σ = [some v, some (.int n), v2] ∧ DAt nol H' v (chD (n - i)) ∧ Same H H') ⟨v, none, rfl, hv, Same.refl _⟩ ?_ ?_
      · rintro i σ H' hi ⟨v, v2, rfl, hd, sm⟩
        obtain ⟨j, hj⟩ : ∃ j, n - i = j + 1 := ⟨n - i - 1, by omega⟩
        have hj2 : n - (i + 1) = j := by omega
        rw [hj] at hd
        obtain ⟨a, vs, rfl, q, _, hds⟩ := hd
        have q : H' a = some (.tup vs) := q.elim id fun z => z.1.elim
        match vs, hds, q with
        | [x, y], ⟨⟨hx, _⟩, hy, _⟩, q =>
          subst hx
          refine ⟨_, rfl, .ref a, .ty "tuple", _, _, true, rfl, .ty _, .base (.tup q), kit_ty (by decide +kernel), true, rfl, ?_⟩
          refine iteBf rfl ?_
          refine ⟨_, rfl, a, _, rfl, .inr (SqT.of q), (2 : Int), 2, rfl, rfl, _, rfl, iteBf (by decide) ?_⟩
          refine ⟨_, rfl, a, _, 0, _, rfl, rfl, SqT.of q, at_of (j := 0) (by omega) rfl, rfl, _, rfl, iteBf (by decide +kernel) ?_⟩
          refine ⟨_, rfl, a, _, 1, _, rfl, rfl, SqT.of q, at_of (j := 1) (by omega) rfl, y, _, rfl, ?_, sm⟩
          rw [hj2]
          exact hy
      · rintro σ H' ⟨v, v2, rfl, hd, sm⟩
        rw [show n - (n : Int).toNat = 0 by omega] at hd
        exact ⟨v, v2, rfl, hd, sm⟩
    rintro σ H1 ⟨v, v2, rfl, hd, sm⟩
    obtain ⟨a, vs, rfl, q, _, hds⟩ := hd
    have q : H1 a = some (.tup vs) := q.elim id fun z => z.1.elim
    match vs, hds, q with
    | [x], ⟨⟨hx, _⟩, _⟩, q =>
      subst hx
      refine ⟨_, rfl, (by show 1 ≤ sizeLine; decide), fun p np => ?_⟩
      have s1 : Same H1 (upd H1 p (.tup [.str "b"])) := same_upd np
      exact ⟨.tuple [.str "b"], .tuple [.str "b"], .tup (SqT.of (s1 _ _ q)) (.cons (.str _) .nil), .tup (SqT.of upd_same) (.cons (.str _) .nil), by decide +kernel, by decide +kernel, k _ (sm.trans s1)⟩
end
end K7

namespace K7
open PySem PySem.Spec PyProof.Rows L2 C8 XE XI XR SX LamX
/-! _law_deep_right -/
abbrev sDr : Stmt := top 45
abbrev NDr : List Str := ["_law_deep", "_law_text_here", "_law_due"]
theorem scDr : FnScope NDr ["_law_deep"] (fnScope sDr) := fnScope_by (by decide +kernel)
theorem flt_open {h : Bool} : ∀ {k dp n : Nat}, flt h .beg 0 dp n (List.replicate k [97, 40]).flatten = some (n + 2 * k)
  | 0, dp, n => by
    unfold flt okE
    simp
  | k + 1, dp, n => by
    have e1 : nxt h .beg 0 dp 97 = some (.wrd, 1, dp) := by
      unfold nxt
      simp [show letB 97 = true by decide +kernel]
    have e2 : nxt h .wrd 1 dp 40 = some (.beg, 0, dp + 1) := by
      unfold nxt
      simp [let40]
    show flt h .beg 0 dp n (97 :: 40 :: (List.replicate k [97, 40]).flatten) = _
    rw [flt, e1]
    show flt h .wrd 1 dp (n + 1) (40 :: (List.replicate k [97, 40]).flatten) = _
    rw [flt, e2]
    show flt h .beg 0 (dp + 1) (n + 1 + 1) _ = _
    rw [flt_open]
    congr 1
    omega
theorem ch_sh {b : Bool} : ∀ n, isShH b (chD n) = true ∧ sz (chD n) = 2 * n + 2
  | 0 => ⟨by cases b <;> decide +kernel, rfl⟩
  | n + 1 => by
    obtain ⟨h1, h2⟩ := ch_sh (b := b) n
    refine ⟨?_, ?_⟩
    · rw [chD, isShH, isShHs, h1, isShHs, show wordS "a" = true by decide +kernel]
      rfl
    · rw [chD, sz, szs, szs, szs, h2, sz]
      omega
theorem tx_ch : ∀ n, tx (chD n) = (List.replicate n [97, 40]).flatten ++ [98] ++ (List.replicate n [41]).flatten
  | 0 => by
    rw [chD, tx_leaf]
    decide +kernel
  | n + 1 => by
    have hs : isSh (chD n) = true := shH_sh (ch_sh (b := true) n).1
    rw [chD, tx_node hs rfl, tx_ch n, List.replicate_succ, List.replicate_succ' (n := n) (a := [41]), show TL.tl "a" = [97] by decide +kernel]
    simp [seps]
/-- the tables of the code objects of law and _law_deep_right -/
def qLaw : Str := (envOfC "law" (fnScope (top 46)) 0 0 .none).qual ++ "<lambda>"
def qDr : Str := (envOfC "_law_deep_right" (fnScope sDr) 0 0 .none).qual ++ "<lambda>"
def Tb (pt pd : Addr) : List (Addr × Str) := [(pt, qLaw), (pd, qDr)]
theorem tb_d {pt pd : Addr} (h : pt ≠ pd) : ∀ p ∈ Tb pt pd, p.1 = pd → p.2 = qDr := fun p hp e => by
  simp only [Tb, List.mem_cons, List.not_mem_nil, or_false] at hp
  rcases hp with rfl | rfl
  · exact absurd e h
  · rfl
theorem tb_l {pt pd : Addr} (h : pt ≠ pd) : ∀ p ∈ Tb pt pd, p.1 = pt → p.2 = qLaw := fun p hp e => by
  simp only [Tb, List.mem_cons, List.not_mem_nil, or_false] at hp
  rcases hp with rfl | rfl
  · rfl
  · exact absurd e.symm h
theorem eq_flat {H : Hp} {x : V} (h : flatV x = true) (n : Nat) : EqN H (n + 1) x x := .inl ⟨rfl, .inl h⟩
def spDr (pt pd : Addr) : Sp := fun vs H Q _ => ∃ (n : Nat), vs = [.int n] ∧ n ≤ 660 ∧ Tabs (Tb pt pd) H ∧ ∀ H', ExtN H H' → Tabs (Tb pt pd) H' → Q (.bl true) H'
section
variable {P : Program} {w : World} {K : PySem.W.Frag} {mg : Str → Option Value} {base : Heap}
theorem c_dr {BT f cc pt pd ft frt frs : Addr} {oc kV doc pm ct : Value} {od an : Option Addr} {osl : Array (Option Value)} {dt drt drs : FuncData} (lk : K.lookup f = some ⟨oc, od, .func (PySem.W.fnOf "_law_deep_right" "_law_deep_right" (fnArgs sDr) (fnBody sDr) (fnScope sDr) .none kV doc pm an (.ref cc) ct), osl⟩) (hcd : PySem.W.codeIn K (.ref cc) "_law_deep_right" = true) (TB : TabB base mg cc pd) (hne : pt ≠ pd) (T : Blt4 mg)
    (C_law_same : Cal P w K mg base 4 "_law_same" (spSameN 3) []) (C_is_chain : Cal P w K mg base 1 "_law_is_chain" spIc []) (C_read_tree : Cal P w K mg base 3 "read_tree" (spRd false) []) (C_read_shape : Cal P w K mg base 3 "read_shape" (spRd true) [])
    (DT : Def K mg "_law_tried" sTd ft dt) (bt : Binds K dt ["_law_ask"] []) (XB : XX K mg "BadText" "at" BT)
    (D1 : Def K mg "read_tree" sRT frt drt) (b1 : Binds K drt ["text"] []) (F1 : FnOk P w K mg base (L2.CX P w) 4 frt drt ["text"] (spRX BT false))
    (D2 : Def K mg "read_shape" sRS frs drs) (b2 : Binds K drs ["text"] []) (F2 : FnOk P w K mg base (L2.CX P w) 4 frs drs ["text"] (spRX BT true)) :
    FnOk P w K mg base C8.CX0 8 f (PySem.W.fnOf "_law_deep_right" "_law_deep_right" (fnArgs sDr) (fnBody sDr) (fnScope sDr) .none kV doc pm an (.ref cc) ct) ["_law_deep"] (spDr pt pd) := by
  refine fn_of lk hcd scDr (fun vs H Q E h => ?_) (fun A outer s H vs Q E hr h => ?_)
  · obtain ⟨n, rfl, _⟩ := h
    rfl
  · obtain ⟨n, rfl, hn, hT, k⟩ := h
    have nd := scDr.nd
    suffices hh : ∃ t, PSs (cxOf C8.CX0 P w K mg base NDr "_law_deep_right" (fnScope sDr) f (.ref cc) A outer s H E).nox (fnBody sDr) t ∧ t { nx := fun _ H' => Q .non H', rt := Q } (start NDr [.int n]) H by
      obtain ⟨t, h, q⟩ := hh
      exact ⟨t, h.nox, q⟩
    refine ⟨_, (pss_cut (ps_par (i := 1) (j := 2) rfl nd rfl rfl (by decide) rfl rfl (pa_cons (pe_op op_add_str (pe_op op_add_str (pe_op SLX.op_mulS pe_str (pv 0)) pe_str) (pe_op SLX.op_mulS pe_str (pv 0))) (pa_cons (pe_tup (pa_cons pe_str (pa_cons pe_int pa_nil))) pa_nil)) (by rfl))
      (pss_cut (ps_if (pw_or (pt_not (pt_val (pe_c C_is_chain hr (by decide) (by rfl) (pa_cons (pe_c C_read_tree hr (by decide) (by rfl) (pa_cons (pv 1) pa_nil)) (pa_cons (pv 0) pa_nil))))) (pw_or1 (pt_not (pt_val (pe_c C_is_chain hr (by decide) (by rfl) (pa_cons (pe_c C_read_shape hr (by decide) (by rfl) (pa_cons (pv 1) pa_nil)) (pa_cons (pv 0) pa_nil))))))).pt pss_never pss_nil)
      (pss_cut (ps_if (pt_not (pt_val (pe_c C_law_same hr (by decide) (by rfl) (pa_cons (pe_td (X := (cxOf C8.CX0 P w K mg base NDr "_law_deep_right" (fnScope sDr) f (.ref cc) A outer s H E).nox) (T := Tb pt pd) (k := 4) DT bt XB (by rfl) TB rfl (List.mem_cons_of_mem _ List.mem_cons_self) (tb_d hne) (hr.mono (by decide)) (show LamS (fnScope sDr) _ from lamS_by (by decide +kernel)) rfl (fun _ _ _ _ _ => rfl) (t := fun E => tCall (spRX BT false) [] E (tCons (tOp SLX.rMulS (tC (.str "a(")) (tC (.int 1000))) tNil)) (fun A outer s H E f c' hr' => pe_call F1 hr' (by rfl) D1.mgf D1.kp b1 .nil (passes_call (takes_of rfl rfl rfl rfl) (fun _ _ _ _ h => h)) (pa_cons (pe_op SLX.op_mulS pe_str pe_int) pa_nil))) (pa_cons (pv 2) pa_nil))))) pss_never pss_nil)
      (pss_one (ps_ret (pe_c C_law_same hr (by decide) (by rfl) (pa_cons (pe_td (X := (cxOf C8.CX0 P w K mg base NDr "_law_deep_right" (fnScope sDr) f (.ref cc) A outer s H E).nox) (T := Tb pt pd) (k := 4) DT bt XB (by rfl) TB rfl (List.mem_cons_of_mem _ List.mem_cons_self) (tb_d hne) (hr.mono (by decide)) (show LamS (fnScope sDr) _ from lamS_by (by decide +kernel)) rfl (fun _ _ _ _ _ => rfl) (t := fun E => tCall (spRX BT true) [] E (tCons (tOp SLX.rMulS (tC (.str "a(")) (tC (.int 1000))) tNil)) (fun A outer s H E f c' hr' => pe_call F2 hr' (by rfl) D2.mgf D2.kp b2 .nil (passes_call (takes_of rfl rfl rfl rfl) (fun _ _ _ _ h => h)) (pa_cons (pe_op SLX.op_mulS pe_str pe_int) pa_nil))) (pa_cons (pv 2) pa_nil)))))))), ?_⟩
    have hu : n ≤ 100000 := by omega
    have szl := sizeLine_eq
    let X : Str := S (tx (chD n))
    have hX : SLX.rep "a(" n ++ "b" ++ SLX.rep ")" n = X := by
      apply TL.ext_tl
      show TL.tl _ = tx (chD n)
      rw [TL.tl_append, TL.tl_append, tx_ch]
      rfl
    have hXl : (tx (chD n)).length = 3 * n + 1 := by
      rw [tx_ch]
      simp
      omega
    have hl1 : (SLX.rep "a(" n).length = 2 * n := by
      show ((List.replicate n [97, 40]).flatten.toArray).size = _
      simp
      omega
    have hl2 : (SLX.rep ")" n).length = n := by
      show ((List.replicate n [41]).flatten.toArray).size = _
      simp
    have hl3 : ("b" : Str).length = 1 := rfl
    refine ⟨fun σ H' => ∃ q : Addr, σ = [some (.int n), some (.str X), some (.ref q)] ∧ H' q = some (.tup [.str "bad", .int 2000]) ∧ Same H H', ?_, ?_⟩
    · refine ⟨_, rfl, "a(", n, rfl, rfl, (by decide +kernel), hu, _, "b", rfl, rfl, (by rw [hl1, hl3]; omega), _, rfl, ")", n, rfl, rfl, (by decide +kernel), hu, _, _, rfl, rfl, ?_, (by show 2 ≤ sizeLine; decide), fun q nq => ⟨_, _, rfl, q, ?_, upd_same, same_upd nq⟩⟩
      · rw [len_app, hl1, hl2, hl3]
        omega
      · rw [hX]
        rfl
    rintro σ H1 ⟨q, rfl, hq, s1⟩
    obtain ⟨hsF, hszF⟩ := ch_sh (b := false) n
    obtain ⟨hsT, _⟩ := ch_sh (b := true) n
    refine ⟨fun σ H' => σ = [some (.int n), some (.str X), some (.ref q)] ∧ Same H1 H', ?_, ?_⟩
    · refine ⟨_, rfl, chD n, rfl, hsF, by omega, by omega, fun v H2 s2 hv => ⟨_, rfl, v, n, rfl, by omega, hv, fun H3 s3 => ⟨true, rfl, ?_⟩⟩⟩
      refine iteBf rfl ⟨_, rfl, chD n, rfl, hsT, by omega, by omega, fun v' H4 s4 hv' => ⟨_, rfl, v', n, rfl, by omega, hv', fun H5 s5 => ⟨true, rfl, iteBf rfl ⟨rfl, s2.trans (s3.trans (s4.trans s5))⟩⟩⟩⟩
    rintro σ H2 ⟨rfl, s2⟩
    have hT2 := hT.ext (s1.trans s2)
    have hq2 := s2 _ _ hq
    have hlA : TL.tl (SLX.rep "a(" 1000) = (List.replicate 1000 [97, 40]).flatten := rfl
    have hlL : (SLX.rep "a(" 1000).length ≤ 10000 := by
      show ((List.replicate 1000 [97, 40]).flatten.toArray).size ≤ _
      simp
    have key : ∀ (b : Bool) (E' : XK) (Q' : VK) (H3 : Hp), (∀ d v H', H' d = some (.xd [("at", v)]) → (∀ p, H' p = none → Same H3 H' → v = .int 2000 → True) → Same H3 H' → v = .int 2000 → E' (.ref BT) (some d) H') → spRX BT b [.str (SLX.rep "a(" 1000)] H3 Q' E' := fun b E' Q' H3 h => by
      refine ⟨_, rfl, hlL, fun kk hk H' d s nd => ?_, fun hk => ?_⟩
      · rw [hlA, flt_open] at hk
        cases hk
        exact h d _ _ upd_same (fun _ _ _ _ => trivial) (s.trans (same_upd nd)) rfl
      · rw [hlA, flt_open] at hk
        cases hk
    refine ⟨fun σ H' => σ = [some (.int n), some (.str X), some (.ref q)] ∧ ExtN H2 H' ∧ Tabs (Tb pt pd) H', ?_, ?_⟩
    · refine ⟨hT2, fun H3 x3 t3 E' Q' hE hQ => ⟨"a(", 1000, rfl, rfl, (by decide +kernel), (by decide), key false _ _ _ fun d v H4 hd _ s4 hv => hE d v H4 hd fun r nr => ?_⟩⟩
      subst hv
      have sr : Same H4 (upd H4 r (.tup [.str "bad", .int 2000])) := same_upd nr
      have hqr := sr _ _ (s4 _ _ (x3 _ _ hq2 (fun ps z => by cases z)))
      refine ⟨_, rfl, _, _, rfl, .inr ⟨true, r, q, _, _, rfl, rfl, upd_same, hqr, .cons (eq_flat rfl 1) (.cons (eq_flat rfl 1) .nil), (by show 2 ≤ 100000; decide)⟩, fun H5 s5 => ⟨true, rfl, iteBf rfl ⟨rfl, x3.trans (ExtN.of (s4.trans (sr.trans s5))), t3.ext (s4.trans (sr.trans s5))⟩⟩⟩
    rintro σ H3 ⟨rfl, x3, t3⟩
    refine ⟨t3, fun H4 x4 t4 E' Q' hE hQ => ⟨"a(", 1000, rfl, rfl, (by decide +kernel), (by decide), key true _ _ _ fun d v H5 hd _ s5 hv => hE d v H5 hd fun r nr => ?_⟩⟩
    subst hv
    have sr : Same H5 (upd H5 r (.tup [.str "bad", .int 2000])) := same_upd nr
    have hqr := sr _ _ (s5 _ _ (x4 _ _ (x3 _ _ hq2 (fun ps z => by cases z)) (fun ps z => by cases z)))
    refine ⟨_, rfl, _, _, rfl, .inr ⟨true, r, q, _, _, rfl, rfl, upd_same, hqr, .cons (eq_flat rfl 1) (.cons (eq_flat rfl 1) .nil), (by show 2 ≤ 100000; decide)⟩, fun H6 s6 => k _ ((ExtN.of (s1.trans s2)).trans (x3.trans (x4.trans (ExtN.of (s5.trans (sr.trans s6)))))) (t4.ext (s5.trans (sr.trans s6)))⟩
end
end K7

namespace K7
open PySem PySem.Spec PyProof.Rows L2 C8 XE XI XR SX LamX
/-! law -/
abbrev sLaw : Stmt := top 46
abbrev NL : List Str := ["_law_script", "_law_state", "_law_turn", "_law_rows_here", "_law_rule_here", "_law_text_here", "_law_k", "_law_holes_here", "_law_fault_here", "_law_due", "_law_told"]
theorem scLaw : FnScope NL ["_law_script"] (fnScope sLaw) := fnScope_by (by decide +kernel)
theorem let128 : ∀ c ∈ TL.tl letters, c < 128 := by decide +kernel
theorem tx_asc : ∀ (n : Nat) {d : D}, sz d ≤ n → isSh d = true → ∀ c ∈ tx d, c < 128
  | 0, d, h, _ => by have := sz_pos d; omega
  | n + 1, d, hn, h => by
    rcases isSh_inv h with ⟨z, rfl, hz⟩ | ⟨z, cs, rfl, hz, hcs⟩
    · rw [tx_hole]
      intro c hc
      rcases List.mem_cons.mp hc with rfl | hc
      · decide
      · exact let128 c (word_sign hz c hc)
    · have hsc : sz (.sq (.fl (.str z) :: cs)) = 2 + szs cs := by rw [sz, szs, sz]; omega
      have key : ∀ l : List D, (∀ c ∈ l, c ∈ cs) → ∀ c ∈ seps l, c < 128 := fun l => by
        induction l with
        | nil => intro _ c hc; cases hc
        | cons x xs ih =>
          intro hl c hc
          have hx := hl x List.mem_cons_self
          obtain ⟨i, hi⟩ := List.getElem?_of_mem hx
          have h1 := szs_get hi
          rw [seps] at hc
          simp only [List.mem_cons, List.mem_append] at hc
          rcases hc with rfl | rfl | hc | hc
          · decide
          · decide
          · exact tx_asc n (d := x) (by omega) (isShs_mem hcs x hx) c hc
          · exact ih (fun c hc => hl c (List.mem_cons_of_mem _ hc)) c hc
      cases cs with
      | nil =>
        rw [tx_leaf]
        exact fun c hc => let128 c (word_sign hz c hc)
      | cons y ys =>
        have hcs' := hcs
        rw [isShs, Bool.and_eq_true] at hcs'
        rw [tx_node hcs'.1 hcs'.2]
        intro c hc
        simp only [List.mem_cons, List.mem_append, List.not_mem_nil, or_false] at hc
        rcases hc with hc | rfl | (hc | hc) | rfl
        · exact let128 c (word_sign hz c hc)
        · decide
        · have : c ∈ seps (y :: ys) := by rw [seps]; simp [hc]
          exact key _ (fun _ h => h) c this
        · have : c ∈ seps (y :: ys) := by rw [seps]; simp [hc]
          exact key _ (fun _ h => h) c this
        · decide
theorem Hold.trans {F : Addr → Prop} {H H' H'' : Hp} (a : Hold F H H') (b : Hold F H' H'') : Hold F H H'' := ⟨fun x vs q => b.tup x vs (a.tup x vs q), fun x q => b.dic x (a.dic x q), fun x vs f q => b.lst x vs f (a.lst x vs f q)⟩
/-- the state and the tables of code objects -/
structure Wo (st cl pt pd : Addr) (B : Nat) (H : Hp) : Prop where
  hst : StAt B H st cl
  tab : Tabs (Tb pt pd) H
  n1 : pt ≠ st
  n2 : pd ≠ st
theorem Wo.but {st cl pt pd : Addr} {B B' : Nat} {H H' : Hp} (w : Wo st cl pt pd B H) (b : But st H H') (h : StAt B' H' st cl) : Wo st cl pt pd B' H' := by
  obtain ⟨ns, i, c, hh, n, hs, _⟩ := w.hst
  refine ⟨h, fun q hq => ?_, w.n1, w.n2⟩
  have hqn : q.1 ≠ st := by
    simp only [Tb, List.mem_cons, List.not_mem_nil, or_false] at hq
    rcases hq with rfl | rfl
    · exact w.n1
    · exact w.n2
  obtain ⟨ps, h1, h2, h3⟩ := w.tab _ hq
  refine ⟨ps, b _ _ h1 hqn, h2, fun pos cv hc => ?_⟩
  obtain ⟨c, e1, e2⟩ := h3 pos cv hc
  exact ⟨c, e1, b _ _ e2 (ne_of e2 hs (by intro z; unfold CodeO at z; cases z))⟩
theorem Wo.same {st cl pt pd : Addr} {B : Nat} {H H' : Hp} (w : Wo st cl pt pd B H) (s : Same H H') : Wo st cl pt pd B H' := ⟨w.hst.same s, w.tab.ext s, w.n1, w.n2⟩
theorem Wo.more {st cl pt pd : Addr} {B B' : Nat} {H : Hp} (w : Wo st cl pt pd B H) (h : B ≤ B') : Wo st cl pt pd B' H := ⟨w.hst.mono h, w.tab, w.n1, w.n2⟩
theorem stAt_ext {st cl : Addr} {B : Nat} {H H' : Hp} (h : StAt B H st cl) (e : ExtN H H') : StAt B H' st cl := by
  obtain ⟨ns, i, c, hh, n, h1, h2, r⟩ := h
  exact ⟨ns, i, c, hh, n, e _ _ h1 (fun ps z => by cases z), e _ _ h2 (fun ps z => by cases z), r⟩
theorem Wo.ext {st cl pt pd : Addr} {B : Nat} {H H' : Hp} (w : Wo st cl pt pd B H) (e : ExtN H H') (t : Tabs (Tb pt pd) H') : Wo st cl pt pd B H' := ⟨stAt_ext w.hst e, t, w.n1, w.n2⟩
theorem tbs_nil {H : Hp} {pt pd : Addr} (h1 : H pt = some (.tbl #[])) (h2 : H pd = some (.tbl #[])) : Tabs (Tb pt pd) H := fun p hp => by
  simp only [Tb, List.mem_cons, List.not_mem_nil, or_false] at hp
  rcases hp with rfl | rfl
  · exact TabS.nil h1
  · exact TabS.nil h2
def spLaw (K : PySem.W.Frag) (pt pd : Addr) : Sp := fun vs H Q _ => ∃ (a : Addr) (ns : List Int), vs = [.ref a] ∧ SqL K H a (ns.map V.int) ∧ H pt = some (.tbl #[]) ∧ H pd = some (.tbl #[]) ∧ ∀ H', Q (.bl true) H'
section
variable {P : Program} {w : World} {K : PySem.W.Frag} {mg : Str → Option Value} {base : Heap}
theorem c_law {BT f cc pt pd ft frt frs : Addr} {oc kV doc pm ct : Value} {od an : Option Addr} {osl : Array (Option Value)} {dt drt drs : FuncData} (lk : K.lookup f = some ⟨oc, od, .func (PySem.W.fnOf "law" "law" (fnArgs sLaw) (fnBody sLaw) (fnScope sLaw) .none kV doc pm an (.ref cc) ct), osl⟩) (hcd : PySem.W.codeIn K (.ref cc) "law" = true) (TB : TabB base mg cc pt) (hne : pt ≠ pd) (T : Blt4 mg)
    (C_fresh : Cal P w K mg base 1 "_law_fresh" (spFresh K) []) (C_take : Cal P w K mg base 1 "_law_take" spTake []) (C_one : Cal P w K mg base 2 "_law_one" spOne []) (C_rows : Cal P w K mg base 4 "_law_rows" spRows []) (C_tree : Cal P w K mg base 23 "_law_tree" (spTree 20) []) (C_text : Cal P w K mg base 61 "_law_text" (spLText 60) []) (C_rule : Cal P w K mg base 33 "_law_rule" spRule [])
    (C_law_same : Cal P w K mg base 4 "_law_same" (spSameN 3) []) (C_deep_right : Cal P w K mg base 8 "_law_deep_right" (spDr pt pd) []) (C_bent : Cal P w K mg base 3 "_law_bent" spBe []) (C_fault : Cal P w K mg base 2 "_law_fault" spFa []) (C_tt : Cal P w K mg base 4 "tree_text" spText []) (C_st : Cal P w K mg base 4 "shape_text" spText [])
    (DT : Def K mg "_law_tried" sTd ft dt) (bt : Binds K dt ["_law_ask"] []) (XB : XX K mg "BadText" "at" BT)
    (D1 : Def K mg "read_tree" sRT frt drt) (b1 : Binds K drt ["text"] []) (F1 : FnOk P w K mg base (L2.CX P w) 4 frt drt ["text"] (spRX BT false))
    (D2 : Def K mg "read_shape" sRS frs drs) (b2 : Binds K drs ["text"] []) (F2 : FnOk P w K mg base (L2.CX P w) 4 frs drs ["text"] (spRX BT true)) :
    FnOk P w K mg base C8.CX0 63 f (PySem.W.fnOf "law" "law" (fnArgs sLaw) (fnBody sLaw) (fnScope sLaw) .none kV doc pm an (.ref cc) ct) ["_law_script"] (spLaw K pt pd) := by
  refine fn_of lk hcd scLaw (fun vs H Q E h => ?_) (fun A outer s H vs Q E hr h => ?_)
  · obtain ⟨a, ns, rfl, _⟩ := h
    rfl
  · obtain ⟨a, ns, rfl, hS, ht1, ht2, k⟩ := h
    have nd := scLaw.nd
    suffices hh : ∃ t, PSs (cxOf C8.CX0 P w K mg base NL "law" (fnScope sLaw) f (.ref cc) A outer s H E).nox (fnBody sLaw) t ∧ t { nx := fun _ H' => Q .non H', rt := Q } (start NL [.ref a]) H by
      obtain ⟨t, h, q⟩ := hh
      exact ⟨t, h.nox, q⟩
    refine ⟨_, (pss_cut (ps_set (i := 1) nd rfl (Or.inl rfl) (pe_c C_fresh hr (by decide) (by rfl) (pa_cons (pv 0) pa_nil)))
      (pss_cut (ps_if (pt_not (pt_val (pe_c C_deep_right hr (by decide) (by rfl) (pa_cons (pe_c C_take hr (by decide) (by rfl) (pa_cons (pv 1) (pa_cons pe_int pa_nil))) pa_nil)))) pss_never pss_nil)
      (pss_cut (ps_for PassesOwn.never rfl (pi_range1 (by rfl) T.ran (pa_cons pe_int pa_nil)) (pg_name (i := 2) nd rfl (Or.inl rfl))
        (pss_cut (ps_set (i := 3) nd rfl (Or.inl rfl) (pe_c C_rows hr (by decide) (by rfl) (pa_cons (pv 1) (pa_cons pe_int pa_nil))))
        (pss_cut (ps_set (i := 4) nd rfl (Or.inl rfl) (pe_c C_rule hr (by decide) (by rfl) (pa_cons (pv 1) (pa_cons (pv 3) (pa_cons pe_int pa_nil)))))
        (pss_cut (ps_set (i := 5) nd rfl (by first | exact Or.inl rfl | exact Or.inr rfl) (pe_c C_text hr (by decide) (by rfl) (pa_cons (pe_c C_one hr (by decide) (by rfl) (pa_cons (pv 1) (pa_cons (pe_lst (pa_cons (pe_ix ix_tup (pv 4) pe_int fun _ _ => rfl) (pa_cons (pe_ix ix_tup (pv 4) pe_int fun _ _ => rfl) (pa_cons (pe_c C_tree hr (by decide) (by rfl) (pa_cons (pv 1) (pa_cons (pv 3) (pa_cons pe_int pa_nil)))) pa_nil)))) pa_nil))) pa_nil)))
        (pss_cut (ps_for PassesOwn.never rfl (pi_range1 (by rfl) T.ran (pa_cons (pe_op op_add pe_int (pe_c C_take hr (by decide) (by rfl) (pa_cons (pv 1) (pa_cons pe_int pa_nil)))) pa_nil)) (pg_name (i := 6) nd rfl (Or.inl rfl))
          (pss_one (ps_set (i := 5) nd rfl (by first | exact Or.inl rfl | exact Or.inr rfl) (pe_c C_bent hr (by decide) (by rfl) (pa_cons (pv 1) (pa_cons (pv 5) pa_nil))))))
        (pss_cut (ps_set (i := 5) nd rfl (by first | exact Or.inl rfl | exact Or.inr rfl) (pe_ifExp (pt_cmp (pc_eqI (pv 2) pe_int)) pe_str (pe_ifExp (pt_cmp (pc_eqI (pv 2) pe_int)) pe_str (pv 5))))
        (pss_one (ps_for PassesOwn.never rfl (pi_tup (pe_tup (pa_cons pe_bl (pa_cons pe_bl pa_nil)))) (pg_name (i := 7) nd rfl (by first | exact Or.inl rfl | exact Or.inr rfl))
          (pss_cut (ps_set (i := 8) nd rfl (Or.inl rfl) (pe_c C_fault hr (by decide) (by rfl) (pa_cons (pv 5) (pa_cons (pv 7) pa_nil))))
          (pss_cut (ps_set (i := 9) nd rfl (Or.inl rfl) (pe_ifExp (pt_cmp (pc_isN (pv 8))) (pe_tup (pa_cons pe_str (pa_cons (pv 5) pa_nil))) (pe_tup (pa_cons pe_str (pa_cons (pv 8) pa_nil)))))
          (pss_cut (ps_set (i := 10) nd rfl (Or.inl rfl) (pe_td (X := (cxOf C8.CX0 P w K mg base NL "law" (fnScope sLaw) f (.ref cc) A outer s H E).nox) (T := Tb pt pd) (k := 4) DT bt XB (by rfl) TB rfl List.mem_cons_self (tb_l hne) (hr.mono (by decide)) (show LamS (fnScope sLaw) _ from lamS_by (by decide +kernel)) rfl (fun _ _ _ _ _ => rfl) (t := fun E => tIf (tB (tVar 7)) (tCall spText [] C8.E0 (tCons (tCall (spRX BT true) [] E (tCons (tVar 5) tNil)) tNil)) (tCall spText [] C8.E0 (tCons (tCall (spRX BT false) [] E (tCons (tVar 5) tNil)) tNil))) (fun A outer s H E f c' hr' => pe_ifExp (pt_val (pv 7)) (pe_c C_st hr' (by decide) (by rfl) (pa_cons (pe_call F2 hr' (by rfl) D2.mgf D2.kp b2 .nil (passes_call (takes_of rfl rfl rfl rfl) (fun _ _ _ _ h => h)) (pa_cons (pv 5) pa_nil)) pa_nil)) (pe_c C_tt hr' (by decide) (by rfl) (pa_cons (pe_call F1 hr' (by rfl) D1.mgf D1.kp b1 .nil (passes_call (takes_of rfl rfl rfl rfl) (fun _ _ _ _ h => h)) (pa_cons (pv 5) pa_nil)) pa_nil)))))
          (pss_one (ps_if (pt_not (pt_val (pe_c C_law_same hr (by decide) (by rfl) (pa_cons (pv 10) (pa_cons (pv 9) pa_nil))))) pss_never pss_nil)))))))))))))
      (pss_one (ps_ret pe_bl))))), ?_⟩
    have szl := sizeLine_eq
    refine ⟨fun σ H' => ∃ st cl : Addr, σ = [some (.ref a), some (.ref st), none, none, none, none, none, none, none, none, none] ∧ Wo st cl pt pd 0 H', ?_, ?_⟩
    · exact ⟨_, rfl, a, ns, rfl, hS, fun st cl H0 nst ncl s0 hst0 => ⟨st, cl, rfl, hst0, tbs_nil (s0 _ _ ht1) (s0 _ _ ht2), ne_of_none ht1 nst, ne_of_none ht2 nst⟩⟩
    rintro σ H1 ⟨st, cl, rfl, w1⟩
    refine ⟨fun σ H' => σ = [some (.ref a), some (.ref st), none, none, none, none, none, none, none, none, none] ∧ Wo st cl pt pd 1 H', ?_, ?_⟩
    · refine ⟨_, rfl, st, 660, 0, cl, rfl, by decide, by decide, w1.hst, by omega, fun d H2 d0 d1 hs2 b2 => ⟨d.toNat, ?_, by omega, (w1.but b2 hs2).tab, fun H3 x3 t3 => ⟨true, rfl, iteBf rfl ⟨rfl, (w1.but b2 hs2).ext x3 t3⟩⟩⟩⟩
      rw [Int.toNat_of_nonneg d0]
      rfl
    rintro σ H2 ⟨rfl, w2⟩
    refine ⟨fun σ H' => True, ?_, fun σ H' _ => k H'⟩
    refine ⟨12, rfl, by decide, by decide, for_gen (J := Itr 0 12) 12 (fun i σ H' => ∃ v2 v3 v4 v5 v6 v7 v8 v9 v10 : Option V, σ = [some (.ref a), some (.ref st), v2, v3, v4, v5, v6, v7, v8, v9, v10] ∧ Wo st cl pt pd (1 + 1000 * i) H') ⟨_, _, _, _, _, _, _, _, _, rfl, w2⟩
      (fun i σ H' hi _ => hi) (fun σ H' _ => Nat.le_refl _) ?_ (fun σ H' _ => trivial)⟩
    rintro i σ H3' v H3 hi ⟨v2, v3, v4, v5, v6, v7, v8, v9, v10, rfl, w3⟩ ⟨rfl, rfl⟩
    generalize hB : 1 + 1000 * i = B at w3
    have hBb : B ≤ 100000 := by omega
    refine ⟨fun σ H' => ∃ (l : Addr) (rs : List Rw), σ = [some (.ref a), some (.ref st), some (.int (0 + (i : Nat))), some (.ref l), v4, v5, v6, v7, v8, v9, v10] ∧ RowsAt H' l rs ∧ RowsOk rs ∧ Wo st cl pt pd (B + 50) H', ?_, ?_⟩
    · exact ⟨_, rfl, st, 4, B, cl, rfl, by decide, by decide, w3.hst, by omega, fun l rs H4 nl hR ok hs4 b4 => ⟨l, rs, rfl, hR, ok, w3.but b4 hs4⟩⟩
    rintro σ H4 ⟨l, rs, rfl, hR, ok, w4⟩
    refine ⟨fun σ H' => ∃ (p kd bd : Addr) (vl vr : V) (dl dr : D), σ = [some (.ref a), some (.ref st), some (.int (0 + (i : Nat))), some (.ref l), some (.ref p), v5, v6, v7, v8, v9, v10] ∧ H' p = some (.tup [vl, vr, .ref kd, .ref bd]) ∧ DAt nol H' vl dl ∧ isSh dl = true ∧ sz dl ≤ 12 ∧ DAt nol H' vr dr ∧ isSh dr = true ∧ sz dr ≤ 30 ∧ RowsAt H' l rs ∧ Wo st cl pt pd (B + 300) H', ?_, ?_⟩
    · exact ⟨_, rfl, _, rfl, st, l, 3, rs, _, cl, rfl, by decide, by decide, hR, ok, w4.hst, by omega, fun p kd bd vl vr dl dr H5 hp h1 h2 h3 h4 h5 h6 h7 hs5 b5 => ⟨p, kd, bd, vl, vr, dl, dr, rfl, hp, h1, h2, h4, h5, h6, h7, hR.but w4.hst b5, w4.but b5 hs5⟩⟩
    rintro σ H5 ⟨p, kd, bd, vl, vr, dl, dr, rfl, hp, hl1, hl2, hl3, hr1, hr2, hr3, hR5, w5⟩
    -- its text
    refine ⟨fun σ H' => ∃ X : Str, σ = [some (.ref a), some (.ref st), some (.int (0 + (i : Nat))), some (.ref l), some (.ref p), some (.str X), v6, v7, v8, v9, v10] ∧ asc X = true ∧ X.length ≤ 420 ∧ Wo st cl pt pd (B + 350) H', ?_, ?_⟩
    · refine ⟨_, rfl, _, rfl, p, _, 0, vl, rfl, rfl, SqT.of hp, at_of (j := 0) (by omega) rfl, _, rfl, p, _, 1, vr, rfl, rfl, SqT.of hp, at_of (j := 1) (by omega) rfl, ?_⟩
      refine ⟨_, rfl, _, rfl, st, l, 10, rs, _, cl, rfl, by decide, by decide, by decide, hR5, ok, w5.hst, by omega, fun tv t H6 ht hit hzt hs6 b6 => ⟨(by show 3 ≤ sizeLine; decide), fun q nq => ?_⟩⟩
      have w6 := w5.but b6 hs6
      have sq : Same H6 (upd H6 q (.lst [vl, vr, tv])) := same_upd nq
      refine ⟨st, q, _, _, cl, rfl, .inl upd_same, (w6.hst.new nq).1, by simp, by simp, (w6.same sq).hst, by show B + 300 + 3 * 10 < _; omega, fun v H7 hv hs7 b7 => ?_⟩
      have h56 : Hold nol H5 H7 := ((Hold.but w5.hst b6 fun _ h => h.elim).trans (Hold.same sq)).trans (Hold.but (w6.same sq).hst b7 fun _ h => h.elim)
      obtain ⟨d, hd, hds, hdz⟩ : ∃ d, DAt nol H7 v d ∧ isSh d = true ∧ sz d ≤ 30 := by
        simp only [List.mem_cons, List.not_mem_nil, or_false] at hv
        rcases hv with rfl | rfl | rfl
        · exact ⟨dl, DAt.hold h56 _ hl1, hl2, by omega⟩
        · exact ⟨dr, DAt.hold h56 _ hr1, hr2, hr3⟩
        · exact ⟨t, DAt.hold ((Hold.same sq).trans (Hold.but (w6.same sq).hst b7 fun _ h => h.elim)) _ ht, isT_sh ok hit, by omega⟩
      refine ⟨v, d, rfl, hd, hds, by omega, by omega, fun H8 s8 => ⟨S (tx d), rfl, asc_iff.mpr (tx_asc _ (Nat.le_refl _) hds), ?_, ((w6.same sq).but b7 hs7).same s8 |>.more (by show B + 300 + 3 * 10 + 1 ≤ _; omega)⟩⟩
      have := tx_len hds
      show (tx d).length ≤ 420
      omega
    rintro σ H6 ⟨X0, rfl, ha0, hl0, w6⟩
    -- bent
    refine ⟨fun σ H' => ∃ (X : Str) (v6 : Option V), σ = [some (.ref a), some (.ref st), some (.int (0 + (i : Nat))), some (.ref l), some (.ref p), some (.str X), v6, v7, v8, v9, v10] ∧ asc X = true ∧ X.length ≤ 4000 ∧ Wo st cl pt pd (B + 400) H', ?_, ?_⟩
    · refine ⟨_, rfl, st, 3, _, cl, rfl, by decide, by decide, w6.hst, by omega, fun d H7 d0 d1 hs7 b7 => ⟨1, d, rfl, rfl, 1 + d, rfl, by omega, by omega, ?_⟩⟩
      have w7 := w6.but b7 hs7
      refine for_gen (J := Itr 0 (1 + d).toNat) (1 + d).toNat (fun j σ H' => ∃ (X : Str) (v6 : Option V), σ = [some (.ref a), some (.ref st), some (.int (0 + (i : Nat))), some (.ref l), some (.ref p), some (.str X), v6, v7, v8, v9, v10] ∧ asc X = true ∧ X.length + 9 ≤ 429 * 2 ^ j ∧ Wo st cl pt pd (B + 351 + 4 * j) H') ⟨X0, v6, rfl, ha0, by omega, w7⟩
        (fun j σ H' hj _ => hj) (fun σ H' _ => Nat.le_refl _) ?_ ?_
      · rintro j σ H8' v H8 hj ⟨X, v6, rfl, hX, hXl, w8⟩ ⟨rfl, rfl⟩
        have hj2 : j ≤ 2 := by omega
        have hp2 : 2 ^ j ≤ 4 := by
          rcases (by omega : j = 0 ∨ j = 1 ∨ j = 2) with rfl | rfl | rfl <;> decide
        refine ⟨_, rfl, _, rfl, st, X, _, cl, rfl, by omega, hX, w8.hst, by omega, fun Y H9 hY hYl hs9 b9 => ⟨Y, _, rfl, hY, ?_, (w8.but b9 hs9).more (by omega)⟩⟩
        rw [Nat.pow_succ]
        omega
      · rintro σ H8 ⟨X, v6, rfl, hX, hXl, w8⟩
        have hp3 : 2 ^ (1 + d).toNat ≤ 8 := by
          rcases (by omega : (1 + d).toNat = 1 ∨ (1 + d).toNat = 2 ∨ (1 + d).toNat = 3) with e | e | e <;> rw [e] <;> decide
        exact ⟨X, v6, rfl, hX, by omega, w8.more (by omega)⟩
    rintro σ H7 ⟨X1, v6, rfl, hX1, hXl1, w7⟩
    refine ⟨fun σ H' => ∃ (X : Str), σ = [some (.ref a), some (.ref st), some (.int (0 + (i : Nat))), some (.ref l), some (.ref p), some (.str X), v6, v7, v8, v9, v10] ∧ asc X = true ∧ X.length ≤ 4000 ∧ H' = H7, ?_, ?_⟩
    · refine ⟨_, rfl, _, _, rfl, rfl, _, rfl, ite2 (fun _ => ⟨_, rfl, by decide +kernel, by decide +kernel, rfl⟩) (fun _ => ⟨_, rfl, _, _, rfl, rfl, _, rfl, ite2 (fun _ => ⟨_, rfl, by decide +kernel, by decide +kernel, rfl⟩) (fun _ => ⟨_, rfl, X1, rfl, hX1, hXl1, rfl⟩)⟩)⟩
    rintro σ H8 ⟨X, rfl, hX, hXl, rfl⟩
    have hlX : (TL.tl X).length = X.length := (TL.len_tl X).symm
    refine ⟨(by show 2 ≤ sizeLine; decide), fun tp ntp => ?_⟩
    have stp : Same H8 (upd H8 tp (.tup [.bl false, .bl true])) := same_upd ntp
    have htp : (upd H8 tp (.tup [.bl false, .bl true])) tp = some (.tup [.bl false, .bl true]) := upd_same
    generalize upd H8 tp (.tup [.bl false, .bl true]) = H9 at stp htp
    have w9 := w7.same stp
    refine ⟨tp, rfl, ⟨_, SqT.of htp⟩, ?_⟩
    refine for_gen (J := Itt K tp) 2 (fun j σ H' => ∃ v7 v8 v9 v10 : Option V, σ = [some (.ref a), some (.ref st), some (.int (0 + (i : Nat))), some (.ref l), some (.ref p), some (.str X), v6, v7, v8, v9, v10] ∧ H' tp = some (.tup [.bl false, .bl true]) ∧ Wo st cl pt pd (B + 400) H') ⟨_, _, _, _, rfl, htp, w9⟩
      (fun j σ H' hj ⟨_, _, _, _, _, q, _⟩ => ⟨_, [V.bl false, .bl true].getD j .non, SqT.of q, getD_at hj⟩) (fun σ H' ⟨_, _, _, _, _, q, _⟩ => ⟨_, SqT.of q, Nat.le_refl _⟩) ?_ (fun σ H' ⟨v7, v8, v9, v10, e, q, w⟩ => ⟨_, _, _, _, _, _, _, _, _, e, w.more (by omega)⟩)
    rintro j σ H10' x H10 hj ⟨v7, v8, v9, v10, rfl, q10, w10⟩ ⟨rfl, hx⟩
    have hx := hx _ (SqT.of q10)
    obtain ⟨hb, rfl⟩ : ∃ hb, x = .bl hb := by
      rcases (by omega : j = 0 ∨ j = 1) with rfl | rfl
      · exact ⟨false, (Option.some.inj hx).symm⟩
      · exact ⟨true, (Option.some.inj hx).symm⟩
    -- the fault
    refine ⟨fun σ H' => ∃ fv : V, σ = [some (.ref a), some (.ref st), some (.int (0 + (i : Nat))), some (.ref l), some (.ref p), some (.str X), v6, some (.bl hb), some fv, v9, v10] ∧ Same H10 H' ∧ ((flt hb .beg 0 0 0 (TL.tl X) = none ∧ fv = .non) ∨ ∃ kk : Nat, flt hb .beg 0 0 0 (TL.tl X) = some kk ∧ fv = .int kk), ?_, ?_⟩
    · refine ⟨_, rfl, _, rfl, X, hb, rfl, by omega, hX, fun H' s' => ⟨fun hn => ⟨_, rfl, s', .inl ⟨hn, rfl⟩⟩, fun kk hk => ⟨_, rfl, s', .inr ⟨kk, hk, rfl⟩⟩⟩⟩
    rintro σ H11 ⟨fv, rfl, s11, hfv⟩
    refine ⟨fun σ H' => ∃ dq : Addr, σ = [some (.ref a), some (.ref st), some (.int (0 + (i : Nat))), some (.ref l), some (.ref p), some (.str X), v6, some (.bl hb), some fv, some (.ref dq), v10] ∧ Same H11 H' ∧ ((flt hb .beg 0 0 0 (TL.tl X) = none ∧ H' dq = some (.tup [.str "read", .str X])) ∨ ∃ kk : Nat, flt hb .beg 0 0 0 (TL.tl X) = some kk ∧ H' dq = some (.tup [.str "bad", .int kk])), ?_, ?_⟩
    · rcases hfv with ⟨hn, rfl⟩ | ⟨kk, hk, rfl⟩
      · exact ⟨_, rfl, true, rfl, iteBt rfl ⟨_, rfl, (by show 2 ≤ sizeLine; decide), fun dq ndq => ⟨dq, rfl, same_upd ndq, .inl ⟨hn, upd_same⟩⟩⟩⟩
      · exact ⟨_, rfl, false, rfl, iteBf rfl ⟨_, rfl, (by show 2 ≤ sizeLine; decide), fun dq ndq => ⟨dq, rfl, same_upd ndq, .inr ⟨kk, hk, upd_same⟩⟩⟩⟩
    rintro σ H12 ⟨dq, rfl, s12, hdq⟩
    have w12 := w10.same (s11.trans s12)
    have q12 := s12 _ _ (s11 _ _ q10)
    -- what is told
    refine ⟨fun σ H' => ∃ r : Addr, σ = [some (.ref a), some (.ref st), some (.int (0 + (i : Nat))), some (.ref l), some (.ref p), some (.str X), v6, some (.bl hb), some fv, some (.ref dq), some (.ref r)] ∧ ExtN H12 H' ∧ Wo st cl pt pd (B + 400) H' ∧ EqN H' 3 (.ref r) (.ref dq), ?_, ?_⟩
    · refine ⟨w12.tab, fun H13 x13 tb13 E' Q' hE hQ => ?_⟩
      have w13 := w12.ext x13 tb13
      have key : ∀ (b : Bool), b = hb → (∀ kk : Nat, flt b .beg 0 0 0 (TL.tl X) = some kk → exO BT "at" (.int (kk : Nat)) H13 E') ∧ (flt b .beg 0 0 0 (TL.tl X) = none → ∀ H', Same H13 H' → Q' (.str X) H') := by
        rintro b rfl
        refine ⟨fun kk hk H' d s' nd => hE d _ _ upd_same fun r nr => ?_, fun hn H' s' => hQ _ _ fun r nr => ?_⟩
        · have sX : Same H13 (upd (upd H' d (.xd [("at", .int (kk : Nat))])) r (.tup [.str "bad", .int (kk : Nat)])) := s'.trans ((same_upd nd).trans (same_upd nr))
          have hr' : (upd (upd H' d (.xd [("at", .int (kk : Nat))])) r (.tup [.str "bad", .int (kk : Nat)])) r = some (.tup [.str "bad", .int (kk : Nat)]) := upd_same
          generalize upd (upd H' d (.xd [("at", .int (kk : Nat))])) r (.tup [.str "bad", .int (kk : Nat)]) = HX at sX hr'
          rcases hdq with ⟨hn, _⟩ | ⟨k2, hk2, hdq⟩
          · rw [hn] at hk
            cases hk
          · rw [hk2] at hk
            cases hk
            exact ⟨r, rfl, x13.trans (ExtN.of sX), w13.same sX, .inr ⟨true, r, dq, _, _, rfl, rfl, hr', sX _ _ (x13 _ _ hdq (fun ps z => by cases z)), .cons (eq_flat rfl 1) (.cons (eq_flat rfl 1) .nil), (by show 2 ≤ 100000; decide)⟩⟩
        · have sX : Same H13 (upd H' r (.tup [.str "read", .str X])) := s'.trans (same_upd nr)
          have hr' : (upd H' r (.tup [.str "read", .str X])) r = some (.tup [.str "read", .str X]) := upd_same
          generalize upd H' r (.tup [.str "read", .str X]) = HX at sX hr'
          rcases hdq with ⟨_, hdq⟩ | ⟨k2, hk2, _⟩
          · exact ⟨r, rfl, x13.trans (ExtN.of sX), w13.same sX, .inr ⟨true, r, dq, _, _, rfl, rfl, hr', sX _ _ (x13 _ _ hdq (fun ps z => by cases z)), .cons (eq_flat rfl 1) (.cons (eq_flat rfl 1) .nil), (by show 2 ≤ 100000; decide)⟩⟩
          · rw [hk2] at hn
            cases hn
      have txX : ∀ d, tx d = TL.tl X → S (tx d) = X := fun d e => TL.ext_tl e
      have zX : ∀ (b : Bool) d, isShH b d = true → tx d = TL.tl X → sz d ≤ 10000 := fun b d h e => by
        have := sz_tx _ (Nat.le_refl _) (shH_sh h)
        rw [e] at this
        omega
      obtain ⟨kk1, kk2⟩ := key hb rfl
      refine ⟨_, rfl, hb, rfl, ?_⟩
      cases hb with
      | true =>
        refine iteBt rfl ⟨_, rfl, X, rfl, by omega, kk1, fun hn d v H14 s14 hv hsh htx => ⟨v, d, nol, rfl, hv, shH_sh hsh, zX _ d hsh htx, fun H15 s15 => ?_⟩⟩
        rw [txX d htx]
        exact kk2 hn H15 (s14.trans s15)
      | false =>
        refine iteBf rfl ⟨_, rfl, X, rfl, by omega, kk1, fun hn d v H14 s14 hv hsh htx => ⟨v, d, nol, rfl, hv, shH_sh hsh, zX _ d hsh htx, fun H15 s15 => ?_⟩⟩
        rw [txX d htx]
        exact kk2 hn H15 (s14.trans s15)
    rintro σ H13 ⟨r, rfl, x13, w13, heq⟩
    exact ⟨_, rfl, _, rfl, _, _, rfl, heq, fun H14 s14 => ⟨true, rfl, iteBf rfl ⟨_, _, _, _, rfl, s14 _ _ (x13 _ _ q12 (fun ps z => by cases z)), w13.same s14⟩⟩⟩
end
end K7

namespace K7
open PySem PySem.Spec PyProof.Rows L2 C8 XI
/-- what the text says of an __init__ whose parameters are all stored -/
structure TxtI (st : Stmt) (qual : Str) (fs : List Str) : Prop where
  par : ((fnArgs st).posonlyargs ++ (fnArgs st).args).head?.map (·.arg) = some "self"
  ssu : (fnScope st).names.lookup ("super" : Str) = some .globalImplicit
  scl : (fnScope st).names.lookup ("__class__" : Str) = some .free
  sse : (fnScope st).names.lookup ("self" : Str) = some .local
  kin : (fnScope st).kind = .function
  cel : ∀ y ∈ (fnScope st).names, y.2 ≠ .cell
  nco : (fnScope st).isCoroutine = false
  nge : (fnScope st).isGenerator = false
  fie : ∀ f ∈ fs, (fnScope st).names.lookup f = some .local ∧ (f == ("__debug__" : Str)) = false ∧ f ≠ "self"
  ndf : fs.Nodup
  len : fs.length ≤ 900
  bod : ∃ (p0 p1 p2 p3 p4 p5 : Pos) (k : Nat) (tx : Str) (b : List Stmt), fnBody st = .Expr (.Call (.Attribute (.Call (.Name "super" p0) [] [] p1) "__init__" p2) [.Constant (.str tx) k p3] [] p4) p5 :: b ∧ Stores fs b ∧
    ∀ (L fI' cda' cc' : Addr), ∃ pl, eval (.Call (.Attribute (.Call (.Name "super" p0) [] [] p1) "__init__" p2) [.Constant (.str tx) k p3] [] p4) (PySem.W.ksEnv qual (fnScope st) L fI' (.ref cda') cc') = (do
      let ov ← attributeBase (.Call (.Name "super" p0) [] [] p1) "__init__" (PySem.W.ksEnv qual (fnScope st) L fI' (.ref cda') cc') (eval (.Call (.Name "super" p0) [] [] p1) (PySem.W.ksEnv qual (fnScope st) L fI' (.ref cda') cc'))
      standAt p2.atName
      let (fx, first) ← holding [ov] (getMethod ov "__init__" pl)
      callWith p4 fx first (backTo p4 (starEach [.Constant (.str tx) k p3] (PySem.W.ksEnv qual (fnScope st) L fI' (.ref cda') cc'))) []) ∧ swapsWith (.Call (.Attribute (.Call (.Name "super" p0) [] [] p1) "__init__" p2) [.Constant (.str tx) k p3] [] p4) none p5.line (PySem.W.ksEnv qual (fnScope st) L fI' (.ref cda') cc') = pure false
  bP : ∀ (kV doc pm : Value) (an : Option Addr) (cdv ct : Value) (cc : Addr) (y : Value) (us : List Value), us.length = fs.length → bindArgs (PySem.W.ksFn "__init__" qual (fnArgs st) (fnBody st) (fnScope st) .none kV doc pm an cdv ct cc) ⟨y :: us, []⟩ = pure ((("self" : Str), y) :: fs.zip us)
  bK : ∀ (kV doc pm : Value) (an : Option Addr) (cdv ct : Value) (cc : Addr) (y : Value) (ks : List Str) (ws us : List Value), ks.length = ws.length → (ks.zip ws).Perm (fs.zip us) → us.length = fs.length → ks.length = fs.length → bindArgs (PySem.W.ksFn "__init__" qual (fnArgs st) (fnBody st) (fnScope st) .none kV doc pm an cdv ct cc) ⟨[y], ks.zip ws⟩ = pure ((("self" : Str), y) :: fs.zip us)
def inCls (i : Nat) : Stmt := (clsBody (top i)).getD 0 (.Pass ⟨0, 0, 0, 0⟩)
theorem txt_BadText : TxtI (inCls 2) "BadText.__init__" ["at"] where
  par := by decide +kernel
  ssu := by rfl
  scl := by rfl
  sse := by rfl
  kin := by rfl
  cel := by decide +kernel
  nco := by rfl
  nge := by rfl
  fie := by decide +kernel
  ndf := by decide +kernel
  len := by decide
  bod := ⟨_, _, _, _, _, _, _, _, _, by rfl, (.cons .nil), fun L fI' cda' cc' => ⟨_, by rfl, by rfl⟩⟩
  bP := fun _ _ _ _ _ _ _ y us hl => match us, hl with | [_], _ => rfl
  bK := fun _ _ _ _ _ _ _ y ks ws us h1 hp h2 h3 => match ks, ws, us, h1, h2, h3 with
    | [k], [w], [u], _, _, _ => by
      have e := List.perm_singleton.mp hp
      obtain ⟨e1, e2⟩ := Prod.mk.inj (List.cons.inj e).1
      subst e1 e2
      rfl
theorem ec_mk {prog : Program} {K : PySem.W.Frag} {mg : Str → Option Value} {h : Heap} {x qual : Str} {st : Stmt} {C fI cc cda : Addr} {fs : List Str} (T : TxtI st qual fs) (X : K.In h) (G : h.Ns mainGlobals mg)
    {nm q : Str} {N : Addr} {bs bm : List Value} {sn : List Str} {sub : List Value} {ab : Bool} {col : Option Bool} {dd : Option Addr} {k0 k1 k2 k3 k5 : Option Value} {oc kV doc pm ct cl ccl : Value} {od an cld cdd : Option Addr} {osl csl ccs : Array (Option Value)} {vs : Array Value} {file : Str} {tf : Tok}
    (aC : PySem.W.nsIn K mainGlobals x = some (some (.ref C))) (lC : K.lookup C = some (excClassObj nm q C N bs bm true sn sub ab col dd k0 k1 k2 k3 k5 "ValueError.__new__")) (ini : PySem.W.findIn K (.ref C) "__init__" = some (some (.ref fI)))
    (lI : K.lookup fI = some ⟨oc, od, .func (PySem.W.ksFn "__init__" qual (fnArgs st) (fnBody st) (fnScope st) .none kV doc pm an (.ref cda) ct cc), osl⟩) (lc : K.lookup cc = some ⟨cl, cld, .cell (some (.ref C)), csl⟩) (ld : K.lookup cda = some ⟨ccl, cdd, .fields vs, ccs⟩)
    (hbm : PySem.HandSPX.refsVE bm = true) (hv : vs[2]? = some (.str file tf)) (hfile : ((prog.main.file : Str) == file) = true) (htop : (prog.main.scope.names.lookup ("super" : Str)).isSome = false) (su : PySem.W.nsIn K mainGlobals "super" = some none)
    (cI : PySem.W.codeIn K (.ref cda) qual = true) (sa : PySem.W.findIn K (.ref C) "__setattr__" = some (some (.builtin "object.__setattr__"))) (exC : PySem.W.subIn K (.ref C) (.type "BaseException") = some true) (tyC : PySem.W.typeIn K (.ref C) = some (.type "type")) (kC : PySem.W.keepIn K (.ref C) = true)
    (hg : PySem.W.findIn K (.ref C) "__getattribute__" = some (some (.builtin "BaseException.__getattribute__"))) (hk : PySem.W.findIn K (.ref C) "__getattr__" = some none) (hd : PySem.W.hasDictIn K C = true) (ha : PySem.W.findIn K (.ref C) "__class__" = some (some (.builtin "object.__class__")))
    (hn : PySem.W.specialIn K (.builtin "object.__class__") "__get__" = some (some (.builtin "getset_descriptor.__get__"))) (ht : PySem.W.takesIn K (.builtin "object.__class__") = some true) (hm : PySem.W.mroIn K C (.type "object") = some true)
    (sup : PySem.W.ks_superIn K C C "__init__" = some (some (.builtin "ValueError.__init__"))) (ity : PySem.W.typeIn K (.ref fI) = some (.type "function")) (opa : PySem.W.nsIn K cStatics "thirdparty.any" = some none) (suB : PySem.W.subIn K (.ref C) (.type "ValueError") = some true)
    (suC : PySem.W.mroIn K C (.ref C) = some true) (nf : ∀ f ∈ fs, PySem.W.findIn K (.ref C) f = some none) : EC prog K mg x C fs where
  ini := by
    have lk : ∀ {fd : FuncData}, (∃ oc od osl, K.lookup fI = some ⟨oc, od, .func fd, osl⟩) → fd = PySem.W.ksFn "__init__" qual (fnArgs st) (fnBody st) (fnScope st) .none kV doc pm an (.ref cda) ct cc := fun {fd} ⟨oc', od', osl', e⟩ => by
      rw [lI] at e
      cases e
      rfl
    refine ⟨fI, qual, fnArgs st, fnBody st, fnScope st, ⟨⟨oc, od, .none, kV, doc, pm, an, cda, ct, osl, cc, cl, cld, csl, ccl, cdd, ccs, vs, file, tf, lI, cI, lc, ld, hv, hfile⟩, sup, ini, ity, opa, suB, suC, T.par, htop, T.ssu, T.scl, T.sse, T.kin, T.cel, T.nco, T.nge,
      fun f hf => ⟨(T.fie f hf).1, (T.fie f hf).2.1, nf f hf, (T.fie f hf).2.2⟩, T.ndf, T.bod⟩, fun s y fd hfd us hl => ?_, fun s y fd hfd ks ws us h1 h2 h3 h4 => ?_⟩
    · rw [lk hfd]
      exact .of_eq (T.bP _ _ _ _ _ _ _ y us hl)
    · rw [lk hfd]
      exact .of_eq (T.bK _ _ _ _ _ _ _ y ks ws us h1 h2 h3 h4)
  oex := ⟨⟨nm, q, N, bs, bm, sn, sub, ab, col, dd, k0, k1, k2, k3, k5, lC, hbm⟩, sa, exC, tyC, kC⟩
  gC := PySem.W.mg_of X G aC
  su := PySem.W.mg_none_of X G su
  is := ⟨hg, hk, exC, hd, ha, hn, ht, hm⟩
  fl := T.len
end K7

/-! the end of a law of which two defs make lambdas -/
namespace XW
open PySem PySem.Spec PySem.W PyProof.Rows L2 C8 LamX
/-- what stands of a def that makes lambdas: its code object and its table -/
structure DefT (K : PySem.W.Frag) (mg : Str → Option Value) (x : Str) (st : Stmt) (f cc tb : Addr) (fd : FuncData) : Prop where
  mgf : mg x = some (.ref f)
  kp : PySem.W.keepIn K (.ref f) = true
  fn : ∃ (kV doc pm ct oc : Value) (an od : Option Addr) (osl : Array (Option Value)), fd = PySem.W.fnOf x x (fnArgs st) (fnBody st) (fnScope st) .none kV doc pm an (.ref cc) ct ∧ K.lookup f = some ⟨oc, od, .func fd, osl⟩
  cod : PySem.W.codeIn K (.ref cc) x = true
  fld : ∃ (e : Value) (dd : Option Addr) (us : Array Value) (sl : Array (Option Value)), K.lookup cc = some ⟨e, dd, .fields us, sl⟩ ∧ us[11]? = some (.ref tb)
  non : K.lookup tb = none
  hd : PySem.W.codeHdIn K cc tb = true
theorem deft_mk {K : PySem.W.Frag} {mg : Str → Option Value} {h : Heap} {x : Str} {st : Stmt} {f cc tb : Addr} {oc kV doc pm ct e : Value} {od an dd : Option Addr} {osl sl : Array (Option Value)} {us : Array Value} (X : K.In h) (G : h.Ns mainGlobals mg)
    (a : PySem.W.nsIn K mainGlobals x = some (some (.ref f))) (l : K.lookup f = some ⟨oc, od, .func (PySem.W.fnOf x x (fnArgs st) (fnBody st) (fnScope st) .none kV doc pm an (.ref cc) ct), osl⟩)
    (c : PySem.W.codeIn K (.ref cc) x = true) (lc : K.lookup cc = some ⟨e, dd, .fields us, sl⟩) (h11 : us[11]? = some (.ref tb)) (nT : K.lookup tb = none) (hh : ∀ K' : PySem.W.Frag, K'.lookup cc = some ⟨e, dd, .fields us, sl⟩ → PySem.W.codeHdIn K' cc tb = true) (k : PySem.W.keepIn K (.ref f) = true) :
    DefT K mg x st f cc tb (PySem.W.fnOf x x (fnArgs st) (fnBody st) (fnScope st) .none kV doc pm an (.ref cc) ct) :=
  ⟨PySem.W.mg_of X G a, k, ⟨_, _, _, _, _, _, _, _, rfl, l⟩, c, ⟨_, _, _, _, lc, h11⟩, nT, hh K lc⟩
/-- what the end must know of the law -/
def KnowsT (P : Program) (w : World) (K : PySem.W.Frag) (CX : CXT) (k : Nat) (x nl nd : Str) (mg : Str → Option Value) (fa : Addr) (sp : Addr → Addr → Sp) : Prop :=
  ∃ (st st2 : Stmt) (fd fd2 : FuncData) (f2 c1 c2 t1 t2 : Addr), DefT K mg nl st fa c1 t1 fd ∧ DefT K mg nd st2 f2 c2 t2 fd2 ∧ (∀ (s : Shared) (u : Value), BindsTo s fd ⟨[u], []⟩ [(x, u)]) ∧
    ∀ base : Heap, K.In base → base.Ns mainGlobals mg → TabB base mg c1 t1 → TabB base mg c2 t2 → FnOk P w K mg base CX k fa fd [x] (sp t1 t2)
theorem walk_T {l : PySem.W.OpenLaw} {n k : Nat} {q : Program} {loose : List Str} {XP : (Str → Option Value) → Heap → Prop} {YP : World → Heap → Prop} {d : DefRec} {K : Params → PySem.W.Frag} {CX : World → CXT} {sp : World → Addr → Addr → Sp} {x nd : Str} (hn : l.most = some n) (hn2 : n ≤ sizeLine) (hdf : d.params.defaults = []) (hr : Room k callerA)
    (hrec : ((recsOf q).any fun e => e.name == d.name) = true) (hrec2 : ((recsOf q).any fun e => e.name == nd) = true) (hY : ∀ (w : World) (h : Heap), YP w h → (K w.params).In h)
    (F : ∀ (w : World) (mg : Str → Option Value) (fa : Addr) (h : Heap), (K w.params).In h → h.Ns mainGlobals mg → mg d.name = some (.ref fa) → KnowsT l.prog w (K w.params) (CX w) k x d.name nd mg fa (sp w))
    (hsp : ∀ (w : World) (H : Hp) (a t1 t2 : Addr) (ns : List Int), ns.length ≤ n → H t1 = some (.tbl #[]) → H t2 = some (.tbl #[]) → SqL (K w.params) H a (ns.map V.int) → sp w t1 t2 [.ref a] H (fun v _ => v = .bl true) fun _ _ _ => False)
    (hCX : ∀ (w : World) (H : Hp) (s : Shared) (e : Value) (s' : Shared), CX w [] H s (fun _ _ _ => False) e s' → False) : PySem.W.WalkO q loose XP YP l.row.toRowW d [] (fun f vs => PySem.call f vs) := by
  refine Att.attach_call hn hdf fun w s0 s1 mg mb fa o pm cd doc a vs ns G Y ho hd hcd hmg hobj hints hlen hg => ?_
  have KX := hY w _ Y
  obtain ⟨st, st2, fd, fd2, f2, c1, c2, t1, t2, D1, D2, hb, hF⟩ := F w mg fa _ KX G.T.g hmg
  have tab : ∀ (nm : Str) (st : Stmt) (f c tb : Addr) (fd : FuncData), ((recsOf q).any fun e => e.name == nm) = true → DefT (K w.params) mg nm st f c tb fd → s1.heap.get? tb = some { cls := .none, data := .fields #[] } := by
    intro nm st f c tb fd hrc D
    obtain ⟨dL, hm, hn1⟩ := List.any_eq_true.mp hrc
    have hn2 : dL.name = nm := beq_iff_eq.mp hn1
    obtain ⟨kV, doc, pm, ct, oc, an, od, osl, efd, lk⟩ := D.fn
    obtain ⟨e, dd, us, sl, lc, h11⟩ := D.fld
    obtain ⟨a', o', fd', c', P', h1, h2, h3, h4, h5, h6⟩ := G.T.tab dL hm
    rw [hn2, D.mgf] at h1
    cases h1
    have g1 := KX _ _ lk
    rw [g1] at h2
    cases h2
    cases h3
    subst efd
    cases h4
    obtain ⟨⟨oc, vc, e1, _, e3, e4⟩, hP⟩ := h6
    have g2 := KX _ _ lc
    rw [g2] at e1
    cases e1
    cases e3
    rw [h11] at e4
    cases e4
    exact hP
  have mem : ∀ p ∈ [(c1, t1), (c2, t2)], p = (c1, t1) ∨ p = (c2, t2) := fun p hp => by simpa using hp
  refine law_callTs (cs := [(c1, t1), (c2, t2)]) KX G.T.g G.T.b G.T.builtins G.T.nolimit hg (fun p hp => ?_) (fun p hp => ?_) (fun p hp => ?_) G.T.bmain hobj hints (Nat.le_trans hlen hn2) hr (fun base a1 a2 a3 => hF base a1 a2 (a3 (c1, t1) (by simp)) (a3 (c2, t2) (by simp))) hb (fun H hH hS => hsp w H a t1 t2 ns hlen (hH (c1, t1) (by simp)) (hH (c2, t2) (by simp)) hS) fun H e s' => hCX w H s1 e s'
  · rcases mem p hp with rfl | rfl
    · exact tab _ _ _ _ _ _ hrec D1
    · exact tab _ _ _ _ _ _ hrec2 D2
  · rcases mem p hp with rfl | rfl
    · exact D1.non
    · exact D2.non
  · rcases mem p hp with rfl | rfl
    · exact PySem.W.codeHd_of_K KX D1.hd
    · exact PySem.W.codeHd_of_K KX D2.hd
end XW

namespace K7
open PySem PySem.Spec PyProof.Rows L2 C8 XE XI XR SX LamX
theorem two {A B : Prop} (a : A) (f : A → B) : B := f a
theorem def_mk {K : PySem.W.Frag} {mg : Str → Option Value} {h : Heap} {x : Str} {st : Stmt} {f : Addr} {oc kV doc pm cdv ct : Value} {od an : Option Addr} {osl : Array (Option Value)} (X : K.In h) (G : h.Ns mainGlobals mg)
    (a : PySem.W.nsIn K mainGlobals x = some (some (.ref f))) (l : K.lookup f = some ⟨oc, od, .func (PySem.W.fnOf x x (fnArgs st) (fnBody st) (fnScope st) .none kV doc pm an cdv ct), osl⟩)
    (c : PySem.W.codeIn K cdv x = true) (k : PySem.W.keepIn K (.ref f) = true) : Def K mg x st f (PySem.W.fnOf x x (fnArgs st) (fnBody st) (fnScope st) .none kV doc pm an cdv ct) :=
  ⟨⟨oc, od, .none, kV, doc, pm, an, cdv, ct, osl, rfl, l, c⟩, PySem.W.mg_of X G a, k⟩
theorem fun_mk {K : PySem.W.Frag} {x qual : Str} {st : Stmt} {f : Addr} {oc kV doc pm cdv ct : Value} {od an : Option Addr} {osl : Array (Option Value)}
    (l : K.lookup f = some ⟨oc, od, .func (PySem.W.fnOf x qual (fnArgs st) (fnBody st) (fnScope st) .none kV doc pm an cdv ct), osl⟩) (c : PySem.W.codeIn K cdv qual = true) : C8.Fun K x qual st f (PySem.W.fnOf x qual (fnArgs st) (fnBody st) (fnScope st) .none kV doc pm an cdv ct) :=
  ⟨oc, od, .none, kV, doc, pm, an, cdv, ct, osl, rfl, l, c⟩
theorem ns_mk {K : PySem.W.Frag} {mg : Str → Option Value} {h : Heap} {x : Str} {C : Addr} (X : K.In h) (G : h.Ns mainGlobals mg) (a : PySem.W.nsIn K mainGlobals x = some (some (.ref C))) : mg x = some (.ref C) := PySem.W.mg_of X G a
theorem cn_mk {K : PySem.W.Frag} {mg : Str → Option Value} {h : Heap} {x : Str} {u : Value} (X : K.In h) (G : h.Ns mainGlobals mg) (a : PySem.W.nsIn K mainGlobals x = some (some u)) : mg x = some u := PySem.W.mg_of X G a
theorem mk_mk {K : PySem.W.Frag} {mg : Str → Option Value} {x : Str} {C f : Addr} {h : Heap} (X : K.In h) (hC : mg x = some (.ref C)) (a : PySem.W.makesIn K C = true) (b : PySem.W.findIn K (.ref C) "__init__" = some (some (.ref f))) (c : PySem.W.isFn K (.ref f) = true) (d : PySem.W.keepIn K (.ref C) = true) : Mk K C f := ⟨a, b, c, d⟩
theorem me_mk {K : PySem.W.Frag} {mg : Str → Option Value} {x m : Str} {C f : Addr} {h : Heap} (X : K.In h) (hC : mg x = some (.ref C)) (b : PySem.W.findIn K (.ref C) m = some (some (.ref f))) (c : PySem.W.isFn K (.ref f) = true) (d : PySem.W.keepIn K (.ref f) = true) : Meth K C m f := ⟨b, c, d⟩
theorem fi_mk {K : PySem.W.Frag} {x qual : Str} {st : Stmt} {C f : Addr} {oc kV doc pm cdv ct : Value} {od an : Option Addr} {osl : Array (Option Value)} (M : Mk K C f)
    (l : K.lookup f = some ⟨oc, od, .func (PySem.W.fnOf x qual (fnArgs st) (fnBody st) (fnScope st) .none kV doc pm an cdv ct), osl⟩) (c : PySem.W.codeIn K cdv qual = true) : C8.Fun K x qual st f (PySem.W.fnOf x qual (fnArgs st) (fnBody st) (fnScope st) .none kV doc pm an cdv ct) := fun_mk l c
theorem fm_mk {K : PySem.W.Frag} {x qual : Str} {st : Stmt} {C f : Addr} {oc kV doc pm cdv ct : Value} {od an : Option Addr} {osl : Array (Option Value)} (M : Meth K C x f)
    (l : K.lookup f = some ⟨oc, od, .func (PySem.W.fnOf x qual (fnArgs st) (fnBody st) (fnScope st) .none kV doc pm an cdv ct), osl⟩) (c : PySem.W.codeIn K cdv qual = true) : C8.Fun K x qual st f (PySem.W.fnOf x qual (fnArgs st) (fnBody st) (fnScope st) .none kV doc pm an cdv ct) := fun_mk l c
theorem fact_mk {K : PySem.W.Frag} {mg : Str → Option Value} {x : Str} {C : Addr} {h : Heap} {A : Prop} (X : K.In h) (hC : mg x = some (.ref C)) (a : A) : A := a

theorem exm_own {K : PySem.W.Frag} {C : Addr} (a : PySem.W.subIn K (.ref C) (.type "BaseException") = some true) (ci : PySem.W.isClsIn K C = true) (ty : PySem.W.typeIn K (.ref C) = some (.type "type")) (su : PySem.W.subIn K (.ref C) (.ref C) = some true) : PySem.W.exmOne K (.ref C) (.ref C) = some true := by
  unfold PySem.W.exmOne
  rw [if_pos (by rw [a]; rfl)]
  show (if ((PySem.W.clsIn K C).isSome && PySem.W.typeIn K (.ref C) == some (.type "type")) = true then PySem.W.subIn K (.ref C) (.ref C) else none) = some true
  have ci : (PySem.W.clsIn K C).isSome = true := ci
  rw [if_pos (by rw [ci, ty]; rfl), su]
theorem xx_mk {P : Program} {K : PySem.W.Frag} {mg : Str → Option Value} {x f : Str} {C : Addr} {h : Heap} (X : K.In h) (E : EC P K mg x C [f]) (a : PySem.W.findIn K (.ref C) f = some none) (ci : PySem.W.isClsIn K C = true) (su : PySem.W.subIn K (.ref C) (.ref C) = some true) : XX K mg x f C := ⟨⟨E.is.1, E.is.2, E.oex.exC, E.is.4⟩, a, exm_own E.oex.exC ci E.oex.tyC su, E.gC⟩
structure Blt7 (mg : Str → Option Value) : Prop extends Blt4 mg where
  any : mg "any" = none
theorem all_ok {P : Program} {w : World} {K : PySem.W.Frag} {mg : Str → Option Value} {h : Heap} {fa BT : Addr} (X : K.In h) (G : h.Ns mainGlobals mg) (hfa : mg "law" = some (.ref fa)) (T : Blt7 mg) (Gk : Gm mg) (Gt : Gl mg)
    {f0 f1 f2 f3 f4 f5 f6 f7 f8 f9 f10 f11 f12 f13 f14 f15 f16 f17 f18 f19 f20 f21 f22 f23 f24 f25 f26 f27 f28 f29 f30 f31 f32 f33 fL cL tL fR cR tR : Addr} {d0 d1 d2 d3 d4 d5 d6 d7 d8 d9 d10 d11 d12 d13 d14 d15 d16 d17 d18 d19 d20 d21 d22 d23 d24 d25 d26 d27 d28 d29 d30 d31 d32 d33 fdL fdR : FuncData} (EB : EC P K mg "BadText" BT ["at"]) (XB : XX K mg "BadText" "at" BT) (D0 : Def K mg "is_hole" sHole f0 d0) (D1 : Def K mg "nodes_in_order" sNodes f1 d1) (D2 : Def K mg "node_text" sNText f2 d2) (D3 : Def K mg "text_of" sText f3 d3) (D4 : Def K mg "word_at" sWordAt f4 d4) (D5 : Def K mg "closed" sClosed f5 d5) (D6 : Def K mg "read_whole" sRead f6 d6) (D7 : Def K mg "tree_text" sTT f7 d7) (D8 : Def K mg "read_tree" sRT f8 d8) (D9 : Def K mg "shape_text" sST f9 d9) (D10 : Def K mg "read_shape" sRS f10 d10) (D11 : Def K mg "_law_fresh" sFresh f11 d11) (D12 : Def K mg "_law_take" sTake f12 d12) (D13 : Def K mg "_law_one" sOne f13 d13) (D14 : Def K mg "_law_mix" sMix f14 d14) (D15 : Def K mg "_law_same" sSame f15 d15) (D16 : Def K mg "_law_words" sWords f16 d16) (D17 : Def K mg "_law_rows" sRows f17 d17) (D18 : Def K mg "_law_many" sMany f18 d18) (D19 : Def K mg "_law_labels" sLabels f19 d19) (D20 : Def K mg "_law_tree" sTree f20 d20) (D21 : Def K mg "_law_holes" sHoles f21 d21) (D22 : Def K mg "_law_spots" sSpots f22 d22) (D23 : Def K mg "_law_shape" sShape f23 d23) (D24 : Def K mg "_law_unlike_holes" sUnl f24 d24) (D25 : Def K mg "_law_left" sLeft f25 d25) (D26 : Def K mg "_law_right" sRight f26 d26) (D27 : Def K mg "_law_rule" sRule f27 d27) (D28 : Def K mg "_law_text" sLText f28 d28) (D29 : Def K mg "_law_next" sNx f29 d29) (D30 : Def K mg "_law_fault" sFa f30 d30) (D31 : Def K mg "_law_bent" sBe f31 d31) (D32 : Def K mg "_law_tried" sTd f32 d32) (D33 : Def K mg "_law_is_chain" sIc f33 d33)
    (DL : XW.DefT K mg "law" sLaw fL cL tL fdL) (DR : XW.DefT K mg "_law_deep_right" sDr fR cR tR fdR) (hne : tL ≠ tR) (eR : fdR.defaults = .none)
    (e0 : d0.defaults = .none) (e1 : d1.defaults = .none) (e2 : d2.defaults = .none) (e3 : d3.defaults = .none) (e4 : d4.defaults = .none) (e5 : d5.defaults = .none) (e6 : d6.defaults = .none) (e7 : d7.defaults = .none) (e8 : d8.defaults = .none) (e9 : d9.defaults = .none) (e10 : d10.defaults = .none) (e11 : d11.defaults = .none) (e12 : d12.defaults = .none) (e13 : d13.defaults = .none) (e14 : d14.defaults = .none) (e15 : d15.defaults = .none) (e16 : d16.defaults = .none) (e17 : d17.defaults = .none) (e18 : d18.defaults = .none) (e19 : d19.defaults = .none) (e20 : d20.defaults = .none) (e21 : d21.defaults = .none) (e22 : d22.defaults = .none) (e23 : d23.defaults = .none) (e24 : d24.defaults = .none) (e25 : d25.defaults = .none) (e26 : d26.defaults = .none) (e27 : d27.defaults = .none) (e28 : d28.defaults = .none) (e29 : d29.defaults = .none) (e30 : d30.defaults = .none) (e31 : d31.defaults = .none) (e32 : d32.defaults = .none) (e33 : d33.defaults = .none) : XW.KnowsT P w K C8.CX0 63 "_law_script" "law" "_law_deep_right" mg fa (spLaw K) := by
  have e := hfa.symm.trans DL.mgf
  cases e
  have DL0 := DL
  have DR0 := DR
  obtain ⟨_, _, ⟨kV, doc, pm, ct, oc, an, od, osl, rfl, lk⟩, hcd, _, _, _⟩ := DL0
  obtain ⟨mgR, kpR, ⟨kV2, doc2, pm2, ct2, oc2, an2, od2, osl2, rfl, lk2⟩, hcd2, _, _, _⟩ := DR0
  refine ⟨sLaw, sDr, _, _, fR, cL, cR, tL, tR, DL, DR, fun s v => .of_eq rfl, fun base _ _ TB TB2 => ?_⟩
  have b0 := D0.fn.binds (ps := ["node"]) e0 fun _ _ _ _ _ _ us hl => match us, hl with | [_], _ => rfl
  have b1 := D1.fn.binds (ps := ["shape"]) e1 fun _ _ _ _ _ _ us hl => match us, hl with | [_], _ => rfl
  have b2 := D2.fn.binds (ps := ["label", "texts"]) e2 fun _ _ _ _ _ _ us hl => match us, hl with | [_, _], _ => rfl
  have b3 := D3.fn.binds (ps := ["shape"]) e3 fun _ _ _ _ _ _ us hl => match us, hl with | [_], _ => rfl
  have b4 := D4.fn.binds (ps := ["text", "at"]) e4 fun _ _ _ _ _ _ us hl => match us, hl with | [_, _], _ => rfl
  have b5 := D5.fn.binds (ps := ["text", "at", "opened", "node"]) e5 fun _ _ _ _ _ _ us hl => match us, hl with | [_, _, _, _], _ => rfl
  have b6 := D6.fn.binds (ps := ["text", "holes"]) e6 fun _ _ _ _ _ _ us hl => match us, hl with | [_, _], _ => rfl
  have b7 := D7.fn.binds (ps := ["tree"]) e7 fun _ _ _ _ _ _ us hl => match us, hl with | [_], _ => rfl
  have b8 := D8.fn.binds (ps := ["text"]) e8 fun _ _ _ _ _ _ us hl => match us, hl with | [_], _ => rfl
  have b9 := D9.fn.binds (ps := ["shape"]) e9 fun _ _ _ _ _ _ us hl => match us, hl with | [_], _ => rfl
  have b10 := D10.fn.binds (ps := ["text"]) e10 fun _ _ _ _ _ _ us hl => match us, hl with | [_], _ => rfl
  have b11 := D11.fn.binds (ps := ["_law_script"]) e11 fun _ _ _ _ _ _ us hl => match us, hl with | [_], _ => rfl
  have b12 := D12.fn.binds (ps := ["_law_state", "_law_many_here"]) e12 fun _ _ _ _ _ _ us hl => match us, hl with | [_, _], _ => rfl
  have b13 := D13.fn.binds (ps := ["_law_state", "_law_things"]) e13 fun _ _ _ _ _ _ us hl => match us, hl with | [_, _], _ => rfl
  have b14 := D14.fn.binds (ps := ["_law_state", "_law_things"]) e14 fun _ _ _ _ _ _ us hl => match us, hl with | [_, _], _ => rfl
  have b15 := D15.fn.binds (ps := ["_law_found", "_law_due"]) e15 fun _ _ _ _ _ _ us hl => match us, hl with | [_, _], _ => rfl
  have b16 := D16.fn.binds (ps := ["_law_state", "_law_many_here"]) e16 fun _ _ _ _ _ _ us hl => match us, hl with | [_, _], _ => rfl
  have b17 := D17.fn.binds (ps := ["_law_state", "_law_most"]) e17 fun _ _ _ _ _ _ us hl => match us, hl with | [_, _], _ => rfl
  have b18 := D18.fn.binds (ps := ["_law_rows_here", "_law_label"]) e18 fun _ _ _ _ _ _ us hl => match us, hl with | [_, _], _ => rfl
  have b19 := D19.fn.binds (ps := ["_law_rows_here"]) e19 fun _ _ _ _ _ _ us hl => match us, hl with | [_], _ => rfl
  have b20 := D20.fn.binds (ps := ["_law_state", "_law_rows_here", "_law_nodes"]) e20 fun _ _ _ _ _ _ us hl => match us, hl with | [_, _, _], _ => rfl
  have b21 := D21.fn.binds (ps := ["_law_shape_here"]) e21 fun _ _ _ _ _ _ us hl => match us, hl with | [_], _ => rfl
  have b22 := D22.fn.binds (ps := ["_law_shape_here"]) e22 fun _ _ _ _ _ _ us hl => match us, hl with | [_], _ => rfl
  have b23 := D23.fn.binds (ps := ["_law_state", "_law_rows_here", "_law_left_here", "_law_holes_here"]) e23 fun _ _ _ _ _ _ us hl => match us, hl with | [_, _, _, _], _ => rfl
  have b24 := D24.fn.binds (ps := ["_law_shape_here", "_law_words_here"]) e24 fun _ _ _ _ _ _ us hl => match us, hl with | [_, _], _ => rfl
  have b25 := D25.fn.binds (ps := ["_law_state", "_law_rows_here", "_law_most"]) e25 fun _ _ _ _ _ _ us hl => match us, hl with | [_, _, _], _ => rfl
  have b26 := D26.fn.binds (ps := ["_law_state", "_law_rows_here", "_law_left_here", "_law_most"]) e26 fun _ _ _ _ _ _ us hl => match us, hl with | [_, _, _, _], _ => rfl
  have b27 := D27.fn.binds (ps := ["_law_state", "_law_rows_here", "_law_most"]) e27 fun _ _ _ _ _ _ us hl => match us, hl with | [_, _, _], _ => rfl
  have b28 := D28.fn.binds (ps := ["_law_tree_here"]) e28 fun _ _ _ _ _ _ us hl => match us, hl with | [_], _ => rfl
  have b29 := D29.fn.binds (ps := ["_law_stand", "_law_sign", "_law_holes_here"]) e29 fun _ _ _ _ _ _ us hl => match us, hl with | [_, _, _], _ => rfl
  have b30 := D30.fn.binds (ps := ["_law_text_here", "_law_holes_here"]) e30 fun _ _ _ _ _ _ us hl => match us, hl with | [_, _], _ => rfl
  have b31 := D31.fn.binds (ps := ["_law_state", "_law_text_here"]) e31 fun _ _ _ _ _ _ us hl => match us, hl with | [_, _], _ => rfl
  have b32 := D32.fn.binds (ps := ["_law_ask"]) e32 fun _ _ _ _ _ _ us hl => match us, hl with | [_], _ => rfl
  have b33 := D33.fn.binds (ps := ["_law_found", "_law_deep"]) e33 fun _ _ _ _ _ _ us hl => match us, hl with | [_, _], _ => rfl
  have qHole := c_hole (P := P) (w := w) (base := base) D0 b0 T.toBlt4
  have qNodes := c_nodes (P := P) (w := w) (base := base) D1 b1 T.toBlt4 qHole
  have qNText := c_ntext (P := P) (w := w) (base := base) D2 b2 T.toBlt4
  have qText := c_text (P := P) (w := w) (base := base) D3 b3 T.toBlt4 Gk qNodes qHole qNText
  have qWordAt := c_wordAt (P := P) (w := w) (base := base) D4 b4 T.toBlt4 Gt
  have qClosed := c_closed (P := P) (w := w) (base := base) D5 b5 T.toBlt4
  have qRead := c_read (P := P) (w := w) (base := base) D6 b6 T.toBlt4 Gk qWordAt qClosed
  have qTT := c_tt (P := P) (w := w) (base := base) D7 b7 qText
  have qRT := c_rt (P := P) (w := w) (base := base) D8 b8 qRead
  have qST := c_st (P := P) (w := w) (base := base) D9 b9 qText
  have qRS := c_rs (P := P) (w := w) (base := base) D10 b10 qRead
  have FA := c_wordAtG (P := P) (w := w) (base := base) D4 T.toBlt4 Gt EB
  have FC := c_closedG (P := P) (w := w) (base := base) D5 T.toBlt4 EB
  have FR := c_readG (P := P) (w := w) (base := base) D6 T.toBlt4 Gk EB D4 b4 FA D5 b5 FC
  have F1 := c_rtG (P := P) (w := w) (base := base) D8 D6 b6 FR
  have F2 := c_rsG (P := P) (w := w) (base := base) D10 D6 b6 FR
  have qFresh := c_fresh (P := P) (w := w) (base := base) D11 b11 T.toBlt
  have qTake := c_take (P := P) (w := w) (base := base) D12 b12 T.toBlt
  have qOne := c_one (P := P) (w := w) (base := base) D13 b13 T.toBlt qTake
  have qMix := c_mix (P := P) (w := w) (base := base) D14 b14 T.toBlt qTake
  have qSame := c_same (P := P) (w := w) (base := base) D15 b15 T.toBlt2 3
  have qWords := c_words (P := P) (w := w) (base := base) D16 b16 T.toBlt qMix
  have qRows := c_rows (P := P) (w := w) (base := base) D17 b17 T.toBlt4 qTake qMix qWords
  have qMany := c_many (P := P) (w := w) (base := base) D18 b18 T.toBlt4
  have qLabels := c_labels (P := P) (w := w) (base := base) D19 b19 T.toBlt4
  have qTree := c_tree (P := P) (w := w) (base := base) D20 b20 T.toBlt4 qTake qOne qLabels qMany
  have qHoles := c_holes (P := P) (w := w) (base := base) D21 b21 T.toBlt4 30
  have qSpots := c_spots (P := P) (w := w) (base := base) D22 b22 T.toBlt4 30
  have qShape := c_shape (P := P) (w := w) (base := base) D23 b23 T.toBlt4 qTake qOne qMany 5
  have qUnl := c_unl (P := P) (w := w) (base := base) D24 b24 T.toBlt4 12
  have qLeft := c_left (P := P) (w := w) (base := base) D25 b25 T.toBlt4 qTake qOne qMany qWords qShape qUnl
  have qRight := c_right (P := P) (w := w) (base := base) D26 b26 T.toBlt4 T.any qTake (qTree 4) qShape qHoles qSpots
  have qRule := c_rule (P := P) (w := w) (base := base) D27 b27 T.toBlt4 qTake qLabels qLeft qRight qHoles
  have qLText := c_ltext (P := P) (w := w) (base := base) D28 b28 T.toBlt4 60
  have qNx := c_nx (P := P) (w := w) (base := base) D29 b29 T.toBlt4
  have qFa := c_fa (P := P) (w := w) (base := base) D30 b30 T.toBlt4 qNx
  have qBe := c_be (P := P) (w := w) (base := base) D31 b31 T.toBlt4 qTake qOne
  have qIc := c_ic (P := P) (w := w) (base := base) D33 b33 T.toBlt4
  have FD := c_dr (P := P) (w := w) (base := base) lk2 hcd2 TB2 hne T.toBlt4 qSame qIc qRT qRS D32 b32 XB D8 b8 F1 D10 b10 F2
  have qDR : Cal P w K mg base 8 "_law_deep_right" (spDr tL tR) [] := ⟨_, _, _, _, FD, mgR, kpR, (show C8.Fun K "_law_deep_right" "_law_deep_right" sDr fR _ from ⟨_, _, _, _, _, _, _, _, _, _, rfl, lk2, hcd2⟩).binds (ps := ["_law_deep"]) eR fun _ _ _ _ _ _ us hl => match us, hl with | [_], _ => rfl, .nil⟩
  exact c_law lk hcd TB hne T.toBlt4 qFresh qTake qOne qRows (qTree 20) qLText qRule qSame qDR qBe qFa qTT qST D32 b32 XB D8 b8 F1 D10 b10 F2
theorem walk {l : PySem.W.OpenLaw} {q : Program} {loose : List Str} {XP : (Str → Option Value) → Heap → Prop} {YP : World → Heap → Prop} {d : DefRec} {K : Params → PySem.W.Frag} (hn : l.most = some 63) (hdf : d.params.defaults = []) (hdn : d.name = "law") (hrec : ((recsOf q).any fun e => e.name == d.name) = true) (hrec2 : ((recsOf q).any fun e => e.name == "_law_deep_right") = true)
    (hY : ∀ (w : World) (h : Heap), YP w h → (K w.params).In h)
    (F : ∀ (w : World) (mg : Str → Option Value) (fa : Addr) (h : Heap), (K w.params).In h → h.Ns mainGlobals mg → mg "law" = some (.ref fa) → XW.KnowsT l.prog w (K w.params) C8.CX0 63 "_law_script" "law" "_law_deep_right" mg fa (spLaw (K w.params))) :
    PySem.W.WalkO q loose XP YP l.row.toRowW d [] (fun f vs => PySem.call f vs) :=
  XW.walk_T (n := 63) (k := 63) (x := "_law_script") (nd := "_law_deep_right") (CX := fun _ => C8.CX0) (sp := fun w => spLaw (K w.params)) hn (by decide) hdf ⟨rfl, by decide, by decide⟩ hrec hrec2 hY (by rw [hdn]; exact F) (fun _ _ a _ _ ns _ h1 h2 hS => ⟨a, ns, rfl, hS, h1, h2, fun _ => rfl⟩) fun _ _ _ _ _ z => z
end K7

open PySem PySem.W PyProof.Rows
set_option maxRecDepth 100000 in
set_option maxHeartbeats 0 in
theorem PySem.Challenge.cw_secondruns_k07_tree_texts_refused_holds : PySem.Challenge.rw_secondruns_k07_tree_texts_refused.Holds := by
  w_on
  o_law
  k_head
  (case hw => w_witness2)
  k_fill
  refine K7.walk (l := PySem.Challenge.rw_secondruns_k07_tree_texts_refused) rfl rfl rfl ?R ?R2 (fun w h Y => PySem.W.km_in_of Y) ?F
  case R => rfl
  case R2 => rfl
  case F =>
    intro w mg fa h KX G hmg
    refine' K7.two (K7.def_mk (x := "is_hole") (st := K7.sHole) KX G ?a1 ?l1 ?c1 ?k1) (fun D0 => ?_)
    case a1 => k_is
    case l1 => k_is
    case c1 => k_is
    case k1 => k_is
    refine' K7.two (K7.def_mk (x := "nodes_in_order") (st := K7.sNodes) KX G ?a2 ?l2 ?c2 ?k2) (fun D1 => ?_)
    case a2 => k_is
    case l2 => k_is
    case c2 => k_is
    case k2 => k_is
    refine' K7.two (K7.def_mk (x := "node_text") (st := K7.sNText) KX G ?a3 ?l3 ?c3 ?k3) (fun D2 => ?_)
    case a3 => k_is
    case l3 => k_is
    case c3 => k_is
    case k3 => k_is
    refine' K7.two (K7.def_mk (x := "text_of") (st := K7.sText) KX G ?a4 ?l4 ?c4 ?k4) (fun D3 => ?_)
    case a4 => k_is
    case l4 => k_is
    case c4 => k_is
    case k4 => k_is
    refine' K7.two (K7.def_mk (x := "word_at") (st := K7.sWordAt) KX G ?a5 ?l5 ?c5 ?k5) (fun D4 => ?_)
    case a5 => k_is
    case l5 => k_is
    case c5 => k_is
    case k5 => k_is
    refine' K7.two (K7.def_mk (x := "closed") (st := K7.sClosed) KX G ?a6 ?l6 ?c6 ?k6) (fun D5 => ?_)
    case a6 => k_is
    case l6 => k_is
    case c6 => k_is
    case k6 => k_is
    refine' K7.two (K7.def_mk (x := "read_whole") (st := K7.sRead) KX G ?a7 ?l7 ?c7 ?k7) (fun D6 => ?_)
    case a7 => k_is
    case l7 => k_is
    case c7 => k_is
    case k7 => k_is
    refine' K7.two (K7.def_mk (x := "tree_text") (st := K7.sTT) KX G ?a8 ?l8 ?c8 ?k8) (fun D7 => ?_)
    case a8 => k_is
    case l8 => k_is
    case c8 => k_is
    case k8 => k_is
    refine' K7.two (K7.def_mk (x := "read_tree") (st := K7.sRT) KX G ?a9 ?l9 ?c9 ?k9) (fun D8 => ?_)
    case a9 => k_is
    case l9 => k_is
    case c9 => k_is
    case k9 => k_is
    refine' K7.two (K7.def_mk (x := "shape_text") (st := K7.sST) KX G ?a10 ?l10 ?c10 ?k10) (fun D9 => ?_)
    case a10 => k_is
    case l10 => k_is
    case c10 => k_is
    case k10 => k_is
    refine' K7.two (K7.def_mk (x := "read_shape") (st := K7.sRS) KX G ?a11 ?l11 ?c11 ?k11) (fun D10 => ?_)
    case a11 => k_is
    case l11 => k_is
    case c11 => k_is
    case k11 => k_is
    refine' K7.two (K7.def_mk (x := "_law_fresh") (st := K7.sFresh) KX G ?a12 ?l12 ?c12 ?k12) (fun D11 => ?_)
    case a12 => k_is
    case l12 => k_is
    case c12 => k_is
    case k12 => k_is
    refine' K7.two (K7.def_mk (x := "_law_take") (st := K7.sTake) KX G ?a13 ?l13 ?c13 ?k13) (fun D12 => ?_)
    case a13 => k_is
    case l13 => k_is
    case c13 => k_is
    case k13 => k_is
    refine' K7.two (K7.def_mk (x := "_law_one") (st := K7.sOne) KX G ?a14 ?l14 ?c14 ?k14) (fun D13 => ?_)
    case a14 => k_is
    case l14 => k_is
    case c14 => k_is
    case k14 => k_is
    refine' K7.two (K7.def_mk (x := "_law_mix") (st := K7.sMix) KX G ?a15 ?l15 ?c15 ?k15) (fun D14 => ?_)
    case a15 => k_is
    case l15 => k_is
    case c15 => k_is
    case k15 => k_is
    refine' K7.two (K7.def_mk (x := "_law_same") (st := K7.sSame) KX G ?a16 ?l16 ?c16 ?k16) (fun D15 => ?_)
    case a16 => k_is
    case l16 => k_is
    case c16 => k_is
    case k16 => k_is
    refine' K7.two (K7.def_mk (x := "_law_words") (st := K7.sWords) KX G ?a17 ?l17 ?c17 ?k17) (fun D16 => ?_)
    case a17 => k_is
    case l17 => k_is
    case c17 => k_is
    case k17 => k_is
    refine' K7.two (K7.def_mk (x := "_law_rows") (st := K7.sRows) KX G ?a18 ?l18 ?c18 ?k18) (fun D17 => ?_)
    case a18 => k_is
    case l18 => k_is
    case c18 => k_is
    case k18 => k_is
    refine' K7.two (K7.def_mk (x := "_law_many") (st := K7.sMany) KX G ?a19 ?l19 ?c19 ?k19) (fun D18 => ?_)
    case a19 => k_is
    case l19 => k_is
    case c19 => k_is
    case k19 => k_is
    refine' K7.two (K7.def_mk (x := "_law_labels") (st := K7.sLabels) KX G ?a20 ?l20 ?c20 ?k20) (fun D19 => ?_)
    case a20 => k_is
    case l20 => k_is
    case c20 => k_is
    case k20 => k_is
    refine' K7.two (K7.def_mk (x := "_law_tree") (st := K7.sTree) KX G ?a21 ?l21 ?c21 ?k21) (fun D20 => ?_)
    case a21 => k_is
    case l21 => k_is
    case c21 => k_is
    case k21 => k_is
    refine' K7.two (K7.def_mk (x := "_law_holes") (st := K7.sHoles) KX G ?a22 ?l22 ?c22 ?k22) (fun D21 => ?_)
    case a22 => k_is
    case l22 => k_is
    case c22 => k_is
    case k22 => k_is
    refine' K7.two (K7.def_mk (x := "_law_spots") (st := K7.sSpots) KX G ?a23 ?l23 ?c23 ?k23) (fun D22 => ?_)
    case a23 => k_is
    case l23 => k_is
    case c23 => k_is
    case k23 => k_is
    refine' K7.two (K7.def_mk (x := "_law_shape") (st := K7.sShape) KX G ?a24 ?l24 ?c24 ?k24) (fun D23 => ?_)
    case a24 => k_is
    case l24 => k_is
    case c24 => k_is
    case k24 => k_is
    refine' K7.two (K7.def_mk (x := "_law_unlike_holes") (st := K7.sUnl) KX G ?a25 ?l25 ?c25 ?k25) (fun D24 => ?_)
    case a25 => k_is
    case l25 => k_is
    case c25 => k_is
    case k25 => k_is
    refine' K7.two (K7.def_mk (x := "_law_left") (st := K7.sLeft) KX G ?a26 ?l26 ?c26 ?k26) (fun D25 => ?_)
    case a26 => k_is
    case l26 => k_is
    case c26 => k_is
    case k26 => k_is
    refine' K7.two (K7.def_mk (x := "_law_right") (st := K7.sRight) KX G ?a27 ?l27 ?c27 ?k27) (fun D26 => ?_)
    case a27 => k_is
    case l27 => k_is
    case c27 => k_is
    case k27 => k_is
    refine' K7.two (K7.def_mk (x := "_law_rule") (st := K7.sRule) KX G ?a28 ?l28 ?c28 ?k28) (fun D27 => ?_)
    case a28 => k_is
    case l28 => k_is
    case c28 => k_is
    case k28 => k_is
    refine' K7.two (K7.def_mk (x := "_law_text") (st := K7.sLText) KX G ?a29 ?l29 ?c29 ?k29) (fun D28 => ?_)
    case a29 => k_is
    case l29 => k_is
    case c29 => k_is
    case k29 => k_is
    refine' K7.two (K7.def_mk (x := "_law_next") (st := K7.sNx) KX G ?a30 ?l30 ?c30 ?k30) (fun D29 => ?_)
    case a30 => k_is
    case l30 => k_is
    case c30 => k_is
    case k30 => k_is
    refine' K7.two (K7.def_mk (x := "_law_fault") (st := K7.sFa) KX G ?a31 ?l31 ?c31 ?k31) (fun D30 => ?_)
    case a31 => k_is
    case l31 => k_is
    case c31 => k_is
    case k31 => k_is
    refine' K7.two (K7.def_mk (x := "_law_bent") (st := K7.sBe) KX G ?a32 ?l32 ?c32 ?k32) (fun D31 => ?_)
    case a32 => k_is
    case l32 => k_is
    case c32 => k_is
    case k32 => k_is
    refine' K7.two (K7.def_mk (x := "_law_tried") (st := K7.sTd) KX G ?a33 ?l33 ?c33 ?k33) (fun D32 => ?_)
    case a33 => k_is
    case l33 => k_is
    case c33 => k_is
    case k33 => k_is
    refine' K7.two (K7.def_mk (x := "_law_is_chain") (st := K7.sIc) KX G ?a34 ?l34 ?c34 ?k34) (fun D33 => ?_)
    case a34 => k_is
    case l34 => k_is
    case c34 => k_is
    case k34 => k_is
    refine' K7.two (XW.deft_mk (x := "law") (st := K7.sLaw) KX G ?a35 ?l35 ?c35 ?lc35 ?hx35 ?nT35 ?hh35 ?kp35) (fun DL => ?_)
    case a35 => k_is
    case l35 => k_is
    case c35 => k_is
    case lc35 => k_is
    case hx35 => rfl
    case nT35 => rfl
    case hh35 => (intro K' e; unfold PySem.W.codeHdIn; rw [e]; rfl)
    case kp35 => k_is
    refine' K7.two (XW.deft_mk (x := "_law_deep_right") (st := K7.sDr) KX G ?a36 ?l36 ?c36 ?lc36 ?hx36 ?nT36 ?hh36 ?kp36) (fun DR => ?_)
    case a36 => k_is
    case l36 => k_is
    case c36 => k_is
    case lc36 => k_is
    case hx36 => rfl
    case nT36 => rfl
    case hh36 => (intro K' e; unfold PySem.W.codeHdIn; rw [e]; rfl)
    case kp36 => k_is
    refine' K7.two (A := XI.EC PySem.Challenge.rw_secondruns_k07_tree_texts_refused.prog _ mg "BadText" ?BT ["at"]) ?e37 (fun EB => ?_)
    case e37 =>
      refine' K7.ec_mk K7.txt_BadText KX G ?aC ?lC ?ini ?lI ?lc ?ld ?hbm ?hv ?hfile ?htop ?su ?cI ?sa ?exC ?tyC ?kC ?hg ?hk ?hd ?ha ?hn ?ht ?hm ?sup ?ity ?opa ?suB ?suC ?nf
      (case aC => k_is); (case lC => k_is); (case ini => k_is); (case lI => k_is); (case lc => k_is); (case ld => k_is); (case hbm => decide +kernel); (case hv => rfl); (case hfile => decide +kernel); (case htop => decide +kernel)
      (case su => k_is); (case cI => k_is); (case sa => k_is); (case exC => k_is); (case tyC => k_is); (case kC => k_is); (case hg => k_is); (case hk => k_is); (case hd => k_is); (case ha => k_is); (case hn => k_is); (case ht => k_is); (case hm => k_is); (case sup => ks_is); (case ity => k_is); (case opa => k_is); (case suB => k_is); (case suC => k_is)
      case nf => (intro f hf; obtain rfl := List.mem_singleton.mp hf; k_is)
    refine' K7.two (K7.xx_mk KX EB ?f38_0 ?f38_1 ?f38_2) (fun XB => ?_)
    case f38_0 => k_is
    case f38_1 => k_is
    case f38_2 => k_is
    have T : K7.Blt7 mg := { len := PySem.W.mg_none_of KX G (by k_is), abs := PySem.W.mg_none_of KX G (by k_is), int := PySem.W.mg_none_of KX G (by k_is), list := PySem.W.mg_none_of KX G (by k_is), isi := PySem.W.mg_none_of KX G (by k_is), tup := PySem.W.mg_none_of KX G (by k_is), boo := PySem.W.mg_none_of KX G (by k_is), all := PySem.W.mg_none_of KX G (by k_is), zip := PySem.W.mg_none_of KX G (by k_is), ran := PySem.W.mg_none_of KX G (by k_is), enu := PySem.W.mg_none_of KX G (by k_is), str := PySem.W.mg_none_of KX G (by k_is), dic := PySem.W.mg_none_of KX G (by k_is), any := PySem.W.mg_none_of KX G (by k_is) }
    refine' K7.two (K7.cn_mk (x := "LETTERS") KX G ?q39) (fun g1 => ?_)
    case q39 => k_is
    refine' K7.two (K7.cn_mk (x := "LONGEST_WORD") KX G ?q40) (fun g2 => ?_)
    case q40 => k_is
    refine' K7.two (K7.cn_mk (x := "MARK") KX G ?q41) (fun g3 => ?_)
    case q41 => k_is
    exact K7.all_ok KX G hmg T ⟨⟨_, g3, ⟨_, rfl⟩⟩⟩ ⟨⟨_, g1, ⟨_, rfl⟩⟩, ⟨_, g2, ⟨_, rfl⟩⟩⟩ EB XB D0 D1 D2 D3 D4 D5 D6 D7 D8 D9 D10 D11 D12 D13 D14 D15 D16 D17 D18 D19 D20 D21 D22 D23 D24 D25 D26 D27 D28 D29 D30 D31 D32 D33 DL DR (by decide) rfl rfl rfl rfl rfl rfl rfl rfl rfl rfl rfl rfl rfl rfl rfl rfl rfl rfl rfl rfl rfl rfl rfl rfl rfl rfl rfl rfl rfl rfl rfl rfl rfl rfl rfl
