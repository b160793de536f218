import PyProof.Rows.All
import Wide.All
import OpenK.AllK
import Wide.FinOn
import HandS.ForMost
import HandS.Codes
import HandS.Wide
import HandS.IsInst
import HandS.ExcIs
import HandS.Zip
import HandS.Style
import HandS.DeepEq
import PyProof.NeKinds
import KE.GoesMore
import KE.GoesEnum
import HandS.FStr
import HandS.SetFor
import HandS.Star
import HandS.DictSub
import HandS.Set
import PyProof.Rows.SetFrom
import PyProof.Rows.SortStr
import HandS.DictComp
import HandS.Conv
import HandS.More
import KE.KDictZip
import KE.KDictItemsList
import HandS.ListItems
import HandS.Defaults
import PySem.Challenge.RW_secondruns_k10_fits
set_option Elab.async false
set_option linter.all false
set_option maxRecDepth 100000
set_option maxHeartbeats 4000000
namespace KT
open PySem PySem.Spec PyProof.Rows L2 C8
def top (i : Nat) : Stmt := PySem.Challenge.pw_secondruns_k10_fits.main.body.getD i (.Pass ⟨0, 0, 0, 0⟩)
abbrev sFresh : Stmt := top 30
abbrev sTake : Stmt := top 31
abbrev sOne : Stmt := top 32
example : (match sFresh with | .FunctionDef (name := n) .. => n | _ => "") = ("_law_fresh" : Str) := by rfl

/-- the state of the draws, at a -/
def StAt (B : Nat) (H : Hp) (a l : Addr) : Prop := ∃ (ns : List Int) (i c h n : Int), H a = some (.lst [.ref l, .int i, .int c, .int h, .int n]) ∧ H l = some (.lst (ns.map V.int)) ∧
  0 ≤ i ∧ 0 ≤ c ∧ 0 ≤ h ∧ h < 2147483647 ∧ 0 ≤ n ∧ n ≤ B ∧ ns.length ≤ 40
/-- all but what stands at a is as it was -/
def But (a : Addr) (H H' : Hp) : Prop := ∀ b o, H b = some o → b ≠ a → H' b = some o
theorem iteBt {c : Bool} {A B : Prop} (hc : c = true) (h : A) : if c = true then A else B := by rw [if_pos hc]; exact h
theorem iteBf {c : Bool} {A B : Prop} (hc : c = false) (h : B) : if c = true then A else B := by rw [if_neg (by rw [hc]; exact Bool.false_ne_true)]; exact h
def spTake : Sp := fun vs H Q _ => ∃ (a : Addr) (m : Int) (B : Nat) (l : Addr), vs = [.ref a, .int m] ∧ 0 < m ∧ m < 1073741824 ∧ StAt B H a l ∧ B < 1000000000000000 ∧
  ∀ (d : Int) (H' : Hp), 0 ≤ d → d < m → StAt (B + 1) H' a l → But a H H' → Q (.int d) H'
theorem scTake : FnScope ["_law_state", "_law_many_here", "_law_cell", "_law_digit", "_law_one_here", "_law_two"] ["_law_state", "_law_many_here"] (fnScope sTake) := fnScope_by (by decide +kernel)
section
variable {P : Program} {w : World} {K : PySem.W.Frag} {mg : Str → Option Value} {base : Heap}
structure Blt (mg : Str → Option Value) : Prop where
  len : mg "len" = none
  abs : mg "abs" = none
  int : mg "int" = none
  list : mg "list" = none
theorem c_take {f : Addr} {fd : FuncData} (F : Def K mg "_law_take" sTake f fd) (b : Binds K fd ["_law_state", "_law_many_here"] []) (T : Blt mg) : Cal P w K mg base 1 "_law_take" spTake [] := by
  refine cal0 F b .nil scTake (fun vs H Q E h => ?_) (fun cdv A outer s H vs Q E hr h => ?_)
  · obtain ⟨a, m, B, l, rfl, _⟩ := h
    rfl
  · obtain ⟨a, m, B, l, rfl, m0, m1, ⟨ns, i, c, h, n, ha, hl, i0, c0, h0, h1, n0, n1, nl⟩, hB, k⟩ := h
    have nd := scTake.nd
    refine ⟨_, pss_cons (ps_asg (pe_op op_add (pe_ix ix_list (pv 0) pe_int fun _ _ => rfl) pe_int) (pg_sub (pv 0) pe_int set_list))
      (pss_cut (ps_while PassesOwn.never
          (pw_and (pt_cmp (pc_eqI (pe_ix ix_list (pv 0) pe_int fun _ _ => rfl) pe_int))
            (pw_and1 (pt_cmp (pc_lt (pe_ix ix_list (pv 0) pe_int fun _ _ => rfl) (pe_callB call_len_seq (by rfl) T.len PySem.boot_len (pa_cons (pe_ix ix_list (pv 0) pe_int fun _ _ => rfl) pa_nil)))))).pt
          (pss_cons (ps_set (i := 2) nd rfl (Or.inl rfl) (pe_callB call_abs (by rfl) T.abs (by decide +kernel) (pa_cons (pe_ix ix_list (pe_ix ix_list (pv 0) pe_int fun _ _ => rfl) (pe_ix ix_list (pv 0) pe_int fun _ _ => rfl) fun _ _ => rfl) pa_nil)))
          (pss_cons (ps_asg (pe_op op_add (pe_ix ix_list (pv 0) pe_int fun _ _ => rfl) pe_int) (pg_sub (pv 0) pe_int set_list))
          (pss_one (ps_if (pt_cmp (pc_ge (pv 2) (pe_op op_pow pe_int pe_int)))
            (pss_one (ps_asg (pv 2) (pg_sub (pv 0) pe_int set_list)))
            (pss_one (ps_asg (pe_op op_mod (pe_callTy call_int1 (by rfl) T.int (by decide +kernel) (pa_cons (pe_op op_add (pe_op op_add (pe_op op_mul (pe_ix ix_list (pv 0) pe_int fun _ _ => rfl) pe_int) (pv 2)) pe_int) pa_nil)) pe_int) (pg_sub (pv 0) pe_int set_list))))))))
      (pss_cons (ps_if (pt_cmp (pc_gt (pe_ix ix_list (pv 0) pe_int fun _ _ => rfl) pe_int))
          (pss_cons (ps_set (i := 3) nd rfl (Or.inl rfl) (pe_op op_mod (pe_callTy call_int1 (by rfl) T.int (by decide +kernel) (pa_cons (pe_ix ix_list (pv 0) pe_int fun _ _ => rfl) pa_nil)) (pv 1)))
          (pss_cons (ps_asg (pe_op op_fdiv (pe_ix ix_list (pv 0) pe_int fun _ _ => rfl) (pv 1)) (pg_sub (pv 0) pe_int set_list))
          (pss_one (ps_ret (pv 3))))) pss_nil)
      (pss_cons (ps_set (i := 4) nd rfl (Or.inl rfl) (pe_op op_mod (pe_callTy call_int1 (by rfl) T.int (by decide +kernel) (pa_cons (pe_op op_pow (pe_op op_add (pe_op op_add (pe_ix ix_list (pv 0) pe_int fun _ _ => rfl) (pe_op op_mul pe_int (pe_ix ix_list (pv 0) pe_int fun _ _ => rfl))) pe_int) pe_int) pa_nil)) pe_int))
      (pss_cons (ps_set (i := 5) nd rfl (Or.inl rfl) (pe_op op_mod (pe_callTy call_int1 (by rfl) T.int (by decide +kernel) (pa_cons (pe_op op_pow (pe_op op_add (pv 4) (pe_op op_mul pe_int (pe_ix ix_list (pv 0) pe_int fun _ _ => rfl))) pe_int) pa_nil)) pe_int))
      (pss_one (ps_ret (pe_op op_mod (pe_callTy call_int1 (by rfl) T.int (by decide +kernel) (pa_cons (pe_op op_fdiv (pv 5) pe_int) pa_nil)) (pv 1)))))))), ?_⟩
    have gA : ∀ xs : List V, (upd H a (.lst xs)) a = some (.lst xs) := fun _ => upd_same
    have nla : l ≠ a := ne_of hl ha (by intro z; have z' := congrArg (fun o : HO => match o with | .lst xs => xs.head? | _ => none) z; cases ns <;> cases z')
    have gl : ∀ o, (upd H a o) l = some (.lst (ns.map V.int)) := fun o => by rw [upd_ne nla]; exact hl
    have fin : ∀ (d i' c' h' : Int), 0 ≤ d → d < m → 0 ≤ i' → 0 ≤ c' → 0 ≤ h' → h' < 2147483647 → Q (.int d) (upd H a (.lst [.ref l, .int i', .int c', .int h', .int (n + 1)])) := fun d i' c' h' d0 d1 e1 e2 e3 e4 =>
      k d _ d0 d1 ⟨ns, i', c', h', n + 1, upd_same, gl _, e1, e2, e3, e4, by omega, by omega, nl⟩ fun b o e hb => by rw [upd_ne hb]; exact e
    -- _law_state[4] = _law_state[4] + 1
    refine ⟨_, rfl, a, _, 4, _, rfl, rfl, SqL.of ha, rfl, n, 1, rfl, rfl, _, rfl, a, _, 4, 4, rfl, rfl, ha, rfl, ?_⟩
    show tSeq _ _ _ _ (upd H a (.lst [.ref l, .int i, .int c, .int h, .int (n + 1)]))
    have rd : ∀ {xs : List V} {σ : L2.St} {z : Int} {v : V} {Q : VK}, σ[0]? = some (some (.ref a)) → atI xs z = some v → Q v (upd H a (.lst xs)) → tOp (rIxL K) (tVar 0) (tC (.int z)) σ (upd H a (.lst xs)) Q :=
      fun h1 h2 q => ⟨_, h1, a, _, _, _, rfl, rfl, SqL.of upd_same, h2, q⟩
    have st : ∀ {xs : List V} {σ : L2.St} {z : Int} {j : Nat} {v : V} {Q : L2.St → Hp → Prop}, σ[0]? = some (some (.ref a)) → ixN xs.length z = some j → Q σ (upd H a (.lst (xs.set j v))) → gSub (tVar 0) (tC (.int z)) rSetL v σ (upd H a (.lst xs)) Q :=
      fun h1 h2 q => ⟨_, h1, a, _, _, _, rfl, rfl, upd_same, h2, by rw [upd_upd]; exact q⟩
    -- while
    refine ⟨fun σ H' => ∃ (i c h : Int) (v2 : Option V), σ = [some (.ref a), some (.int m), v2, none, none, none] ∧ H' = upd H a (.lst [.ref l, .int i, .int c, .int h, .int (n + 1)]) ∧ 0 ≤ i ∧ 0 ≤ c ∧ 0 ≤ h ∧ h < 2147483647, ?_, ?_⟩
    · refine ⟨fun μ σ H' => ∃ (i c h : Int) (v2 : Option V), μ = ns.length - i.toNat ∧ σ = [some (.ref a), some (.int m), v2, none, none, none] ∧ H' = upd H a (.lst [.ref l, .int i, .int c, .int h, .int (n + 1)]) ∧ 0 ≤ i ∧ 0 ≤ c ∧ 0 ≤ h ∧ h < 2147483647,
        ⟨_, i, c, h, none, rfl, rfl, rfl, i0, c0, h0, h1⟩, ?_⟩
      rintro μ σ H' ⟨i, c, h, v2, rfl, rfl, rfl, i0, c0, h0, h1⟩
      refine rd rfl rfl ⟨c, 0, rfl, rfl, _, rfl, ?_⟩
      refine ite2 (fun hc => ?_) (fun hc => ?_)
      · refine rd rfl rfl (rd rfl rfl ⟨l, _, rfl, .inl (SqL.of (gl _)), i, _, rfl, rfl, _, rfl, ?_⟩)
        by_cases hi : i < ns.length
        · have hlt : i.toNat < ns.length := by omega
          have hx : atI (ns.map V.int) i = some (.int ns[i.toNat]) := at_of (j := i.toNat) (by omega) (by simp [hlt])
          refine iteBt (decide_eq_true (by rw [List.length_map]; exact hi)) ?_
          refine ⟨fun σ H' => ∃ (c h : Int) (v2 : Option V), σ = [some (.ref a), some (.int m), v2, none, none, none] ∧ H' = upd H a (.lst [.ref l, .int (i + 1), .int c, .int h, .int (n + 1)]) ∧ 0 ≤ c ∧ 0 ≤ h ∧ h < 2147483647, ?_, ?_⟩
          · rintro σ' H' ⟨c, h, v2, rfl, rfl, c0, h0, h1⟩
            exact ⟨_, by omega, i + 1, c, h, v2, rfl, rfl, rfl, by omega, c0, h0, h1⟩
          -- _law_cell = abs(..)
          refine rd rfl rfl (rd rfl rfl ⟨l, _, i, _, rfl, rfl, SqL.of (gl _), hx, _, rfl, ?_⟩)
          generalize hz : (if ns[i.toNat] < 0 then -ns[i.toNat] else ns[i.toNat]) = z
          have z0 : 0 ≤ z := by rw [← hz]; split <;> omega
          -- _law_state[1] = _law_state[1] + 1
          refine rd rfl rfl ⟨i, 1, rfl, rfl, st rfl rfl ?_⟩
          -- if
          refine ⟨_, rfl, 10, 18, rfl, rfl, ⟨by decide, by decide, by decide⟩, z, _, rfl, rfl, _, rfl, ite2 (fun _ => ?_) (fun _ => ?_)⟩
          · exact ⟨_, rfl, st rfl rfl ⟨z, h, some (.int z), rfl, rfl, z0, h0, h1⟩⟩
          · refine rd rfl rfl ⟨h, 131, rfl, rfl, .inl ⟨by omega, by omega⟩, _, rfl, _, _, rfl, rfl, _, _, rfl, rfl, .inl ⟨_, rfl, _, _, rfl, rfl, (by show (0 : Int) < 2147483647; decide), st rfl rfl ⟨c, _, some (.int z), rfl, rfl, c0, Int.emod_nonneg _ (by decide), Int.emod_lt_of_pos _ (by decide)⟩⟩⟩
        · refine iteBf (decide_eq_false (by rw [List.length_map]; exact hi)) ?_
          exact ⟨i, c, h, v2, rfl, rfl, i0, c0, h0, h1⟩
      · exact iteF ⟨i, c, h, v2, rfl, rfl, i0, c0, h0, h1⟩
    · rintro σ H' ⟨i, c, h, v2, rfl, rfl, i0, c0, h0, h1⟩
      refine rd rfl rfl ⟨c, 0, rfl, rfl, _, rfl, ite2 (fun hc => ?_) (fun hc => ?_)⟩
      · have hc : 0 < c := of_decide_eq_true hc
        refine rd rfl rfl (.inl ⟨c, rfl, _, rfl, c, m, rfl, rfl, m0, ?_⟩)
        refine rd rfl rfl ⟨_, rfl, c, m, rfl, rfl, ⟨m0, m1⟩, st rfl rfl ⟨_, rfl, ?_⟩⟩
        exact fin _ _ _ _ (Int.emod_nonneg _ (by omega)) (Int.emod_lt_of_pos _ m0) i0 (Int.ediv_nonneg c0 (by omega)) h0 h1
      · refine rd rfl rfl (rd rfl rfl ⟨7919, n + 1, rfl, rfl, .inl ⟨by decide, by decide⟩, h, _, rfl, rfl, _, 5, rfl, rfl, _, 3, rfl, rfl, ⟨by decide, by decide, by omega⟩, .inl ⟨_, rfl, _, _, rfl, rfl, (by show (0 : Int) < 1000000007; decide), ?_⟩⟩)
        generalize ho : (h + 7919 * (n + 1) + 5) ^ (3 : Int).toNat % 1000000007 = o
        have o0 : 0 ≤ o := by rw [← ho]; exact Int.emod_nonneg _ (by decide)
        have o1 : o < 1000000007 := by rw [← ho]; exact Int.emod_lt_of_pos _ (by decide)
        refine ⟨.int o, (by subst ho; rfl), rd rfl rfl ⟨31, n + 1, rfl, rfl, .inl ⟨by decide, by decide⟩, o, _, rfl, rfl, _, 3, rfl, rfl, ⟨by decide, by decide, by omega⟩, .inl ⟨_, rfl, _, _, rfl, rfl, (by show (0 : Int) < 998244353; decide), ?_⟩⟩⟩
        refine ⟨_, rfl, _, 3, rfl, rfl, ⟨by decide, by decide⟩, .inl ⟨_, rfl, _, rfl, _, m, rfl, rfl, m0, ?_⟩⟩
        exact fin _ _ _ _ (Int.emod_nonneg _ (by omega)) (Int.emod_lt_of_pos _ m0) i0 c0 h0 h1
end
end KT


namespace KT
open PySem PySem.Spec PyProof.Rows L2 C8
theorem cut40 (ns : List Int) : cutV (ns.map V.int) none (some 40) = (ns.take 40).map V.int := by
  unfold cutV HT.sIx
  simp only [show ¬ ((40 : Int) < 0) by decide, if_false, List.drop_zero, Nat.sub_zero, ← List.map_take, List.length_map]
  congr 1
  by_cases h : ns.length ≤ 40
  · rw [List.take_of_length_le h, List.take_of_length_le (by omega)]
  · congr 1
    omega
def spFresh (K : PySem.W.Frag) : Sp := fun vs H Q _ => ∃ (a : Addr) (ns : List Int), vs = [.ref a] ∧ SqL K H a (ns.map V.int) ∧ ∀ (st l : Addr) (H' : Hp), H st = none → H l = none → Same H H' → StAt 0 H' st l → Q (.ref st) H'
def spOne : Sp := fun vs H Q _ => ∃ (st th : Addr) (xs : List V) (B : Nat) (l : Addr), vs = [.ref st, .ref th] ∧ (H th = some (.lst xs) ∨ H th = some (.tup xs)) ∧ th ≠ st ∧ 0 < xs.length ∧ xs.length < 1000000 ∧ StAt B H st l ∧ B < 1000000000000000 ∧
  ∀ (v : V) (H' : Hp), v ∈ xs → StAt (B + 1) H' st l → But st H H' → Q v H'
theorem scFresh : FnScope ["_law_script"] ["_law_script"] (fnScope sFresh) := fnScope_by (by decide +kernel)
theorem scOne : FnScope ["_law_state", "_law_things"] ["_law_state", "_law_things"] (fnScope sOne) := fnScope_by (by decide +kernel)
section
variable {P : Program} {w : World} {K : PySem.W.Frag} {mg : Str → Option Value} {base : Heap}
theorem c_fresh {f : Addr} {fd : FuncData} (F : Def K mg "_law_fresh" sFresh f fd) (b : Binds K fd ["_law_script"] []) (T : Blt mg) : Cal P w K mg base 1 "_law_fresh" (spFresh K) [] := by
  refine cal0 F b .nil scFresh (fun vs H Q E h => ?_) (fun cdv A outer s H vs Q E hr h => ?_)
  · obtain ⟨a, ns, rfl, _⟩ := h
    rfl
  · obtain ⟨a, ns, rfl, hS, k⟩ := h
    refine ⟨_, pss_one (ps_ret (pe_lst (pa_cons (pe_callTy call_list_of (by rfl) T.list (by decide +kernel) (pa_cons (pe_slice sl_list (pv 0) po_none (po_some pe_int)) pa_nil))
      (pa_cons pe_int (pa_cons pe_int (pa_cons pe_int (pa_cons pe_int pa_nil))))))), ?_⟩
    refine ⟨_, rfl, 40, rfl, a, _, rfl, hS, fun p np => ⟨p, _, rfl, .inl (SqL.of upd_same), fun l nl => ⟨(by show 5 ≤ sizeLine; decide), fun st nst => ?_⟩⟩⟩
    have nl' := nl
    have npl : p ≠ l := ne_of_none upd_same nl
    rw [upd_ne npl.symm] at nl
    have nst2 : st ≠ l := fun z => by rw [z, upd_same] at nst; cases nst
    rw [upd_ne nst2] at nst
    have nst3 : st ≠ p := fun z => by rw [z, upd_same] at nst; cases nst
    rw [upd_ne nst3] at nst
    refine k st l _ nst nl (fun b o e => ?_) ⟨ns.take 40, 0, 0, 0, 0, upd_same, ?_, by decide, by decide, by decide, by decide, by decide, by decide, List.length_take_le _ _⟩
    · rw [upd_ne (ne_of_none e nst), upd_ne (ne_of_none e nl), upd_ne (ne_of_none e np)]
      exact e
    · rw [upd_ne nst2.symm, upd_same, cut40]
theorem c_one {f : Addr} {fd : FuncData} (F : Def K mg "_law_one" sOne f fd) (b : Binds K fd ["_law_state", "_law_things"] []) (T : Blt mg) (C : Cal P w K mg base 1 "_law_take" spTake []) : Cal P w K mg base 2 "_law_one" spOne [] := by
  refine cal0 F b .nil scOne (fun vs H Q E h => ?_) (fun cdv A outer s H vs Q E hr h => ?_)
  · obtain ⟨st, th, xs, B, l, rfl, _⟩ := h
    rfl
  · obtain ⟨st, th, xs, B, l, rfl, hx, ne, l0, l1, hst, hB, k⟩ := h
    refine ⟨_, pss_one (ps_ret (pe_ix ix_seq (pv 1) (pe_c C hr (Nat.le_refl _) (by rfl) (pa_cons (pv 0) (pa_cons (pe_callB call_len_seq (by rfl) T.len PySem.boot_len (pa_cons (pv 1) pa_nil)) pa_nil))) fun _ _ => rfl)), ?_⟩
    have hs : SqL K H th xs ∨ SqT K H th xs := hx.elim (fun z => .inl (SqL.of z)) fun z => .inr (SqT.of z)
    refine ⟨_, rfl, _, rfl, _, rfl, th, xs, rfl, hs, st, (xs.length : Int), B, l, rfl, by omega, by omega, hst, hB, fun d H' d0 d1 hst' but => ?_⟩
    have hd : d.toNat < xs.length := by omega
    have at' : atI xs d = some xs[d.toNat] := at_of (j := d.toNat) (by omega) (by simp [hd])
    have fin := k _ H' (List.getElem_mem hd) hst' but
    rcases hx with hx | hx
    · exact .inl ⟨th, xs, d, _, rfl, rfl, SqL.of (but _ _ hx ne), at', fin⟩
    · exact .inr (.inl ⟨th, xs, d, _, rfl, rfl, SqT.of (but _ _ hx ne), at', fin⟩)
end
end KT

namespace KT
open PySem PySem.Spec PyProof.Rows L2 C8
abbrev sSame : Stmt := top 34
/-- a dict that may be told equal to itself -/
def DicOk (kvs : List (Key × V)) : Prop := ∀ p ∈ kvs, valV kvs p.1 = some p.2 ∧ flatB p.2 = true
/-- what stands for one thing: flat, or a dict -/
def Leaf (H : Hp) (x : V) : Prop := flatV x = true ∨ ∃ a kvs, x = .ref a ∧ H a = some (.dK kvs) ∧ DicOk kvs
def Thing (H : Hp) (x : V) : Prop := Leaf H x ∨ ∃ a xs, x = .ref a ∧ (H a = some (.lst xs) ∨ H a = some (.tup xs)) ∧ (∀ y ∈ xs, flatV y = true) ∧ xs.length ≤ 10
theorem Leaf.same {H H' : Hp} {x : V} (s : Same H H') (h : Leaf H x) : Leaf H' x := h.imp id fun ⟨a, kvs, e, q, d⟩ => ⟨a, kvs, e, s _ _ q, d⟩
theorem Thing.same {H H' : Hp} {x : V} (s : Same H H') (h : Thing H x) : Thing H' x := h.imp (Leaf.same s) fun ⟨a, xs, e, q, r⟩ => ⟨a, xs, e, q.imp (s _ _) (s _ _), r⟩
theorem same_upd {H : Hp} {p : Addr} {o : HO} (np : H p = none) : Same H (upd H p o) := fun b u e => by
  rw [upd_ne (ne_of_none e np)]
  exact e
theorem pe_bt {X : Cx} {x : Str} {pos : Pos} (n : String) (hm : X.mg x = none) (hg : Gl X x := by rfl) (hv : bootBuiltins x = some (.type n) := by decide +kernel) (hn : x ≠ "__name__" := by decide) (hd : (x == ("__debug__" : Str)) = false := by decide) : PE X (.Name x pos) (tC (.ty n)) :=
  pe_bltn hg hm hv rfl hn hd
def spSame0 : Sp := fun vs H Q _ => ∃ x : V, vs = [x, x] ∧ Leaf H x ∧ ∀ H', Same H H' → Q (.bl true) H'
def spSame1 : Sp := fun vs H Q _ => ∃ x : V, vs = [x, x] ∧ Thing H x ∧ ∀ H', Same H H' → Q (.bl true) H'
theorem scSame : FnScope ["_law_found", "_law_due", "_law_x", "_law_y"] ["_law_found", "_law_due"] (fnScope sSame) := fnScope_by (by decide +kernel)
structure Blt2 (mg : Str → Option Value) : Prop extends Blt mg where
  isi : mg "isinstance" = none
  tup : mg "tuple" = none
  boo : mg "bool" = none
  all : mg "all" = none
  zip : mg "zip" = none
/-- the types of leaves -/
def leafTy : List String := ["NoneType", "bool", "int", "str", "dict"]
theorem leaf_ty {K : PySem.W.Frag} {H : Hp} {x : V} (h : Leaf H x) : ∃ T ∈ leafTy, (∀ H', Same H H' → TyX K H' x (.type T)) ∧ (scal x x = true ∨ ((T == "int" || T == "bool") = false ∧ ∃ a kvs, x = .ref a ∧ H a = some (.dK kvs) ∧ DicOk kvs)) := by
  rcases h with h | ⟨a, kvs, rfl, e, dk⟩
  · cases x with
    | non => exact ⟨"NoneType", by decide, fun _ _ => .base .non, .inl rfl⟩
    | bl b => exact ⟨"bool", by decide, fun _ _ => .base (.bl b), .inl rfl⟩
    | int i => exact ⟨"int", by decide, fun _ _ => .base (.int i), .inl rfl⟩
    | str z => exact ⟨"str", by decide, fun _ _ => .base (.str z), .inl rfl⟩
    | _ => cases h
  · exact ⟨"dict", by decide, fun H' s => .base (.dK (s _ _ e)), .inr ⟨by decide, a, kvs, rfl, e, dk⟩⟩
section
variable {P : Program} {w : World} {K : PySem.W.Frag} {mg : Str → Option Value} {base : Heap}
theorem kitLT {T : String} (h : T ∈ leafTy) : PySem.W.kitAny K (.type T) [.type "list", .type "tuple"] = some false ∧ PySem.W.kitAny K (.type T) [.type "int", .type "list", .type "tuple"] = some (T == "int" || T == "bool") ∧
    PySem.W.kitOne K (.type T) (.type "int") = some (T == "int" || T == "bool") ∧ PySem.W.kitOne K (.type T) (.type "bool") = some (T == "bool") := by
  have z : ∀ T ∈ leafTy, kitB T "list" = some false ∧ kitB T "tuple" = some false ∧ kitB T "int" = some (T == "int" || T == "bool") ∧ kitB T "bool" = some (T == "bool") := by decide +kernel
  obtain ⟨h1, h2, h3, h4⟩ := z T h
  have lt : PySem.W.kitAny K (.type T) [.type "list", .type "tuple"] = some false := kitAny_cons (kit_ty h1) (fun _ => kitAny_cons (kit_ty h2) (fun _ => kitAny_nil) fun z => by cases z) fun z => by cases z
  refine ⟨lt, kitAny_cons (kit_ty h3) (fun e => ?_) (fun e => e), kit_ty h3, kit_ty h4⟩
  rw [e]
  exact lt
theorem c_same0 {f : Addr} {fd : FuncData} (F : Def K mg "_law_same" sSame f fd) (b : Binds K fd ["_law_found", "_law_due"] []) (T : Blt2 mg) : Cal P w K mg base 1 "_law_same" spSame0 [] := by
  refine cal0 F b .nil scSame (fun vs H Q E h => ?_) (fun cdv A outer s H vs Q E hr h => ?_)
  · obtain ⟨x, rfl, _⟩ := h
    rfl
  · obtain ⟨x, rfl, hx, k⟩ := h
    have hu : (A.deeper (envOfC "_law_same" (fnScope sSame) s.heap.objs.size f cdv)).units + 64 < cLine := by have := hr.un; omega
    refine ⟨_, pss_cons (ps_if (pt_val (pe_callB call_isiT (by rfl) T.isi (by decide +kernel) (pa_cons (pv 1) (pa_cons (pe_tup (pa_cons (pe_bt "list" T.list) (pa_cons (pe_bt "tuple" T.tup) pa_nil))) pa_nil)))) pss_never pss_nil)
      (pss_cons (ps_if (pt_val (pe_callB call_isi (by rfl) T.isi (by decide +kernel) (pa_cons (pv 1) (pa_cons (pe_bt "int" T.int) pa_nil))))
          (pss_one (ps_ret (pe_and (pe_callB call_isi (by rfl) T.isi (by decide +kernel) (pa_cons (pv 0) (pa_cons (pe_bt "int" T.int) pa_nil)))
            (pe_and (pe_cmpR op_eq (pe_callB call_isi (by rfl) T.isi (by decide +kernel) (pa_cons (pv 0) (pa_cons (pe_bt "bool" T.boo) pa_nil))) (pe_callB call_isi (by rfl) T.isi (by decide +kernel) (pa_cons (pv 1) (pa_cons (pe_bt "bool" T.boo) pa_nil))) (nomark _))
              (pe_one (pe_cmpR op_eq (pv 0) (pv 1) (nomark _))))))) pss_nil)
      (pss_one (ps_ret (pe_and (pe_cmpR op_isBl (pe_callB call_isiT (by rfl) T.isi (by decide +kernel) (pa_cons (pv 0) (pa_cons (pe_tup (pa_cons (pe_bt "int" T.int) (pa_cons (pe_bt "list" T.list) (pa_cons (pe_bt "tuple" T.tup) pa_nil)))) pa_nil))) pe_bl (nomark _))
        (pe_one (pe_cmpR (op_eq.or (op_eqV hu)) (pv 0) (pv 1) (nomark _))))))), ?_⟩
    obtain ⟨Ty, hT, ty, hs⟩ := leaf_ty (K := K) hx
    obtain ⟨k1, k2, k3, k4⟩ := kitLT (K := K) hT
    refine ⟨_, rfl, (by show 2 ≤ sizeLine; decide), fun p np => ⟨x, p, [.ty "list", .ty "tuple"], _, _, false, rfl, upd_same, .cons (.ty _) (.cons (.ty _) .nil), ty _ (same_upd np), k1, false, rfl, iteF ?_⟩⟩
    have s1 : Same H (upd H p (.tup [.ty "list", .ty "tuple"])) := same_upd np
    refine ⟨_, rfl, x, .ty "int", _, _, _, rfl, .ty _, ty _ s1, k3, _, rfl, ite2 (fun hi => ?_) (fun hi => ?_)⟩
    · have hsc : scal x x = true := by
        rcases hs with z | ⟨z, _⟩
        · exact z
        · rw [z] at hi
          cases hi
      refine ⟨_, rfl, x, .ty "int", _, _, _, rfl, .ty _, ty _ s1, k3, _, rfl, iteBt hi ?_⟩
      refine ⟨_, rfl, x, .ty "bool", _, _, _, rfl, .ty _, ty _ s1, k4, _, rfl, x, .ty "bool", _, _, _, rfl, .ty _, ty _ s1, k4, rfl, _, rfl, iteBt (decide_eq_true rfl) ?_⟩
      refine ⟨_, rfl, _, rfl, hsc, ?_⟩
      rw [decide_eq_true rfl]
      exact k _ s1
    · have hi : (Ty == "int" || Ty == "bool") = false := by simpa using hi
      rw [hi] at k2
      refine ⟨_, rfl, (by show 3 ≤ sizeLine; decide), fun p2 np2 => ?_⟩
      have s2 : Same H (upd (upd H p (.tup [.ty "list", .ty "tuple"])) p2 (.tup [.ty "int", .ty "list", .ty "tuple"])) := s1.trans (same_upd np2)
      refine ⟨x, p2, [.ty "int", .ty "list", .ty "tuple"], _, _, false, rfl, upd_same, .cons (.ty _) (.cons (.ty _) (.cons (.ty _) .nil)), ty _ s2, k2, false, false, rfl, rfl, _, rfl, iteBt (decide_eq_true rfl) ?_⟩
      refine ⟨_, rfl, _, rfl, ?_⟩
      rcases hs with hsc | ⟨_, a, kvs, rfl, e, dk⟩
      · refine .inl ⟨hsc, ?_⟩
        rw [decide_eq_true rfl]
        exact k _ s2
      · refine .inr ⟨1, by decide, .inr ⟨a, a, kvs, kvs, rfl, rfl, s2 _ _ e, s2 _ _ e, rfl, fun p hp => ⟨p.2, (dk p hp).1, .inl ⟨rfl, (dk p hp).2⟩⟩⟩, k _ s2⟩
end
end KT

namespace KT
open PySem PySem.Spec PyProof.Rows L2 C8
/-! rules of my own: a list beside [], a tuple beside (), xs.extend(tuple), x not in names -/
section
variable {X : Cx}
def rNeNil (K : PySem.W.Frag) : R2 := fun x y H Q => ∃ a b xs, x = .ref a ∧ y = .ref b ∧ SqL K H a xs ∧ SqL K H b [] ∧ Q (.bl (!xs.isEmpty)) H
theorem op_neNil (hu : X.A.units + 64 < cLine) : OpR X (compareOp .NotEq) (rNeNil X.K) := by
  intro pins s σ H x y v u Q I rx ry h
  obtain ⟨a, b, xs, rfl, rfl, ha, hb, q⟩ := h
  cases rx
  cases ry
  obtain ⟨us, r1, p1, _⟩ := I.list ha
  obtain ⟨ws, r2, p2, _⟩ := I.list hb
  cases r2
  have fin : ∀ b : Bool, b = !xs.isEmpty → (EP X pins σ Q) (.bool b) s := fun b e => ⟨.bl b, H, I, rfl, by rw [e]; exact q⟩
  cases r1 with
  | nil => exact SeqAt.RcNeAt.lists (e := fun _ => true) p1.isList p2.isList rfl (by omega) (fun j h1 h2 => absurd h1 (by simp)) _ _ _ _ (fin false rfl)
  | cons r t => exact SeqAt.RcNeAt.lists_lengths p1.isList p2.isList (by simp) (by omega) _ _ _ _ (fin true rfl)
def rEqNilT (K : PySem.W.Frag) : R2 := fun x y H Q => ∃ a b xs, x = .ref a ∧ y = .ref b ∧ SqT K H a xs ∧ SqT K H b [] ∧ Q (.bl xs.isEmpty) H
theorem op_eqNilT (hu : X.A.units + 64 < cLine) : OpR X (compareOp .Eq) (rEqNilT X.K) := by
  intro pins s σ H x y v u Q I rx ry h
  obtain ⟨a, b, xs, rfl, rfl, ha, hb, q⟩ := h
  cases rx
  cases ry
  obtain ⟨us, r1, p1, _⟩ := I.tuple ha
  obtain ⟨ws, r2, p2, _⟩ := I.tuple hb
  cases r2
  have fin : ∀ b : Bool, b = xs.isEmpty → (EP X pins σ Q) (.bool b) s := fun b e => ⟨.bl b, H, I, rfl, by rw [e]; exact q⟩
  refine SeqAt.RcAt.tuples (e := fun _ => true) p1 p2 (by omega) (fun j h1 h2 => absurd h2 (by simp)) _ _ _ _ (fin _ ?_)
  cases r1 with
  | nil => rfl
  | cons r t => simp
theorem extT (l : Addr) (xs : Array Value) (n : Nat) (b : Addr) (ys : Array Value) (m : Nat) (dd : Option Addr) (sl : Array (Option Value)) (h0 : ¬(!xs.isEmpty && Builtin.List.listTooLong (xs.size + ys.size)) = true) (h1 : xs.size ≤ sizeLine) (h2 : xs.size + ys.size ≤ sizeLine + 1) :
    Meets (Builtin.«list.extend» ⟨[.ref l, .ref b], []⟩) (fun _ R s =>
      s.heap.get? l = some { cls := .type "list", dict := none, data := .seq xs n, slots := #[] } ∧
        s.heap.get? b = some { cls := .type "tuple", dict := dd, data := .seq ys m, slots := sl } ∧
          R (.ok (.ret Value.none)) { s with heap := s.heap.update l (Obj.mapSeq fun x => x ++ ys), toks := s.toks }) :=
  .of_wp fun prog w A R s h => by
    obtain ⟨hp, g0, d0, t0, o0⟩ := s
    obtain ⟨kl, kb, h⟩ := h
    have z1 := AutoSeq1.sub_tuple_tuple
    have z2 := AutoSeq1.sub_list_list
    have z3 := AutoSeq1.sub_tuple_list
    have z4 := AutoSeq1.sub_list_tuple
    have z5 : (xs ++ ys).size ≤ sizeLine + 1 := by rw [Array.size_append]; exact h2
    wp_walk using (wpAny_updateSeq kl rfl (hz := h1) (_hz' := z5)), AutoSeq1.wpAny_loadPart' kl, AutoSeq1.wpAny_loadPart' kb
    exact ⟨_, rfl, h⟩
def rExtendT (K : PySem.W.Frag) : V → List V → Hp → VK → Prop := fun x vs H Q => ∃ l b xs zs, x = .ref l ∧ vs = [.ref b] ∧ H l = some (.lst xs) ∧ SqT K H b zs ∧ xs.length + zs.length ≤ sizeLine ∧ Q .non (upd H l (.lst (xs ++ zs)))
theorem mt_extendT : MtM X "list.extend" (rExtendT X.K) := by
  intro pins s σ H x vs v us Q I rx rv h
  obtain ⟨l, b, xs, zs, rfl, rfl, hH, hB, hz, q⟩ := h
  cases rx
  obtain ⟨u, rfl, ru⟩ := rv.one
  cases ru
  obtain ⟨z, its, n, r, hl, e⟩ := I.lstM hH
  obtain ⟨its2, r2, ⟨⟨cls, dd, data, sl⟩, e2, hc, m, hd⟩, _⟩ := I.tuple hB
  simp only at hc hd
  subst hc hd
  have n1 := r.length
  have n2 := r2.length
  have hsz : its.toArray.size + its2.toArray.size ≤ sizeLine := by rw [List.size_toArray, List.size_toArray]; omega
  have hlong : ¬ (!its.toArray.isEmpty && Builtin.List.listTooLong (its.toArray.size + its2.toArray.size)) = true := by
    rw [notLongL hsz, Bool.and_false]
    exact Bool.false_ne_true
  refine call_meets F.slot_list_extend ⟨_, e, rfl⟩ F.entry_list_extend (F.args_list_extend_2 _ _)
    (extT l its.toArray n b its2.toArray m dd sl hlong (by rw [List.size_toArray]; omega) (by omega)) ⟨e, e2, ?_⟩
  refine ⟨.non, _, I.lset (its' := its ++ its2) hH e (by simp) (r.append r2) ?_, rfl, q⟩
  rw [List.length_append]
  omega
/-- x is one of these texts; x flat, a list or a tuple -/
def isOf (x : V) (ls : List Str) : Bool := match x with
  | .str z => ls.any fun y => y == z
  | _ => false
def SeqOf (K : PySem.W.Frag) (H : Hp) (x : V) : Prop := ∃ a xs, x = .ref a ∧ (SqL K H a xs ∨ SqT K H a xs)
def rNotOf (K : PySem.W.Frag) : R2 := fun x y H Q => ∃ p ls, y = .ref p ∧ (SqL K H p (ls.map V.str) ∨ SqT K H p (ls.map V.str)) ∧ (flatV x = true ∨ SeqOf K H x) ∧ Q (.bl (!isOf x ls)) H
theorem isOf_flat {x : V} (h : flatV x = true) (ls : List Str) : inV x (ls.map V.str) = isOf x ls := by
  unfold inV
  rw [List.any_map]
  cases x with
  | str z =>
    show ls.any _ = ls.any _
    congr 1
  | non => exact List.any_eq_false.mpr fun y _ => by simp [eqV]
  | bl b => exact List.any_eq_false.mpr fun y _ => by simp [eqV]
  | int b => exact List.any_eq_false.mpr fun y _ => by simp [eqV]
  | _ => cases h
theorem op_notOf (hu : X.A.units + 64 < cLine) : OpR X (compareOp .NotIn) (rNotOf X.K) := by
  intro pins s σ H x y v u Q I rx ry h
  obtain ⟨p, ls, rfl, hq, hx | ⟨a, xs, rfl, hx⟩, q⟩ := h
  · refine op_notIn_seq pins s σ H x (.ref p) v u Q I rx ry ⟨p, _, rfl, hq, hx, List.all_eq_true.mpr fun y hy => ?_, ?_⟩
    · obtain ⟨z, _, rfl⟩ := List.mem_map.mp hy
      rfl
    · rw [isOf_flat hx]
      exact q
  · cases rx
    cases ry
    have he : ∀ {us : List Value}, Vals (ls.map V.str) us → ∀ w ∈ us, SeqAt.EqAt X.A.in1 s w (.ref a) false := by
      intro us r w hw
      obtain ⟨z, t, rfl⟩ : ∃ z t, w = .str z t := by
        clear hq hx q
        induction ls generalizing us with
        | nil => cases r; cases hw
        | cons z ls ih =>
          cases r with
          | cons r t =>
            rcases List.mem_cons.mp hw with rfl | hw
            · obtain ⟨t, rfl⟩ := r
              exact ⟨z, t, rfl⟩
            · exact ih t hw
      have hu' : X.A.in1.units < cLine := by show X.A.units + 1 < cLine; omega
      rcases hx with hx | hx
      · obtain ⟨_, _, pl, _⟩ := I.list hx
        exact SeqAt.EqAt.str_list z t pl.isList hu'
      · obtain ⟨_, _, pl, _⟩ := I.tuple hx
        exact SeqAt.EqAt.str_tuple z t pl hu'
    have no : ∀ us : List Value, (us.toArray.any fun _ => false) = false := fun us => by simp
    rcases hq with hq | hq
    · obtain ⟨its, r, pl, hz⟩ := I.list hq
      refine SeqAt.notIn_listAt (fun _ => false) pl.isList (fun w hw => he r w (by simpa using hw)) ⟨.bl _, H, I, rfl, ?_⟩
      rw [no]
      exact q
    · obtain ⟨its, r, pl, hz⟩ := I.tuple hq
      refine SeqAt.notIn_tupleAt (fun _ => false) pl (fun w hw => he r w (by simpa using hw)) ⟨.bl _, H, I, rfl, ?_⟩
      rw [no]
      exact q
end
end KT

namespace KT
open PySem PySem.Spec PyProof.Rows L2 C8
abbrev sMix : Stmt := top 33
abbrev sWords : Stmt := top 35
theorem StAt.mono {B B' : Nat} {H : Hp} {a l : Addr} (h : B ≤ B') (s : StAt B H a l) : StAt B' H a l := by
  obtain ⟨ns, i, c, h0, n, e1, e2, r1, r2, r3, r4, r5, r6, r7⟩ := s
  exact ⟨ns, i, c, h0, n, e1, e2, r1, r2, r3, r4, r5, by omega, r7⟩
theorem StAt.keeps {B : Nat} {H H' : Hp} {a l : Addr} (h : StAt B H a l) (s : ∀ o, H a = some o → H' a = some o) (s' : ∀ o, H l = some o → H' l = some o) : StAt B H' a l := by
  obtain ⟨ns, i, c, h0, n, e1, e2, r⟩ := h
  exact ⟨ns, i, c, h0, n, s _ e1, s' _ e2, r⟩
theorem StAt.same {B : Nat} {H H' : Hp} {a l : Addr} (s : Same H H') (h : StAt B H a l) : StAt B H' a l := h.keeps (s _) (s _)
theorem StAt.put {B : Nat} {H : Hp} {a l p : Addr} {o : HO} (h : StAt B H a l) (h1 : p ≠ a) (h2 : p ≠ l) : StAt B (upd H p o) a l := h.keeps (fun _ e => by rw [upd_ne h1.symm]; exact e) fun _ e => by rw [upd_ne h2.symm]; exact e
theorem StAt.st {B : Nat} {H : Hp} {a l : Addr} (h : StAt B H a l) : ∃ o, H a = some o := by
  obtain ⟨ns, i, c, h0, n, e1, _⟩ := h
  exact ⟨_, e1⟩
theorem StAt.cl {B : Nat} {H : Hp} {a l : Addr} (h : StAt B H a l) : ∃ o, H l = some o := by
  obtain ⟨ns, i, c, h0, n, e1, e2, _⟩ := h
  exact ⟨_, e2⟩
theorem StAt.new {B : Nat} {H : Hp} {a l p : Addr} (h : StAt B H a l) (n : H p = none) : p ≠ a ∧ p ≠ l := by
  obtain ⟨o, e1⟩ := h.st
  obtain ⟨o', e2⟩ := h.cl
  exact ⟨(ne_of_none e1 n).symm, (ne_of_none e2 n).symm⟩
theorem But.refl {a : Addr} {H : Hp} : But a H H := fun _ _ e _ => e
theorem But.trans {a : Addr} {H H' H'' : Hp} (h : But a H H') (h' : But a H' H'') : But a H H'' := fun b o e n => h' b o (h b o e n) n
theorem Same.but {a : Addr} {H H' : Hp} (h : Same H H') : But a H H' := fun b o e _ => h b o e
theorem But.upd {a p : Addr} {o : HO} {H H' : Hp} (h : But a H H') (hp : H p = none) : But a H (upd H' p o) := fun b u e n => by
  rw [upd_ne (ne_of_none e hp)]
  exact h b u e n
theorem perm_erase : ∀ {xs : List V} {k : Nat} (h : k < xs.length), (xs[k] :: xs.eraseIdx k).Perm xs
  | x :: xs, 0, _ => List.Perm.refl _
  | x :: xs, k + 1, h => (List.Perm.swap _ _ _).trans ((perm_erase (xs := xs) (k := k) (Nat.lt_of_succ_lt_succ h)).cons x)
def spMix : Sp := fun vs H Q _ => ∃ (st th : Addr) (xs : List V) (B : Nat) (cl : Addr), vs = [.ref st, .ref th] ∧ H th = some (.lst xs) ∧ xs.length ≤ 1000 ∧ StAt B H st cl ∧ B + xs.length < 1000000000000000 ∧
  ∀ (l : Addr) (ys : List V) (H' : Hp), H l = none → ys.Perm xs → H' l = some (.lst ys) → StAt (B + xs.length) H' st cl → But st H H' → Q (.ref l) H'
abbrev NMix : List Str := ["_law_state", "_law_things", "_law_left_here", "_law_found"]
theorem scMix : FnScope NMix ["_law_state", "_law_things"] (fnScope sMix) := fnScope_by (by decide +kernel)
section
variable {P : Program} {w : World} {K : PySem.W.Frag} {mg : Str → Option Value} {base : Heap}
theorem c_mix {f : Addr} {fd : FuncData} (F : Def K mg "_law_mix" sMix f fd) (b : Binds K fd ["_law_state", "_law_things"] []) (T : Blt mg) (C : Cal P w K mg base 1 "_law_take" spTake []) : Cal P w K mg base 2 "_law_mix" spMix [] := by
  refine cal0 F b .nil scMix (fun vs H Q E h => ?_) (fun cdv A outer s H vs Q E hr h => ?_)
  · obtain ⟨st, th, xs, B, cl, rfl, _⟩ := h
    rfl
  · obtain ⟨st, th, xs, B, cl, rfl, hx, l1, hst, hB, k⟩ := h
    have nd := scMix.nd
    have hu : (A.deeper (envOfC "_law_mix" (fnScope sMix) s.heap.objs.size f cdv)).units + 64 < cLine := by have := hr.un; omega
    refine ⟨_, pss_cons (ps_par (i := 2) (j := 3) rfl nd rfl rfl (by decide) rfl rfl (pa_cons (pe_callTy call_list_of (by rfl) T.list (by decide +kernel) (pa_cons (pv 1) pa_nil)) (pa_cons (pe_lst pa_nil) pa_nil)) (by rfl))
      (pss_cons (ps_while PassesOwn.never (pt_cmpR (op_neNil hu) (pv 2) (pe_lst pa_nil) (nomark _))
        (pss_one (ps_expr (pe_bm PySem.F.plainAttrs_list PySem.F.slot_list_append PySem.F.type_list_append mt_append (pv 3) (pa_cons
          (pe_bm PySem.F.plainAttrs_list PySem.F.slot_list_pop PySem.F.type_list_pop mt_popAt (pv 2) (pa_cons (pe_c C hr (Nat.le_refl _) (by rfl) (pa_cons (pv 0) (pa_cons (pe_callB call_len_seq (by rfl) T.len PySem.boot_len (pa_cons (pv 2) pa_nil)) pa_nil))) pa_nil)) pa_nil)))))
      (pss_one (ps_ret (pv 3)))), ?_⟩
    refine ⟨_, rfl, th, xs, rfl, .inl (SqL.of hx), fun L nL => ⟨(by show 0 ≤ sizeLine; decide), fun Fd nF => ⟨_, _, rfl, ?_⟩⟩⟩
    have nLF : L ≠ Fd := ne_of_none upd_same nF
    have nF : H Fd = none := by rw [upd_ne nLF.symm] at nF; exact nF
    obtain ⟨La, Lc⟩ := hst.new nL
    obtain ⟨Fa, Fc⟩ := hst.new nF
    let Iv : Nat → L2.St → Hp → Prop := fun m σ H' => ∃ xl yf : List V, xl.length = m ∧ σ = [some (.ref st), some (.ref th), some (.ref L), some (.ref Fd)] ∧ H' L = some (.lst xl) ∧ H' Fd = some (.lst yf) ∧ (xl ++ yf).Perm xs ∧ StAt (B + yf.length) H' st cl ∧ But st H H'
    refine ⟨Iv, ⟨xs.length, xs, [], rfl, rfl, by rw [upd_ne nLF, upd_same], upd_same, by simp, (hst.put La Lc).put Fa Fc, (Same.but fun b o e => ?_)⟩, ?_⟩
    · rw [upd_ne (ne_of_none e nF), upd_ne (ne_of_none e nL)]
      exact e
    rintro m σ H1 ⟨xl, yf, rfl, rfl, hL, hF, hp, hs1, hb1⟩
    have hlen := hp.length_eq
    rw [List.length_append] at hlen
    refine ⟨_, rfl, (by show 0 ≤ sizeLine; decide), fun p np => ⟨L, p, xl, rfl, rfl, SqL.of (by rw [upd_ne (ne_of_none hL np)]; exact hL), SqL.of upd_same, _, rfl, ?_⟩⟩
    have pL := ne_of_none hL np
    have pF := ne_of_none hF np
    obtain ⟨pa, pc⟩ := hs1.new np
    have hs2 : StAt (B + yf.length) (upd H1 p (.lst [])) st cl := hs1.put pa pc
    have hb2 : But st H (upd H1 p (.lst [])) := hb1.trans (Same.but fun b o e => by rw [upd_ne (ne_of_none e np)]; exact e)
    have hL2 : (upd H1 p (.lst [])) L = some (.lst xl) := by rw [upd_ne pL]; exact hL
    have hF2 : (upd H1 p (.lst [])) Fd = some (.lst yf) := by rw [upd_ne pF]; exact hF
    generalize upd H1 p (.lst []) = H2 at hs2 hb2 hL2 hF2
    cases hxl : xl with
    | nil =>
      subst hxl
      refine iteBf rfl ⟨_, rfl, ?_⟩
      exact k Fd yf H2 nF hp hF2 (hs2.mono (by simp at hlen; omega)) hb2
    | cons x0 xt =>
      rw [← hxl]
      have hpos : 0 < xl.length := by rw [hxl]; exact Nat.succ_pos _
      refine iteBt (by rw [hxl]; rfl) ?_
      refine ⟨Iv (xl.length - 1), fun σ' H' hI => ⟨_, by omega, hI⟩, ?_⟩
      refine ⟨_, rfl, .inl ⟨rfl, _, SqL.of hF2⟩, _, rfl, .inl ⟨rfl, _, SqL.of hL2⟩, _, rfl, _, rfl, L, xl, rfl, .inl (SqL.of hL2), ?_⟩
      refine ⟨st, xl.length, B + yf.length, cl, rfl, by omega, by omega, hs2, by omega, fun d H3 d0 d1 hs3 hb3 => ?_⟩
      have hL3 := hb3 _ _ hL2 La
      have hF3 := hb3 _ _ hF2 Fa
      have hd : d.toNat < xl.length := by omega
      refine ⟨L, xl, d, d.toNat, xl[d.toNat], rfl, rfl, hL3, by omega, by omega, seqIndex_of d0 d1, by simp [hd], ?_⟩
      have hF4 : (upd H3 L (.lst (xl.eraseIdx d.toNat))) Fd = some (.lst yf) := by rw [upd_ne nLF.symm]; exact hF3
      refine ⟨Fd, yf, _, rfl, rfl, hF4, by rw [sizeLine_eq]; omega, ?_⟩
      refine ⟨_, _, ?_, rfl, by rw [upd_ne nLF, upd_same], upd_same, ?_, ?_, ?_⟩
      · rw [List.length_eraseIdx, if_pos hd]
      · refine List.Perm.trans ?_ hp
        rw [← List.append_assoc]
        refine (List.perm_append_comm).trans ?_
        rw [← List.append_assoc]
        refine List.Perm.append_right _ ?_
        exact perm_erase hd
      · rw [List.length_append]
        exact ((hs3.put La Lc).put Fa Fc)
      · exact ((hb2.trans hb3).upd nL).upd nF
end
end KT

namespace KT
open PySem PySem.Spec PyProof.Rows L2 C8
abbrev sRows : Stmt := top 36
def menu : List Str := ["a", "b", "f", "g", "one", "neg", "add", "x", "y", "zz", "abcdefgh", "above", "bar", "kind"]
def spWords : Sp := fun vs H Q _ => ∃ (st : Addr) (n : Int) (B : Nat) (cl : Addr), vs = [.ref st, .int n] ∧ 0 ≤ n ∧ n ≤ 14 ∧ StAt B H st cl ∧ B + 14 < 1000000000000000 ∧
  ∀ (l : Addr) (ws : List Str) (H' : Hp), H l = none → H' l = some (.lst (ws.map V.str)) → ws.length = n.toNat → ws.Nodup → (∀ z ∈ ws, z ∈ menu) → StAt (B + 14) H' st cl → But st H H' → Q (.ref l) H'
theorem scWords : FnScope ["_law_state", "_law_many_here", "_law_some"] ["_law_state", "_law_many_here"] (fnScope sWords) := fnScope_by (by decide +kernel)
theorem cutTo {xs : List V} {n : Int} (h : 0 ≤ n) : cutV xs none (some n) = xs.take n.toNat := by
  unfold cutV HT.sIx
  dsimp only
  rw [if_neg (by omega), List.drop_zero, Nat.sub_zero]
  by_cases hl : n.toNat ≤ xs.length
  · rw [Nat.min_eq_left hl]
  · rw [Nat.min_eq_right (by omega), List.take_of_length_le (Nat.le_refl _), List.take_of_length_le (by omega)]
theorem cutFrom {xs : List V} {n : Int} (h : 0 ≤ n) : cutV xs (some n) none = xs.drop n.toNat := by
  unfold cutV HT.sIx
  dsimp only
  rw [if_neg (by omega)]
  by_cases hl : n.toNat ≤ xs.length
  · rw [Nat.min_eq_left hl, List.take_of_length_le (by rw [List.length_drop]; omega)]
  · rw [Nat.min_eq_right (by omega), List.drop_eq_nil_of_le (Nat.le_refl _), List.drop_eq_nil_of_le (by omega), List.take_nil]
theorem unmap {α : Type} {f : α → V} {g : V → α} (hg : ∀ a, g (f a) = a) {ys : List V} {xs : List α} (h : ys.Perm (xs.map f)) : ∃ zs : List α, ys = zs.map f ∧ zs.Perm xs := by
  have back : ∀ l : List α, (l.map f).map g = l := fun l => by
    rw [List.map_map]
    induction l with
    | nil => rfl
    | cons a l ih => rw [List.map_cons, ih]; exact congrArg (· :: l) (hg a)
  refine ⟨ys.map g, ?_, by have := h.map g; rw [back] at this; exact this⟩
  rw [List.map_map]
  have m : ∀ y ∈ ys, f (g y) = y := fun y hy => by
    obtain ⟨z, _, e⟩ := List.mem_map.mp (h.subset hy)
    rw [← e, hg]
  clear h
  induction ys with
  | nil => rfl
  | cons y ys ih =>
    rw [List.map_cons, ← ih fun y' hy' => m y' (List.mem_cons_of_mem _ hy')]
    exact congrArg (· :: ys) (m y List.mem_cons_self).symm
def strOf : V → Str
  | .str z => z
  | _ => ""
/-- what was not there isn't there: at an address that is free behind -/
theorem But.free {H H' : Hp} {st p : Addr} (h : But st H H') (n : H' p = none) (ne : p ≠ st) : H p = none := by
  cases e : H p with
  | none => rfl
  | some o =>
    have := h p o e ne
    rw [n] at this
    cases this
theorem same_free {H H' : Hp} {p : Addr} (h : Same H H') (n : H' p = none) : H p = none := by
  cases e : H p with
  | none => rfl
  | some o =>
    have := h p o e
    rw [n] at this
    cases this
section
variable {P : Program} {w : World} {K : PySem.W.Frag} {mg : Str → Option Value} {base : Heap}
theorem c_words {f : Addr} {fd : FuncData} (F : Def K mg "_law_words" sWords f fd) (b : Binds K fd ["_law_state", "_law_many_here"] []) (T : Blt mg) (C : Cal P w K mg base 2 "_law_mix" spMix []) : Cal P w K mg base 3 "_law_words" spWords [] := by
  refine cal0 F b .nil scWords (fun vs H Q E h => ?_) (fun cdv A outer s H vs Q E hr h => ?_)
  · obtain ⟨st, n, B, cl, rfl, _⟩ := h
    rfl
  · obtain ⟨st, n, B, cl, rfl, n0, n1, hst, hB, k⟩ := h
    have nd := scWords.nd
    refine ⟨_, pss_cons (ps_set (i := 2) nd rfl (Or.inl rfl) (pe_lst (pa_cons pe_str (pa_cons pe_str (pa_cons pe_str (pa_cons pe_str (pa_cons pe_str (pa_cons pe_str (pa_cons pe_str (pa_cons pe_str (pa_cons pe_str (pa_cons pe_str (pa_cons pe_str (pa_cons pe_str (pa_cons pe_str (pa_cons pe_str pa_nil))))))))))))))))
      (pss_one (ps_ret (pe_slice sl_list (pe_c C hr (Nat.le_refl _) (by rfl) (pa_cons (pv 0) (pa_cons (pv 2) pa_nil))) po_none (po_some (pv 1))))), ?_⟩
    refine ⟨(by show 14 ≤ sizeLine; decide), fun m nm => ?_⟩
    obtain ⟨ma, mc⟩ := hst.new nm
    refine ⟨_, rfl, _, rfl, st, m, menu.map V.str, B, cl, rfl, upd_same, by decide, hst.put ma mc, hB, fun L ys H1 nL hp hL hs hb => ?_⟩
    obtain ⟨zs, rfl, hz⟩ := unmap (g := strOf) (fun _ => rfl) hp
    refine ⟨_, rfl, n, rfl, L, _, rfl, SqL.of hL, fun p np => ?_⟩
    rw [cutTo n0, ← List.map_take]
    obtain ⟨pa, pc⟩ := hs.new np
    have npH : H p = none := same_free (same_upd nm) (hb.free np pa)
    refine k p _ _ npH upd_same ?_ ((hz.symm.nodup (by decide +kernel)).sublist (List.take_sublist _ _)) (fun z hm => hz.subset (List.mem_of_mem_take hm)) (hs.put pa pc) ?_
    · rw [List.length_take, hz.length_eq]
      show min n.toNat 14 = n.toNat
      omega
    · exact (Same.but (same_upd nm)).trans (hb.trans (Same.but (same_upd np)))
end
end KT

namespace KT
open PySem PySem.Spec PyProof.Rows L2 C8
theorem lc_gen {J : It} {g : TG} {tt : TT} {te : TE} {vs : List Nat} {σ : L2.St} {H1 : Hp} {D : Addr} {Qd : Hp → Prop} (n : Nat) (Pv : Nat → Hp → Prop) (h0 : Pv 0 (upd H1 D (.lst []))) (hgo : ∀ i H, i < n → Pv i H → J.go i H) (hst : ∀ H, Pv n H → J.stop n H)
    (hs : ∀ i H x H', i < n → Pv i H → J.yld i H x H' → g x (wipe σ vs) H' fun σ2 H2 => wipe σ2 vs = wipe σ vs ∧ tt σ2 H2 fun b H3 =>
      if b = true then te σ2 H3 fun y H4 => ∃ acc, H4 D = some (.lst acc) ∧ acc.length < sizeLine ∧ Pv (i + 1) (upd H4 D (.lst (acc ++ [y]))) else Pv (i + 1) H3) (hd : ∀ H, Pv n H → Qd H) :
    ∃ W : Nat → Nat → Hp → Prop, (∃ m, W 0 m (upd H1 D (.lst []))) ∧ ∀ i m H, W i m H →
      (J.stop i H ∧ Qd H) ∨ (J.go i H ∧ ∃ Nx : Hp → Prop, (∀ H', Nx H' → ∃ m', m' < m ∧ W (i + 1) m' H') ∧ ∀ x H', J.yld i H x H' → g x (wipe σ vs) H' fun σ2 H2 => wipe σ2 vs = wipe σ vs ∧ tt σ2 H2 fun b H3 =>
        if b = true then te σ2 H3 fun y H4 => ∃ acc, H4 D = some (.lst acc) ∧ acc.length < sizeLine ∧ Nx (upd H4 D (.lst (acc ++ [y]))) else Nx H3) := by
  refine ⟨fun i m H => m + i = n ∧ Pv i H, ⟨n, rfl, h0⟩, ?_⟩
  rintro i m H ⟨hm, p⟩
  by_cases hi : i < n
  · exact .inr ⟨hgo i H hi p, Pv (i + 1), fun H' p' => ⟨m - 1, by omega, by omega, p'⟩, fun x H' y => hs i H x H' hi p y⟩
  · obtain rfl : i = n := by omega
    exact .inl ⟨hst H p, hd H p⟩
theorem for_gen {J : It} {g : TG} {tb : TS} {D : Ends} {σ : L2.St} {H : Hp} (n : Nat) (Pv : Nat → L2.St → Hp → Prop) (h0 : Pv 0 σ H) (hgo : ∀ i σ H, i < n → Pv i σ H → J.go i H) (hst : ∀ σ H, Pv n σ H → J.stop n H)
    (hs : ∀ i σ H x H', i < n → Pv i σ H → J.yld i H x H' → g x σ H' fun σ2 H2 => tb { D with nx := Pv (i + 1), ct := Pv (i + 1), bk := D.nx } σ2 H2) (hd : ∀ σ H, Pv n σ H → D.nx σ H) :
    ∃ W : Nat → Nat → L2.St → Hp → Prop, (∃ m, W 0 m σ H) ∧ ∀ i m σ H, W i m σ H →
      (J.stop i H ∧ D.nx σ H) ∨ (J.go i H ∧ ∃ N : L2.St → Hp → Prop, (∀ σ' H', N σ' H' → ∃ m', m' < m ∧ W (i + 1) m' σ' H') ∧ ∀ x H', J.yld i H x H' → g x σ H' fun σ2 H2 => tb { D with nx := N, ct := N, bk := D.nx } σ2 H2) := by
  refine ⟨fun i m σ H => m + i = n ∧ Pv i σ H, ⟨n, rfl, h0⟩, ?_⟩
  rintro i m σ H ⟨hm, p⟩
  by_cases hi : i < n
  · exact .inr ⟨hgo i σ H hi p, Pv (i + 1), fun σ' H' p' => ⟨m - 1, by omega, by omega, p'⟩, fun x H' y => hs i σ H x H' hi p y⟩
  · obtain rfl : i = n := by omega
    exact .inl ⟨hst σ H p, hd σ H p⟩
structure Blt4 (mg : Str → Option Value) : Prop extends Blt2 mg where
  ran : mg "range" = none
  enu : mg "enumerate" = none
  str : mg "str" = none
  dic : mg "dict" = none
/-- a row of a language -/
abbrev Rw := Str × Int
def RowV (H : Hp) (v : V) (r : Rw) : Prop := ∃ t, v = .ref t ∧ H t = some (.tup [.str r.1, .int r.2])
def RowsAt (H : Hp) (l : Addr) (rs : List Rw) : Prop := ∃ vs, H l = some (.lst vs) ∧ Paired (RowV H) vs rs
structure RowsOk (rs : List Rw) : Prop where
  len : rs.length ≤ 14
  nd : (rs.map (·.1)).Nodup
  mem : ∀ r ∈ rs, r.1 ∈ menu ∧ 0 ≤ r.2 ∧ r.2 ≤ 2
  leaf : ∃ r ∈ rs, r.2 = 0
theorem RowV.but {B : Nat} {H H' : Hp} {st cl : Addr} (hs : StAt B H st cl) (hb : But st H H') {v : V} {r : Rw} (h : RowV H v r) : RowV H' v r := by
  obtain ⟨t, e, q⟩ := h
  obtain ⟨ns, i, c, h0, n, e1, _⟩ := hs
  exact ⟨t, e, hb _ _ q (ne_of q e1 (by intro z; cases z))⟩
theorem RowV.same {H H' : Hp} (s : Same H H') {v : V} {r : Rw} (h : RowV H v r) : RowV H' v r := by
  obtain ⟨t, e, q⟩ := h
  exact ⟨t, e, s _ _ q⟩
theorem RowsAt.but {B : Nat} {H H' : Hp} {st cl l : Addr} (hs : StAt B H st cl) (hb : But st H H') {rs : List Rw} (h : RowsAt H l rs) : RowsAt H' l rs := by
  obtain ⟨vs, e, p⟩ := h
  refine ⟨vs, hb _ _ e (fun z => ?_), Paired.mono (fun _ _ q => q.but hs hb) p⟩
  obtain ⟨ns, i, c, h0, n, e1, _⟩ := hs
  rw [z, e1] at e
  cases e
  cases p with
  | cons _ p =>
    cases p with
    | cons q _ =>
      obtain ⟨t, z, _⟩ := q
      cases z
theorem RowsAt.same {H H' : Hp} {l : Addr} (s : Same H H') {rs : List Rw} (h : RowsAt H l rs) : RowsAt H' l rs := by
  obtain ⟨vs, e, p⟩ := h
  exact ⟨vs, s _ _ e, Paired.mono (fun _ _ q => q.same s) p⟩
theorem paired_perm {α β : Type} {R : α → β → Prop} {ys xs : List α} (h : ys.Perm xs) : ∀ {rs : List β}, Paired R xs rs → ∃ ps : List β, ps.Perm rs ∧ Paired R ys ps := by
  induction h with
  | nil => intro rs p; exact ⟨rs, .refl _, p⟩
  | cons a _ ih =>
    intro rs p
    cases p with
    | cons q t =>
      obtain ⟨ps, e, p'⟩ := ih t
      exact ⟨_ :: ps, e.cons _, .cons q p'⟩
  | swap a b l =>
    intro rs p
    cases p with
    | cons q t =>
      cases t with
      | cons q' t =>
        exact ⟨_ :: _ :: _, .swap _ _ _, .cons q' (.cons q t)⟩
  | trans _ _ ih1 ih2 =>
    intro rs p
    obtain ⟨ps, e, p'⟩ := ih2 p
    obtain ⟨qs, e', p''⟩ := ih1 p'
    exact ⟨qs, e'.trans e, p''⟩
theorem RowsOk.perm {rs ps : List Rw} (h : RowsOk rs) (p : ps.Perm rs) : RowsOk ps where
  len := by rw [p.length_eq]; exact h.len
  nd := (p.map _).nodup_iff.mpr h.nd
  mem := fun r hr => h.mem r (p.subset hr)
  leaf := by
    obtain ⟨r, hr, e⟩ := h.leaf
    exact ⟨r, p.symm.subset hr, e⟩
def spRows : Sp := fun vs H Q _ => ∃ (st : Addr) (m : Int) (B : Nat) (cl : Addr), vs = [.ref st, .int m] ∧ 1 ≤ m ∧ m ≤ 13 ∧ StAt B H st cl ∧ B + 50 < 1000000000000000 ∧
  ∀ (l : Addr) (rs : List Rw) (H' : Hp), H l = none → RowsAt H' l rs → RowsOk rs → StAt (B + 50) H' st cl → But st H H' → Q (.ref l) H'
abbrev NRows : List Str := ["_law_state", "_law_most", "_law_words_here", "_law_found", "_law_many_here", "_law_k", "_law_word"]
theorem scRows : FnScope NRows ["_law_state", "_law_most"] (fnScope sRows) := fnScope_by (by decide +kernel)
section
variable {P : Program} {w : World} {K : PySem.W.Frag} {mg : Str → Option Value} {base : Heap}
theorem c_rows {f : Addr} {fd : FuncData} (F : Def K mg "_law_rows" sRows f fd) (b : Binds K fd ["_law_state", "_law_most"] []) (T : Blt4 mg) (C : Cal P w K mg base 1 "_law_take" spTake []) (CM : Cal P w K mg base 2 "_law_mix" spMix []) (CW : Cal P w K mg base 3 "_law_words" spWords []) : Cal P w K mg base 4 "_law_rows" spRows [] := by
  refine cal0 F b .nil scRows (fun vs H Q E h => ?_) (fun cdv A outer s H vs Q E hr h => ?_)
  · obtain ⟨st, m, B, cl, rfl, _⟩ := h
    rfl
  · obtain ⟨st, m, B, cl, rfl, m0, m1, hst, hB, k⟩ := h
    have nd := scRows.nd
    refine ⟨_, pss_cons (ps_set (i := 2) nd rfl (by first | exact Or.inl rfl | exact Or.inr rfl) (pe_c CW hr (by decide) (by rfl) (pa_cons (pv 0) (pa_cons (pe_op op_add pe_int (pe_c C hr (by decide) (by rfl) (pa_cons (pv 0) (pa_cons (pv 1) pa_nil)))) pa_nil))))
      (pss_cons (ps_set (i := 3) nd rfl (Or.inl rfl) (pe_lst (pa_cons (pe_tup (pa_cons (pe_ix ix_list (pv 2) pe_int fun _ _ => rfl) (pa_cons pe_int pa_nil))) pa_nil)))
      (pss_cut (ps_setLc (i := 4) (own := [("_law_k", 5)]) (g := gName 5) (tt := tYes) rfl nd rfl rfl (by rfl) (pi_list (pe_slice sl_list (pv 2) (po_some pe_int) po_none)) (blkOk_by (N := NRows) (sc := fnScope sRows) (by decide +kernel)) (fun _ _ _ _ _ => pg_name (i := 5) nd rfl (Or.inl rfl)) (fun _ _ _ _ _ => pts_nil)
          (fun _ _ _ _ _ => pe_c C hr (by decide) (by rfl) (pa_cons (pv 0) (pa_cons pe_int pa_nil))))
      (pss_cut (ps_for PassesOwn.never rfl (pi_enum (by rfl) T.enu (pa_cons (pe_slice sl_list (pv 2) (po_some pe_int) po_none) pa_nil)) (pg_tup rfl (pgs_cons (pg_name (i := 5) nd rfl (Or.inl rfl)) (pgs_cons (pg_name (i := 6) nd rfl (Or.inl rfl)) pgs_nil)))
          (pss_one (ps_expr (pe_bm PySem.F.plainAttrs_list PySem.F.slot_list_append PySem.F.type_list_append mt_append (pv 3) (pa_cons (pe_tup (pa_cons (pv 6) (pa_cons
            (pe_ifExp (pw_or (pt_cmp (pc_lt (pe_ix ix_list (pv 4) (pv 5) fun _ _ => rfl) pe_int)) (pw_or1 (pt_cmpR op_notIn_seq pe_int (pe_slice sl_list (pv 4) po_none (po_some (pv 5))) (by rfl)))).pt
              (pe_ix ix_list (pv 4) (pv 5) fun _ _ => rfl) pe_int) pa_nil))) pa_nil)))))
      (pss_one (ps_ret (pe_c CM hr (by decide) (by rfl) (pa_cons (pv 0) (pa_cons (pv 3) pa_nil)))))))), ?_⟩
    refine ⟨_, rfl, _, rfl, _, rfl, st, m, B, cl, rfl, by omega, by omega, hst, by omega, fun d H1 d0 d1 hs1 hb1 => ⟨1, d, rfl, rfl, st, 1 + d, B + 1, cl, rfl, by omega, by omega, hs1, by omega, fun wl ws H2 nwl hwl hwn hwd hwm hs2 hb2 => ?_⟩⟩
    obtain ⟨w0, wr, rfl⟩ : ∃ w0 wr, ws = w0 :: wr := by
      cases ws with
      | nil => simp at hwn; omega
      | cons a t => exact ⟨a, t, rfl⟩
    obtain ⟨wa, wc⟩ := hs1.new nwl
    have nwlH : H wl = none := hb1.free nwl wa
    have hwr : wr.length ≤ 13 := by rw [List.length_cons] at hwn; omega
    refine ⟨_, rfl, wl, _, 0, .str w0, rfl, rfl, SqL.of hwl, at_of (j := 0) (by omega) rfl, (by show 2 ≤ sizeLine; decide), fun t0 nt0 => ⟨(by show 1 ≤ sizeLine; decide), fun fd nfd => ?_⟩⟩
    obtain ⟨ta, tc⟩ := hs2.new nt0
    have e1 : H2 fd = none := by rw [upd_ne (ne_of_none upd_same nfd).symm] at nfd; exact nfd
    have fdt : fd ≠ t0 := (ne_of_none upd_same nfd).symm
    obtain ⟨fa, fc⟩ := hs2.new e1
    have fwl : fd ≠ wl := (ne_of_none hwl e1).symm
    have twl : t0 ≠ wl := (ne_of_none hwl nt0).symm
    have nfdH : H fd = none := hb1.free (hb2.free e1 fa) fa
    have ntH : H t0 = none := hb1.free (hb2.free nt0 ta) ta
    have hb3 : But st H (upd (upd H2 t0 (.tup [.str w0, .int 0])) fd (.lst [.ref t0])) := ((hb1.trans hb2).upd ntH).upd nfdH
    have hs3 : StAt (B + 1 + 14) (upd (upd H2 t0 (.tup [.str w0, .int 0])) fd (.lst [.ref t0])) st cl := (hs2.put ta tc).put fa fc
    have h3w : (upd (upd H2 t0 (.tup [.str w0, .int 0])) fd (.lst [.ref t0])) wl = some (.lst ((w0 :: wr).map V.str)) := by rw [upd_ne fwl.symm, upd_ne twl.symm]; exact hwl
    have h3f : (upd (upd H2 t0 (.tup [.str w0, .int 0])) fd (.lst [.ref t0])) fd = some (.lst [.ref t0]) := upd_same
    have h3t : (upd (upd H2 t0 (.tup [.str w0, .int 0])) fd (.lst [.ref t0])) t0 = some (.tup [.str w0, .int 0]) := by rw [upd_ne fdt.symm]; exact upd_same
    generalize upd (upd H2 t0 (.tup [.str w0, .int 0])) fd (.lst [.ref t0]) = H3 at hb3 hs3 h3w h3f h3t
    have drop1 : ((w0 :: wr).map V.str).drop (1 : Int).toNat = wr.map V.str := rfl
    -- the numbers
    refine ⟨fun σ H' => ∃ (ml : Addr) (ns : List Int), σ = [some (.ref st), some (.int m), some (.ref wl), some (.ref fd), some (.ref ml), none, none] ∧ H' ml = some (.lst (ns.map V.int)) ∧ ns.length = wr.length ∧ (∀ n ∈ ns, 0 ≤ n ∧ n ≤ 2) ∧
        H' wl = some (.lst ((w0 :: wr).map V.str)) ∧ H' fd = some (.lst [.ref t0]) ∧ H' t0 = some (.tup [.str w0, .int 0]) ∧ StAt (B + 30) H' st cl ∧ But st H H' ∧ H ml = none ∧ ml ≠ fd, ?_, ?_⟩
    · refine ⟨_, rfl, 1, rfl, wl, _, rfl, SqL.of h3w, fun p np => ⟨p, rfl, ⟨_, SqL.of upd_same⟩, fun D nD => ?_⟩⟩
      rw [cutFrom (by decide), drop1] at nD ⊢
      obtain ⟨pa, pc⟩ := hs3.new np
      have npH : H p = none := hb3.free np pa
      have Dp : D ≠ p := (ne_of_none upd_same nD).symm
      have nD3 : H3 D = none := by rw [upd_ne Dp] at nD; exact nD
      obtain ⟨Da, Dc⟩ := hs3.new nD3
      have nDH : H D = none := hb3.free nD3 Da
      have kp : ∀ {q : Addr} {o : HO}, H3 q = some o → (upd (upd H3 p (.lst (wr.map V.str))) D (.lst [])) q = some o := fun e => by rw [upd_ne (ne_of_none e nD3), upd_ne (ne_of_none e np)]; exact e
      refine lc_gen (J := Itl K p) wr.length (fun i H' => ∃ ns : List Int, ns.length = i ∧ (∀ n ∈ ns, 0 ≤ n ∧ n ≤ 2) ∧ H' D = some (.lst (ns.map V.int)) ∧ H' p = some (.lst (wr.map V.str)) ∧
        H' wl = some (.lst ((w0 :: wr).map V.str)) ∧ H' fd = some (.lst [.ref t0]) ∧ H' t0 = some (.tup [.str w0, .int 0]) ∧ StAt (B + 15 + i) H' st cl ∧ But st H H')
        ⟨[], rfl, (fun n hn => by cases hn), upd_same, by rw [upd_ne Dp.symm]; exact upd_same, kp h3w, kp h3f, kp h3t, (hs3.put pa pc).put Da Dc, (hb3.upd npH).upd nDH⟩
        (fun i H' hi ⟨ns, _, _, _, hp, _⟩ => ⟨_, .str (wr.getD i ""), SqL.of hp, by rw [List.getElem?_map, List.getElem?_eq_getElem hi, List.getD_eq_getElem?_getD, List.getElem?_eq_getElem hi]; rfl⟩)
        (fun H' ⟨ns, _, _, _, hp, _⟩ => ⟨_, SqL.of hp, by rw [List.length_map]; exact Nat.le_refl _⟩) (fun i H' v H'' hi ⟨ns, hn, hm, hD, hp, h4w, h4f, h4t, hs4, hb4⟩ yl => ?_) (fun H' ⟨ns, hn, hm, hD, hp, h4w, h4f, h4t, hs4, hb4⟩ => ⟨D, ns, rfl, hD, hn, hm, h4w, h4f, h4t, hs4.mono (by omega), hb4, nDH, (ne_of_none h3f nD3).symm⟩)
      obtain ⟨rfl, _⟩ := yl
      refine ⟨rfl, ?_⟩
      unfold tYes
      dsimp only
      rw [if_pos rfl]
      refine ⟨_, rfl, st, 3, B + 15 + i, cl, rfl, by decide, by decide, hs4, by omega, fun x H5 x0 x1 hs5 hb5 => ⟨_, hb5 _ _ hD Da, by rw [List.length_map, sizeLine_eq]; omega, ns ++ [x], ?_⟩⟩
      have kq : ∀ {q : Addr} {o : HO}, H'' q = some o → q ≠ st → q ≠ D → (upd H5 D (.lst (ns.map V.int ++ [V.int x]))) q = some o := fun e n1 n2 => by rw [upd_ne n2]; exact hb5 _ _ e n1
      refine ⟨by simp [hn], fun n hn' => ?_, by rw [upd_same, List.map_append]; rfl, kq hp pa Dp.symm, kq h4w wa (ne_of_none h3w nD3), kq h4f fa (ne_of_none h3f nD3), kq h4t ta (ne_of_none h3t nD3), (hs5.mono (by omega)).put Da Dc, (hb4.trans hb5).upd nDH⟩
      rcases List.mem_append.mp hn' with h | h
      · exact hm n h
      · rw [List.mem_singleton.mp h]; omega
    rintro σ' H4 ⟨ml, ns, rfl, h4m, hnl, hnm, h4w, h4f, h4t, hs4, hb4, nmlH, mlfd⟩
    have mla : ml ≠ st := by
      obtain ⟨o, e⟩ := hst.st
      exact (ne_of_none e nmlH).symm
    -- the rows
    refine ⟨fun σ H' => ∃ (v5 v6 : Option V) (vs : List V) (rs : List Rw), σ = [some (.ref st), some (.int m), some (.ref wl), some (.ref fd), some (.ref ml), v5, v6] ∧ H' fd = some (.lst vs) ∧ Paired (RowV H') vs rs ∧ rs.map (·.1) = w0 :: wr ∧ (∀ r ∈ rs, 0 ≤ r.2 ∧ r.2 ≤ 2) ∧ (w0, 0) ∈ rs ∧ StAt (B + 30) H' st cl ∧ But st H H', ?_, ?_⟩
    · refine ⟨_, rfl, 1, rfl, wl, _, rfl, SqL.of h4w, fun p np => ⟨p, _, rfl, SqL.of upd_same, ?_⟩⟩
      rw [cutFrom (by decide), drop1]
      obtain ⟨pa, pc⟩ := hs4.new np
      have npH : H p = none := hb4.free np pa
      have kp : ∀ {q : Addr} {o : HO}, H4 q = some o → (upd H4 p (.lst (wr.map V.str))) q = some o := fun e => by rw [upd_ne (ne_of_none e np)]; exact e
      refine for_gen (J := Ite K p) wr.length (fun i σ H' => ∃ (v5 v6 : Option V) (vs : List V) (rs : List Rw), σ = [some (.ref st), some (.int m), some (.ref wl), some (.ref fd), some (.ref ml), v5, v6] ∧ H' fd = some (.lst vs) ∧ Paired (RowV H') vs rs ∧ rs.map (·.1) = w0 :: wr.take i ∧ (∀ r ∈ rs, 0 ≤ r.2 ∧ r.2 ≤ 2) ∧ (w0, 0) ∈ rs ∧
          StAt (B + 30) H' st cl ∧ But st H H' ∧ H' ml = some (.lst (ns.map V.int)) ∧ H' p = some (.lst (wr.map V.str)))
        ⟨none, none, _, [(w0, 0)], rfl, kp h4f, .cons ⟨t0, rfl, kp h4t⟩ .nil, by rw [List.take_zero]; rfl, (fun r hr => by rw [List.mem_singleton.mp hr]; exact ⟨Int.le_refl _, by show (0 : Int) ≤ 2; decide⟩), List.mem_singleton.mpr rfl, hs4.put pa pc, hb4.upd npH, kp h4m, upd_same⟩
        (fun i σ H' hi ⟨_, _, _, _, _, _, _, _, _, _, _, _, _, hp⟩ => ⟨_, .str (wr.getD i ""), SqL.of hp, by rw [List.getElem?_map, List.getElem?_eq_getElem hi, List.getD_eq_getElem?_getD, List.getElem?_eq_getElem hi]; rfl⟩)
        (fun σ H' ⟨_, _, _, _, _, _, _, _, _, _, _, _, _, hp⟩ => ⟨_, SqL.of hp, by rw [List.length_map]; exact Nat.le_refl _⟩) ?_ (fun σ H' ⟨v5, v6, vs, rs, e, hf, hp, hr, hr2, hr0, hs, hb, _⟩ => ⟨v5, v6, vs, rs, e, hf, hp, by rw [hr, List.take_of_length_le (Nat.le_refl _)], hr2, hr0, hs, hb⟩)
      rintro i σ H5 v H6 hi ⟨v5, v6, vs, rs, rfl, hf, hp, hr, hr2, hr0, hs5, hb5, hm5, hp5⟩ ⟨T', x, rfl, nT, rfl, hx⟩
      have hx := hx _ (SqL.of hp5)
      rw [List.getElem?_map, List.getElem?_eq_getElem hi] at hx
      obtain rfl := Option.some.inj hx
      obtain ⟨Ta, Tc⟩ := hs5.new nT
      have nTH : H T' = none := hb5.free nT Ta
      refine ⟨T', [.int (i : Nat), .str wr[i]], rfl, SqT.of upd_same, rfl, .int (i : Nat), [.str wr[i]], rfl, .str wr[i], [], rfl, rfl, ?_⟩
      have hs6 := hs5.put (o := .tup [.int (i : Nat), .str wr[i]]) Ta Tc
      have hb6 := hb5.upd (o := .tup [.int (i : Nat), .str wr[i]]) nTH
      have hf6 : (upd H5 T' (.tup [.int (i : Nat), .str wr[i]])) fd = some (.lst vs) := by rw [upd_ne (ne_of_none hf nT)]; exact hf
      have hm6 : (upd H5 T' (.tup [.int (i : Nat), .str wr[i]])) ml = some (.lst (ns.map V.int)) := by rw [upd_ne (ne_of_none hm5 nT)]; exact hm5
      have hp6 : (upd H5 T' (.tup [.int (i : Nat), .str wr[i]])) p = some (.lst (wr.map V.str)) := by rw [upd_ne (ne_of_none hp5 nT)]; exact hp5
      have hpr : Paired (RowV (upd H5 T' (.tup [.int (i : Nat), .str wr[i]]))) vs rs := Paired.mono (fun _ _ q => q.same (same_upd nT)) hp
      generalize upd H5 T' (.tup [.int (i : Nat), .str wr[i]]) = H6 at hs6 hb6 hf6 hm6 hp6 hpr
      have hin : i < ns.length := by omega
      have hat : atI (ns.map V.int) ((i : Nat) : Int) = some (.int ns[i]) := at_of (j := i) (by omega) (by simp [hin])
      have hvl : vs.length = rs.length := Paired.length hpr
      have hrl : rs.length = i + 1 := by
        have := congrArg List.length hr
        rw [List.length_map, List.length_cons, List.length_take] at this
        omega
      -- what is appended, in any heap that holds these
      have fin : ∀ (H7 : Hp) (z : Int), Same H6 H7 → 0 ≤ z ∧ z ≤ 2 → ∀ q, H7 q = none → ∃ (l : Addr) (xs : List V) (y : V), V.ref fd = .ref l ∧ [V.ref q] = [y] ∧ (upd H7 q (.tup [.str wr[i], .int z])) l = some (.lst xs) ∧ xs.length < sizeLine ∧
          (∃ (v5 v6 : Option V) (vs : List V) (rs : List Rw), [some (V.ref st), some (.int m), some (.ref wl), some (.ref fd), some (.ref ml), some (.int (i : Nat)), some (.str wr[i])] = [some (.ref st), some (.int m), some (.ref wl), some (.ref fd), some (.ref ml), v5, v6] ∧ (upd (upd H7 q (.tup [.str wr[i], .int z])) l (.lst (xs ++ [y]))) fd = some (.lst vs) ∧ Paired (RowV (upd (upd H7 q (.tup [.str wr[i], .int z])) l (.lst (xs ++ [y])))) vs rs ∧ rs.map (·.1) = w0 :: wr.take (i + 1) ∧ (∀ r ∈ rs, 0 ≤ r.2 ∧ r.2 ≤ 2) ∧ (w0, 0) ∈ rs ∧
          StAt (B + 30) (upd (upd H7 q (.tup [.str wr[i], .int z])) l (.lst (xs ++ [y]))) st cl ∧ But st H (upd (upd H7 q (.tup [.str wr[i], .int z])) l (.lst (xs ++ [y]))) ∧ (upd (upd H7 q (.tup [.str wr[i], .int z])) l (.lst (xs ++ [y]))) ml = some (.lst (ns.map V.int)) ∧ (upd (upd H7 q (.tup [.str wr[i], .int z])) l (.lst (xs ++ [y]))) p = some (.lst (wr.map V.str))) := by
        intro H7 z s7 hz q nq
        have hf7 := s7 _ _ hf6
        have qf : q ≠ fd := (ne_of_none hf7 nq).symm
        obtain ⟨qa, qc⟩ := (hs6.same s7).new nq
        have kq : ∀ {a : Addr} {o : HO}, H6 a = some o → a ≠ fd → (upd (upd H7 q (.tup [.str wr[i], .int z])) fd (.lst (vs ++ [.ref q]))) a = some o := fun e n => by rw [upd_ne n, upd_ne (ne_of_none (s7 _ _ e) nq)]; exact s7 _ _ e
        refine ⟨fd, vs, _, rfl, rfl, by rw [upd_ne qf.symm]; exact hf7, by rw [hvl, sizeLine_eq]; omega, _, _, _, rs ++ [(wr[i], z)], rfl, upd_same, ?_, ?_, ?_, ?_, ((hs6.same s7).put qa qc).put fa fc, ((hb6.trans (Same.but s7)).upd (hb6.free (same_free s7 nq) qa)).upd nfdH, kq hm6 mlfd, kq hp6 (ne_of_none h4f np).symm⟩
        · refine Paired.snoc (Paired.mono (fun _ _ q' => ?_) hpr) ⟨q, rfl, by rw [upd_ne qf]; exact upd_same⟩
          obtain ⟨t, e, et⟩ := q'
          exact ⟨t, e, kq et (ne_of et hf6 (by intro z; cases z))⟩
        · rw [List.map_append, hr, List.take_succ_eq_append_getElem hi]
          rfl
        · intro r hr'
          rcases List.mem_append.mp hr' with h | h
          · exact hr2 r h
          · rw [List.mem_singleton.mp h]; exact hz
        · exact List.mem_append_left _ hr0
      refine ⟨_, rfl, .inl ⟨rfl, _, SqL.of hf6⟩, _, rfl, _, rfl, _, rfl, ml, _, _, _, rfl, rfl, SqL.of hm6, hat, ns[i], 2, rfl, rfl, ?_⟩
      have hz := hnm ns[i] (List.getElem_mem hin)
      have val : ∀ H7, Same H6 H7 → ∀ q, H7 q = none → True := fun _ _ _ _ => trivial
      refine ⟨_, rfl, ite2 (fun _ => ?_) (fun _ => ?_)⟩
      · refine iteBt rfl ⟨_, rfl, _, rfl, ml, _, _, _, rfl, rfl, SqL.of hm6, hat, (by show 2 ≤ sizeLine; decide), fun q nq => fin H6 _ (fun b o e => e) hz q nq⟩
      · refine ⟨_, rfl, _, rfl, _, rfl, ml, _, rfl, SqL.of hm6, fun q nq => ?_⟩
        rw [cutTo (by omega), ← List.map_take]
        refine ⟨q, _, rfl, .inl (SqL.of upd_same), rfl, List.all_eq_true.mpr fun y hy => ?_, ?_⟩
        · obtain ⟨z, _, rfl⟩ := List.mem_map.mp hy
          rfl
        have s7 : Same H6 (upd H6 q (.lst ((ns.take (((i : Nat) : Int)).toNat).map V.int))) := same_upd nq
        generalize upd H6 q (.lst ((ns.take (((i : Nat) : Int)).toNat).map V.int)) = H7 at s7
        refine ⟨_, rfl, ite2 (fun _ => ?_) (fun _ => ?_)⟩
        · exact ⟨_, rfl, _, rfl, ml, _, _, _, rfl, rfl, SqL.of (s7 _ _ hm6), hat, (by show 2 ≤ sizeLine; decide), fun q nq => fin H7 _ s7 hz q nq⟩
        · exact ⟨(by show 2 ≤ sizeLine; decide), fun q nq => fin H7 1 s7 ⟨by decide, by decide⟩ q nq⟩
    · rintro σ' H5 ⟨v5, v6, vs, rs, rfl, hf, hp, hr, hr2, hr0, hs5, hb5⟩
      have hl := congrArg List.length hr
      rw [List.length_map, List.length_cons] at hl
      have hv := Paired.length hp
      refine ⟨_, rfl, _, rfl, st, fd, vs, B + 30, cl, rfl, hf, by omega, hs5, by omega, fun l ys H6 nl hperm hl6 hs6 hb6 => ?_⟩
      obtain ⟨ps, hps, hp2⟩ := paired_perm hperm hp
      refine k l ps H6 (hb5.free nl (hs5.new nl).1) ⟨ys, hl6, Paired.mono (fun _ _ q => q.but hs5 hb6) hp2⟩ (RowsOk.perm ⟨by omega, by rw [hr]; exact hwd, fun r hr' => ⟨hwm _ (by rw [← hr]; exact List.mem_map_of_mem hr'), hr2 r hr'⟩, ⟨_, hr0, rfl⟩⟩ hps) (hs6.mono (by omega)) (hb5.trans hb6)
end
end KT

namespace KT
open PySem PySem.Spec PyProof.Rows L2 C8
abbrev sMany : Stmt := top 37
abbrev sLabels : Stmt := top 38
inductive D where
  | fl (x : V)
  | emp
  | sq (xs : List D)
mutual
def sz : D → Nat
  | .fl _ => 1
  | .emp => 1
  | .sq xs => 1 + szs xs
def szs : List D → Nat
  | [] => 0
  | x :: xs => sz x + szs xs
end
def many (rs : List Rw) (z : Str) : Option Int := ((rs ++ [(("keep" : Str), (1 : Int))]).find? fun r => r.1 == z).map (·.2)
mutual
def isT (rs : List Rw) : D → Bool
  | .sq (.fl (.str z) :: cs) => match many rs z with
    | some m => decide ((cs.length : Int) = m) && isTs rs cs
    | none => false
  | _ => false
def isTs (rs : List Rw) : List D → Bool
  | [] => true
  | x :: xs => isT rs x && isTs rs xs
end
def hdOk : List D → Bool
  | .emp :: _ => false
  | _ => true
mutual
/-- v stands for the data d; F: where its lists may stand -/
def DAt (F : Addr → Prop) (H : Hp) : V → D → Prop
  | v, .fl x => v = x ∧ flatV x = true
  | v, .emp => ∃ a, v = .ref a ∧ H a = some (.dK [])
  | v, .sq xs => ∃ a vs, v = .ref a ∧ (H a = some (.tup vs) ∨ (F a ∧ H a = some (.lst vs))) ∧ hdOk xs = true ∧ DAts F H vs xs
def DAts (F : Addr → Prop) (H : Hp) : List V → List D → Prop
  | [], [] => True
  | v :: vs, d :: ds => DAt F H v d ∧ DAts F H vs ds
  | _, _ => False
end
structure Hold (F : Addr → Prop) (H H' : Hp) : Prop where
  tup : ∀ a vs, H a = some (.tup vs) → H' a = some (.tup vs)
  dic : ∀ a, H a = some (.dK []) → H' a = some (.dK [])
  lst : ∀ a vs, F a → H a = some (.lst vs) → H' a = some (.lst vs)
mutual
theorem DAt.hold {F : Addr → Prop} {H H' : Hp} (h : Hold F H H') : ∀ (d : D) {v : V}, DAt F H v d → DAt F H' v d
  | .fl x, _, e => e
  | .emp, _, ⟨a, e, q⟩ => ⟨a, e, h.dic a q⟩
  | .sq xs, _, ⟨a, vs, e, q, o, k⟩ => ⟨a, vs, e, q.imp (h.tup a vs) fun ⟨e, q⟩ => ⟨e, h.lst a vs e q⟩, o, DAts.hold h xs k⟩
theorem DAts.hold {F : Addr → Prop} {H H' : Hp} (h : Hold F H H') : ∀ (ds : List D) {vs : List V}, DAts F H vs ds → DAts F H' vs ds
  | [], [], _ => trivial
  | d :: ds, v :: vs, ⟨k, t⟩ => ⟨DAt.hold h d k, DAts.hold h ds t⟩
  | [], _ :: _, k => k
  | _ :: _, [], k => k
end
mutual
theorem DAt.weak {F G : Addr → Prop} {H : Hp} (h : ∀ a, F a → G a) : ∀ (d : D) {v : V}, DAt F H v d → DAt G H v d
  | .fl x, _, e => e
  | .emp, _, e => e
  | .sq xs, _, ⟨a, vs, e, q, o, k⟩ => ⟨a, vs, e, q.imp id fun ⟨e, q⟩ => ⟨h _ e, q⟩, o, DAts.weak h xs k⟩
theorem DAts.weak {F G : Addr → Prop} {H : Hp} (h : ∀ a, F a → G a) : ∀ (ds : List D) {vs : List V}, DAts F H vs ds → DAts G H vs ds
  | [], [], _ => trivial
  | d :: ds, v :: vs, ⟨k, t⟩ => ⟨DAt.weak h d k, DAts.weak h ds t⟩
  | [], _ :: _, k => k
  | _ :: _, [], k => k
end
/-- tuples alone; lists too, other than this one -/
def nol : Addr → Prop := fun _ => False
def oth (st : Addr) : Addr → Prop := fun a => a ≠ st
theorem Hold.same {F : Addr → Prop} {H H' : Hp} (s : Same H H') : Hold F H H' := ⟨fun a _ => s a _, fun a => s a _, fun a _ _ => s a _⟩
theorem Hold.but {F : Addr → Prop} {B : Nat} {H H' : Hp} {st cl : Addr} (hs : StAt B H st cl) (hb : But st H H') (hF : ∀ a, F a → a ≠ st) : Hold F H H' := by
  obtain ⟨ns, i, c, h0, n, e1, _⟩ := hs
  refine ⟨fun a vs e => hb _ _ e (ne_of e e1 (by intro z; cases z)), fun a e => hb _ _ e (ne_of e e1 (by intro z; cases z)), fun a vs e q => hb _ _ q (hF a e)⟩
abbrev keepR : Rw := ("keep", 1)
def nums (rs : List Rw) : List Rw := rs ++ [keepR]
def labs (rs : List Rw) : List Str := (nums rs).map (·.1)
def kvOf (r : Rw) : Key × V := (Sum.inr r.1, V.int r.2)
theorem labs_nd {rs : List Rw} (h : RowsOk rs) : (labs rs).Nodup := by
  unfold labs nums
  rw [List.map_append]
  refine List.nodup_append.mpr ⟨h.nd, by simp, fun a ha b hb e => ?_⟩
  have hb := List.mem_singleton.mp hb
  subst e hb
  obtain ⟨r, hr, e⟩ := List.mem_map.mp ha
  have := (h.mem r hr).1
  rw [e] at this
  revert this
  decide +kernel
theorem valV_rows (z : Str) : ∀ rs : List Rw, valV (rs.map kvOf) (Sum.inr z) = (rs.find? fun r => r.1 == z).map fun r => V.int r.2
  | [] => rfl
  | r :: rs => by
    rw [List.map_cons, List.find?_cons]
    by_cases e : r.1 = z
    · rw [valV_pos (p := kvOf r) (by show Sum.inr r.1 = _; rw [e]), show (r.1 == z) = true from beq_iff_eq.mpr e]
      rfl
    · rw [valV_neg (p := kvOf r) (by show ¬ (Sum.inr r.1 = (Sum.inr z : Key)); intro h; exact e (Sum.inr.inj h)), show (r.1 == z) = false from beq_eq_false_iff_ne.mpr e]
      exact valV_rows z rs
theorem valV_nums (rs : List Rw) (z : Str) : valV ((nums rs).map kvOf) (Sum.inr z) = (many rs z).map V.int := by
  rw [valV_rows]
  unfold many nums
  rw [Option.map_map]
  rfl
theorem merge_nd : ∀ {more acc : List (Key × V)}, ((acc ++ more).map (·.1)).Nodup → mergeK acc more = acc ++ more
  | [], acc, _ => by rw [List.append_nil]; rfl
  | p :: more, acc, h => by
    have e : putK acc p.1 p.2 = acc ++ [p] := putK_new p.2 (by
      unfold valV
      rw [List.find?_eq_none.mpr fun q hq => ?_]
      · rfl
      · rw [decide_eq_true_eq]
        intro e
        rw [List.map_append, List.nodup_append] at h
        exact h.2.2 _ (List.mem_map_of_mem hq) _ (List.mem_map_of_mem List.mem_cons_self) e)
    show mergeK (putK acc p.1 p.2) more = _
    rw [e, merge_nd (by rw [List.append_assoc]; exact h), List.append_assoc]
    rfl
theorem merge_nums {rs : List Rw} (h : RowsOk rs) : mergeK [] ((nums rs).map kvOf) = (nums rs).map kvOf := by
  refine merge_nd ?_
  rw [List.nil_append, List.map_map]
  have e : (nums rs).map ((·.1) ∘ kvOf) = (labs rs).map (Sum.inr : Str → Key) := by unfold labs; rw [List.map_map]; rfl
  rw [e]
  exact List.Pairwise.map _ (fun a b h e => h (Sum.inr.inj e)) (labs_nd h)
theorem paired_get {α β : Type} {R : α → β → Prop} {xs : List α} {ys : List β} (h : Paired R xs ys) : ∀ {i : Nat} {x : α}, xs[i]? = some x → ∃ y, ys[i]? = some y ∧ R x y := by
  induction h with
  | nil => intro i x e; cases e
  | cons q p ih =>
    intro i x e
    cases i with
    | zero => cases e; exact ⟨_, rfl, q⟩
    | succ i => exact ih e
theorem getD_at {xs : List V} {i : Nat} (h : i < xs.length) : xs[i]? = some (xs.getD i .non) := by rw [List.getD_eq_getElem?_getD, List.getElem?_eq_getElem h] <;> rfl
theorem many_mem {rs : List Rw} (h : RowsOk rs) {r : Rw} (hr : r ∈ nums rs) : many rs r.1 = some r.2 := by
  have nd := labs_nd h
  unfold labs at nd
  unfold many
  show ((nums rs).find? _).map _ = _
  generalize nums rs = l at hr nd
  induction l with
  | nil => cases hr
  | cons q l ih =>
    rw [List.map_cons, List.nodup_cons] at nd
    rw [List.find?_cons]
    rcases List.mem_cons.mp hr with rfl | hr
    · rw [show (r.1 == r.1) = true from beq_self_eq_true _]
      rfl
    · rw [show (q.1 == r.1) = false from beq_eq_false_iff_ne.mpr fun e => nd.1 (by rw [e]; exact List.mem_map_of_mem hr)]
      exact ih hr nd.2
theorem many_lab {rs : List Rw} (h : RowsOk rs) {z : Str} (hz : z ∈ labs rs) : ∃ n, many rs z = some n ∧ 0 ≤ n ∧ n ≤ 2 := by
  obtain ⟨r, hr, rfl⟩ := List.mem_map.mp hz
  refine ⟨r.2, many_mem h hr, ?_⟩
  rcases List.mem_append.mp hr with h' | h'
  · exact (h.mem r h').2
  · rw [List.mem_singleton.mp h']; exact ⟨by decide, by decide⟩
theorem many_some {rs : List Rw} {z : Str} {n : Int} (e : many rs z = some n) : z ∈ labs rs := by
  unfold many at e
  cases e' : ((rs ++ [(("keep" : Str), (1 : Int))]).find? fun r => r.1 == z) with
  | none => rw [e'] at e; cases e
  | some r =>
    have := List.find?_some e'
    have hm := List.mem_of_find?_eq_some e'
    rw [← beq_iff_eq.mp this]
    exact List.mem_map_of_mem hm
def spMany : Sp := fun vs H Q _ => ∃ (l : Addr) (z : Str) (rs : List Rw) (n : Int), vs = [.ref l, .str z] ∧ RowsAt H l rs ∧ RowsOk rs ∧ many rs z = some n ∧ ∀ H', Same H H' → Q (.int n) H'
def spLabels : Sp := fun vs H Q _ => ∃ (l : Addr) (rs : List Rw), vs = [.ref l] ∧ RowsAt H l rs ∧ RowsOk rs ∧ ∀ q H', H q = none → Same H H' → H' q = some (.lst ((labs rs).map V.str)) → Q (.ref q) H'
theorem scMany : FnScope ["_law_rows_here", "_law_label"] ["_law_rows_here", "_law_label"] (fnScope sMany) := fnScope_by (by decide +kernel)
abbrev NLab : List Str := ["_law_rows_here", "_law_label", "_law_many_here"]
theorem scLabels : FnScope NLab ["_law_rows_here"] (fnScope sLabels) := fnScope_by (by decide +kernel)
section
variable {P : Program} {w : World} {K : PySem.W.Frag} {mg : Str → Option Value} {base : Heap}
theorem rows_refs {H : Hp} {vs : List V} {rs : List Rw} (h : Paired (RowV H) vs rs) : ∃ ts : List Addr, vs = ts.map V.ref ∧ Paired (fun t (kv : Key × V) => SqT K H t [kV kv.1, kv.2]) ts (rs.map kvOf) := by
  induction h with
  | nil => exact ⟨[], rfl, .nil⟩
  | cons q _ ih =>
    obtain ⟨ts, rfl, p⟩ := ih
    obtain ⟨t, rfl, e⟩ := q
    exact ⟨t :: ts, rfl, .cons (SqT.of e) p⟩
theorem c_many {f : Addr} {fd : FuncData} (F : Def K mg "_law_many" sMany f fd) (b : Binds K fd ["_law_rows_here", "_law_label"] []) (T : Blt4 mg) : Cal P w K mg base 1 "_law_many" spMany [] := by
  refine cal0 F b .nil scMany (fun vs H Q E h => ?_) (fun cdv A outer s H vs Q E hr h => ?_)
  · obtain ⟨l, z, rs, n, rfl, _⟩ := h
    rfl
  · obtain ⟨l, z, rs, n, rfl, ⟨us, hl, hp⟩, ok, hn, k⟩ := h
    have hu : (A.deeper (envOfC "_law_many" (fnScope sMany) s.heap.objs.size f cdv)).units + 1 < cLine := by have := hr.un; omega
    refine ⟨_, pss_one (ps_ret (pe_dget hu (pe_callTy (call_dictP rfl) (by rfl) T.dic (by decide +kernel) (pa_cons (pe_op op_cat (pe_callTy call_list_of (by rfl) T.list (by decide +kernel) (pa_cons (pv 0) pa_nil)) (pe_lst (pa_cons (pe_tup (pa_cons pe_str (pa_cons pe_int pa_nil))) pa_nil))) pa_nil)) (pv 1) (fun _ _ => rfl))), ?_⟩
    have hlen := Paired.length hp
    have hok := ok.len
    refine ⟨_, rfl, l, us, rfl, .inl (SqL.of hl), fun p np => ⟨(by show 2 ≤ sizeLine; decide), fun t nt => ⟨(by show 1 ≤ sizeLine; decide), fun q nq => ?_⟩⟩⟩
    have s1 : Same H (upd H p (.lst us)) := same_upd np
    have s2 : Same _ _ := s1.trans (same_upd nt (o := .tup [.str "keep", .int 1]))
    have s3 := s2.trans (same_upd nq (o := .lst [.ref t]))
    have tp : t ≠ p := (ne_of_none upd_same nt).symm
    have qt : q ≠ t := (ne_of_none upd_same nq).symm
    have qp : q ≠ p := (ne_of_none (by rw [upd_ne tp.symm]; exact upd_same) nq).symm
    have hp' : (upd (upd (upd H p (.lst us)) t (.tup [.str "keep", .int 1])) q (.lst [.ref t])) p = some (.lst us) := by rw [upd_ne qp.symm, upd_ne tp.symm]; exact upd_same
    have ht' : (upd (upd (upd H p (.lst us)) t (.tup [.str "keep", .int 1])) q (.lst [.ref t])) t = some (.tup [.str "keep", .int 1]) := by rw [upd_ne qt.symm]; exact upd_same
    refine ⟨p, q, us, [.ref t], rfl, rfl, hp', upd_same, by rw [hlen, sizeLine_eq]; simp; omega, fun c nc => ?_⟩
    generalize upd (upd (upd H p (.lst us)) t (.tup [.str "keep", .int 1])) q (.lst [.ref t]) = H1 at s3 hp' ht' nc
    have s4 := s3.trans (same_upd nc (o := .lst (us ++ [.ref t])))
    obtain ⟨ts, ets, pts⟩ := rows_refs (K := K) (H := upd H1 c (.lst (us ++ [.ref t]))) (Paired.mono (fun _ _ q => q.same s4) hp)
    refine ⟨c, ts ++ [t], (nums rs).map kvOf, rfl, SqL.of (by rw [upd_same, ets, List.map_append]; rfl), ?_, fun d nd => ?_⟩
    · unfold nums
      rw [List.map_append]
      exact Paired.snoc pts (SqT.of (by rw [upd_ne (ne_of_none ht' nc)]; exact ht'))
    · refine ⟨.str z, rfl, d, .int n, rfl, ?_, k _ (s4.trans (same_upd nd))⟩
      have g := DGet.k (k := Sum.inr z) (a := d) (H := upd (upd H1 c (.lst (us ++ [.ref t]))) d (.dK (mergeK [] ((nums rs).map kvOf)))) upd_same
      rw [merge_nums ok, valV_nums, hn] at g
      rw [merge_nums ok]
      exact g
theorem c_labels {f : Addr} {fd : FuncData} (F : Def K mg "_law_labels" sLabels f fd) (b : Binds K fd ["_law_rows_here"] []) (T : Blt4 mg) : Cal P w K mg base 1 "_law_labels" spLabels [] := by
  refine cal0 F b .nil scLabels (fun vs H Q E h => ?_) (fun cdv A outer s H vs Q E hr h => ?_)
  · obtain ⟨l, rs, rfl, _⟩ := h
    rfl
  · obtain ⟨l, rs, rfl, ⟨us, hl, hp⟩, ok, k⟩ := h
    have nd := scLabels.nd
    refine ⟨_, pss_one (ps_ret (pe_op op_cat (pe_lc (own := [("_law_label", 1), ("_law_many_here", 2)]) (g := gTup K 2 (gCons (gName 1) (gCons (gName 2) gNil))) (tt := tYes) rfl nd (pi_list (pv 0)) (blkOk_by (N := NLab) (sc := fnScope sLabels) (by decide +kernel))
        (fun _ _ _ _ _ => pg_tup rfl (pgs_cons (pg_name (i := 1) nd rfl (Or.inl rfl)) (pgs_cons (pg_name (i := 2) nd rfl (Or.inl rfl)) pgs_nil))) (fun _ _ _ _ _ => pts_nil) (fun _ _ _ _ _ => pv 1)) (pe_lst (pa_cons pe_str pa_nil)))), ?_⟩
    have hlen := Paired.length hp
    have hok := ok.len
    refine ⟨_, rfl, l, rfl, ⟨us, SqL.of hl⟩, fun D nD => ?_⟩
    refine lc_gen (J := Itl K l) rs.length (fun i H' => H' D = some (.lst ((rs.take i).map fun r => V.str r.1)) ∧ Same H H') ⟨upd_same, same_upd nD⟩ (fun i H' hi ⟨_, sm⟩ => ⟨us, us.getD i .non, SqL.of (sm _ _ hl), by rw [List.getD_eq_getElem?_getD, List.getElem?_eq_getElem (by omega)]; rfl⟩)
      (fun H' ⟨_, sm⟩ => ⟨us, SqL.of (sm _ _ hl), by omega⟩) (fun i H' v H'' hi ⟨hD, sm⟩ yl => ?_) (fun H' ⟨hD, sm⟩ => ?_)
    · obtain ⟨rfl, hx⟩ := yl
      have hx := hx _ (SqL.of (sm _ _ hl))
      obtain ⟨r, hr, t, rfl, ht⟩ := paired_get hp hx
      refine ⟨t, [.str r.1, .int r.2], rfl, SqT.of (sm _ _ ht), rfl, .str r.1, [.int r.2], rfl, .int r.2, [], rfl, rfl, rfl, ?_⟩
      unfold tYes
      dsimp only
      rw [if_pos rfl]
      refine ⟨_, rfl, _, hD, by rw [List.length_map, List.length_take, sizeLine_eq]; omega, ?_, fun b o e => by rw [upd_ne (ne_of_none e nD)]; exact sm _ _ e⟩
      obtain ⟨hlt, e⟩ := List.getElem?_eq_some_iff.mp hr
      rw [upd_same, List.take_succ_eq_append_getElem hlt, List.map_append, e]
      rfl
    · rw [List.take_of_length_le (Nat.le_refl _)] at hD
      refine ⟨(by show 1 ≤ sizeLine; decide), fun q nq => ⟨D, q, _, _, rfl, rfl, by rw [upd_ne (ne_of_none hD nq)]; exact hD, upd_same, by rw [List.length_map, sizeLine_eq]; simp; omega, fun c nc => ?_⟩⟩
      have s2 : Same H _ := sm.trans ((same_upd nq (o := .lst [.str "keep"])).trans (same_upd nc (o := .lst ((rs.map fun r => V.str r.1) ++ [.str "keep"]))))
      refine k c _ (same_free (sm.trans (same_upd nq)) nc) s2 (by rw [upd_same]; unfold labs nums; rw [List.map_append, List.map_append, List.map_map]; rfl)
end
end KT

namespace KT
open PySem PySem.Spec PyProof.Rows L2 C8
abbrev sTree : Stmt := top 39
def manyD (rs : List Rw) (z : Str) : Int := (many rs z).getD 0
theorem manyD_of {rs : List Rw} {z : Str} {n : Int} (e : many rs z = some n) : manyD rs z = n := by unfold manyD; rw [e]; rfl
def spTree (N : Nat) : Sp := fun vs H Q _ => ∃ (st l : Addr) (n : Int) (rs : List Rw) (B : Nat) (cl : Addr), vs = [.ref st, .ref l, .int n] ∧ 1 ≤ n ∧ n ≤ N ∧ n ≤ 1000 ∧ RowsAt H l rs ∧ RowsOk rs ∧ StAt B H st cl ∧ B + 3 * n.toNat < 1000000000000000 ∧
  ∀ (v : V) (t : D) (H' : Hp), DAt nol H' v t → isT rs t = true → (sz t : Int) ≤ 2 * n → StAt (B + 3 * n.toNat) H' st cl → But st H H' → Q v H'
abbrev NTree : List Str := ["_law_state", "_law_rows_here", "_law_nodes", "_law_fits_here", "_law_more", "_law_label", "_law_many_here", "_law_some", "_law_first"]
theorem scTree : FnScope NTree ["_law_state", "_law_rows_here", "_law_nodes"] (fnScope sTree) := fnScope_by (by decide +kernel)
theorem new_tree {F : Addr → Prop} {H : Hp} {p : Addr} {z : Str} {vs : List V} {cs : List D} (np : H p = none) (h : DAts F H vs cs) : DAt F (upd H p (.tup (.str z :: vs))) (.ref p) (.sq (.fl (.str z) :: cs)) :=
  ⟨p, _, rfl, .inl upd_same, rfl, ⟨rfl, rfl⟩, DAts.hold (.same (same_upd np)) cs h⟩
theorem isT_leaf {rs : List Rw} {z : Str} (e : many rs z = some 0) : isT rs (.sq [.fl (.str z)]) = true := by rw [isT, e]; rfl
theorem isT_one {rs : List Rw} {z : Str} {t : D} (e : many rs z = some 1) (h : isT rs t = true) : isT rs (.sq [.fl (.str z), t]) = true := by
  rw [isT, e]
  show (_ && isTs rs [t]) = true
  rw [isTs, isTs, h]
  rfl
theorem isT_two {rs : List Rw} {z : Str} {t u : D} (e : many rs z = some 2) (h : isT rs t = true) (h' : isT rs u = true) : isT rs (.sq [.fl (.str z), t, u]) = true := by
  rw [isT, e]
  show (_ && isTs rs [t, u]) = true
  rw [isTs, isTs, isTs, h, h']
  rfl
section
variable {P : Program} {w : World} {K : PySem.W.Frag} {mg : Str → Option Value} {base : Heap}
theorem tree_step {k : Nat} {N : Nat} {f : Addr} {fd : FuncData} (F : Def K mg "_law_tree" sTree f fd) (b : Binds K fd ["_law_state", "_law_rows_here", "_law_nodes"] []) (T : Blt4 mg) (hk : 2 ≤ k) (C : Cal P w K mg base 1 "_law_take" spTake []) (CO : Cal P w K mg base 2 "_law_one" spOne [])
    (CL : Cal P w K mg base 1 "_law_labels" spLabels []) (CM : Cal P w K mg base 1 "_law_many" spMany []) (CT : Cal P w K mg base k "_law_tree" (spTree N) []) : Cal P w K mg base (k + 1) "_law_tree" (spTree (N + 1)) [] := by
  refine cal0 F b .nil scTree (fun vs H Q E h => ?_) (fun cdv A outer s H vs Q E hr h => ?_)
  · obtain ⟨st, l, n, rs, B, cl, rfl, _⟩ := h
    rfl
  · obtain ⟨st, l, n, rs, B, cl, rfl, n0, n1, n9, hR, ok, hst, hB, k⟩ := h
    have nd := scTree.nd
    have hu : (A.deeper (envOfC "_law_tree" (fnScope sTree) s.heap.objs.size f cdv)).units + 64 < cLine := by have := hr.un; omega
    refine ⟨_, pss_cut (ps_setLc (i := 3) (own := [("_law_label", 5)]) (g := gName 5) rfl nd rfl rfl (by rfl) (pi_list (pe_c CL hr (by omega) (by rfl) (pa_cons (pv 1) pa_nil))) (blkOk_by (N := NTree) (sc := fnScope sTree) (by decide +kernel)) (fun _ _ _ _ _ => pg_name (i := 5) nd rfl (Or.inl rfl))
          (fun _ _ _ _ _ => pts_one (pt_cmp (pc_lt (pe_c CM hr (by omega) (by rfl) (pa_cons (pv 1) (pa_cons (pv 5) pa_nil))) (pv 2)))) (fun _ _ _ _ _ => pv 5))
      (pss_cut (ps_setLc (i := 4) (own := [("_law_label", 5)]) (g := gName 5) rfl nd rfl rfl (by rfl) (pi_list (pv 3)) (blkOk_by (N := NTree) (sc := fnScope sTree) (by decide +kernel)) (fun _ _ _ _ _ => pg_name (i := 5) nd rfl (Or.inl rfl))
          (fun _ _ _ _ _ => pts_one (pw_and (pt_cmp (pc_gt (pe_c CM hr (by omega) (by rfl) (pa_cons (pv 1) (pa_cons (pv 5) pa_nil))) pe_int)) (pw_and1 (pt_cmpR op_ne (pv 5) pe_str (nomark _)))).pt) (fun _ _ _ _ _ => pv 5))
      (pss_cut (ps_if (pw_and (pt_cmpR (op_neNil hu) (pv 4) (pe_lst pa_nil) (nomark _)) (pw_and1 (pt_cmp (pc_gt (pe_c C hr (by omega) (by rfl) (pa_cons (pv 0) (pa_cons pe_int pa_nil))) pe_int)))).pt
          (pss_one (ps_set (i := 3) nd rfl (Or.inl rfl) (pv 4))) pss_nil)
      (pss_cons (ps_set (i := 5) nd rfl (Or.inl rfl) (pe_c CO hr (by omega) (by rfl) (pa_cons (pv 0) (pa_cons (pv 3) pa_nil))))
      (pss_cons (ps_set (i := 6) nd rfl (Or.inl rfl) (pe_c CM hr (by omega) (by rfl) (pa_cons (pv 1) (pa_cons (pv 5) pa_nil))))
      (pss_cons (ps_if (pt_cmp (pc_eqI (pv 6) pe_int))
          (pss_cons (ps_set (i := 7) nd rfl (Or.inl rfl) (pe_op op_add pe_int (pe_c C hr (by omega) (by rfl) (pa_cons (pv 0) (pa_cons (pe_op op_sub (pv 2) pe_int) pa_nil)))))
          (pss_cons (ps_set (i := 8) nd rfl (Or.inl rfl) (pe_c CT hr (Nat.le_refl _) (by rfl) (pa_cons (pv 0) (pa_cons (pv 1) (pa_cons (pv 7) pa_nil)))))
          (pss_one (ps_ret (pe_tup (pa_cons (pv 5) (pa_cons (pv 8) (pa_cons (pe_c CT hr (Nat.le_refl _) (by rfl) (pa_cons (pv 0) (pa_cons (pv 1) (pa_cons (pe_op op_sub (pe_op op_sub (pv 2) pe_int) (pv 7)) pa_nil)))) pa_nil))))))))
          pss_nil)
      (pss_one (ps_ret (pe_ifExp (pt_cmp (pc_eqI (pv 6) pe_int)) (pe_tup (pa_cons (pv 5) pa_nil))
          (pe_tup (pa_cons (pv 5) (pa_cons (pe_c CT hr (Nat.le_refl _) (by rfl) (pa_cons (pv 0) (pa_cons (pv 1) (pa_cons (pe_op op_sub (pv 2) pe_int) pa_nil)))) pa_nil))))))))))), ?_⟩
    have hla : (labs rs).length ≤ 15 := by unfold labs nums; rw [List.length_map, List.length_append]; have := ok.len; simp; omega
    let pf : Str → Bool := fun z => decide (manyD rs z < n)
    -- what fits
    refine ⟨fun σ H' => ∃ ft : Addr, σ = [some (.ref st), some (.ref l), some (.int n), some (.ref ft), none, none, none, none, none] ∧ H' ft = some (.lst (((labs rs).filter pf).map V.str)) ∧ H ft = none ∧ Same H H', ?_, ?_⟩
    · refine ⟨_, rfl, l, rs, rfl, hR, ok, fun q H1 nq s1 hq => ⟨q, rfl, ⟨_, SqL.of hq⟩, fun Da nDa => ?_⟩⟩
      have nDH : H Da = none := same_free s1 nDa
      refine lc_gen (J := Itl K q) (labs rs).length (fun i H' => H' Da = some (.lst ((((labs rs).take i).filter pf).map V.str)) ∧ Same H1 H') ⟨upd_same, same_upd nDa⟩ (fun i H' hi ⟨_, sm⟩ => ⟨_, .str (labs rs)[i], SqL.of (sm _ _ hq), by rw [List.getElem?_map, List.getElem?_eq_getElem hi]; rfl⟩)
        (fun H' ⟨_, sm⟩ => ⟨_, SqL.of (sm _ _ hq), by rw [List.length_map]; exact Nat.le_refl _⟩) (fun i H' v H'' hi ⟨hD, sm⟩ yl => ?_) (fun H' ⟨hD, sm⟩ => ⟨Da, rfl, by rw [hD, List.take_of_length_le (Nat.le_refl _)], nDH, s1.trans sm⟩)
      obtain ⟨rfl, hx⟩ := yl
      have hx := hx _ (SqL.of (sm _ _ hq))
      rw [List.getElem?_map, List.getElem?_eq_getElem hi] at hx
      obtain rfl := Option.some.inj hx
      obtain ⟨m, hm, _⟩ := many_lab ok (List.getElem_mem hi)
      refine ⟨rfl, _, rfl, _, rfl, l, (labs rs)[i], rs, m, rfl, hR.same (s1.trans sm), ok, hm, fun H3 s3 => ⟨_, rfl, m, n, rfl, rfl, _, rfl, ?_⟩⟩
      have hpf : pf (labs rs)[i] = decide (m < n) := by show decide (manyD rs (labs rs)[i] < n) = _; rw [manyD_of hm]
      have tk : ((labs rs).take (i + 1)).filter pf = ((labs rs).take i).filter pf ++ (if decide (m < n) = true then [(labs rs)[i]] else []) := by
        rw [List.take_succ_eq_append_getElem hi, List.filter_append, List.filter_cons, hpf]
        rfl
      have hD3 := s3 _ _ hD
      refine ite2 (fun c => ?_) (fun c => ?_)
      · rw [if_pos c] at tk
        refine ⟨_, rfl, _, hD3, ?_, ?_, fun b o e => by rw [upd_ne (ne_of_none e nDa)]; exact s3 _ _ (sm _ _ e)⟩
        · rw [List.length_map, sizeLine_eq]
          have := List.length_filter_le pf ((labs rs).take i)
          have := List.length_take_le i (labs rs)
          omega
        · rw [upd_same, tk, List.map_append]
          rfl
      · rw [if_neg c, List.append_nil] at tk
        exact ⟨by rw [tk]; exact hD3, sm.trans s3⟩
    rintro σ' H1 ⟨ft, rfl, hf, nft, s1⟩
    have hfs : ∀ z ∈ (labs rs).filter pf, ∃ m, many rs z = some m ∧ 0 ≤ m ∧ m ≤ 2 ∧ m < n := fun z hz => by
      obtain ⟨h1, h2⟩ := List.mem_filter.mp hz
      obtain ⟨m, hm, m0, m2⟩ := many_lab ok h1
      have h2 : decide (manyD rs z < n) = true := h2
      rw [manyD_of hm] at h2
      exact ⟨m, hm, m0, m2, of_decide_eq_true h2⟩
    have hlf : ((labs rs).filter pf).length ≤ 15 := Nat.le_trans (List.length_filter_le _ _) hla
    have hne : (labs rs).filter pf ≠ [] := by
      obtain ⟨r, hr, r0⟩ := ok.leaf
      have hm := many_mem ok (r := r) (List.mem_append_left _ hr)
      have : r.1 ∈ (labs rs).filter pf := List.mem_filter.mpr ⟨List.mem_map_of_mem (List.mem_append_left _ hr), by show decide (manyD rs r.1 < n) = true; rw [manyD_of hm, r0]; exact decide_eq_true (by omega)⟩
      intro e
      rw [e] at this
      cases this
    generalize (labs rs).filter pf = fs at hf hfs hlf hne
    -- what grows
    refine ⟨fun σ H' => ∃ (mr : Addr) (ms : List Str), σ = [some (.ref st), some (.ref l), some (.int n), some (.ref ft), some (.ref mr), none, none, none, none] ∧ H' mr = some (.lst (ms.map V.str)) ∧ (∀ z ∈ ms, z ∈ fs) ∧ ms.length ≤ 15 ∧ H mr = none ∧ Same H1 H', ?_, ?_⟩
    · refine ⟨_, rfl, ft, rfl, ⟨_, SqL.of hf⟩, fun Da nDa => ?_⟩
      have nDH : H Da = none := same_free s1 nDa
      refine lc_gen (J := Itl K ft) fs.length (fun i H' => ∃ ms : List Str, H' Da = some (.lst (ms.map V.str)) ∧ (∀ z ∈ ms, z ∈ fs) ∧ ms.length ≤ i ∧ Same H1 H') ⟨[], upd_same, (fun z hz => by cases hz), Nat.le_refl _, same_upd nDa⟩ (fun i H' hi ⟨_, _, _, _, sm⟩ => ⟨_, .str fs[i], SqL.of (sm _ _ hf), by rw [List.getElem?_map, List.getElem?_eq_getElem hi]; rfl⟩)
        (fun H' ⟨_, _, _, _, sm⟩ => ⟨_, SqL.of (sm _ _ hf), by rw [List.length_map]; exact Nat.le_refl _⟩) (fun i H' v H'' hi ⟨ms, hD, hms, hml, sm⟩ yl => ?_) (fun H' ⟨ms, hD, hms, hml, sm⟩ => ⟨Da, ms, rfl, hD, hms, by omega, nDH, sm⟩)
      obtain ⟨rfl, hx⟩ := yl
      have hx := hx _ (SqL.of (sm _ _ hf))
      rw [List.getElem?_map, List.getElem?_eq_getElem hi] at hx
      obtain rfl := Option.some.inj hx
      obtain ⟨m, hm, _⟩ := hfs _ (List.getElem_mem hi)
      refine ⟨rfl, _, rfl, _, rfl, l, fs[i], rs, m, rfl, hR.same (s1.trans sm), ok, hm, fun H3 s3 => ⟨m, 0, rfl, rfl, _, rfl, ?_⟩⟩
      have hD3 := s3 _ _ hD
      have no : ∃ ms : List Str, H3 Da = some (.lst (ms.map V.str)) ∧ (∀ z ∈ ms, z ∈ fs) ∧ ms.length ≤ i + 1 ∧ Same H1 H3 := ⟨ms, hD3, hms, by omega, sm.trans s3⟩
      refine ite2 (fun _ => ?_) (fun _ => iteF no)
      refine ⟨_, rfl, rfl, _, rfl, ?_⟩
      refine ite2 (fun _ => ?_) (fun _ => no)
      refine ⟨_, rfl, _, hD3, by rw [List.length_map, sizeLine_eq]; omega, ms ++ [fs[i]], by rw [upd_same, List.map_append]; rfl, fun z hz => ?_, by simp; omega, fun b o e => by rw [upd_ne (ne_of_none e nDa)]; exact s3 _ _ (sm _ _ e)⟩
      rcases List.mem_append.mp hz with h | h
      · exact hms z h
      · rw [List.mem_singleton.mp h]; exact List.getElem_mem hi
    rintro σ' H2 ⟨mr, ms, rfl, hm, hms, hml, nmr, s2⟩
    have s12 := s1.trans s2
    have hst2 := hst.same s12
    -- which of the two
    refine ⟨fun σ H' => ∃ (g : Addr) (gs : List Str) (v4 : Option V), σ = [some (.ref st), some (.ref l), some (.int n), some (.ref g), v4, none, none, none, none] ∧ H' g = some (.lst (gs.map V.str)) ∧ gs ≠ [] ∧ gs.length ≤ 15 ∧ (∀ z ∈ gs, z ∈ fs) ∧ g ≠ st ∧ StAt (B + 1) H' st cl ∧ But st H H', ?_, ?_⟩
    · have fst : ft ≠ st := (hst.new nft).1
      have mst : mr ≠ st := (hst.new nmr).1
      refine ⟨_, rfl, (by show 0 ≤ sizeLine; decide), fun p np => ⟨mr, p, _, rfl, rfl, SqL.of (by rw [upd_ne (ne_of_none hm np)]; exact hm), SqL.of upd_same, _, rfl, ?_⟩⟩
      have s3 : Same H2 (upd H2 p (.lst [])) := same_upd np
      generalize upd H2 p (.lst []) = H3 at s3
      have stay : ∀ H4, But st H3 H4 → StAt (B + 1) H4 st cl → ∃ (g : Addr) (gs : List Str) (v4 : Option V), ([some (V.ref st), some (.ref l), some (.int n), some (.ref ft), some (.ref mr), none, none, none, none] : L2.St) = [some (.ref st), some (.ref l), some (.int n), some (.ref g), v4, none, none, none, none] ∧ H4 g = some (.lst (gs.map V.str)) ∧ gs ≠ [] ∧ gs.length ≤ 15 ∧ (∀ z ∈ gs, z ∈ fs) ∧ g ≠ st ∧ StAt (B + 1) H4 st cl ∧ But st H H4 :=
        fun H4 b4 t4 => ⟨ft, fs, _, rfl, b4 _ _ (s3 _ _ (s2 _ _ hf)) fst, hne, hlf, fun z hz => hz, fst, t4, (Same.but (s12.trans s3)).trans b4⟩
      refine ite2 (fun c => ?_) (fun _ => ?_)
      · refine ⟨_, rfl, st, 8, B, cl, rfl, by decide, by decide, hst2.same s3, by omega, fun d H4 _ _ hs4 hb4 => ⟨d, 0, rfl, rfl, _, rfl, ite2 (fun _ => ⟨_, rfl, ?_⟩) (fun _ => stay H4 hb4 hs4)⟩⟩
        refine ⟨mr, ms, _, rfl, hb4 _ _ (s3 _ _ hm) mst, ?_, hml, hms, mst, hs4, (Same.but (s12.trans s3)).trans hb4⟩
        intro e
        rw [e] at c
        cases c
      · exact iteF (stay H3 .refl ((hst2.same s3).mono (by omega)))
    rintro σ' H3 ⟨g, gs, v4, rfl, hg, gne, gl, hgs, gst, hs3, hb3⟩
    have hgl : 0 < gs.length := List.length_pos_iff.mpr gne
    refine ⟨_, rfl, _, rfl, st, g, gs.map V.str, B + 1, cl, rfl, .inl hg, gst, by rw [List.length_map]; exact hgl, by rw [List.length_map]; omega, hs3, by omega, fun v H4 hv hs4 hb4 => ?_⟩
    obtain ⟨z, hz, rfl⟩ := List.mem_map.mp hv
    obtain ⟨m, hmz, m0, m2, mn⟩ := hfs z (hgs z hz)
    have hb := hb3.trans hb4
    refine ⟨_, rfl, _, rfl, l, z, rs, m, rfl, hR.but hst hb, ok, hmz, fun H5 s5 => ?_⟩
    have hs5 := hs4.same s5
    have hb5 := hb.trans (Same.but s5)
    have hR5 := hR.but hst hb5
    refine ⟨_, rfl, m, 2, rfl, rfl, _, rfl, ite2 (fun c => ?_) (fun c => ?_)⟩
    · obtain rfl : m = 2 := of_decide_eq_true c
      refine ⟨_, rfl, _, rfl, n, 2, rfl, rfl, st, n - 2, B + 1 + 1, cl, rfl, by omega, by omega, hs5, by omega, fun d H6 d0 d1 hs6 hb6 => ⟨1, d, rfl, rfl, ?_⟩⟩
      have hb06 := hb5.trans hb6
      refine ⟨_, rfl, _, rfl, _, rfl, st, l, 1 + d, rs, B + 1 + 1 + 1, cl, rfl, by omega, by omega, by omega, hR.but hst hb06, ok, hs6, by omega, fun v1 t1 H7 k1 i1 z1 hs7 hb7 => ?_⟩
      have hb07 := hb06.trans hb7
      refine ⟨_, rfl, _, rfl, _, rfl, _, rfl, _, rfl, n, 1, rfl, rfl, _, rfl, n - 1, 1 + d, rfl, rfl, st, l, n - 1 - (1 + d), rs, _, cl, rfl, by omega, by omega, by omega, hR.but hst hb07, ok, hs7, by omega, fun v2 t2 H8 k2 i2 z2 hs8 hb8 => ⟨(by show 3 ≤ sizeLine; decide), fun p np => ?_⟩⟩
      obtain ⟨pa, pc⟩ := hs8.new np
      refine k _ _ _ (new_tree np (cs := [t1, t2]) ⟨DAt.hold (.but hs7 hb8 fun _ h => h.elim) _ k1, k2, trivial⟩) (isT_two hmz i1 i2) ?_ ((hs8.mono (by omega)).put pa pc) ((hb07.trans hb8).trans (Same.but (same_upd np)))
      show ((1 + (1 + (sz t1 + (sz t2 + 0))) : Nat) : Int) ≤ _
      omega
    · have c : m ≠ 2 := fun e => c (decide_eq_true e)
      refine ⟨_, rfl, m, 0, rfl, rfl, _, rfl, ite2 (fun c0 => ?_) (fun c0 => ?_)⟩
      · obtain rfl : m = 0 := of_decide_eq_true c0
        refine ⟨_, rfl, (by show 1 ≤ sizeLine; decide), fun p np => ?_⟩
        obtain ⟨pa, pc⟩ := hs5.new np
        refine k _ _ _ (new_tree np (cs := []) trivial) (isT_leaf hmz) ?_ ((hs5.mono (by omega)).put pa pc) (hb5.trans (Same.but (same_upd np)))
        show ((1 + (1 + 0) : Nat) : Int) ≤ _
        omega
      · have c0 : m ≠ 0 := fun e => c0 (decide_eq_true e)
        obtain rfl : m = 1 := by omega
        refine ⟨_, rfl, _, rfl, _, rfl, _, rfl, n, 1, rfl, rfl, st, l, n - 1, rs, B + 1 + 1, cl, rfl, by omega, by omega, by omega, hR5, ok, hs5, by omega, fun v1 t1 H7 k1 i1 z1 hs7 hb7 => ⟨(by show 2 ≤ sizeLine; decide), fun p np => ?_⟩⟩
        obtain ⟨pa, pc⟩ := hs7.new np
        refine k _ _ _ (new_tree np (cs := [t1]) ⟨k1, trivial⟩) (isT_one hmz i1) ?_ ((hs7.mono (by omega)).put pa pc) ((hb5.trans hb7).trans (Same.but (same_upd np)))
        show ((1 + (1 + (sz t1 + 0)) : Nat) : Int) ≤ _
        omega
theorem c_tree {f : Addr} {fd : FuncData} (F : Def K mg "_law_tree" sTree f fd) (b : Binds K fd ["_law_state", "_law_rows_here", "_law_nodes"] []) (T : Blt4 mg) (C : Cal P w K mg base 1 "_law_take" spTake []) (CO : Cal P w K mg base 2 "_law_one" spOne [])
    (CL : Cal P w K mg base 1 "_law_labels" spLabels []) (CM : Cal P w K mg base 1 "_law_many" spMany []) : ∀ N : Nat, Cal P w K mg base (3 + N) "_law_tree" (spTree N) []
  | 0 => by
    have no : ∀ {vs H Q E}, spTree 0 vs H Q E → False := fun ⟨_, _, n, _, _, _, _, h1, h2, _⟩ => by omega
    exact cal0 F b .nil scTree (fun vs H Q E h => (no h).elim) (fun cdv A outer s H vs Q E hr h => (no h).elim)
  | N + 1 => tree_step F b T (Nat.le_trans (by decide) (Nat.le_add_right 3 N)) C CO CL CM (c_tree F b T C CO CL CM N)
end
end KT

/-! for i, x in enumerate(a tuple); a walk over a list or a tuple -/
namespace XE
open PySem PySem.Spec PySem.W PyProof.Rows L2
theorem enum_new {v : Value} {o : Obj} {B0 : Heap → Prop} (B : Begins v o B0) :
    Meets (Builtin.«enumerate.__new__» ⟨[.type "enumerate", v], []⟩) (fun _ R s => B0 s.heap ∧ R (.ok (.ret (.ref (s.heap.push o).objs.size)))
      { s with heap := (s.heap.push o).push { cls := .type "enumerate", data := .fields #[.none, .bool false, .ref s.heap.objs.size, rawInt 0, .none, .none] } }) :=
  .of_wp fun prog w A R s hh => by
    obtain ⟨hp, ge, dr, tk, os⟩ := s
    obtain ⟨hb, hh⟩ := hh
    have hsb := sub_enumerate
    have go : ∀ {A' : Around} {E Q : Value → Shared → Prop}, Q (.ref hp.objs.size) ⟨hp.push o, ge, dr, tk, os⟩ → wpAny (model prog w) A' (pyIter v) Q E ⟨hp, ge, dr, tk, os⟩ := fun q => B.iter prog w _ _ ⟨hp, ge, dr, tk, os⟩ _ hb q
    wp_walk using go
    refine wpAny_stack_any fun st => wpAny_pure ?_
    split
    · rename_i cc _ _ _ _ _
      cases (cc == Value.type "enumerate") <;> (wp_walk using go; exact ⟨_, rfl, hh⟩)
    · wp_walk using go
      exact ⟨_, rfl, hh⟩
section
variable {prog : Program} {w : World} {A : Around} {E : Value → Shared → Prop} {s : Shared}
theorem enum_call {v : Value} {o : Obj} {B0 : Heap → Prop} {Q : Value → Shared → Prop} (B : Begins v o B0) (hb : B0 s.heap)
    (hq : ∀ h', IsEnum h' (s.heap.objs.size + 1) s.heap.objs.size 0 .none → h'.get? s.heap.objs.size = some o → (∀ b ob, s.heap.get? b = some ob → h'.get? b = some ob) → Q (.ref (s.heap.objs.size + 1)) { s with heap := h' }) :
    wpAny (model prog w) A (call (.type "enumerate") [v]) Q E s := by
  refine callType_new F.called_enumerate (by decide) (F.typeCall_enumerate_1 _) (F.newCall_enumerate_1 _) (fun obj => F.args_object_init_2 obj _) F.entry_enumerate_new (enum_new B) ⟨hb, ?_⟩
  have z1 : (s.heap.push o).objs.size = s.heap.objs.size + 1 := Heap.size_push ..
  show _ ∧ _
  rw [z1]
  have z2 := Heap.get?_push_size (s.heap.push o) (o := { cls := .type "enumerate", data := .fields #[.none, .bool false, .ref s.heap.objs.size, rawInt 0, .none, .none] }) rfl
  rw [z1] at z2
  exact ⟨⟨_, z2, rfl⟩, hq _ z2 (Heap.get?_push_of_some _ (Heap.get?_push_size _ B.free)) fun b ob x => Heap.get?_push_of_some _ (Heap.get?_push_of_some _ x)⟩
theorem enum_endT {e it t : Addr} {i : Nat} {c : Int} {items : Array Value} {old : Value} {Q : Option Value → Shared → Prop} (h0 : A.in1.handled = none) (k1 : IsEnum s.heap e it c old) (k2 : s.heap.IsTupleIter it t i) (pt : s.heap.IsTuple t items) (hx : items[i]? = none)
    (hq : ∀ h', Heap.ExtBut it s.heap h' → Q none { s with heap := h' }) : wpAny (model prog w) A (pyNext (.ref e)) Q E s := by
  have ty : s.TypeIs (.ref e) "enumerate" := ⟨_, k1, rfl⟩
  unfold pyNext
  refine wpAny_bind (wpAny_attempt (wpAny_callSpecial?_slot (name := Str.ofString "__next__") ty F.slot_enumerate_next (wpAny_call_entry F.slot_enumerate_next ty F.entry_enumerate_next ?_ (F.args_enumerate_next_1 _))))
  show wpAny _ _ (field (.ref e) 2 >>= _) _ _ _
  refine wpAny_bind (wpAny_field k1 rfl (x := .ref it) rfl ?_)
  refine wpAny_bind (wpAny_nextOf_tuple_end h0 k2 pt hx fun h' y he' hx' => ?_)
  obtain ⟨o, ho, hc⟩ := hx'
  exact wpAny_bind (wpAny_isInstance (T := "StopIteration") (b := true) ⟨o, ho, hc⟩ isSubtype_stop (wpAny_pure (hq _ he')))
end
/-- the tuple at a, each item in a new pair with its number -/
def IteT (K : PySem.W.Frag) (a : Addr) : It :=
  ⟨fun i H => ∃ (xs : List V) (x : V), SqT K H a xs ∧ xs[i]? = some x,
    fun i H v H' => ∃ T x, v = .ref T ∧ H T = none ∧ H' = upd H T (.tup [.int (i : Nat), x]) ∧ ∀ xs, SqT K H a xs → xs[i]? = some x,
    fun i H => ∃ xs : List V, SqT K H a xs ∧ xs.length ≤ i⟩
theorem turn_enumT {P : Program} {w : World} {K : PySem.W.Frag} {elts : List Expr} {kk : Nat} {tpos : Pos} (a e it : Addr) :
    Turn P w K (.Tuple elts kk tpos) (IteT K a) [e, it] e (fun i h => (∃ old, IsEnum h e it ((i : Nat) : Int) old) ∧ h.IsTupleIter it a i ∧ e ≠ it ∧ a ≠ it ∧ e ≠ a) where
  mem := by simp
  obj := fun i h st b hb => by
    obtain ⟨⟨old, k1⟩, ⟨o, ho, hc, hd⟩, _⟩ := st
    rcases List.mem_cons.mp hb with rfl | hb
    · exact ⟨_, k1, fun v q => nomatch q⟩
    · obtain rfl := List.mem_singleton.mp hb
      exact ⟨o, ho, fun v q => by rw [hd] at q; cases q⟩
  keep := fun i h h' st k => by
    obtain ⟨⟨old, k1⟩, k2, k3⟩ := st
    exact ⟨⟨old, k e (by simp) _ k1⟩, k2.at fun o q => k it (by simp) o q, k3⟩
  item := by
    intro X hP hw hK hc i pins s σ H E I hf st hg
    subst hP hw hK
    obtain ⟨⟨old, k1⟩, k2, k3, k4, k5⟩ := st
    obtain ⟨xs, x, hq, hx⟩ := hg
    obtain ⟨its, rv, pt, hz⟩ := I.tuple hq
    obtain ⟨u, hu, ru⟩ := rv.get hx
    have l1 : e < s.heap.objs.size := Heap.lt_size k1
    have l2 : it < s.heap.objs.size := by obtain ⟨_, q, _⟩ := k2; exact Heap.lt_size q
    have lu : i < its.toArray.size := by rw [List.size_toArray]; exact (List.getElem?_eq_some_iff.mp hu).1
    refine wpAny_pyNext_enum_itemD (Draws.tuple (A := X.A.in1) (show X.A.in1.handled = none from I.ok.hd hc) it a k4 its.toArray) k1 ⟨k2, pt⟩ lu k3 (by simp [k3, k5]) fun y h' tk hy ho st' hT hsz hk => ?_
    obtain rfl : u = y := by
      have : its.toArray[i]? = some u := by simpa using hu
      rw [this] at hy
      exact Option.some.inj hy
    refine ⟨_, rfl, wpAny_letOwnedTupleGo_enum (s := { s with heap := h', toks := tk + 1 }) ho fun h'' he' sb => ?_⟩
    have hT2 : h''.get? s.heap.objs.size = some { cls := .type "tuple", data := .seq #[.int i tk, u] } := (sb.2 _ (Nat.ne_of_gt l1)).trans hT
    have nw : ObjOk X.prog X.w (upd H s.heap.objs.size (.tup [.int (i : Nat), x])) h'' s.heap.objs.size (.tup [.int (i : Nat), x]) :=
      ⟨by show 2 ≤ sizeLine; decide, [.int i tk, u], .cons ⟨_, rfl⟩ (.cons ru .nil), ⟨_, hT2, rfl, _, rfl⟩⟩
    have I1 : Inv X pins σ (upd H s.heap.objs.size (.tup [.int (i : Nat), x])) { s with heap := h'', toks := tk + 1 } :=
      I.turnedNew (ch := [e, it]) (fun b ob hb q => (sb.2 b (fun z => hb (by simp [z]))).trans (hk b ob (fun z => hb (by simp [z])) (fun z => hb (by simp [z])) q)) hf (Nat.le_refl _) nw
    refine ⟨.ref s.heap.objs.size, _, I1, rfl, ⟨_, x, rfl, I.hok.fresh (Nat.le_refl _), rfl, fun ys hy => by rw [I.tuple_inj hy hq]; exact hx⟩, ⟨⟨u, ?_⟩, st'.1.at fun o q => (sb.2 it (Ne.symm k3)).trans q, k3, k4, k5⟩, fun b hb => ?_⟩
    · rw [show ((i + 1 : Nat) : Int) = (i : Int) + 1 by omega]
      exact he'
    · have hb' : b < s.heap.objs.size := by
        rcases List.mem_cons.mp hb with rfl | hb
        · exact l1
        · obtain rfl := List.mem_singleton.mp hb
          exact l2
      rw [upd_ne (Nat.ne_of_lt hb')]
      exact (hf b hb).1
  done := by
    intro X hP hw hK hc i pins s σ H E I hf st hg
    subst hP hw hK
    obtain ⟨⟨old, k1⟩, k2, k3, k4, k5⟩ := st
    obtain ⟨xs, hq, hx⟩ := hg
    obtain ⟨its, rv, pt, hz⟩ := I.tuple hq
    obtain ⟨f0, f1, f2, f3, f4, f5⟩ := hf it (by simp)
    have hl := rv.length
    exact enum_endT (show X.A.in1.handled = none from I.ok.hd hc) k1 k2 pt (by simp; omega) fun h' eb => ⟨rfl, I.turned (t' := s.toks) (fun b o hb q => eb b o hb q) f0 f1 f3 f4 f5⟩
  self := fun A i s Q E st h => by
    obtain ⟨⟨_, k1⟩, _⟩ := st
    exact wpAny_pyIter_enum k1 h
def iEnumT (K : PySem.W.Frag) (ta : TA) : TI := fun σ H R => ta σ H fun vs H1 => ∃ a xs, vs = [.ref a] ∧ SqT K H1 a xs ∧ R (IteT K a) H1
theorem pi_enumT {X : Cx} {e : Expr} {ta : TA} {p pos tpos : Pos} {elts : List Expr} {kk : Nat} (hg : Gl X "enumerate") (hm : X.mg "enumerate" = none) (ha : PA X [e] ta) (hs : starEach [e] X.env = [(false, eval e X.env)] := by rfl) :
    PI X (.Tuple elts kk tpos) (.Call (.Name "enumerate" p) [e] [] pos) (iEnumT X.K ta) := by
  refine ⟨fun pins s σ H R I h => ?_⟩
  refine Call_ (ld_blt I hg hm boot_enumerate (PyProof.Rows.callWith_type1 (thn (ha.run pos pins s σ H _ I h) fun us s1 ⟨vs, H1, I1, r1, q1⟩ => ?_) hs rfl))
  obtain ⟨a, xs, rfl, hq, q⟩ := q1
  cases r1 with
  | cons r rr =>
    cases rr
    cases r
    obtain ⟨its, rv, pt, hz⟩ := I1.tuple hq
    refine enum_call (begins_tuple a its.toArray) pt fun h' he hit hk => wpAny_pyIter_enum he ?_
    have I2 : Inv X pins σ H1 { s1 with heap := h' } := I1.kept (t' := s1.toks) hk
    have al : a < s1.heap.objs.size := by obtain ⟨_, q, _⟩ := pt; exact Heap.lt_size q
    refine ⟨s1.heap.objs.size + 1, [s1.heap.objs.size + 1, s1.heap.objs.size], _, _, H1, rfl, I2, turn_enumT a (s1.heap.objs.size + 1) s1.heap.objs.size, ⟨⟨.none, he⟩, ⟨_, hit, rfl, rfl⟩, Nat.succ_ne_self _, Nat.ne_of_lt al, Ne.symm (Nat.ne_of_lt (Nat.lt_succ_of_lt al))⟩, fun b hb => ?_, q⟩
    have hle : s1.heap.objs.size ≤ b := by
      rcases List.mem_cons.mp hb with rfl | hb
      · exact Nat.le_add_right _ _
      · obtain rfl := List.mem_singleton.mp hb
        exact Nat.le_refl _
    exact I1.fpOk hle (I1.hok.fresh hle)
theorem PI.or {X : Cx} {tg e : Expr} {wi wi' : TI} (h : PI X tg e wi) (h' : PI X tg e wi') : PI X tg e (fun σ H R => wi σ H R ∨ wi' σ H R) := ⟨fun pins s σ H R I q => q.elim (h.run pins s σ H R I) (h'.run pins s σ H R I)⟩
end XE

namespace KT
open PySem PySem.Spec PyProof.Rows L2 C8 XE
def InT : D → List Int → Prop
  | _, [] => True
  | .sq cs, k :: p => 0 ≤ k ∧ ∃ c, cs[k.toNat + 1]? = some c ∧ InT c p
  | _, _ :: _ => False
def PlV (H : Hp) (v : V) (p : List Int) : Prop := ∃ a, v = .ref a ∧ H a = some (.tup (p.map V.int))
theorem PlV.same {H H' : Hp} (s : Same H H') {v : V} {p : List Int} (h : PlV H v p) : PlV H' v p := by
  obtain ⟨a, e, q⟩ := h
  exact ⟨a, e, s _ _ q⟩
/-- a tree: its label, its children -/
theorem isT_inv {rs : List Rw} {t : D} (h : isT rs t = true) : ∃ z cs m, t = .sq (.fl (.str z) :: cs) ∧ many rs z = some m ∧ (cs.length : Int) = m ∧ isTs rs cs = true := by
  unfold isT at h
  split at h
  · rename_i z cs
    split at h
    · rename_i m hm
      rw [Bool.and_eq_true] at h
      exact ⟨z, cs, m, rfl, hm, of_decide_eq_true h.1, h.2⟩
    · cases h
  · cases h
theorem isTs_get {rs : List Rw} : ∀ {cs : List D}, isTs rs cs = true → ∀ {i : Nat} {c : D}, cs[i]? = some c → isT rs c = true
  | [], _, i, c, e => by cases e
  | x :: xs, h, i, c, e => by
    rw [isTs, Bool.and_eq_true] at h
    cases i with
    | zero => cases e; exact h.1
    | succ i => exact isTs_get h.2 e
theorem szs_get : ∀ {cs : List D} {i : Nat} {c : D}, cs[i]? = some c → sz c ≤ szs cs
  | [], i, c, e => by cases e
  | x :: xs, i, c, e => by
    rw [szs]
    cases i with
    | zero => cases e; omega
    | succ i => have := szs_get (cs := xs) (i := i) e; omega
theorem szs_app : ∀ (a b : List D), szs (a ++ b) = szs a + szs b
  | [], b => by rw [List.nil_append, szs, Nat.zero_add]
  | x :: a, b => by rw [List.cons_append, szs, szs, szs_app a b, Nat.add_assoc]
theorem sz_pos : ∀ d : D, 1 ≤ sz d
  | .fl _ => Nat.le_refl _
  | .emp => Nat.le_refl _
  | .sq xs => by rw [sz]; omega
theorem len_szs : ∀ cs : List D, cs.length ≤ szs cs
  | [] => Nat.le_refl _
  | x :: xs => by rw [szs, List.length_cons]; have := len_szs xs; have := sz_pos x; omega
theorem DAts.len {F : Addr → Prop} {H : Hp} : ∀ {ds : List D} {vs : List V}, DAts F H vs ds → vs.length = ds.length
  | [], [], _ => rfl
  | d :: ds, v :: vs, ⟨_, t⟩ => congrArg (· + 1) (DAts.len t)
  | [], _ :: _, k => (show False from k).elim
  | _ :: _, [], k => (show False from k).elim
theorem DAts.get {F : Addr → Prop} {H : Hp} : ∀ {ds : List D} {vs : List V}, DAts F H vs ds → ∀ {i : Nat} {v : V}, vs[i]? = some v → ∃ d, ds[i]? = some d ∧ DAt F H v d
  | [], [], _, i, v, e => by cases e
  | d :: ds, v :: vs, ⟨k, t⟩, i, v', e => by
    cases i with
    | zero => cases e; exact ⟨d, rfl, k⟩
    | succ i => exact DAts.get t e
  | [], _ :: _, k, _, _, _ => (show False from k).elim
  | _ :: _, [], k, _, _, _ => (show False from k).elim
/-- a tree's cell -/
theorem DAt.tree {rs : List Rw} {H : Hp} {v : V} {t : D} (h : DAt nol H v t) (ht : isT rs t = true) : ∃ a z cvs cs m, v = .ref a ∧ H a = some (.tup (.str z :: cvs)) ∧ t = .sq (.fl (.str z) :: cs) ∧ DAts nol H cvs cs ∧ many rs z = some m ∧ (cs.length : Int) = m ∧ isTs rs cs = true := by
  obtain ⟨z, cs, m, rfl, hm, hl, hs⟩ := isT_inv ht
  obtain ⟨a, vs, rfl, q, _, k⟩ := h
  have q : H a = some (.tup vs) := q.elim id fun e => e.1.elim
  cases vs with
  | nil => exact (show False from k).elim
  | cons v0 cvs =>
    obtain ⟨⟨e, _⟩, k⟩ := k
    subst e
    exact ⟨a, z, cvs, cs, m, rfl, q, rfl, k, hm, hl, hs⟩
theorem paired_app {α β : Type} {R : α → β → Prop} {a c : List α} {b d : List β} (h : Paired R a b) (h' : Paired R c d) : Paired R (a ++ c) (b ++ d) := by
  induction h with
  | nil => exact h'
  | cons q _ ih => exact .cons q ih
theorem not_whole {n : Nat} {i : Int} {o : Option Int} (h : 0 < i) (hn : 0 < n) : ¬ (HT.sIx n 0 (some i) = 0 ∧ HT.sIx n n o = n) := by
  intro z
  have z := z.1
  unfold HT.sIx at z
  dsimp only at z
  rw [if_neg (by omega)] at z
  omega
theorem not_whole_hi {n : Nat} {i : Int} {o : Option Int} (h : 0 ≤ i) (hn : i < n) : ¬ (HT.sIx n 0 o = 0 ∧ HT.sIx n n (some i) = n) := by
  intro z
  have z := z.2
  unfold HT.sIx at z
  dsimp only at z
  rw [if_neg (by omega)] at z
  omega
theorem DAts.app {F : Addr → Prop} {H : Hp} : ∀ {ds es : List D} {vs us : List V}, DAts F H vs ds → DAts F H us es → DAts F H (vs ++ us) (ds ++ es)
  | [], es, [], us, _, h => h
  | d :: ds, es, v :: vs, us, ⟨k, t⟩, h => ⟨k, DAts.app t h⟩
  | [], _, _ :: _, _, k, _ => (show False from k).elim
  | _ :: _, _, [], _, k, _ => (show False from k).elim
theorem DAts.take {F : Addr → Prop} {H : Hp} : ∀ {ds : List D} {vs : List V} (n : Nat), DAts F H vs ds → DAts F H (vs.take n) (ds.take n)
  | _, _, 0, _ => trivial
  | [], [], n + 1, _ => trivial
  | d :: ds, v :: vs, n + 1, ⟨k, t⟩ => ⟨k, DAts.take n t⟩
  | [], _ :: _, _ + 1, k => (show False from k).elim
  | _ :: _, [], _ + 1, k => (show False from k).elim
theorem DAts.drop {F : Addr → Prop} {H : Hp} : ∀ {ds : List D} {vs : List V} (n : Nat), DAts F H vs ds → DAts F H (vs.drop n) (ds.drop n)
  | _, _, 0, k => k
  | [], [], n + 1, _ => trivial
  | d :: ds, v :: vs, n + 1, ⟨_, t⟩ => DAts.drop n t
  | [], _ :: _, _ + 1, k => (show False from k).elim
  | _ :: _, [], _ + 1, k => (show False from k).elim
end KT

namespace KT
open PySem PySem.Spec PyProof.Rows L2 C8 XE
abbrev sLoose : Stmt := top 41
def isSq : D → Bool
  | .sq _ => true
  | _ => false
def isSt : D → Bool
  | .fl (.str _) => true
  | _ => false
theorem d_ty {K : PySem.W.Frag} {F : Addr → Prop} {H : Hp} {v : V} : ∀ {d : D}, DAt F H v d → ∃ T, (∀ H', Same H H' → TyX K H' v (.type T)) ∧ PySem.W.kitAny K (.type T) [.type "list", .type "tuple"] = some (isSq d) ∧ PySem.W.kitOne K (.type T) (.type "str") = some (isSt d) := by
  have z : ∀ T ∈ ["NoneType", "bool", "int", "str", "dict", "list", "tuple"], kitB T "list" = some (T == "list") ∧ kitB T "tuple" = some (T == "tuple") ∧ kitB T "str" = some (T == "str") := by decide +kernel
  have mk : ∀ (T : String) (b c : Bool), T ∈ ["NoneType", "bool", "int", "str", "dict", "list", "tuple"] → (T == "list" || T == "tuple") = b → (T == "str") = c → PySem.W.kitAny K (.type T) [.type "list", .type "tuple"] = some b ∧ PySem.W.kitOne K (.type T) (.type "str") = some c := by
    intro T b c hT e1 e2
    obtain ⟨h1, h2, h3⟩ := z T hT
    refine ⟨kitAny_cons (kit_ty h1) (fun e => ?_) (fun e => ?_), by rw [kit_ty h3, e2]⟩
    · rw [e, Bool.false_or] at e1
      exact kitAny_cons (b := (T == "tuple")) (kit_ty h2) (fun e' => by rw [← e1, e']; exact kitAny_nil) fun e' => by rw [← e1, e']
    · rw [e] at e1
      rw [← e1]; rfl
  intro d h
  cases d with
  | fl x =>
    obtain ⟨rfl, fx⟩ := h
    cases v with
    | non => exact ⟨"NoneType", fun _ _ => .base .non, mk _ _ _ (by decide) rfl rfl⟩
    | bl b => exact ⟨"bool", fun _ _ => .base (.bl b), mk _ _ _ (by decide) rfl rfl⟩
    | int i => exact ⟨"int", fun _ _ => .base (.int i), mk _ _ _ (by decide) rfl rfl⟩
    | str z => exact ⟨"str", fun _ _ => .base (.str z), mk _ _ _ (by decide) rfl rfl⟩
    | _ => cases fx
  | emp =>
    obtain ⟨a, rfl, q⟩ := h
    exact ⟨"dict", fun H' s => .base (.dK (s _ _ q)), mk _ _ _ (by decide) rfl rfl⟩
  | sq xs =>
    obtain ⟨a, vs, rfl, q, _⟩ := h
    rcases q with q | ⟨_, q⟩
    · exact ⟨"tuple", fun H' s => .base (.tup (s _ _ q)), mk _ _ _ (by decide) rfl rfl⟩
    · exact ⟨"list", fun H' s => .base (.lst (s _ _ q)), mk _ _ _ (by decide) rfl rfl⟩
def spLoose (N : Nat) : Sp := fun vs H Q _ => ∃ (st : Addr) (v : V) (d : D) (B : Nat) (cl : Addr), vs = [.ref st, v] ∧ DAt (oth st) H v d ∧ sz d ≤ N ∧ sz d ≤ 1000 ∧ StAt B H st cl ∧ B + sz d < 1000000000000000 ∧
  ∀ (v' : V) (H' : Hp), DAt (fun a => H a = none) H' v' d → StAt (B + sz d) H' st cl → But st H H' → Q v' H'
abbrev NLo : List Str := ["_law_state", "_law_thing", "_law_found", "_law_x"]
theorem scLoose : FnScope NLo ["_law_state", "_law_thing"] (fnScope sLoose) := fnScope_by (by decide +kernel)
theorem szs_take_succ {xs : List D} {i : Nat} (h : i < xs.length) : szs (xs.take (i + 1)) = szs (xs.take i) + sz xs[i] := by
  rw [List.take_succ_eq_append_getElem h, szs_app]
  rfl
theorem szs_take_le (xs : List D) (i : Nat) : szs (xs.take i) ≤ szs xs := by
  have : szs (xs.take i) + szs (xs.drop i) = szs xs := by rw [← szs_app, List.take_append_drop]
  omega
section
variable {P : Program} {w : World} {K : PySem.W.Frag} {mg : Str → Option Value} {base : Heap}
theorem loose_step {k : Nat} {N : Nat} {f : Addr} {fd : FuncData} (F : Def K mg "_law_loose" sLoose f fd) (b : Binds K fd ["_law_state", "_law_thing"] []) (T : Blt4 mg) (hk : 1 ≤ k) (C : Cal P w K mg base 1 "_law_take" spTake []) (CL : Cal P w K mg base k "_law_loose" (spLoose N) []) : Cal P w K mg base (k + 1) "_law_loose" (spLoose (N + 1)) [] := by
  refine cal0 F b .nil scLoose (fun vs H Q E h => ?_) (fun cdv A outer s H vs Q E hr h => ?_)
  · obtain ⟨st, v, d, B, cl, rfl, _⟩ := h
    rfl
  · obtain ⟨st, v, d, B, cl, rfl, hv, h0, h1, hst, hB, kk⟩ := h
    have nd := scLoose.nd
    refine ⟨_, pss_cons (ps_if (pt_val (pe_callB call_isiT (by rfl) T.isi (by decide +kernel) (pa_cons (pv 1) (pa_cons (pe_tup (pa_cons (pe_bt "list" T.list) (pa_cons (pe_bt "tuple" T.tup) pa_nil))) pa_nil))))
        (pss_cut (ps_setLc (i := 2) (own := [("_law_x", 3)]) (g := gName 3) (tt := tYes) rfl nd rfl rfl (by rfl) (PI.or (pi_list (pv 1)) (pi_tup (pv 1))) (blkOk_by (N := NLo) (sc := fnScope sLoose) (by decide +kernel)) (fun _ _ _ _ _ => pg_name (i := 3) nd rfl (Or.inl rfl)) (fun _ _ _ _ _ => pts_nil)
            (fun _ _ _ _ _ => pe_c CL hr (Nat.le_refl _) (by rfl) (pa_cons (pv 0) (pa_cons (pv 3) pa_nil))))
        (pss_one (ps_ret (pe_ifExp (pt_cmp (pc_eqI (pe_c C hr hk (by rfl) (pa_cons (pv 0) (pa_cons pe_int pa_nil))) pe_int)) (pv 2) (pe_callTy call_tuple_of (by rfl) T.tup (by decide +kernel) (pa_cons (pv 2) pa_nil))))))
        pss_nil)
      (pss_one (ps_ret (pv 1))), ?_⟩
    obtain ⟨Ty, ty, k1, _⟩ := d_ty (K := K) hv
    refine ⟨_, rfl, (by show 2 ≤ sizeLine; decide), fun p np => ⟨v, p, [.ty "list", .ty "tuple"], _, _, isSq d, rfl, upd_same, .cons (.ty _) (.cons (.ty _) .nil), ty _ (same_upd np), k1, isSq d, rfl, ?_⟩⟩
    have s1 : Same H (upd H p (.tup [.ty "list", .ty "tuple"])) := same_upd np
    generalize upd H p (.tup [.ty "list", .ty "tuple"]) = H1 at s1
    have hs1 := hst.same s1
    cases d with
    | fl x => exact iteF ⟨_, rfl, kk v H1 (DAt.hold (.same s1) (.fl x) hv) (hs1.mono (by omega)) (Same.but s1)⟩
    | emp => exact iteF ⟨_, rfl, kk v H1 (DAt.hold (.same s1) .emp hv) (hs1.mono (by omega)) (Same.but s1)⟩
    | sq xs =>
      obtain ⟨a, vs, rfl, q, ho, hxs⟩ := hv
      have hlen := hxs.len
      have hll := len_szs xs
      have hsz : sz (.sq xs) = 1 + szs xs := rfl
      rw [hsz] at h0 h1 hB
      refine iteT ?_
      refine ⟨fun σ H' => ∃ (Dd : Addr) (ys : List V), σ = [some (.ref st), some (.ref a), some (.ref Dd), none] ∧ H' Dd = some (.lst ys) ∧ DAts (fun a => H a = none) H' ys xs ∧ StAt (B + szs xs) H' st cl ∧ But st H H' ∧ H Dd = none, ?_, ?_⟩
      · -- the walk, over a list or a tuple
        have walk : ∀ (J : It), (∀ i H', i < xs.length → But st H H' → J.go i H') → (∀ H', But st H H' → J.stop xs.length H') → (∀ i H' x H'', But st H H' → J.yld i H' x H'' → H'' = H' ∧ vs[i]? = some x) → ∀ Da, H1 Da = none →
            ∃ W : Nat → Nat → Hp → Prop, (∃ m, W 0 m (upd H1 Da (.lst []))) ∧ ∀ i m H', W i m H' → (J.stop i H' ∧ gName 2 (.ref Da) (start NLo [V.ref st, V.ref a]) H' fun σ H' => ∃ (Dd : Addr) (ys : List V), σ = [some (.ref st), some (.ref a), some (.ref Dd), none] ∧ H' Dd = some (.lst ys) ∧ DAts (fun a => H a = none) H' ys xs ∧ StAt (B + szs xs) H' st cl ∧ But st H H' ∧ H Dd = none) ∨
              (J.go i H' ∧ ∃ Nx : Hp → Prop, (∀ H'', Nx H'' → ∃ m', m' < m ∧ W (i + 1) m' H'') ∧ ∀ x H'', J.yld i H' x H'' → gName 3 x (wipe (start NLo [V.ref st, V.ref a]) [3]) H'' fun σ2 H2 => wipe σ2 [3] = wipe (start NLo [V.ref st, V.ref a]) [3] ∧ tYes σ2 H2 fun b H3 =>
                if b = true then tCall (spLoose N) [] C8.E0 (tCons (tVar 0) (tCons (tVar 3) tNil)) σ2 H3 fun y H4 => ∃ acc, H4 Da = some (.lst acc) ∧ acc.length < sizeLine ∧ Nx (upd H4 Da (.lst (acc ++ [y]))) else Nx H3) := by
          intro J jgo jst jyl Da nDa
          have nDH : H Da = none := same_free s1 nDa
          obtain ⟨Ds, Dc⟩ := hst.new nDH
          refine lc_gen (J := J) xs.length (fun i H' => ∃ ys, H' Da = some (.lst ys) ∧ DAts (fun a => H a = none ∧ a ≠ Da) H' ys (xs.take i) ∧ StAt (B + szs (xs.take i)) H' st cl ∧ But st H H') ⟨[], upd_same, trivial, (hs1.put Ds Dc).mono (Nat.le_add_right _ _), (Same.but s1).upd nDH⟩
            (fun i H' hi ⟨_, _, _, _, bb⟩ => jgo i H' hi bb) (fun H' ⟨_, _, _, _, bb⟩ => jst H' bb) (fun i H' x H'' hi ⟨ys, hD, hys, hs, bb⟩ yl => ?_) (fun H' ⟨ys, hD, hys, hs, bb⟩ => ?_)
          · obtain ⟨rfl, hx⟩ := jyl i H' x H'' bb yl
            obtain ⟨dd, hd, hxd⟩ := hxs.get hx
            obtain ⟨_, ed⟩ := List.getElem?_eq_some_iff.mp hd
            have hts := szs_take_succ hi
            have htl := szs_take_le xs (i + 1)
            rw [ed] at hts
            refine ⟨rfl, ?_⟩
            unfold tYes
            dsimp only
            rw [if_pos rfl]
            refine ⟨_, rfl, _, rfl, st, x, dd, B + szs (xs.take i), cl, rfl, DAt.hold (.but hst bb fun _ h => h) _ hxd, by omega, by omega, hs, by omega, fun v' H5 hv' hs5 b5 => ?_⟩
            have hD5 := b5 _ _ hD Ds
            have hyl := hys.len
            rw [List.length_take] at hyl
            have bb5 := bb.trans b5
            refine ⟨ys, hD5, by rw [sizeLine_eq]; omega, ys ++ [v'], upd_same, ?_, by rw [hts, ← Nat.add_assoc]; exact hs5.put Ds Dc, bb5.upd nDH⟩
            rw [List.take_succ_eq_append_getElem hi, ed]
            have keepD : ∀ {G : Addr → Prop}, (∀ a, G a → a ≠ Da) → Hold G H5 (upd H5 Da (.lst (ys ++ [v']))) := fun hG => ⟨fun a _ e => by rw [upd_ne (ne_of e hD5 (by intro z; cases z))]; exact e, fun a e => by rw [upd_ne (ne_of e hD5 (by intro z; cases z))]; exact e, fun a _ g e => by rw [upd_ne (hG a g)]; exact e⟩
            refine DAts.app (DAts.hold (keepD fun a g => g.2) _ (DAts.hold (.but hs b5 fun a g => (hst.new g.1).1) _ hys)) ⟨?_, trivial⟩
            have nn : ∀ a, H'' a = none → H a = none ∧ a ≠ Da := fun a g => ⟨bb.free g (hs.new g).1, fun z => by rw [z, hD] at g; cases g⟩
            exact DAt.hold (keepD fun a g => g.2) _ (DAt.weak nn _ hv')
          · rw [List.take_of_length_le (Nat.le_refl _)] at hys hs
            exact ⟨Da, ys, rfl, hD, DAts.weak (fun _ g => g.1) _ hys, hs, bb, nDH⟩
        have stt : ∀ {o : HO} {H' : Hp}, But st H H' → H a = some o → a ≠ st → H' a = some o := fun bb e n => bb _ _ e n
        rcases q with q | ⟨hF, q⟩
        · have ne : a ≠ st := by
            obtain ⟨ns, i, c, h0, n, e1, _⟩ := hst
            exact ne_of q e1 (by intro z; cases z)
          refine .inr ⟨_, rfl, a, rfl, ⟨_, SqT.of (s1 _ _ q)⟩, walk (Itt K a) (fun i H' hi bb => ⟨vs, vs.getD i .non, SqT.of (bb _ _ q ne), getD_at (by omega)⟩) (fun H' bb => ⟨vs, SqT.of (bb _ _ q ne), by omega⟩) (fun i H' x H'' bb yl => ⟨yl.1, yl.2 _ (SqT.of (bb _ _ q ne))⟩)⟩
        · refine .inl ⟨_, rfl, a, rfl, ⟨_, SqL.of (s1 _ _ q)⟩, walk (Itl K a) (fun i H' hi bb => ⟨vs, vs.getD i .non, SqL.of (bb _ _ q hF), getD_at (by omega)⟩) (fun H' bb => ⟨vs, SqL.of (bb _ _ q hF), by omega⟩) (fun i H' x H'' bb yl => ⟨yl.1, yl.2 _ (SqL.of (bb _ _ q hF))⟩)⟩
      · rintro σ H2 ⟨Dd, ys, rfl, hD, hys, hs, bb, nD⟩
        obtain ⟨Ds, Dc⟩ := hst.new nD
        refine ⟨_, rfl, st, 2, B + szs xs, cl, rfl, by decide, by decide, hs, by omega, fun dg H3 _ _ hs3 b3 => ⟨dg, 0, rfl, rfl, _, rfl, ?_⟩⟩
        have hD3 := b3 _ _ hD Ds
        have hs3 : StAt (B + sz (.sq xs)) H3 st cl := by rw [hsz, Nat.add_comm 1, ← Nat.add_assoc]; exact hs3
        have hy3 := DAts.hold (.but hs b3 fun a g => (hst.new g).1) _ hys
        refine ite2 (fun _ => ?_) (fun _ => ?_)
        · exact ⟨_, rfl, kk _ H3 ⟨Dd, ys, rfl, .inr ⟨nD, hD3⟩, ho, hy3⟩ hs3 (bb.trans b3)⟩
        · refine ⟨_, rfl, Dd, ys, rfl, .inl ⟨SqL.of hD3, fun l nl => ?_⟩⟩
          obtain ⟨la, lc⟩ := hs3.new nl
          exact kk _ _ ⟨l, ys, rfl, .inl upd_same, ho, DAts.hold (.same (same_upd nl)) _ hy3⟩ (hs3.put la lc) ((bb.trans b3).trans (Same.but (same_upd nl)))
theorem c_loose {f : Addr} {fd : FuncData} (F : Def K mg "_law_loose" sLoose f fd) (b : Binds K fd ["_law_state", "_law_thing"] []) (T : Blt4 mg) (C : Cal P w K mg base 1 "_law_take" spTake []) : ∀ N : Nat, Cal P w K mg base (1 + N) "_law_loose" (spLoose N) []
  | 0 => by
    have no : ∀ {vs H Q E}, spLoose 0 vs H Q E → False := fun ⟨_, _, d, _, _, _, _, h, _⟩ => by have := sz_pos d; omega
    exact cal0 F b .nil scLoose (fun vs H Q E h => (no h).elim) (fun cdv A outer s H vs Q E hr h => (no h).elim)
  | N + 1 => loose_step F b T (Nat.le_add_right 1 N) C (c_loose F b T C N)
end
end KT

namespace KT
open PySem PySem.Spec PyProof.Rows L2 C8 XE
/-! _law_same of any data, the answer True -/
def sqo (t : Bool) (xs : List V) : HO := match t with
  | true => .tup xs
  | false => .lst xs
def nmo (t : Bool) : String := match t with
  | true => "tuple"
  | false => "list"
def EqN (H : Hp) : Nat → V → V → Prop
  | 0, _, _ => False
  | n + 1, x, y => (x = y ∧ Leaf H x) ∨ ∃ t a b xs ys, x = .ref a ∧ y = .ref b ∧ H a = some (sqo t xs) ∧ H b = some (sqo t ys) ∧ Paired (EqN H n) xs ys ∧ xs.length ≤ 100000
theorem EqN.same {H H' : Hp} (s : Same H H') : ∀ {n : Nat} {x y : V}, EqN H n x y → EqN H' n x y
  | 0, _, _, h => h
  | n + 1, x, y, h => h.imp (fun ⟨e, l⟩ => ⟨e, l.same s⟩) fun ⟨t, a, b, xs, ys, e1, e2, q1, q2, p, l⟩ => ⟨t, a, b, xs, ys, e1, e2, s _ _ q1, s _ _ q2, Paired.mono (fun _ _ h => EqN.same s h) p, l⟩
def spSameN (n : Nat) : Sp := fun vs H Q _ => ∃ x y : V, vs = [x, y] ∧ EqN H n x y ∧ ∀ H', Same H H' → Q (.bl true) H'
theorem sqo_seq {K : PySem.W.Frag} {H : Hp} {a : Addr} {t : Bool} {xs : List V} (h : H a = some (sqo t xs)) : SqL K H a xs ∨ SqT K H a xs := by
  cases t with
  | true => exact .inr (SqT.of h)
  | false => exact .inl (SqL.of h)
theorem sqo_ty {K : PySem.W.Frag} {H : Hp} {a : Addr} {t : Bool} {xs : List V} (h : H a = some (sqo t xs)) : TyX K H (.ref a) (.type (nmo t)) := by
  cases t with
  | true => exact .base (.tup h)
  | false => exact .base (.lst h)
theorem kit_sq {K : PySem.W.Frag} (t : Bool) : PySem.W.kitAny K (.type (nmo t)) [.type "list", .type "tuple"] = some true ∧ PySem.W.kitOne K (.type (nmo t)) (.type "list") = some (!t) ∧ PySem.W.kitOne K (.type (nmo t)) (.type "tuple") = some t := by
  have z : kitB "list" "list" = some true ∧ kitB "list" "tuple" = some false ∧ kitB "tuple" "list" = some false ∧ kitB "tuple" "tuple" = some true := by decide +kernel
  obtain ⟨z1, z2, z3, z4⟩ := z
  cases t with
  | true => exact ⟨kitAny_cons (kit_ty z3) (fun _ => kitAny_cons (kit_ty z4) (fun e => (nomatch e)) (fun _ => rfl)) (fun e => (nomatch e)), kit_ty z3, kit_ty z4⟩
  | false => exact ⟨kitAny_cons (kit_ty z1) (fun e => (nomatch e)) (fun _ => rfl), kit_ty z1, kit_ty z2⟩
abbrev NSa : List Str := ["_law_found", "_law_due", "_law_x", "_law_y"]
section
variable {P : Program} {w : World} {K : PySem.W.Frag} {mg : Str → Option Value} {base : Heap}
theorem same_step {k n : Nat} {f : Addr} {fd : FuncData} (F : Def K mg "_law_same" sSame f fd) (b : Binds K fd ["_law_found", "_law_due"] []) (T : Blt2 mg) (CS : Cal P w K mg base k "_law_same" (spSameN n) []) : Cal P w K mg base (k + 1) "_law_same" (spSameN (n + 1)) [] := by
  refine cal0 F b .nil scSame (fun vs H Q E h => ?_) (fun cdv A outer s H vs Q E hr h => ?_)
  · obtain ⟨x, y, rfl, _⟩ := h
    rfl
  · obtain ⟨x, y, rfl, hx, k⟩ := h
    have hu : (A.deeper (envOfC "_law_same" (fnScope sSame) s.heap.objs.size f cdv)).units + 64 < cLine := by have := hr.un; omega
    have nd := scSame.nd
    refine ⟨_, pss_cons (ps_if (pt_val (pe_callB call_isiT (by rfl) T.isi (by decide +kernel) (pa_cons (pv 1) (pa_cons (pe_tup (pa_cons (pe_bt "list" T.list) (pa_cons (pe_bt "tuple" T.tup) pa_nil))) pa_nil))))
        (pss_cons (ps_if (pw_or (pt_cmpR op_ne (pe_callB call_isi (by rfl) T.isi (by decide +kernel) (pa_cons (pv 0) (pa_cons (pe_bt "list" T.list) pa_nil))) (pe_callB call_isi (by rfl) T.isi (by decide +kernel) (pa_cons (pv 1) (pa_cons (pe_bt "list" T.list) pa_nil))) (nomark _))
            (pw_or1 (pt_cmpR op_ne (pe_callB call_isi (by rfl) T.isi (by decide +kernel) (pa_cons (pv 0) (pa_cons (pe_bt "tuple" T.tup) pa_nil))) (pe_callB call_isi (by rfl) T.isi (by decide +kernel) (pa_cons (pv 1) (pa_cons (pe_bt "tuple" T.tup) pa_nil))) (nomark _)))).pt pss_never pss_nil)
        (pss_one (ps_ret (pe_and (pe_cmpR op_eq (pe_callB call_len_seq (by rfl) T.len PySem.boot_len (pa_cons (pv 0) pa_nil)) (pe_callB call_len_seq (by rfl) T.len PySem.boot_len (pa_cons (pv 1) pa_nil)) (nomark _))
          (pe_one (pe_callB (cr_all rfl) (by rfl) T.all (by decide +kernel) (pa_cons (pe_lc (own := [("_law_x", 2), ("_law_y", 3)]) (g := gTup K 2 (gCons (gName 2) (gCons (gName 3) gNil))) (tt := tYes) rfl nd (RZ.pi_zipA (by rfl) T.zip (pa_cons (pv 0) (pa_cons (pv 1) pa_nil)))
            (blkOk_by (N := NSa) (sc := fnScope sSame) (by decide +kernel)) (fun _ _ _ _ _ => pg_tup rfl (pgs_cons (pg_name (i := 2) nd rfl (Or.inl rfl)) (pgs_cons (pg_name (i := 3) nd rfl (Or.inl rfl)) pgs_nil))) (fun _ _ _ _ _ => pts_nil)
            (fun _ _ _ _ _ => pe_c CS hr (Nat.le_refl _) (by rfl) (pa_cons (pv 2) (pa_cons (pv 3) pa_nil)))) pa_nil))))))) pss_nil)
      (pss_cons (ps_if (pt_val (pe_callB call_isi (by rfl) T.isi (by decide +kernel) (pa_cons (pv 1) (pa_cons (pe_bt "int" T.int) pa_nil))))
          (pss_one (ps_ret (pe_and (pe_callB call_isi (by rfl) T.isi (by decide +kernel) (pa_cons (pv 0) (pa_cons (pe_bt "int" T.int) pa_nil)))
            (pe_and (pe_cmpR op_eq (pe_callB call_isi (by rfl) T.isi (by decide +kernel) (pa_cons (pv 0) (pa_cons (pe_bt "bool" T.boo) pa_nil))) (pe_callB call_isi (by rfl) T.isi (by decide +kernel) (pa_cons (pv 1) (pa_cons (pe_bt "bool" T.boo) pa_nil))) (nomark _))
              (pe_one (pe_cmpR op_eq (pv 0) (pv 1) (nomark _))))))) pss_nil)
      (pss_one (ps_ret (pe_and (pe_cmpR op_isBl (pe_callB call_isiT (by rfl) T.isi (by decide +kernel) (pa_cons (pv 0) (pa_cons (pe_tup (pa_cons (pe_bt "int" T.int) (pa_cons (pe_bt "list" T.list) (pa_cons (pe_bt "tuple" T.tup) pa_nil)))) pa_nil))) pe_bl (nomark _))
        (pe_one (pe_cmpR (op_eq.or (op_eqV hu)) (pv 0) (pv 1) (nomark _))))))), ?_⟩
    rcases hx with ⟨rfl, hx⟩ | ⟨t, a, c, xs, ys, rfl, rfl, ha, hc, hp, hl⟩
    · obtain ⟨Ty, hT, ty, hs⟩ := leaf_ty (K := K) hx
      obtain ⟨k1, k2, k3, k4⟩ := kitLT (K := K) hT
      refine ⟨_, rfl, (by show 2 ≤ sizeLine; decide), fun p np => ⟨x, p, [.ty "list", .ty "tuple"], _, _, false, rfl, upd_same, .cons (.ty _) (.cons (.ty _) .nil), ty _ (same_upd np), k1, false, rfl, iteF ?_⟩⟩
      have s1 : Same H (upd H p (.tup [.ty "list", .ty "tuple"])) := same_upd np
      refine ⟨_, rfl, x, .ty "int", _, _, _, rfl, .ty _, ty _ s1, k3, _, rfl, ite2 (fun hi => ?_) (fun hi => ?_)⟩
      · have hsc : scal x x = true := by
          rcases hs with z | ⟨z, _⟩
          · exact z
          · rw [z] at hi
            cases hi
        refine ⟨_, rfl, x, .ty "int", _, _, _, rfl, .ty _, ty _ s1, k3, _, rfl, iteBt hi ?_⟩
        refine ⟨_, rfl, x, .ty "bool", _, _, _, rfl, .ty _, ty _ s1, k4, _, rfl, x, .ty "bool", _, _, _, rfl, .ty _, ty _ s1, k4, rfl, _, rfl, iteBt (decide_eq_true rfl) ?_⟩
        refine ⟨_, rfl, _, rfl, hsc, ?_⟩
        rw [decide_eq_true rfl]
        exact k _ s1
      · have hi : (Ty == "int" || Ty == "bool") = false := by simpa using hi
        rw [hi] at k2
        refine ⟨_, rfl, (by show 3 ≤ sizeLine; decide), fun p2 np2 => ?_⟩
        have s2 : Same H (upd (upd H p (.tup [.ty "list", .ty "tuple"])) p2 (.tup [.ty "int", .ty "list", .ty "tuple"])) := s1.trans (same_upd np2)
        refine ⟨x, p2, [.ty "int", .ty "list", .ty "tuple"], _, _, false, rfl, upd_same, .cons (.ty _) (.cons (.ty _) (.cons (.ty _) .nil)), ty _ s2, k2, false, false, rfl, rfl, _, rfl, iteBt (decide_eq_true rfl) ?_⟩
        refine ⟨_, rfl, _, rfl, ?_⟩
        rcases hs with hsc | ⟨_, a, kvs, rfl, e, dk⟩
        · refine .inl ⟨hsc, ?_⟩
          rw [decide_eq_true rfl]
          exact k _ s2
        · refine .inr ⟨1, by decide, .inr ⟨a, a, kvs, kvs, rfl, rfl, s2 _ _ e, s2 _ _ e, rfl, fun p hp => ⟨p.2, (dk p hp).1, .inl ⟨rfl, (dk p hp).2⟩⟩⟩, k _ s2⟩
    · obtain ⟨k1, k2, k3⟩ := kit_sq (K := K) t
      have hlen := Paired.length hp
      refine ⟨_, rfl, (by show 2 ≤ sizeLine; decide), fun p np => ⟨_, p, [.ty "list", .ty "tuple"], _, _, true, rfl, upd_same, .cons (.ty _) (.cons (.ty _) .nil), sqo_ty (same_upd np _ _ hc), k1, true, rfl, iteT ?_⟩⟩
      have s1 : Same H (upd H p (.tup [.ty "list", .ty "tuple"])) := same_upd np
      generalize upd H p (.tup [.ty "list", .ty "tuple"]) = H1 at s1
      have ha1 := s1 _ _ ha
      have hc1 := s1 _ _ hc
      refine ⟨_, rfl, _, .ty "list", _, _, _, rfl, .ty _, sqo_ty ha1, k2, _, rfl, _, .ty "list", _, _, _, rfl, .ty _, sqo_ty hc1, k2, rfl, _, rfl, iteBf (by rw [decide_eq_true rfl]; rfl) ?_⟩
      refine ⟨_, rfl, _, .ty "tuple", _, _, _, rfl, .ty _, sqo_ty ha1, k3, _, rfl, _, .ty "tuple", _, _, _, rfl, .ty _, sqo_ty hc1, k3, rfl, _, rfl, iteBf (by rw [decide_eq_true rfl]; rfl) ?_⟩
      refine ⟨_, rfl, a, xs, rfl, sqo_seq ha1, _, rfl, c, ys, rfl, sqo_seq hc1, rfl, _, rfl, iteBt (decide_eq_true (by rw [hlen])) ?_⟩
      -- the walk
      have walk : ∀ (J : It), (∀ i H', i < xs.length → Same H1 H' → J.go i H') → (∀ H', Same H1 H' → J.stop xs.length H') → (∀ i H' x H'', Same H1 H' → J.yld i H' x H'' → ∃ T' x' y', x = .ref T' ∧ H' T' = none ∧ H'' = upd H' T' (.tup [x', y']) ∧ xs[i]? = some x' ∧ ys[i]? = some y') → ∀ Da, H1 Da = none →
          ∃ W : Nat → Nat → Hp → Prop, (∃ m, W 0 m (upd H1 Da (.lst []))) ∧ ∀ i m H', W i m H' → (J.stop i H' ∧ (H' Da = some (.lst ((List.replicate xs.length true).map V.bl)) ∧ Same H1 H')) ∨
            (J.go i H' ∧ ∃ Nx : Hp → Prop, (∀ H'', Nx H'' → ∃ m', m' < m ∧ W (i + 1) m' H'') ∧ ∀ x H'', J.yld i H' x H'' → gTup K 2 (gCons (gName 2) (gCons (gName 3) gNil)) x (wipe (start NSa [.ref a, .ref c]) [2, 3]) H'' fun σ2 H2 => wipe σ2 [2, 3] = wipe (start NSa [.ref a, .ref c]) [2, 3] ∧ tYes σ2 H2 fun b H3 =>
              if b = true then tCall (spSameN n) [] C8.E0 (tCons (tVar 2) (tCons (tVar 3) tNil)) σ2 H3 fun y H4 => ∃ acc, H4 Da = some (.lst acc) ∧ acc.length < sizeLine ∧ Nx (upd H4 Da (.lst (acc ++ [y]))) else Nx H3) := by
        intro J jgo jst jyl Da nDa
        refine lc_gen (J := J) xs.length (fun i H' => H' Da = some (.lst ((List.replicate i true).map V.bl)) ∧ Same H1 H') ⟨upd_same, same_upd nDa⟩ (fun i H' hi ⟨_, sm⟩ => jgo i H' hi sm) (fun H' ⟨_, sm⟩ => jst H' sm) (fun i H' x H'' hi ⟨hD, sm⟩ yl => ?_) (fun H' h => h)
        obtain ⟨T', x', y', rfl, nT, rfl, hx, hy⟩ := jyl i H' x H'' sm yl
        have s3 : Same H' (upd H' T' (.tup [x', y'])) := same_upd nT
        refine ⟨T', [x', y'], rfl, SqT.of upd_same, rfl, x', [y'], rfl, y', [], rfl, rfl, ?_⟩
        generalize upd H' T' (.tup [x', y']) = H3 at s3
        refine ⟨rfl, ?_⟩
        unfold tYes
        dsimp only
        rw [if_pos rfl]
        obtain ⟨y2, hy2, he⟩ := paired_get hp hx
        rw [hy] at hy2
        obtain rfl := Option.some.inj hy2
        refine ⟨_, rfl, _, rfl, x', y', rfl, EqN.same (s1.trans (sm.trans s3)) he, fun H4 s4 => ⟨_, s4 _ _ (s3 _ _ hD), by rw [List.length_map, List.length_replicate, sizeLine_eq]; omega, ?_, fun b o q => by rw [upd_ne (ne_of_none q nDa)]; exact s4 _ _ (s3 _ _ (sm _ _ q))⟩⟩
        rw [upd_same, List.replicate_succ', List.map_append]
        rfl
      have fin : ∀ Da H', H' Da = some (.lst ((List.replicate xs.length true).map V.bl)) ∧ Same H1 H' → ∃ (a : Addr) (bs : List Bool), [V.ref Da] = [.ref a] ∧ SqL K H' a (bs.map V.bl) ∧ Q (.bl (bs.all id)) H' := fun Da H' ⟨hD, sm⟩ => by
        refine ⟨Da, _, rfl, SqL.of hD, ?_⟩
        rw [show (List.replicate xs.length true).all id = true from List.all_eq_true.mpr fun b hb => by rw [List.eq_of_mem_replicate hb]; rfl]
        exact k _ (s1.trans sm)
      have stp : ∀ {D : Addr → Hp → Prop}, True := trivial
      refine ⟨_, rfl, _, rfl, a, c, xs, ys, rfl, ?_⟩
      cases t with
      | true => 
        refine .inr ⟨SqT.of ha1, SqT.of hc1, fun Da nDa => ?_⟩
        obtain ⟨W, h0, h⟩ := walk (RZ.ItzT K a c) (fun i H' hi sm => ⟨xs, ys, xs.getD i .non, ys.getD i .non, SqT.of (sm _ _ ha1), SqT.of (sm _ _ hc1), getD_at hi, getD_at (by omega)⟩) (fun H' sm => ⟨xs, ys, SqT.of (sm _ _ ha1), SqT.of (sm _ _ hc1), .inl (Nat.le_refl _)⟩)
          (fun i H' x H'' sm yl => by obtain ⟨T', x', y', e1, e2, e3, e4, e5⟩ := yl; exact ⟨T', x', y', e1, e2, e3, e4 _ (SqT.of (sm _ _ ha1)), e5 _ (SqT.of (sm _ _ hc1))⟩) Da nDa
        exact ⟨W, h0, fun i m H' hw => (h i m H' hw).imp (fun ⟨q1, q2⟩ => ⟨q1, fin Da H' q2⟩) id⟩
      | false =>
        refine .inl ⟨SqL.of ha1, SqL.of hc1, fun Da nDa => ?_⟩
        obtain ⟨W, h0, h⟩ := walk (Itz K a c) (fun i H' hi sm => ⟨xs, ys, xs.getD i .non, ys.getD i .non, SqL.of (sm _ _ ha1), SqL.of (sm _ _ hc1), getD_at hi, getD_at (by omega)⟩) (fun H' sm => ⟨xs, ys, SqL.of (sm _ _ ha1), SqL.of (sm _ _ hc1), .inl (Nat.le_refl _)⟩)
          (fun i H' x H'' sm yl => by obtain ⟨T', x', y', e1, e2, e3, e4, e5⟩ := yl; exact ⟨T', x', y', e1, e2, e3, e4 _ (SqL.of (sm _ _ ha1)), e5 _ (SqL.of (sm _ _ hc1))⟩) Da nDa
        exact ⟨W, h0, fun i m H' hw => (h i m H' hw).imp (fun ⟨q1, q2⟩ => ⟨q1, fin Da H' q2⟩) id⟩
theorem c_same {f : Addr} {fd : FuncData} (F : Def K mg "_law_same" sSame f fd) (b : Binds K fd ["_law_found", "_law_due"] []) (T : Blt2 mg) : ∀ n : Nat, Cal P w K mg base (1 + n) "_law_same" (spSameN n) []
  | 0 => by
    have no : ∀ {vs H Q E}, spSameN 0 vs H Q E → False := fun ⟨_, _, _, h, _⟩ => h
    exact cal0 F b .nil scSame (fun vs H Q E h => (no h).elim) (fun cdv A outer s H vs Q E hr h => (no h).elim)
  | n + 1 => same_step F b T (c_same F b T n)
end
end KT

/-! e[:0:-1]: all but the first, from the back; of a list and of a tuple -/
namespace XR
open PySem PySem.Spec PySem.W PyProof.Rows L2
theorem back_range (n : Nat) : (List.range (n - 1)).map (fun k => n - 1 - k) = ((List.range (n - 1)).map (1 + ·)).reverse := by
  apply List.ext_getElem
  · simp
  · intro i h1 h2
    rw [List.getElem_map, List.getElem_reverse]
    simp at h1 ⊢
    omega
theorem fm_congr {α β : Type} {f g : α → Option β} : ∀ {l : List α}, (∀ m ∈ l, f m = g m) → l.filterMap f = l.filterMap g
  | [], _ => rfl
  | x :: l, h => by rw [List.filterMap_cons, List.filterMap_cons, h x List.mem_cons_self, fm_congr fun m hm => h m (List.mem_cons_of_mem _ hm)]
theorem back_pick {α : Type} (xs : Array α) : ((List.range (xs.size - 1)).map (fun k => xs.size - 1 - k)).filterMap (xs[·]?) = xs.toList.tail.reverse := by
  rw [back_range, List.filterMap_reverse, pick_run xs 1 (xs.size - 1), List.take_of_length_le (by simp), List.drop_one]
theorem back_bounds {n : Nat} (h : 0 < n) : sliceBounds none (some 0) (some (-1)) n = ((n : Int) - 1, 0, -1) := by
  have e : max (-1 : Int) (min 0 ((n : Int) - 1)) = 0 := by omega
  show ((n : Int) - 1, max (-1 : Int) (min (if (0 : Int) < 0 then 0 + (n : Int) else 0) ((n : Int) - 1)), (-1 : Int)) = _
  rw [if_neg (by decide), e]
theorem back_list {xs : Array Value} (h : 0 < xs.size) : slicePick xs none (some 0) (some (-1)) = xs.toList.tail.reverse.toArray := by
  have r : sliceRange ((xs.size : Int) - 1) 0 (-1) = (List.range (xs.size - 1)).map fun k => xs.size - 1 - k := by
    unfold sliceRange
    have n1 : ¬ ((-1 : Int) > 0) := by decide
    by_cases g : (xs.size : Int) - 1 > 0
    · have e : ((xs.size : Int) - 1 - 0 - -1 - 1) / (- -1) = ((xs.size - 1 : Nat) : Int) := by
        rw [show (- -1 : Int) = 1 by decide, Int.ediv_one]
        omega
      simp only [n1, if_false, g, if_true, e, Int.toNat_natCast]
      exact List.map_congr_left fun k hk => by have := List.mem_range.mp hk; omega
    · have e : xs.size - 1 = 0 := by omega
      simp only [n1, if_false, g, e]
      rfl
  unfold slicePick
  rw [back_bounds h]
  show ((sliceRange ((xs.size : Int) - 1) 0 (-1)).filterMap (xs[·]?)).toArray = _
  rw [r, back_pick]
section
variable {prog : Program} {w : World} {A : Around} {E : Value → Shared → Prop} {s : Shared}
theorem back_tuple {t sl : Addr} {xs : Array Value} {vl vu vs : Value} {Q : Value → Shared → Prop} (ht : IsTup s.heap t xs) (hs : s.heap.IsSliceOf sl vl vu vs) (pl : IsPart vl none) (pu : IsPart vu (some 0)) (ps : IsPart vs (some (-1))) (hn : 0 < xs.size) (hsz : xs.size ≤ sizeLine)
    (h : Q (.ref s.heap.objs.size) { s with heap := s.heap.push { cls := .type "tuple", data := .seq xs.toList.tail.reverse.toArray } }) : wpAny (model prog w) A (getItem (.ref t) (.ref sl)) Q E s := by
  have hz : sizeOk (.seq xs.toList.tail.reverse.toArray) := by show xs.toList.tail.reverse.toArray.size ≤ sizeLine; simp; omega
  obtain ⟨os, hos, hcs, hds⟩ := id hs
  unfold getItem
  try with_reducible refine wpAny_holding ?_
  first | refine wpAny_bind (wpAny_pure ?_) | skip
  refine wpAny_bind (wpAny_sequenceKey ht.typeIs (by decide) (wpAny_bind (wpAny_callSpecial?_slot (name := Str.ofString "__getitem__") ht.typeIs PyProof.Rows.slot_tuple_getitem (wpAny_call_entry PyProof.Rows.slot_tuple_getitem ht.typeIs entry_tuple_getitem ?_ (args_tuple_getitem _ _)))))
  show wpAny _ _ (Builtin.Tuple.tupleItemsOf (.ref t) >>= _) _ _ s
  refine wpAny_bind (tupleItemsOf_ ht (wpAny_bind (wpAny_typeOf (T := "slice") ⟨os, hos, hcs⟩ ?_)))
  rw [if_pos (by decide)]
  have app : ∀ {Q' : Int × Int × Nat → Shared → Prop} {A' : Around} {E' : Value → Shared → Prop}, Q' ((xs.size : Int) - 1, -1, xs.size - 1) s → wpAny (model prog w) A' (Builtin.Slice.sliceApplied (.ref sl) (pure (xs.size : Int))) Q' E' s := by
    intro Q' A' E' q
    unfold Builtin.Slice.sliceApplied Builtin.Slice.sliceFields
    refine wpAny_bind (wpAny_bind (wpAny_field hos hds (x := vl) rfl (wpAny_bind (wpAny_field hos hds (x := vu) rfl (wpAny_bind (wpAny_field hos hds (x := vs) rfl (wpAny_pure ?_)))))))
    refine wpAny_bind (HT.slicePart_ ps ?_)
    show wpAny _ _ (if ((-1 : Int) == 0) = true then _ else _) _ _ s
    rw [if_neg (by decide)]
    refine wpAny_bind (HT.slicePart_ pl (wpAny_bind (HT.slicePart_ pu (wpAny_bind (wpAny_pure ?_)))))
    have e1 : Builtin.Slice.sliceAdjust none (some 0) (-1) (xs.size : Int) = ((xs.size : Int) - 1, 0) := by
      have e : min (0 : Int) ((xs.size : Int) - 1) = 0 := by omega
      show ((xs.size : Int) - 1, (if (0 : Int) < 0 then max (0 + (xs.size : Int)) (-1) else min 0 ((xs.size : Int) - 1))) = _
      rw [if_neg (by decide), e]
    have e2 : Builtin.Slice.slicePlaces ((xs.size : Int) - 1) 0 (-1) = xs.size - 1 := by
      unfold Builtin.Slice.slicePlaces
      rw [if_neg (by decide)]
      by_cases g : (xs.size : Int) - 1 > 0
      · rw [if_pos g, show (- -1 : Int) = 1 by decide, Int.ediv_one]
        omega
      · rw [if_neg g]
        show (0 : Int).toNat = _
        omega
    show wpAny _ _ (match Builtin.Slice.sliceAdjust none (some 0) (-1) (xs.size : Int) with | (lo, hi) => pure (lo, (-1 : Int), Builtin.Slice.slicePlaces lo hi (-1))) _ _ s
    rw [e1]
    show wpAny _ _ (pure ((xs.size : Int) - 1, (-1 : Int), Builtin.Slice.slicePlaces ((xs.size : Int) - 1) 0 (-1))) _ _ s
    rw [e2]
    exact wpAny_pure q
  refine wpAny_bind (app ?_)
  show wpAny _ _ (if (((xs.size : Int) - 1) == 0 && (-1 : Int) == 1 && (xs.size - 1) == xs.size) = true then _ else _) _ _ s
  have hno : ¬ ((((xs.size : Int) - 1) == 0 && (-1 : Int) == 1 && (xs.size - 1) == xs.size) = true) := by
    intro q
    rw [Bool.and_eq_true, Bool.and_eq_true] at q
    exact absurd q.1.2 (by decide)
  rw [if_neg hno]
  have pk : ((List.range (xs.size - 1)).filterMap fun (m : Nat) => xs[(((xs.size : Int) - 1) + (m : Int) * (-1)).toNat]?).toArray = xs.toList.tail.reverse.toArray := by
    rw [← back_pick, List.filterMap_map]
    congr 1
    exact fm_congr fun m hm => by
      have := List.mem_range.mp hm
      have e : (((xs.size : Int) - 1) + (m : Int) * (-1)).toNat = xs.size - 1 - m := by omega
      show xs[(((xs.size : Int) - 1) + (m : Int) * (-1)).toNat]? = xs[xs.size - 1 - m]?
      rw [e]
  rw [pk]
  first
    | exact wpAny_bind (m := Builtin.Tuple.tupleExact _) (wpAny_newObj_type (wpAny_pure ⟨_, rfl, wpAny_pure h⟩) hz)
    | exact wpAny_bind (m := Builtin.Tuple.tupleExact _) (wpAny_newObj_type (wpAny_bind (wpAny_pure (wpAny_pure ⟨_, rfl, wpAny_pure h⟩))) hz)
    | exact wpAny_bind (wpAny_bind (m := Builtin.Tuple.tupleExact _) (wpAny_newObj_type (wpAny_pure (wpAny_pure ⟨_, rfl, wpAny_pure h⟩)) hz))
    | exact wpAny_bind (wpAny_bind (m := Builtin.Tuple.tupleExact _) (wpAny_newObj_type (wpAny_pure ⟨_, rfl, wpAny_pure h⟩) hz))
end
section
variable {X : Cx}
def tRev0 (K : PySem.W.Frag) (te : TE) : TE := fun σ H Q => te σ H fun x H1 => ∃ a xs, x = .ref a ∧ 0 < xs.length ∧ ((SqL K H1 a xs ∧ ∀ p, H1 p = none → Q (.ref p) (upd H1 p (.lst xs.tail.reverse))) ∨ (SqT K H1 a xs ∧ ∀ p, H1 p = none → Q (.ref p) (upd H1 p (.tup xs.tail.reverse))))
theorem vals_tail {xs : List V} {us : List Value} (h : Vals xs us) : Vals xs.tail us.tail := by
  cases h with
  | nil => exact .nil
  | cons _ t => exact t
theorem pe_rev0 {e : Expr} {te : TE} {k kz : Nat} {p0 p1 p2 p3 pos : Pos} (he : PE X e te) : PE X (.Subscript e (.Slice none (some (.Constant (.int 0) kz p0)) (some (.UnaryOp .USub (.Constant (.int 1) k p1) p2)) p3) pos) (tRev0 X.K te) := by
  refine ⟨fun pins s σ H Q I h => ?_⟩
  refine Subscript_ (thn (he.run pins s σ H _ I h) fun v s1 ⟨x, H1, I1, r1, q1⟩ => ?_)
  obtain ⟨a, xs, ex, hn, q⟩ := q1
  subst ex
  cases r1
  have hst : PO X (some (.UnaryOp .USub (.Constant (.int 1) k p1) p2)) (tPart (tUn (rU fun i => .int (-i)) (tC (.int 1)))) := po_some (pe_un un_neg pe_int)
  have hup : PO X (some (.Constant (.int 0) kz p0)) (tPart (tC (.int 0))) := po_some pe_int
  refine wpAny_Slice (thn (po_none.run pins s1 σ H1 (fun o H2 => o = none ∧ H2 = H1) I1 ⟨rfl, rfl⟩) fun vl s2 ⟨l, H2, I2, pl, el, e2⟩ => ?_)
  subst el e2
  refine thn (hup.run pins s2 σ H2 (fun o H3 => o = some 0 ∧ H3 = H2) I2 ⟨0, rfl, rfl, rfl⟩) fun vu s3 ⟨u, H3, I3, pu, eu, e3⟩ => ?_
  subst eu e3
  refine thn (hst.run pins s3 σ H3 (fun o H4 => o = some (-1) ∧ H4 = H3) I3 ⟨1, rfl, -1, rfl, rfl, rfl⟩) fun vs s4 ⟨o, H4, I4, ps, eo, e4⟩ => ?_
  subst eo e4
  have I5 : Inv X pins σ H4 { s4 with heap := s4.heap.push { cls := .type "slice", data := .fields #[vl, vu, vs] } } := I4.kept (t' := s4.toks) fun b ob q => Heap.get?_push_of_some _ q
  rcases q with ⟨hx, q⟩ | ⟨hx, q⟩
  · obtain ⟨its, r, ht, hz⟩ := I5.list hx
    have hlen := r.length
    show wpAny (model X.prog X.w) X.A (subscriptTail e (.Slice none (some (.Constant (.int 0) kz p0)) (some (.UnaryOp .USub (.Constant (.int 1) k p1) p2)) p3) (.ref a) (.ref s4.heap.objs.size)) (EP X pins σ Q) X.xe { s4 with heap := s4.heap.push { cls := .type "slice", data := .fields #[vl, vu, vs] } }
    refine tail_any (ops := [.ref a, .ref s4.heap.objs.size]) ht.isList.typeIs (PySem.slot_list_getitem.lookup) (wpAny_getItem_list_slice ht.isList (Heap.IsSliceOf.new _ vl vu vs) pl pu ps (by decide) ?_ (by rw [List.size_toArray]; omega)) (by with_unfolding_all rfl)
    rw [back_list (by rw [List.size_toArray]; omega)]
    refine ⟨.ref _, _, I5.laid (t' := s4.toks) (o := .lst xs.tail.reverse) (fun b ob q => Heap.get?_push_of_some _ q) (Nat.le_refl _) ?_, rfl, q _ (I5.hok.fresh (Nat.le_refl _))⟩
    exact ⟨by rw [List.length_reverse, List.length_tail]; omega, _, 0, (vals_tail r).reverse, Heap.get?_push_size _ rfl⟩
  · obtain ⟨its, r, ht, hz⟩ := I5.tuple hx
    have hlen := r.length
    show wpAny (model X.prog X.w) X.A (subscriptTail e (.Slice none (some (.Constant (.int 0) kz p0)) (some (.UnaryOp .USub (.Constant (.int 1) k p1) p2)) p3) (.ref a) (.ref s4.heap.objs.size)) (EP X pins σ Q) X.xe { s4 with heap := s4.heap.push { cls := .type "slice", data := .fields #[vl, vu, vs] } }
    refine tail_any (ops := [.ref a, .ref s4.heap.objs.size]) ht.typeIs (PyProof.Rows.slot_tuple_getitem.lookup) (back_tuple ht (Heap.IsSliceOf.new _ vl vu vs) pl pu ps (by rw [List.size_toArray]; omega) (by rw [List.size_toArray]; omega) ?_) (by with_unfolding_all rfl)
    refine ⟨.ref _, _, I5.laid (t' := s4.toks) (o := .tup xs.tail.reverse) (fun b ob q => Heap.get?_push_of_some _ q) (Nat.le_refl _) ?_, rfl, q _ (I5.hok.fresh (Nat.le_refl _))⟩
    exact ⟨by rw [List.length_reverse, List.length_tail]; omega, _, (vals_tail r).reverse, _, Heap.get?_push_size _ rfl, rfl, 0, rfl⟩
end
end XR

namespace KT
open PySem PySem.Spec PyProof.Rows L2 C8 XE XR
/-! is_hole, nodes_in_order -/
abbrev sHole : Stmt := top 11
abbrev sNodes : Stmt := top 12
def letters : Str := "abcdefghijklmnopqrstuvwxyz"
def wordS (z : Str) : Bool := decide (1 ≤ z.length) && (decide (z.length ≤ 8) && z.cps.toList.all fun c => decide (c ∈ letters.cps.toList))
mutual
/-- a shape: labels over shapes, holes -/
def isSh : D → Bool
  | .fl (.str z) => wordS z
  | .sq (.fl (.str z) :: cs) => wordS z && isShs cs
  | _ => false
def isShs : List D → Bool
  | [] => true
  | d :: ds => isSh d && isShs ds
end
mutual
/-- all nodes, in order -/
def nodesD : D → List D
  | .sq (x :: cs) => .sq (x :: cs) :: nodesDs cs
  | d => [d]
def nodesDs : List D → List D
  | [] => []
  | d :: ds => nodesD d ++ nodesDs ds
end
theorem isSh_inv {d : D} (h : isSh d = true) : (∃ z, d = .fl (.str z) ∧ wordS z = true) ∨ ∃ z cs, d = .sq (.fl (.str z) :: cs) ∧ wordS z = true ∧ isShs cs = true := by
  unfold isSh at h
  split at h
  · exact .inl ⟨_, rfl, h⟩
  · rw [Bool.and_eq_true] at h
    exact .inr ⟨_, _, rfl, h.1, h.2⟩
  · cases h
theorem isShs_mem : ∀ {ds : List D}, isShs ds = true → ∀ d ∈ ds, isSh d = true
  | [], _, d, h => by cases h
  | x :: ds, h, d, hd => by
    rw [isShs, Bool.and_eq_true] at h
    rcases List.mem_cons.mp hd with rfl | hd
    · exact h.1
    · exact isShs_mem h.2 d hd
theorem isShs_of : ∀ {ds : List D}, (∀ d ∈ ds, isSh d = true) → isShs ds = true
  | [], _ => rfl
  | x :: ds, h => by
    rw [isShs, h x List.mem_cons_self, isShs_of fun d hd => h d (List.mem_cons_of_mem _ hd)]
    rfl
theorem nodesDs_app : ∀ a b : List D, nodesDs (a ++ b) = nodesDs a ++ nodesDs b
  | [], b => rfl
  | x :: a, b => by rw [List.cons_append, nodesDs, nodesDs, nodesDs_app a b, List.append_assoc]
theorem nodes_pos (d : D) : 0 < (nodesD d).length := by
  cases d with
  | fl x => exact Nat.one_pos
  | emp => exact Nat.one_pos
  | sq xs =>
    cases xs with
    | nil => exact Nat.one_pos
    | cons x cs => rw [nodesD, List.length_cons]; omega
mutual
theorem nodes_sz : ∀ d : D, (nodesD d).length ≤ sz d
  | .fl _ => Nat.le_refl _
  | .emp => Nat.le_refl _
  | .sq [] => Nat.le_refl _
  | .sq (x :: cs) => by
    have := nodess_sz cs
    have := sz_pos x
    rw [nodesD, List.length_cons, sz, szs]
    omega
theorem nodess_sz : ∀ ds : List D, (nodesDs ds).length ≤ szs ds
  | [] => Nat.le_refl _
  | d :: ds => by
    have := nodes_sz d
    have := nodess_sz ds
    rw [nodesDs, List.length_append, szs]
    omega
end
theorem len_nodes : ∀ l : List D, l.length ≤ (nodesDs l).length
  | [] => Nat.le_refl _
  | c :: l => by
    have h1 := nodes_pos c
    have h2 := len_nodes l
    rw [nodesDs, List.length_append, List.length_cons]
    omega
theorem DAts.rev {F : Addr → Prop} {H : Hp} : ∀ {ds : List D} {vs : List V}, DAts F H vs ds → DAts F H vs.reverse ds.reverse
  | [], [], _ => trivial
  | d :: ds, v :: vs, ⟨k, t⟩ => by
    rw [List.reverse_cons, List.reverse_cons]
    exact DAts.app (DAts.rev t) ⟨k, trivial⟩
  | [], _ :: _, k => k.elim
  | _ :: _, [], k => k.elim
def spHole : Sp := fun vs H Q _ => ∃ (v : V) (d : D) (F : Addr → Prop), vs = [v] ∧ DAt F H v d ∧ Q (.bl (isSt d)) H
def spNodes : Sp := fun vs H Q _ => ∃ (v : V) (d : D) (F : Addr → Prop), vs = [v] ∧ DAt F H v d ∧ isSh d = true ∧ sz d ≤ 5000 ∧ ∀ p ws H', H p = none → Same H H' → H' p = some (.lst ws) → DAts F H ws (nodesD d) → Q (.ref p) H'
theorem scHole : FnScope ["node"] ["node"] (fnScope sHole) := fnScope_by (by decide +kernel)
abbrev NNo : List Str := ["shape", "found", "waiting", "node", "child"]
theorem scNodes : FnScope NNo ["shape"] (fnScope sNodes) := fnScope_by (by decide +kernel)
section
variable {P : Program} {w : World} {K : PySem.W.Frag} {mg : Str → Option Value} {base : Heap}
theorem c_hole {f : Addr} {fd : FuncData} (F : Def K mg "is_hole" sHole f fd) (b : Binds K fd ["node"] []) (T : Blt4 mg) : Cal P w K mg base 1 "is_hole" spHole [] := by
  refine cal0 F b .nil scHole (fun vs H Q E h => ?_) (fun cdv A outer s H vs Q E hr h => ?_)
  · obtain ⟨v, d, G, rfl, _⟩ := h
    rfl
  · obtain ⟨v, d, G, rfl, hv, k⟩ := h
    refine ⟨_, pss_one (ps_ret (pe_callB call_isi (by rfl) T.isi (by decide +kernel) (pa_cons (pv 0) (pa_cons (pe_bt "str" T.str) pa_nil)))), ?_⟩
    obtain ⟨Ty, ty, _, k2⟩ := d_ty (K := K) hv
    exact ⟨_, rfl, v, .ty "str", _, _, _, rfl, .ty _, ty H fun _ _ e => e, k2, k⟩
theorem c_nodes {f : Addr} {fd : FuncData} (F : Def K mg "nodes_in_order" sNodes f fd) (b : Binds K fd ["shape"] []) (T : Blt4 mg) (CH : Cal P w K mg base 1 "is_hole" spHole []) : Cal P w K mg base 2 "nodes_in_order" spNodes [] := by
  refine cal0 F b .nil scNodes (fun vs H Q E h => ?_) (fun cdv A outer s H vs Q E hr h => ?_)
  · obtain ⟨v, d, G, rfl, _⟩ := h
    rfl
  · obtain ⟨v, d, G, rfl, hv, hsh, hsz, k⟩ := h
    have nd := scNodes.nd
    refine ⟨_, pss_cons (ps_set (i := 1) nd rfl (Or.inl rfl) (pe_lst pa_nil))
      (pss_cons (ps_set (i := 2) nd rfl (Or.inl rfl) (pe_lst (pa_cons (pv 0) pa_nil)))
      (pss_cons (ps_while PassesOwn.never (pt_truth (pv 2) (by intro _; rfl))
        (pss_cons (ps_set (i := 3) nd rfl (Or.inl rfl) (pe_bm0 PySem.F.plainAttrs_list PySem.F.slot_list_pop PySem.F.type_list_pop mt_pop (pv 2)))
        (pss_cons (ps_expr (pe_bm PySem.F.plainAttrs_list PySem.F.slot_list_append PySem.F.type_list_append mt_append (pv 1) (pa_cons (pv 3) pa_nil)))
        (pss_one (ps_if (pt_not (pt_val (pe_c CH hr (by decide) (by rfl) (pa_cons (pv 3) pa_nil))))
          (pss_one (ps_for PassesOwn.never rfl (PI.or (pi_list (pe_rev0 (pv 3))) (pi_tup (pe_rev0 (pv 3)))) (pg_name (i := 4) nd rfl (Or.inl rfl))
            (pss_one (ps_expr (pe_bm PySem.F.plainAttrs_list PySem.F.slot_list_append PySem.F.type_list_append mt_append (pv 2) (pa_cons (pv 4) pa_nil))))))
          pss_nil)))))
      (pss_one (ps_ret (pv 1))))), ?_⟩
    refine ⟨(by show 0 ≤ sizeLine; decide), fun f1 nf => ⟨_, rfl, (by show 1 ≤ sizeLine; decide), fun w1 nw => ?_⟩⟩
    have fw : f1 ≠ w1 := ne_of_none upd_same nw
    have nwH : H w1 = none := by rw [upd_ne fw.symm] at nw; exact nw
    let Iv : Nat → L2.St → Hp → Prop := fun m σ H' => ∃ (v3 v4 : Option V) (wl fl : List V) (ds fs : List D), σ = [some v, some (.ref f1), some (.ref w1), v3, v4] ∧ m = (nodesDs ds.reverse).length ∧ H' f1 = some (.lst fl) ∧ H' w1 = some (.lst wl) ∧ Same H H' ∧ DAts G H fl fs ∧ DAts G H wl ds ∧ isShs ds = true ∧ fs ++ nodesDs ds.reverse = nodesD d
    refine ⟨Iv, ⟨_, none, none, [v], [], [d], [], rfl, rfl, by rw [upd_ne fw]; exact upd_same, upd_same, (same_upd nf).trans (same_upd nw), trivial, ⟨hv, trivial⟩, by rw [isShs, hsh]; rfl, by rw [List.nil_append]; show nodesD d ++ [] = _; rw [List.append_nil]⟩, ?_⟩
    rintro m σ H1 ⟨v3, v4, wl, fl, ds, fs, rfl, rfl, hf1, hw1, sm, hfs, hds, hss, heq⟩
    have hlen := hds.len
    have hfl := hfs.len
    have htot : fs.length + (nodesDs ds.reverse).length ≤ 5000 := by rw [← List.length_append, heq]; exact Nat.le_trans (nodes_sz d) hsz
    refine ⟨_, rfl, !wl.isEmpty, .inl ⟨wl, SqL.of hw1, rfl⟩, ?_⟩
    rcases List.eq_nil_or_concat ds with rfl | ⟨ds0, dl, rfl⟩
    · obtain rfl : wl = [] := List.length_eq_zero_iff.mp hlen
      refine iteBf rfl ⟨_, rfl, k f1 fl H1 nf sm hf1 ?_⟩
      have : fs = nodesD d := by rw [← heq]; show fs = fs ++ []; rw [List.append_nil]
      rw [← this]
      exact hfs
    · rw [List.concat_eq_append] at *
      rw [List.length_append] at hlen
      have hlen : wl.length = ds0.length + 1 := hlen
      obtain ⟨wl0, x, rfl⟩ : ∃ wl0 x, wl = wl0 ++ [x] := by
        rcases List.eq_nil_or_concat wl with rfl | ⟨a, x, e⟩
        · cases hlen
        · exact ⟨a, x, by rw [e, List.concat_eq_append]⟩
      have hl0 : wl0.length = ds0.length := by simpa using hlen
      have hd0 : DAts G H wl0 ds0 := by
        have := DAts.take ds0.length hds
        rw [List.take_left' hl0, List.take_left' rfl] at this
        exact this
      have hx : DAt G H x dl := by
        have := DAts.drop ds0.length hds
        rw [List.drop_left' hl0, List.drop_left' rfl] at this
        exact this.1
      have hshl := isShs_mem hss dl (List.mem_append_right _ (List.mem_singleton.mpr rfl))
      have hss0 : isShs ds0 = true := isShs_of fun q hq => isShs_mem hss q (List.mem_append_left _ hq)
      have hrev : (ds0 ++ [dl]).reverse = dl :: ds0.reverse := by rw [List.reverse_append]; rfl
      rw [hrev] at heq htot ⊢
      have hnd : nodesDs (dl :: ds0.reverse) = nodesD dl ++ nodesDs ds0.reverse := rfl
      rw [hnd] at heq htot ⊢
      rw [List.length_append] at htot
      have hnp := nodes_pos dl
      refine iteBt (by cases wl0 <;> rfl) ?_
      refine ⟨Iv ((nodesD dl ++ nodesDs ds0.reverse).length - 1), fun σ' H' hI => ⟨_, by rw [List.length_append]; omega, hI⟩, ?_⟩
      refine ⟨_, rfl, .inl ⟨rfl, _, SqL.of hw1⟩, w1, wl0 ++ [x], x, rfl, rfl, hw1, by simp, ?_⟩
      rw [List.dropLast_concat]
      have hf2 : (upd H1 w1 (.lst wl0)) f1 = some (.lst fl) := by rw [upd_ne fw]; exact hf1
      refine ⟨_, rfl, .inl ⟨rfl, _, SqL.of hf2⟩, _, rfl, f1, fl, x, rfl, rfl, hf2, by rw [hfl, sizeLine_eq]; omega, ?_⟩
      have hf3 : (upd (upd H1 w1 (.lst wl0)) f1 (.lst (fl ++ [x]))) f1 = some (.lst (fl ++ [x])) := upd_same
      have hw3 : (upd (upd H1 w1 (.lst wl0)) f1 (.lst (fl ++ [x]))) w1 = some (.lst wl0) := by rw [upd_ne fw.symm]; exact upd_same
      have s3 : Same H (upd (upd H1 w1 (.lst wl0)) f1 (.lst (fl ++ [x]))) := fun a o e => by rw [upd_ne (ne_of_none e nf), upd_ne (ne_of_none e nwH)]; exact sm _ _ e
      generalize upd (upd H1 w1 (.lst wl0)) f1 (.lst (fl ++ [x])) = H3 at hf3 hw3 s3
      refine ⟨_, rfl, x, dl, G, rfl, DAt.hold (.same s3) _ hx, isSt dl, rfl, ?_⟩
      have hfs3 : DAts G H (fl ++ [x]) (fs ++ [dl]) := DAts.app hfs ⟨hx, trivial⟩
      rcases isSh_inv hshl with ⟨z, rfl, _⟩ | ⟨z, cs, rfl, hwz, hcs⟩
      · refine iteBf rfl ?_
        exact ⟨some x, v4, wl0, fl ++ [x], ds0, fs ++ [.fl (.str z)], rfl, by simp [nodesD], hf3, hw3, s3, hfs3, hd0, hss0, by rw [← heq, List.append_assoc]; rfl⟩
      · refine iteBt rfl ?_
        obtain ⟨a, us, rfl, q, _, hus⟩ := hx
        match us, hus with
        | u :: us, ⟨hu, hus⟩ =>
          have hul := hus.len
          have heq3 : fs ++ [.sq (.fl (.str z) :: cs)] ++ nodesDs ((ds0 ++ cs.reverse).reverse) = nodesD d := by
            rw [← heq, List.reverse_append, List.reverse_reverse, nodesDs_app, List.append_assoc]
            rfl
          have hm3 : (nodesD (.sq (.fl (.str z) :: cs)) ++ nodesDs ds0.reverse).length - 1 = (nodesDs (ds0 ++ cs.reverse).reverse).length := by
            rw [List.reverse_append, List.reverse_reverse, nodesDs_app]
            show (_ :: (nodesDs cs ++ nodesDs ds0.reverse)).length - 1 = _
            rw [List.length_cons]
            omega
          have hcl := nodess_sz cs
          have hcz := len_nodes cs
          have hn1 : (nodesD (.sq (.fl (.str z) :: cs))).length = 1 + (nodesDs cs).length := by rw [nodesD, List.length_cons, Nat.add_comm]
          have hdl0 := len_nodes ds0.reverse
          rw [List.length_reverse] at hdl0
          have walk : ∀ (J : It) (H4 : Hp), Same H3 H4 → (∀ j H', j < us.reverse.length → (∀ b o, H4 b = some o → b ≠ w1 → H' b = some o) → J.go j H') → (∀ H', (∀ b o, H4 b = some o → b ≠ w1 → H' b = some o) → J.stop us.reverse.length H') → (∀ j H' x H'', (∀ b o, H4 b = some o → b ≠ w1 → H' b = some o) → J.yld j H' x H'' → H'' = H' ∧ us.reverse[j]? = some x) →
              ∃ W : Nat → Nat → L2.St → Hp → Prop, (∃ m, W 0 m [some v, some (.ref f1), some (.ref w1), some (.ref a), v4] H4) ∧ ∀ i m σ H, W i m σ H → (J.stop i H ∧ Iv ((nodesD (.sq (.fl (.str z) :: cs)) ++ nodesDs ds0.reverse).length - 1) σ H) ∨ (J.go i H ∧ ∃ N : L2.St → Hp → Prop, (∀ σ' H', N σ' H' → ∃ m', m' < m ∧ W (i + 1) m' σ' H') ∧
                ∀ x H', J.yld i H x H' → gName 4 x σ H' fun σ2 H2 => tDrop (tBM K "list" rAppend (tVar 2) (tCons (tVar 4) tNil)) { nx := N, rt := Q, bk := Iv ((nodesD (.sq (.fl (.str z) :: cs)) ++ nodesDs ds0.reverse).length - 1), ct := N } σ2 H2) := by
            intro J H4 s4 jgo jst jyl
            have hr : us.reverse.length = cs.length := by rw [List.length_reverse]; exact hul
            refine for_gen (J := J) (D := { nx := Iv ((nodesD (.sq (.fl (.str z) :: cs)) ++ nodesDs ds0.reverse).length - 1), rt := Q }) us.reverse.length (fun j σ H' => ∃ v4, σ = [some v, some (.ref f1), some (.ref w1), some (.ref a), v4] ∧ H' w1 = some (.lst (wl0 ++ us.reverse.take j)) ∧ ∀ b o, H4 b = some o → b ≠ w1 → H' b = some o)
              ⟨v4, rfl, by rw [List.take_zero, List.append_nil]; exact s4 _ _ hw3, fun b o e _ => e⟩ (fun j σ H' hj ⟨_, _, _, kp⟩ => jgo j H' hj kp) (fun σ H' ⟨_, _, _, kp⟩ => jst H' kp) ?_ ?_
            · rintro j σ H' y H'' hj ⟨v4, rfl, hw, kp⟩ yl
              obtain ⟨rfl, hy⟩ := jyl j H' y H'' kp yl
              obtain ⟨hlt, ey⟩ := List.getElem?_eq_some_iff.mp hy
              refine ⟨_, rfl, .inl ⟨rfl, _, SqL.of hw⟩, _, rfl, w1, _, y, rfl, rfl, hw, by rw [sizeLine_eq, List.length_append, List.length_take]; omega, some y, rfl, ?_, fun b o e n => by rw [upd_ne n]; exact kp b o e n⟩
              rw [upd_same, List.take_succ_eq_append_getElem hlt, ← List.append_assoc, ey]
            · rintro σ H' ⟨v4, rfl, hw, kp⟩
              rw [List.take_of_length_le (Nat.le_refl _)] at hw
              refine ⟨_, v4, _, _, ds0 ++ cs.reverse, _, rfl, hm3, kp _ _ (s4 _ _ hf3) fw, hw, fun b o e => kp b o (s4 _ _ (s3 _ _ e)) (ne_of_none e nwH), hfs3, DAts.app hd0 (DAts.rev hus), isShs_of fun q hq => ?_, heq3⟩
              rcases List.mem_append.mp hq with hq | hq
              · exact isShs_mem hss0 q hq
              · exact isShs_mem hcs q (List.mem_reverse.mp hq)
          have q3 : H3 a = some (.tup (u :: us)) ∨ H3 a = some (.lst (u :: us)) := q.imp (s3 _ _) (fun e => s3 _ _ e.2)
          rcases q3 with q3 | q3
          · refine .inr ⟨_, rfl, a, u :: us, rfl, Nat.succ_pos _, .inr ⟨SqT.of q3, fun p np => ⟨p, rfl, ⟨_, SqT.of upd_same⟩, ?_⟩⟩⟩
            have pw : p ≠ w1 := (ne_of_none hw3 np).symm
            exact walk (Itt K p) _ (same_upd np) (fun j H' hj kp => ⟨_, us.reverse.getD j .non, SqT.of (kp p _ upd_same pw), getD_at hj⟩) (fun H' kp => ⟨_, SqT.of (kp p _ upd_same pw), Nat.le_refl _⟩) (fun j H' x H'' kp yl => ⟨yl.1, yl.2 _ (SqT.of (kp p _ upd_same pw))⟩)
          · refine .inl ⟨_, rfl, a, u :: us, rfl, Nat.succ_pos _, .inl ⟨SqL.of q3, fun p np => ⟨p, rfl, ⟨_, SqL.of upd_same⟩, ?_⟩⟩⟩
            have pw : p ≠ w1 := (ne_of_none hw3 np).symm
            exact walk (Itl K p) _ (same_upd np) (fun j H' hj kp => ⟨_, us.reverse.getD j .non, SqL.of (kp p _ upd_same pw), getD_at hj⟩) (fun H' kp => ⟨_, SqL.of (kp p _ upd_same pw), Nat.le_refl _⟩) (fun j H' x H'' kp yl => ⟨yl.1, yl.2 _ (SqL.of (kp p _ upd_same pw))⟩)
        | [], hus => exact hus.elim
end
end KT

namespace KT
open PySem PySem.Spec PyProof.Rows L2 C8 XE XR SX
/-! node_text, text_of; what is built from the nodes, from the back -/
def stepG {α : Type} (leaf : Str → α) (node : Str → List α → α) (st : List α) : D → List α
  | .fl (.str z) => st ++ [leaf z]
  | .sq (.fl (.str z) :: cs) => st.take (st.length - cs.length) ++ [node z (st.drop (st.length - cs.length)).reverse]
  | _ => st
mutual
def valG {α : Type} (leaf : Str → α) (node : Str → List α → α) : D → List α
  | .fl (.str z) => [leaf z]
  | .sq (.fl (.str z) :: cs) => [node z (valGs leaf node cs)]
  | _ => []
def valGs {α : Type} (leaf : Str → α) (node : Str → List α → α) : List D → List α
  | [] => []
  | d :: ds => valG leaf node d ++ valGs leaf node ds
end
section
variable {α : Type} {leaf : Str → α} {node : Str → List α → α}
theorem valG_len : ∀ {d : D}, isSh d = true → (valG leaf node d).length = 1 := fun {d} h => by
  rcases isSh_inv h with ⟨z, rfl, _⟩ | ⟨z, cs, rfl, _, _⟩
  · simp [valG]
  · simp [valG]
theorem valGs_len : ∀ {ds : List D}, isShs ds = true → (valGs leaf node ds).length = ds.length
  | [], _ => rfl
  | d :: ds, h => by
    rw [isShs, Bool.and_eq_true] at h
    rw [valGs, List.length_append, valG_len h.1, valGs_len h.2, List.length_cons, Nat.add_comm]
mutual
theorem fold_g : ∀ (d : D) (st : List α), isSh d = true → (nodesD d).reverse.foldl (stepG leaf node) st = st ++ valG leaf node d
  | .fl x, st, h => by
    cases x with
    | str z => simp [nodesD, stepG, valG]
    | _ => cases h
  | .emp, st, h => by cases h
  | .sq [], st, h => by cases h
  | .sq (x :: cs), st, h => by
    rcases isSh_inv h with ⟨z, e, _⟩ | ⟨z, cs', e, _, hcs⟩
    · cases e
    · cases e
      rw [nodesD, List.reverse_cons, List.foldl_append, folds_g cs st hcs]
      show stepG leaf node (st ++ (valGs leaf node cs).reverse) (.sq (.fl (.str z) :: cs)) = _
      have hl : (st ++ (valGs leaf node cs).reverse).length - cs.length = st.length := by rw [List.length_append, List.length_reverse, valGs_len hcs]; omega
      unfold stepG
      dsimp only
      rw [hl, List.take_left' rfl, List.drop_left' rfl, List.reverse_reverse, valG]
theorem folds_g : ∀ (ds : List D) (st : List α), isShs ds = true → (nodesDs ds).reverse.foldl (stepG leaf node) st = st ++ (valGs leaf node ds).reverse
  | [], st, _ => by simp [nodesDs, valGs]
  | d :: ds, st, h => by
    rw [isShs, Bool.and_eq_true] at h
    have h1 := valG_len (leaf := leaf) (node := node) h.1
    rw [nodesDs, List.reverse_append, List.foldl_append, folds_g ds st h.2, fold_g d _ h.1, valGs, List.reverse_append, List.append_assoc]
    congr 2
    match valG leaf node d, h1 with
    | [a], _ => rfl
end
end
mutual
/-- behind a node stand those beneath it -/
theorem nodes_split : ∀ (d : D) {pre post : List D} {x : D} {cs : List D}, nodesD d = pre ++ .sq (x :: cs) :: post → ∃ rest, post = nodesDs cs ++ rest
  | .fl y, pre, post, x, cs, e => by
    have e : [D.fl y] = pre ++ .sq (x :: cs) :: post := by rw [← e]; simp [nodesD]
    cases pre with
    | nil => cases e
    | cons p pre => simp at e
  | .emp, pre, post, x, cs, e => by
    have e : [D.emp] = pre ++ .sq (x :: cs) :: post := by rw [← e]; simp [nodesD]
    cases pre with
    | nil => cases e
    | cons p pre => simp at e
  | .sq [], pre, post, x, cs, e => by
    have e : [D.sq []] = pre ++ .sq (x :: cs) :: post := by rw [← e]; simp [nodesD]
    cases pre with
    | nil => cases e
    | cons p pre => simp at e
  | .sq (y :: es), pre, post, x, cs, e => by
    rw [nodesD] at e
    cases pre with
    | nil =>
      injection e with e1 e2
      injection e1 with e1
      injection e1 with e1 e3
      subst e3
      exact ⟨[], by rw [List.append_nil]; exact e2.symm⟩
    | cons p pre =>
      injection e with _ e2
      exact nodess_split es e2
theorem nodess_split : ∀ (ds : List D) {pre post : List D} {x : D} {cs : List D}, nodesDs ds = pre ++ .sq (x :: cs) :: post → ∃ rest, post = nodesDs cs ++ rest
  | [], pre, post, x, cs, e => by
    have e : [] = pre ++ .sq (x :: cs) :: post := by rw [← e]; simp [nodesDs]
    cases pre <;> cases e
  | d :: ds, pre, post, x, cs, e => by
    rw [nodesDs] at e
    rcases List.append_eq_append_iff.mp e with ⟨a, e1, e2⟩ | ⟨c, e1, e2⟩
    · exact nodess_split ds e2
    · cases c with
      | nil =>
        rw [List.nil_append] at e2
        exact nodess_split ds (pre := []) e2.symm
      | cons c0 c =>
        injection e2 with e3 e4
        subst e3
        obtain ⟨rest, e5⟩ := nodes_split d e1
        exact ⟨rest ++ nodesDs ds, by rw [e4, e5]; exact List.append_assoc _ _ _⟩
end
theorem isSh_nodes : ∀ {d : D}, isSh d = true → ∀ n ∈ nodesD d, isSh n = true := by
  have go : ∀ n : Nat, (∀ d : D, sz d ≤ n → isSh d = true → ∀ m ∈ nodesD d, isSh m = true) ∧ ∀ ds : List D, szs ds ≤ n → isShs ds = true → ∀ m ∈ nodesDs ds, isSh m = true := by
    intro n
    induction n with
    | zero =>
      refine ⟨fun d h => by have := sz_pos d; omega, fun ds h _ m hm => ?_⟩
      cases ds with
      | nil => cases hm
      | cons d ds => rw [szs] at h; have := sz_pos d; omega
    | succ n ih =>
      have one : ∀ d : D, sz d ≤ n + 1 → isSh d = true → ∀ m ∈ nodesD d, isSh m = true := fun d h hs m hm => by
        rcases isSh_inv hs with ⟨z, rfl, hz⟩ | ⟨z, cs, rfl, _, hcs⟩
        · have : m = .fl (.str z) := by simpa [nodesD] using hm
          rw [this]; exact hs
        · rw [nodesD] at hm
          rcases List.mem_cons.mp hm with rfl | hm
          · exact hs
          · rw [sz, szs] at h
            have := sz_pos (.fl (.str z))
            exact ih.2 cs (by omega) hcs m hm
      refine ⟨one, fun ds => ?_⟩
      induction ds with
      | nil => intro _ _ m hm; cases hm
      | cons d ds ihd =>
        intro h hs m hm
        rw [isShs, Bool.and_eq_true] at hs
        rw [szs] at h
        rw [nodesDs] at hm
        rcases List.mem_append.mp hm with hm | hm
        · exact one d (by omega) hs.1 m hm
        · exact ihd (by omega) hs.2 m hm
  exact fun {d} h n hn => (go (sz d)).1 d (Nat.le_refl _) h n hn
/-- at each node the stack is high enough -/
theorem stack_high {α : Type} {leaf : Str → α} {node : Str → List α → α} {d : D} (h : isSh d = true) {j : Nat} {x : D} {cs : List D} (hj : (nodesD d).reverse[j]? = some (.sq (x :: cs))) : cs.length ≤ (((nodesD d).reverse.take j).foldl (stepG leaf node) []).length := by
  obtain ⟨hlt, e⟩ := List.getElem?_eq_some_iff.mp hj
  have e1 : (nodesD d).reverse = (nodesD d).reverse.take j ++ .sq (x :: cs) :: (nodesD d).reverse.drop (j + 1) := by
    rw [← e, List.getElem_cons_drop, List.take_append_drop]
  have e2 := congrArg List.reverse e1
  rw [List.reverse_reverse, List.reverse_append, List.reverse_cons, List.append_assoc] at e2
  obtain ⟨rest, e3⟩ := nodes_split d e2
  have hn := isSh_nodes h (.sq (x :: cs)) (by rw [e2]; simp)
  have hcs : isShs cs = true := by
    rcases isSh_inv hn with ⟨z, e, _⟩ | ⟨z, cs', e, _, hcs⟩
    · cases e
    · cases e; exact hcs
  have e3 : ((nodesD d).reverse.take j).reverse = nodesDs cs ++ rest := e3
  have e4 : (nodesD d).reverse.take j = rest.reverse ++ (nodesDs cs).reverse := by rw [← List.reverse_append, ← e3, List.reverse_reverse]
  rw [e4, List.foldl_append, folds_g cs _ hcs, List.length_append, List.length_reverse, valGs_len hcs]
  omega
end KT

/-! xs.count(x) of flat data: a number from 0 to len(xs) -/
namespace XR
open PySem PySem.Spec PySem.W PyProof.Rows L2
section
variable {X : Cx}
def rCntF (K : PySem.W.Frag) : V → List V → Hp → VK → Prop := fun x xs H Q => ∃ (p : Addr) (ys : List V) (y : V), x = .ref p ∧ xs = [y] ∧ SqL K H p ys ∧ flatV y = true ∧ ys.all flatV = true ∧ ∀ c : Int, 0 ≤ c → c ≤ ys.length → Q (.int c) H
theorem mt_lcountF : MtR X "list.count" (rCntF X.K) := by
  intro pins s σ H x xs v us Q I rx rxs h
  obtain ⟨a, ys, y, rfl, rfl, hs, fy, fys, q⟩ := h
  cases rx
  cases rxs with
  | cons ry rt =>
    rename_i uy ut
    cases rt
    obtain ⟨its, rv, ⟨⟨cls, dd, data, sl⟩, n, ho, hc, hdn, hd⟩, hlen⟩ := I.list hs
    simp only at hc hd
    subst hc hd
    have hvl := rv.length
    refine call_meets PySem.F.slot_list_count ⟨_, ho, rfl⟩ PySem.F.entry_list_count (PySem.F.args_list_count_2 _ _)
      (SeqAt.list_countAt a its.toArray n dd sl uy (eqU y)) ⟨ho, fun u' hu' => mem_eqAt ry fy rv fys u' (by simpa using hu'), ?_⟩
    have hle : its.toArray.toList.countP (eqU y) ≤ ys.length := by
      have := List.countP_le_length (p := eqU y) (l := its)
      simp only [List.toList_toArray] at *
      omega
    refine ⟨.int (its.toArray.toList.countP (eqU y) : Nat), H, I.tok _, ⟨s.toks, rfl⟩, q _ (Int.natCast_nonneg _) (by omega)⟩
end
end XR

namespace KT
open PySem PySem.Spec PyProof.Rows L2 C8 XE XR
/-! filled, as_tuples, size -/
abbrev sFilled : Stmt := top 13
abbrev sAsT : Stmt := top 14
mutual
theorem DAt.off {F : Addr → Prop} {H : Hp} {p : Addr} (n : H p = none) : ∀ (d : D) {v : V}, DAt F H v d → DAt (fun a => F a ∧ a ≠ p) H v d
  | .fl x, _, e => e
  | .emp, _, e => e
  | .sq xs, _, ⟨a, vs, e, q, o, k⟩ => ⟨a, vs, e, q.imp id fun ⟨f, q⟩ => ⟨⟨f, ne_of_none q n⟩, q⟩, o, DAts.off n xs k⟩
theorem DAts.off {F : Addr → Prop} {H : Hp} {p : Addr} (n : H p = none) : ∀ (ds : List D) {vs : List V}, DAts F H vs ds → DAts (fun a => F a ∧ a ≠ p) H vs ds
  | [], [], _ => trivial
  | d :: ds, v :: vs, ⟨k, t⟩ => ⟨DAt.off n d k, DAts.off n ds t⟩
  | [], _ :: _, k => k
  | _ :: _, [], k => k
end
theorem Hold.but1 {F : Addr → Prop} {H H' : Hp} {p : Addr} {xs : List V} (hp : H p = some (.lst xs)) (b : But p H H') (hF : ∀ a, F a → a ≠ p) : Hold F H H' :=
  ⟨fun a _ e => b _ _ e (ne_of e hp (by intro z; cases z)), fun a e => b _ _ e (ne_of e hp (by intro z; cases z)), fun a _ g e => b _ _ e (hF a g)⟩

def ndD (z : Str) (cs : List D) : D := .sq (.fl (.str z) :: cs)
def sub (f : Str → D) (d : D) : D := (valG f ndD d).headD .emp
theorem sub_fl (f : Str → D) (z : Str) : sub f (.fl (.str z)) = f z := by unfold sub; rw [valG]; rfl
theorem valGs_sub {f : Str → D} : ∀ {cs : List D}, isShs cs = true → valGs f ndD cs = cs.map (sub f)
  | [], _ => rfl
  | c :: cs, h => by
    rw [isShs, Bool.and_eq_true] at h
    have h1 := valG_len (leaf := f) (node := ndD) h.1
    rw [valGs, valGs_sub h.2, List.map_cons]
    unfold sub
    match valG f ndD c, h1 with
    | [t], _ => rfl
theorem sub_sq {f : Str → D} {z : Str} {cs : List D} (h : isShs cs = true) : sub f (.sq (.fl (.str z) :: cs)) = .sq (.fl (.str z) :: cs.map (sub f)) := by
  rw [← valGs_sub h]
  unfold sub
  rw [valG]
  rfl
theorem sub_idN : ∀ (n : Nat) (d : D), sz d ≤ n → isSh d = true → sub (fun z => .fl (.str z)) d = d
  | 0, d, h, _ => by have := sz_pos d; omega
  | n + 1, d, hn, h => by
    rcases isSh_inv h with ⟨z, rfl, _⟩ | ⟨z, cs, rfl, _, hcs⟩
    · exact sub_fl _ z
    · have hsc : sz (.sq (.fl (.str z) :: cs)) = 2 + szs cs := by rw [sz, szs, sz]; omega
      rw [sub_sq hcs]
      have : cs.map (sub fun z => .fl (.str z)) = cs := by
        conv => rhs; rw [← List.map_id cs]
        refine List.map_congr_left fun c hc => ?_
        obtain ⟨i, hi⟩ := List.getElem?_of_mem hc
        have := szs_get hi
        exact sub_idN n c (by omega) (isShs_mem hcs c hc)
      rw [this]
theorem step_len {α : Type} {leaf : Str → α} {node : Str → List α → α} (st : List α) (n : D) : (stepG leaf node st n).length ≤ st.length + 1 := by
  unfold stepG
  split
  · simp
  · rw [List.length_append, List.length_take, List.length_singleton]; omega
  · omega
theorem fold_len {α : Type} {leaf : Str → α} {node : Str → List α → α} : ∀ (ns : List D) (st : List α), (ns.foldl (stepG leaf node) st).length ≤ st.length + ns.length
  | [], st => Nat.le_refl _
  | n :: ns, st => by
    have h1 := fold_len (leaf := leaf) (node := node) ns (stepG leaf node st n)
    have h2 := step_len (leaf := leaf) (node := node) st n
    rw [List.foldl_cons, List.length_cons]
    omega
def spFilled : Sp := fun vs H Q _ => ∃ (v : V) (d : D) (F : Addr → Prop) (c : Addr) (kvs : List (Key × V)) (g : Str → D), vs = [v, .ref c] ∧ DAt F H v d ∧ isSh d = true ∧ sz d ≤ 5000 ∧ H c = some (.dK kvs) ∧
  (∀ z, wordS z = true → DAt nol H ((valV kvs (.inr z)).getD (.str z)) (g z)) ∧ ∀ v' H', Same H H' → DAt nol H' v' (sub g d) → Q v' H'
def spAsT : Sp := fun vs H Q _ => ∃ (v : V) (d : D) (F : Addr → Prop), vs = [v] ∧ DAt F H v d ∧ isSh d = true ∧ sz d ≤ 5000 ∧ ∀ v' H', Same H H' → DAt nol H' v' d → Q v' H'
abbrev NFi : List Str := ["shape", "contents", "made", "node", "children", "_"]
theorem scFilled : FnScope NFi ["shape", "contents"] (fnScope sFilled) := fnScope_by (by decide +kernel)
theorem scAsT : FnScope ["shape"] ["shape"] (fnScope sAsT) := fnScope_by (by decide +kernel)
section
variable {P : Program} {w : World} {K : PySem.W.Frag} {mg : Str → Option Value} {base : Heap}
theorem c_filled {f : Addr} {fd : FuncData} (F : Def K mg "filled" sFilled f fd) (b : Binds K fd ["shape", "contents"] []) (T : Blt4 mg) (CN : Cal P w K mg base 2 "nodes_in_order" spNodes []) (CH : Cal P w K mg base 1 "is_hole" spHole []) : Cal P w K mg base 3 "filled" spFilled [] := by
  refine cal0 F b .nil scFilled (fun vs H Q E h => ?_) (fun cdv A outer s H vs Q E hr h => ?_)
  · obtain ⟨v, d, G, c, kvs, g, rfl, _⟩ := h
    rfl
  · obtain ⟨v, d, G, c, kvs, g, rfl, hv, hsh, hsz, hc, hg, k⟩ := h
    have nd := scFilled.nd
    have hu1 : (A.deeper (envOfC "filled" (fnScope sFilled) s.heap.objs.size f cdv)).units + 1 < cLine := by have := hr.un; omega
    refine ⟨_, pss_cons (ps_set (i := 2) nd rfl (Or.inl rfl) (pe_lst pa_nil))
      (pss_cons (ps_for PassesOwn.never rfl (pi_list (pe_revL (pe_c CN hr (by decide) (by rfl) (pa_cons (pv 0) pa_nil)))) (pg_name (i := 3) nd rfl (Or.inl rfl))
        (pss_one (ps_if (pt_val (pe_c CH hr (by decide) (by rfl) (pa_cons (pv 3) pa_nil)))
          (pss_one (ps_expr (pe_bm PySem.F.plainAttrs_list PySem.F.slot_list_append PySem.F.type_list_append mt_append (pv 2) (pa_cons (pe_dget2 hu1 (pv 1) (pv 3) (pv 3) ⟨rfl, rfl, rfl, rfl⟩) pa_nil))))
          (pss_cons (ps_set (i := 4) nd rfl (Or.inl rfl) (pe_lst pa_nil))
          (pss_cut (ps_for PassesOwn.never rfl (PI.or (pi_list (pe_slice sl_list (pv 3) (po_some pe_int) po_none)) (pi_tup (pe_slice sl_tup (pv 3) (po_some pe_int) po_none))) (pg_name (i := 5) nd rfl (Or.inl rfl))
            (pss_one (ps_expr (pe_bm PySem.F.plainAttrs_list PySem.F.slot_list_append PySem.F.type_list_append mt_append (pv 4) (pa_cons (pe_bm0 PySem.F.plainAttrs_list PySem.F.slot_list_pop PySem.F.type_list_pop mt_pop (pv 2)) pa_nil)))))
          (pss_one (ps_expr (pe_bm PySem.F.plainAttrs_list PySem.F.slot_list_append PySem.F.type_list_append mt_append (pv 2) (pa_cons (pe_tup (pa_cons (pe_ix ix_seq (pv 3) pe_int fun _ _ => rfl) (StX.pa_star (pv 4) pa_nil))) pa_nil)))))))))
      (pss_one (ps_ret (pe_ix ix_list (pv 2) pe_int fun _ _ => rfl)))), ?_⟩
    have hsl := sizeLine_eq
    refine ⟨(by show 0 ≤ sizeLine; decide), fun m1 nm => ?_⟩
    have s0 : Same H (upd H m1 (.lst [])) := same_upd nm
    have hv0 : DAt (fun a => G a ∧ a ≠ m1) (upd H m1 (.lst [])) v d := DAt.hold (.same s0) _ (DAt.off nm _ hv)
    have hm0 : (upd H m1 (.lst [])) m1 = some (.lst []) := upd_same
    have cm : c ≠ m1 := ne_of_none hc nm
    generalize upd H m1 (.lst []) = H0 at s0 hv0 hm0
    refine ⟨_, rfl, v, d, _, rfl, hv0, hsh, hsz, fun p ws H1 np s1 hp hws => ⟨p, ws, rfl, SqL.of hp, fun q nq => ⟨q, rfl, ⟨_, SqL.of upd_same⟩, ?_⟩⟩⟩
    have s2 : Same H0 (upd H1 q (.lst ws.reverse)) := s1.trans (same_upd nq)
    have hq2 : (upd H1 q (.lst ws.reverse)) q = some (.lst ws.reverse) := upd_same
    have hm2 := s2 _ _ hm0
    have qm : q ≠ m1 := (ne_of_none (s1 _ _ hm0) nq).symm
    generalize upd H1 q (.lst ws.reverse) = H2 at s2 hq2 hm2
    have hc2 := s2 _ _ (s0 _ _ hc)
    have hws2 : DAts (fun a => G a ∧ a ≠ m1) H2 ws.reverse (nodesD d).reverse := DAts.hold (.same s2) _ (DAts.rev hws)
    have hwl := hws2.len
    have hnl : (nodesD d).reverse.length ≤ 5000 := by rw [List.length_reverse]; exact Nat.le_trans (nodes_sz d) hsz
    have hnsh : ∀ n ∈ (nodesD d).reverse, isSh n = true := fun n hn => isSh_nodes hsh n (List.mem_reverse.mp hn)
    refine for_gen (J := Itl K q) (nodesD d).reverse.length (fun j σ H' => ∃ v3 v4 v5 ls, σ = [some v, some (.ref c), some (.ref m1), v3, v4, v5] ∧ H' m1 = some (.lst ls) ∧ DAts nol H' ls (((nodesD d).reverse.take j).foldl (stepG g ndD) []) ∧ But m1 H2 H') ⟨_, _, _, [], rfl, hm2, trivial, .refl⟩
      (fun j σ H' hj ⟨_, _, _, _, _, _, _, b⟩ => ⟨_, ws.reverse.getD j .non, SqL.of (b _ _ hq2 qm), getD_at (by omega)⟩) (fun σ H' ⟨_, _, _, _, _, _, _, b⟩ => ⟨_, SqL.of (b _ _ hq2 qm), by omega⟩) ?_ ?_
    · rintro j σ H3 x H3' hj ⟨v3, v4, v5, ls, rfl, hm, hls, b⟩ ⟨rfl, hx⟩
      have hx := hx _ (SqL.of (b _ _ hq2 qm))
      obtain ⟨n, hn, hxn⟩ := hws2.get hx
      have hxn := DAt.hold (.but1 hm2 b fun a g => g.2) _ hxn
      obtain ⟨hlt, en⟩ := List.getElem?_eq_some_iff.mp hn
      have hnS := hnsh n (by rw [← en]; exact List.getElem_mem hlt)
      have hst : ((nodesD d).reverse.take (j + 1)).foldl (stepG g ndD) [] = stepG g ndD (((nodesD d).reverse.take j).foldl (stepG g ndD) []) n := by
        rw [List.take_succ_eq_append_getElem hlt, List.foldl_append, en]
        rfl
      have hfl := fold_len (leaf := g) (node := ndD) ((nodesD d).reverse.take j) []
      rw [List.length_take, List.length_nil] at hfl
      have hhigh : ∀ z cs, n = .sq (.fl (.str z) :: cs) → cs.length ≤ (((nodesD d).reverse.take j).foldl (stepG g ndD) []).length := fun z cs e => stack_high hsh (by rw [hn, e])
      rw [hst]
      generalize ((nodesD d).reverse.take j).foldl (stepG g ndD) [] = st at hls hhigh hfl
      have hll := hls.len
      have hcn := b _ _ hc2 cm
      refine ⟨_, rfl, x, n, _, rfl, hxn, isSt n, rfl, ?_⟩
      rcases isSh_inv hnS with ⟨z, rfl, hz⟩ | ⟨z, cs, rfl, hz, hcs⟩
      · obtain ⟨rfl, _⟩ := hxn
        have hgz : DAt nol H3' ((valV kvs (.inr z)).getD (.str z)) (g z) := DAt.hold (.but1 hm2 b fun _ h => h.elim) _ (DAt.hold (.same (s0.trans s2)) _ (hg z hz))
        refine iteBt rfl ⟨_, rfl, .inl ⟨rfl, _, SqL.of hm⟩, _, rfl, c, rfl, .inl ⟨kvs, .inl hcn⟩, _, rfl, _, rfl, _, DGet.k (k := .inr z) hcn, m1, ls, _, rfl, rfl, hm, by omega, _, v4, v5, _, rfl, upd_same, ?_, fun c o e n => by rw [upd_ne n]; exact b _ _ e n⟩
        have h10 : Hold nol H3' (upd H3' m1 (.lst (ls ++ [(valV kvs (.inr z)).getD (.str z)]))) := .but1 hm (fun b o e n => by rw [upd_ne n]; exact e) fun _ h => h.elim
        exact DAts.app (DAts.hold h10 _ hls) ⟨DAt.hold h10 _ hgz, trivial⟩
      · refine iteBf rfl ⟨(by show 0 ≤ sizeLine; decide), fun t1 nt => ?_⟩
        have hcl := hhigh z cs rfl
        obtain ⟨a, us, rfl, qa, _, hus⟩ := hxn
        match us, hus with
        | [], hus => exact hus.elim
        | u :: us, ⟨hu, hus⟩ =>
          obtain ⟨rfl, _⟩ := hu
          have hul := hus.len
          have tm : t1 ≠ m1 := (ne_of_none hm nt).symm
          have sA : Same H3' (upd H3' t1 (.lst [])) := same_upd nt
          have htA : (upd H3' t1 (.lst [])) t1 = some (.lst []) := upd_same
          generalize upd H3' t1 (.lst []) = H4 at sA htA
          have hm4 := sA _ _ hm
          refine ⟨fun σ H' => ∃ v5, σ = [some v, some (.ref c), some (.ref m1), some (.ref a), some (.ref t1), v5] ∧ H' m1 = some (.lst (ls.take (ls.length - cs.length))) ∧ H' t1 = some (.lst (ls.drop (ls.length - cs.length)).reverse) ∧ (∀ c o, H4 c = some o → c ≠ m1 → c ≠ t1 → H' c = some o), ?_, ?_⟩
          · have walk : ∀ (J : It) (H5 : Hp), Same H4 H5 → (∀ j H', j < us.length → (∀ c o, H5 c = some o → c ≠ m1 → c ≠ t1 → H' c = some o) → J.go j H') → (∀ H', (∀ c o, H5 c = some o → c ≠ m1 → c ≠ t1 → H' c = some o) → J.stop us.length H') → (∀ j H' x H'', (∀ c o, H5 c = some o → c ≠ m1 → c ≠ t1 → H' c = some o) → J.yld j H' x H'' → H'' = H') →
                ∃ W : Nat → Nat → L2.St → Hp → Prop, (∃ m, W 0 m [some v, some (.ref c), some (.ref m1), some (.ref a), some (.ref t1), v5] H5) ∧ ∀ i m σ H, W i m σ H → (J.stop i H ∧ ∃ v5, σ = [some v, some (.ref c), some (.ref m1), some (.ref a), some (.ref t1), v5] ∧ H m1 = some (.lst (ls.take (ls.length - cs.length))) ∧ H t1 = some (.lst (ls.drop (ls.length - cs.length)).reverse) ∧ (∀ c o, H4 c = some o → c ≠ m1 → c ≠ t1 → H c = some o)) ∨ (J.go i H ∧ ∃ N : L2.St → Hp → Prop, (∀ σ' H', N σ' H' → ∃ m', m' < m ∧ W (i + 1) m' σ' H') ∧
                  ∀ x H', J.yld i H x H' → gName 5 x σ H' fun σ2 H2 => tDrop (tBM K "list" rAppend (tVar 4) (tCons (tBM0 K "list" rPop (tVar 2)) tNil)) { nx := N, rt := Q, bk := fun σ H' => ∃ v5, σ = [some v, some (.ref c), some (.ref m1), some (.ref a), some (.ref t1), v5] ∧ H' m1 = some (.lst (ls.take (ls.length - cs.length))) ∧ H' t1 = some (.lst (ls.drop (ls.length - cs.length)).reverse) ∧ (∀ c o, H4 c = some o → c ≠ m1 → c ≠ t1 → H' c = some o), ct := N } σ2 H2) := by
              intro J H5 s5 jgo jst jyl
              refine for_gen (J := J) (D := { nx := fun σ H' => ∃ v5, σ = [some v, some (.ref c), some (.ref m1), some (.ref a), some (.ref t1), v5] ∧ H' m1 = some (.lst (ls.take (ls.length - cs.length))) ∧ H' t1 = some (.lst (ls.drop (ls.length - cs.length)).reverse) ∧ (∀ c o, H4 c = some o → c ≠ m1 → c ≠ t1 → H' c = some o), rt := Q }) us.length
                (fun i σ H' => ∃ v5, σ = [some v, some (.ref c), some (.ref m1), some (.ref a), some (.ref t1), v5] ∧ H' m1 = some (.lst (ls.take (ls.length - i))) ∧ H' t1 = some (.lst (ls.drop (ls.length - i)).reverse) ∧ (∀ c o, H5 c = some o → c ≠ m1 → c ≠ t1 → H' c = some o))
                ⟨v5, rfl, by rw [Nat.sub_zero, List.take_length]; exact s5 _ _ hm4, by rw [Nat.sub_zero, List.drop_length]; exact s5 _ _ htA, fun c o e _ _ => e⟩ (fun i σ H' hi ⟨_, _, _, _, kp⟩ => jgo i H' hi kp) (fun σ H' ⟨_, _, _, _, kp⟩ => jst H' kp) ?_ ?_
              · rintro i σ H' y H'' hi ⟨v5, rfl, h1, h2, kp⟩ yl
                obtain rfl := jyl i H' y H'' kp yl
                have hlt2 : ls.length - i - 1 < ls.length := by omega
                have e1 : ls.take (ls.length - i) = ls.take (ls.length - (i + 1)) ++ [ls[ls.length - i - 1]] := by
                  have e0 := List.take_succ_eq_append_getElem hlt2
                  rw [show ls.length - i - 1 + 1 = ls.length - i by omega] at e0
                  exact e0
                have e2 : ls.drop (ls.length - (i + 1)) = ls[ls.length - i - 1] :: ls.drop (ls.length - i) := by
                  have : ls.length - (i + 1) = ls.length - i - 1 := by omega
                  rw [this, List.drop_eq_getElem_cons hlt2]
                  congr 2
                  omega
                refine ⟨_, rfl, .inl ⟨rfl, _, SqL.of h2⟩, _, rfl, .inl ⟨rfl, _, SqL.of h1⟩, m1, _, ls[ls.length - i - 1], rfl, rfl, h1, ?_, ?_⟩
                · rw [e1, List.length_append]
                  simp
                · refine ⟨t1, _, _, rfl, rfl, by rw [upd_ne tm]; exact h2, by rw [List.length_reverse, List.length_drop]; omega, _, rfl, ?_, ?_, fun c o e n1 n2 => by rw [upd_ne n2, upd_ne n1]; exact kp c o e n1 n2⟩
                  · rw [upd_ne tm.symm, upd_same, e1]
                    congr 2
                    simp
                  · rw [upd_same, e2, List.reverse_cons]
              · rintro σ H' ⟨v5, rfl, h1, h2, kp⟩
                rw [hul] at h1 h2
                exact ⟨v5, rfl, h1, h2, fun c o e n1 n2 => kp c o (s5 _ _ e) n1 n2⟩
            have qa4 : H4 a = some (.tup (.str z :: us)) ∨ H4 a = some (.lst (.str z :: us)) := qa.imp (sA _ _) fun e => sA _ _ e.2
            rcases qa4 with qa4 | qa4
            · refine .inr ⟨_, rfl, 1, rfl, a, _, rfl, SqT.of qa4, not_whole (by decide) (by simp), fun p3 n3 => ?_⟩
              rw [cutFrom (by decide)]
              have e3 : (V.str z :: us).drop (1 : Int).toNat = us := rfl
              rw [e3]
              refine ⟨p3, rfl, ⟨_, SqT.of upd_same⟩, ?_⟩
              have pm : p3 ≠ m1 := (ne_of_none hm4 n3).symm
              have pt : p3 ≠ t1 := (ne_of_none htA n3).symm
              exact walk (Itt K p3) _ (same_upd n3) (fun j H' hj kp => ⟨_, us.getD j .non, SqT.of (kp p3 _ upd_same pm pt), getD_at hj⟩) (fun H' kp => ⟨_, SqT.of (kp p3 _ upd_same pm pt), Nat.le_refl _⟩) (fun j H' x H'' kp yl => yl.1)
            · refine .inl ⟨_, rfl, 1, rfl, a, _, rfl, SqL.of qa4, fun p3 n3 => ?_⟩
              rw [cutFrom (by decide)]
              have e3 : (V.str z :: us).drop (1 : Int).toNat = us := rfl
              rw [e3]
              refine ⟨p3, rfl, ⟨_, SqL.of upd_same⟩, ?_⟩
              have pm : p3 ≠ m1 := (ne_of_none hm4 n3).symm
              have pt : p3 ≠ t1 := (ne_of_none htA n3).symm
              exact walk (Itl K p3) _ (same_upd n3) (fun j H' hj kp => ⟨_, us.getD j .non, SqL.of (kp p3 _ upd_same pm pt), getD_at hj⟩) (fun H' kp => ⟨_, SqL.of (kp p3 _ upd_same pm pt), Nat.le_refl _⟩) (fun j H' x H'' kp yl => yl.1)
          · rintro σ H5 ⟨v5, rfl, h1, h2, kp⟩
            have am : a ≠ m1 := by
              rcases qa with qa | qa
              · exact ne_of qa hm (by intro z; cases z)
              · exact qa.1.2
            have at1 : a ≠ t1 := by
              rcases qa with qa | qa
              · exact ne_of_none qa nt
              · exact ne_of_none qa.2 nt
            have qa5 : H5 a = some (.tup (.str z :: us)) ∨ H5 a = some (.lst (.str z :: us)) := qa.imp (fun e => kp _ _ (sA _ _ e) am at1) fun e => kp _ _ (sA _ _ e.2) am at1
            have h35 : Hold nol H3' H5 := ⟨fun a vs e => kp _ _ (sA _ _ e) (ne_of e hm (by intro z; cases z)) (ne_of_none e nt), fun a e => kp _ _ (sA _ _ e) (ne_of e hm (by intro z; cases z)) (ne_of_none e nt), fun _ _ h => h.elim⟩
            have hls5 := DAts.hold h35 _ hls
            have fin : ∀ p, H5 p = none → ∃ (l : Addr) (xs : List V) (y : V), V.ref m1 = .ref l ∧ [V.ref p] = [y] ∧ (upd H5 p (.tup (.str z :: (ls.drop (ls.length - cs.length)).reverse))) l = some (.lst xs) ∧ xs.length < sizeLine ∧
                ∃ v3 v4' v5' ls', [some v, some (.ref c), some (.ref m1), some (.ref a), some (.ref t1), v5] = [some v, some (.ref c), some (.ref m1), v3, v4', v5'] ∧ (upd (upd H5 p (.tup (.str z :: (ls.drop (ls.length - cs.length)).reverse))) l (.lst (xs ++ [y]))) m1 = some (.lst ls') ∧ DAts nol (upd (upd H5 p (.tup (.str z :: (ls.drop (ls.length - cs.length)).reverse))) l (.lst (xs ++ [y]))) ls' (stepG g ndD st (.sq (.fl (.str z) :: cs))) ∧ But m1 H2 (upd (upd H5 p (.tup (.str z :: (ls.drop (ls.length - cs.length)).reverse))) l (.lst (xs ++ [y]))) := by
              intro p np
              have sp := same_upd np (o := .tup (.str z :: (ls.drop (ls.length - cs.length)).reverse))
              have hpp : (upd H5 p (.tup (.str z :: (ls.drop (ls.length - cs.length)).reverse))) p = some (.tup (.str z :: (ls.drop (ls.length - cs.length)).reverse)) := upd_same
              generalize upd H5 p (.tup (.str z :: (ls.drop (ls.length - cs.length)).reverse)) = H6 at sp hpp
              have hm6 := sp _ _ h1
              have hls6 := DAts.hold (.same sp) _ hls5
              refine ⟨m1, _, _, rfl, rfl, hm6, by rw [List.length_take]; omega, _, _, _, _, rfl, upd_same, ?_, fun c o e n1 => ?_⟩
              · have h10 : Hold nol H6 (upd H6 m1 (.lst (ls.take (ls.length - cs.length) ++ [.ref p]))) := .but1 hm6 (fun b o e n => by rw [upd_ne n]; exact e) fun _ h => h.elim
                show DAts nol _ _ (st.take (st.length - cs.length) ++ [ndD z (st.drop (st.length - cs.length)).reverse])
                rw [← hll]
                exact DAts.app (DAts.hold h10 _ (DAts.take _ hls6)) ⟨DAt.hold h10 _ ⟨p, _, rfl, .inl hpp, rfl, ⟨rfl, rfl⟩, DAts.rev (DAts.drop _ hls6)⟩, trivial⟩
              · rw [upd_ne n1]
                exact sp _ _ (kp c o (sA _ _ (b _ _ e n1)) n1 (ne_of_none (b _ _ e n1) nt))
            have len : ((ls.drop (ls.length - cs.length)).reverse).length ≤ 5000 := by rw [List.length_reverse, List.length_drop]; omega
            refine ⟨_, rfl, .inl ⟨rfl, _, SqL.of h1⟩, _, rfl, ?_⟩
            rcases qa5 with qa5 | qa5
            · exact .inr (.inl ⟨a, _, 0, _, rfl, rfl, SqT.of qa5, at_of (j := 0) (by omega) rfl, _, rfl, t1, _, rfl, .inr (SqL.of h2), by rw [List.length_cons, List.append_nil]; omega, fun p np => by rw [List.append_nil]; exact fin p np⟩)
            · exact .inl ⟨a, _, 0, _, rfl, rfl, SqL.of qa5, at_of (j := 0) (by omega) rfl, _, rfl, t1, _, rfl, .inr (SqL.of h2), by rw [List.length_cons, List.append_nil]; omega, fun p np => by rw [List.append_nil]; exact fin p np⟩
    · rintro σ H3 ⟨v3, v4, v5, ls, rfl, hm, hls, b⟩
      rw [List.take_length, fold_g d [] hsh, List.nil_append] at hls
      have h1 := valG_len (leaf := g) (node := ndD) hsh
      have sm : Same H H3 := fun c o e => b _ _ (s2 _ _ (s0 _ _ e)) (ne_of_none e nm)
      have e1 : valG g ndD d = [sub g d] := by
        unfold sub
        match valG g ndD d, h1 with
        | [t], _ => rfl
      rw [e1] at hls
      match ls, hls with
      | [x], ⟨hx, _⟩ => exact ⟨_, rfl, m1, _, 0, x, rfl, rfl, SqL.of hm, at_of (j := 0) (by omega) rfl, k x H3 sm hx⟩
theorem c_asT {f : Addr} {fd : FuncData} (F : Def K mg "as_tuples" sAsT f fd) (b : Binds K fd ["shape"] []) (T : Blt4 mg) (CF : Cal P w K mg base 3 "filled" spFilled []) : Cal P w K mg base 4 "as_tuples" spAsT [] := by
  refine cal0 F b .nil scAsT (fun vs H Q E h => ?_) (fun cdv A outer s H vs Q E hr h => ?_)
  · obtain ⟨v, d, G, rfl, _⟩ := h
    rfl
  · obtain ⟨v, d, G, rfl, hv, hsh, hsz, k⟩ := h
    refine ⟨_, pss_one (ps_ret (pe_c CF hr (by decide) (by rfl) (pa_cons (pv 0) (pa_cons pe_dnewK pa_nil)))), _, rfl, fun p np => ?_⟩
    have sp : Same H (upd H p (.dK [])) := same_upd np
    refine ⟨v, d, G, p, [], fun z => .fl (.str z), rfl, DAt.hold (.same sp) _ hv, hsh, hsz, upd_same, fun z _ => ⟨rfl, rfl⟩, fun v' H' s hd' => k v' H' (sp.trans s) (by rw [sub_idN _ d (Nat.le_refl _) hsh] at hd'; exact hd')⟩
end
end KT

namespace KT
open PySem PySem.Spec PyProof.Rows L2 C8 XE
/-! is_number, is_row, of any data -/
abbrev sRow : Stmt := top 7
def numB : D → Bool
  | .fl (.int _) => true
  | _ => false
theorem d_ty2 {K : PySem.W.Frag} {F : Addr → Prop} {H : Hp} {v : V} : ∀ {d : D}, DAt F H v d → ∃ T, (∀ H', Same H H' → TyX K H' v (.type T)) ∧ PySem.W.kitAny K (.type T) [.type "list", .type "tuple"] = some (isSq d) ∧ PySem.W.kitOne K (.type T) (.type "str") = some (isSt d) ∧
    ∃ b, PySem.W.kitOne K (.type T) (.type "int") = some (numB d || b) ∧ PySem.W.kitOne K (.type T) (.type "bool") = some b ∧ (b = true → numB d = false) := by
  have z : ∀ T ∈ ["NoneType", "bool", "int", "str", "dict", "list", "tuple"], kitB T "list" = some (T == "list") ∧ kitB T "tuple" = some (T == "tuple") ∧ kitB T "str" = some (T == "str") ∧ kitB T "int" = some (T == "int" || T == "bool") ∧ kitB T "bool" = some (T == "bool") := by decide +kernel
  have mk : ∀ (T : String) (b c n : Bool), T ∈ ["NoneType", "bool", "int", "str", "dict", "list", "tuple"] → (T == "list" || T == "tuple") = b → (T == "str") = c → (T == "int") = n → PySem.W.kitAny K (.type T) [.type "list", .type "tuple"] = some b ∧ PySem.W.kitOne K (.type T) (.type "str") = some c ∧
      ∃ b, PySem.W.kitOne K (.type T) (.type "int") = some (n || b) ∧ PySem.W.kitOne K (.type T) (.type "bool") = some b ∧ (b = true → n = false) := by
    intro T b c n hT e1 e2 e3
    obtain ⟨h1, h2, h3, h4, h5⟩ := z T hT
    refine ⟨kitAny_cons (kit_ty h1) (fun e => ?_) (fun e => ?_), by rw [kit_ty h3, e2], T == "bool", by rw [kit_ty h4, e3], kit_ty h5, fun hb => ?_⟩
    · rw [e, Bool.false_or] at e1
      exact kitAny_cons (b := (T == "tuple")) (kit_ty h2) (fun e' => by rw [← e1, e']; exact kitAny_nil) fun e' => by rw [← e1, e']
    · rw [e] at e1
      rw [← e1]; rfl
    · rw [← e3, beq_iff_eq.mp hb]
      rfl
  intro d h
  cases d with
  | fl x =>
    obtain ⟨rfl, fx⟩ := h
    cases v with
    | non => exact ⟨"NoneType", fun _ _ => .base .non, mk _ _ _ _ (by decide) rfl rfl rfl⟩
    | bl b => exact ⟨"bool", fun _ _ => .base (.bl b), mk _ _ _ _ (by decide) rfl rfl rfl⟩
    | int i => exact ⟨"int", fun _ _ => .base (.int i), mk _ _ _ _ (by decide) rfl rfl rfl⟩
    | str z => exact ⟨"str", fun _ _ => .base (.str z), mk _ _ _ _ (by decide) rfl rfl rfl⟩
    | _ => cases fx
  | emp =>
    obtain ⟨a, rfl, q⟩ := h
    exact ⟨"dict", fun H' s => .base (.dK (s _ _ q)), mk _ _ _ _ (by decide) rfl rfl rfl⟩
  | sq xs =>
    obtain ⟨a, vs, rfl, q, _⟩ := h
    rcases q with q | ⟨_, q⟩
    · exact ⟨"tuple", fun H' s => .base (.tup (s _ _ q)), mk _ _ _ _ (by decide) rfl rfl rfl⟩
    · exact ⟨"list", fun H' s => .base (.lst (s _ _ q)), mk _ _ _ _ (by decide) rfl rfl rfl⟩
def spRow : Sp := fun vs H Q _ => ∃ (v : V) (d : D) (F : Addr → Prop), vs = [v] ∧ DAt F H v d ∧ ∀ H', Same H H' → Q (.bl (isSq d)) H'
theorem scRow : FnScope ["thing"] ["thing"] (fnScope sRow) := fnScope_by (by decide +kernel)
section
variable {P : Program} {w : World} {K : PySem.W.Frag} {mg : Str → Option Value} {base : Heap}
theorem c_row {f : Addr} {fd : FuncData} (F : Def K mg "is_row" sRow f fd) (b : Binds K fd ["thing"] []) (T : Blt4 mg) : Cal P w K mg base 1 "is_row" spRow [] := by
  refine cal0 F b .nil scRow (fun vs H Q E h => ?_) (fun cdv A outer s H vs Q E hr h => ?_)
  · obtain ⟨v, d, G, rfl, _⟩ := h
    rfl
  · obtain ⟨v, d, G, rfl, hv, k⟩ := h
    refine ⟨_, pss_one (ps_ret (pe_callB call_isiT (by rfl) T.isi (by decide +kernel) (pa_cons (pv 0) (pa_cons (pe_tup (pa_cons (pe_bt "list" T.list) (pa_cons (pe_bt "tuple" T.tup) pa_nil))) pa_nil)))), ?_⟩
    obtain ⟨Ty, ty, k1, _⟩ := d_ty2 (K := K) hv
    exact ⟨_, rfl, (by show 2 ≤ sizeLine; decide), fun p np => ⟨v, p, [.ty "list", .ty "tuple"], _, _, _, rfl, upd_same, .cons (.ty _) (.cons (.ty _) .nil), ty _ (same_upd np), k1, k _ (same_upd np)⟩⟩
end
end KT

namespace KT
open PySem PySem.Spec PyProof.Rows L2 C8 XE XR
def subD : D → List Int → D
  | d, [] => d
  | .sq (_ :: cs), i :: p => subD (cs.getD i.toNat .emp) p
  | d, _ :: _ => d
abbrev sAt : Stmt := top 40
def spAt (N : Nat) : Sp := fun vs H Q _ => ∃ (v : V) (pv : V) (t : D) (p : List Int) (rs : List Rw), vs = [v, pv] ∧ PlV H pv p ∧ DAt nol H v t ∧ isT rs t = true ∧ InT t p ∧ p.length < N ∧ p.length ≤ 1000 ∧
  ∀ (v' : V) (t' : D) (H' : Hp), Same H H' → DAt nol H' v' t' → isT rs t' = true → sz t' ≤ sz t → t' = subD t p → Q v' H'
theorem scAt : FnScope ["_law_tree_here", "_law_place"] ["_law_tree_here", "_law_place"] (fnScope sAt) := fnScope_by (by decide +kernel)
section
variable {P : Program} {w : World} {K : PySem.W.Frag} {mg : Str → Option Value} {base : Heap}
theorem at_step {k : Nat} {N : Nat} {f : Addr} {fd : FuncData} (F : Def K mg "_law_at" sAt f fd) (b : Binds K fd ["_law_tree_here", "_law_place"] []) (T : Blt4 mg) (CA : Cal P w K mg base k "_law_at" (spAt N) []) : Cal P w K mg base (k + 1) "_law_at" (spAt (N + 1)) [] := by
  refine cal0 F b .nil scAt (fun vs H Q E h => ?_) (fun cdv A outer s H vs Q E hr h => ?_)
  · obtain ⟨v, pv, t, p, rs, rfl, _⟩ := h
    rfl
  · obtain ⟨v, pl, t, p, rs, rfl, hp, hv, ht, hin, hN, h1, kk⟩ := h
    have hu : (A.deeper (envOfC "_law_at" (fnScope sAt) s.heap.objs.size f cdv)).units + 64 < cLine := by have := hr.un; omega
    refine ⟨_, pss_one (ps_ret (pe_ifExp (pt_cmpR (op_eqNilT hu) (pv 1) (pe_tup pa_nil) (nomark _)) (pv 0)
      (pe_c CA hr (Nat.le_refl _) (by rfl) (pa_cons (pe_ix ix_tup (pv 0) (pe_op op_add (pe_ix ix_tup (pv 1) pe_int fun _ _ => rfl) pe_int) fun _ _ => rfl) (pa_cons (pe_slice sl_tup (pv 1) (po_some pe_int) po_none) pa_nil))))), ?_⟩
    obtain ⟨a, rfl, ha⟩ := hp
    refine ⟨_, rfl, (by show 0 ≤ sizeLine; decide), fun e ne => ⟨a, e, _, rfl, rfl, SqT.of (by rw [upd_ne (ne_of_none ha ne)]; exact ha), SqT.of upd_same, _, rfl, ?_⟩⟩
    have s1 : Same H (upd H e (.tup [])) := same_upd ne
    generalize upd H e (.tup []) = H1 at s1
    cases p with
    | nil => exact iteBt rfl ⟨_, rfl, kk v t H1 s1 (DAt.hold (.same s1) _ hv) ht (Nat.le_refl _) (by rw [subD])⟩
    | cons i p =>
      refine iteBf rfl ?_
      obtain ⟨b, z, cvs, cs, m, rfl, hb, rfl, hcs, hm, hl, hts⟩ := hv.tree ht
      have hcl := hcs.len
      obtain ⟨i0, c, hc, hin'⟩ := hin
      have hc : cs[i.toNat]? = some c := by simpa using hc
      obtain ⟨hlt, _⟩ := List.getElem?_eq_some_iff.mp hc
      have hx : cvs[i.toNat]? = some cvs[i.toNat] := List.getElem?_eq_getElem (by omega)
      obtain ⟨c', hc', hxc⟩ := hcs.get hx
      rw [hc] at hc'
      obtain rfl := Option.some.inj hc'
      refine ⟨_, rfl, _, rfl, a, _, 0, .int i, rfl, rfl, SqT.of (s1 _ _ ha), at_of (j := 0) (by omega) rfl, i, 1, rfl, rfl, b, _, i + 1, cvs[i.toNat], rfl, rfl, SqT.of (s1 _ _ hb), at_of (j := i.toNat + 1) (by omega) (by simpa using hx), ?_⟩
      refine ⟨_, rfl, 1, rfl, a, _, rfl, SqT.of (s1 _ _ ha), not_whole (by decide) (by simp), fun q nq => ?_⟩
      rw [cutFrom (by decide)]
      have s2 := s1.trans (same_upd nq (o := .tup (((i :: p).map V.int).drop (1 : Int).toNat)))
      refine ⟨_, .ref q, c, p, rs, rfl, ⟨q, rfl, upd_same⟩, DAt.hold (.same s2) _ hxc, isTs_get hts hc, hin', by rw [List.length_cons] at hN; omega, by rw [List.length_cons] at h1; omega, fun v' t' H' s' hv' ht' hz he => kk v' t' H' (s2.trans s') hv' ht' ?_ (by rw [he, subD, List.getD_eq_getElem?_getD, hc]; rfl)⟩
      have := szs_get hc
      rw [sz, szs]
      omega
theorem c_at {f : Addr} {fd : FuncData} (F : Def K mg "_law_at" sAt f fd) (b : Binds K fd ["_law_tree_here", "_law_place"] []) (T : Blt4 mg) : ∀ N : Nat, Cal P w K mg base (1 + N) "_law_at" (spAt N) []
  | 0 => by
    have no : ∀ {vs H Q E}, spAt 0 vs H Q E → False := fun ⟨_, _, _, _, _, _, _, _, _, _, h, _⟩ => by omega
    exact cal0 F b .nil scAt (fun vs H Q E h => (no h).elim) (fun cdv A outer s H vs Q E hr h => (no h).elim)
  | N + 1 => at_step F b T (c_at F b T N)
end
end KT

namespace KT
open PySem PySem.Spec PyProof.Rows L2 C8 XE XR SX
/-! _law_holes, _law_spots -/
abbrev sHoles : Stmt := top 42
abbrev sSpots : Stmt := top 43
mutual
/-- the holes with their places -/
def holesP : D → List (Str × List Int)
  | .fl (.str z) => [(z, [])]
  | .sq (_ :: cs) => holesPs 0 cs
  | _ => []
def holesPs : Nat → List D → List (Str × List Int)
  | _, [] => []
  | k, c :: cs => (holesP c).map (fun q => (q.1, (k : Int) :: q.2)) ++ holesPs (k + 1) cs
end
mutual
/-- the places of the labels -/
def spotsP : D → List (List Int)
  | .sq (_ :: cs) => [] :: spotsPs 0 cs
  | _ => []
def spotsPs : Nat → List D → List (List Int)
  | _, [] => []
  | k, c :: cs => (spotsP c).map (fun q => (k : Int) :: q) ++ spotsPs (k + 1) cs
end
theorem holesPs_snoc : ∀ (a : List D) (k : Nat) (c : D), holesPs k (a ++ [c]) = holesPs k a ++ (holesP c).map (fun q => (q.1, ((k + a.length : Nat) : Int) :: q.2))
  | [], k, c => by simp [holesPs]
  | x :: a, k, c => by
    rw [List.cons_append, holesPs, holesPs, holesPs_snoc a, List.append_assoc, List.length_cons, show k + 1 + a.length = k + (a.length + 1) by omega]
theorem spotsPs_snoc : ∀ (a : List D) (k : Nat) (c : D), spotsPs k (a ++ [c]) = spotsPs k a ++ (spotsP c).map (fun q => ((k + a.length : Nat) : Int) :: q)
  | [], k, c => by simp [spotsPs]
  | x :: a, k, c => by
    rw [List.cons_append, spotsPs, spotsPs, spotsPs_snoc a, List.append_assoc, List.length_cons, show k + 1 + a.length = k + (a.length + 1) by omega]
mutual
theorem holes_le : ∀ d : D, (holesP d).length ≤ sz d ∧ ∀ q ∈ holesP d, q.2.length ≤ sz d
  | .fl x => by cases x <;> simp [holesP, sz]
  | .emp => by simp [holesP]
  | .sq [] => by simp [holesP]
  | .sq (x :: cs) => by
    obtain ⟨h1, h2⟩ := holess_le cs 0
    have := sz_pos x
    rw [holesP, sz, szs]
    exact ⟨by omega, fun q hq => by have := h2 q hq; omega⟩
theorem holess_le : ∀ (cs : List D) (k : Nat), (holesPs k cs).length ≤ szs cs ∧ ∀ q ∈ holesPs k cs, q.2.length ≤ szs cs + 1
  | [], k => by simp [holesPs]
  | c :: cs, k => by
    obtain ⟨h1, h2⟩ := holes_le c
    obtain ⟨h3, h4⟩ := holess_le cs (k + 1)
    rw [holesPs, szs, List.length_append, List.length_map]
    refine ⟨by omega, fun q hq => ?_⟩
    rcases List.mem_append.mp hq with hq | hq
    · obtain ⟨p, hp, rfl⟩ := List.mem_map.mp hq
      have := h2 p hp
      rw [List.length_cons]
      omega
    · have := h4 q hq
      omega
end
mutual
theorem spots_le : ∀ d : D, (spotsP d).length ≤ sz d ∧ ∀ q ∈ spotsP d, q.length ≤ sz d
  | .fl x => by simp [spotsP]
  | .emp => by simp [spotsP]
  | .sq [] => by simp [spotsP]
  | .sq (x :: cs) => by
    obtain ⟨h1, h2⟩ := spotss_le cs 0
    have := sz_pos x
    rw [spotsP, sz, szs, List.length_cons]
    refine ⟨by omega, fun q hq => ?_⟩
    rcases List.mem_cons.mp hq with rfl | hq
    · simp
    · have := h2 q hq; omega
theorem spotss_le : ∀ (cs : List D) (k : Nat), (spotsPs k cs).length ≤ szs cs ∧ ∀ q ∈ spotsPs k cs, q.length ≤ szs cs + 1
  | [], k => by simp [spotsPs]
  | c :: cs, k => by
    obtain ⟨h1, h2⟩ := spots_le c
    obtain ⟨h3, h4⟩ := spotss_le cs (k + 1)
    rw [spotsPs, szs, List.length_append, List.length_map]
    refine ⟨by omega, fun q hq => ?_⟩
    rcases List.mem_append.mp hq with hq | hq
    · obtain ⟨p, hp, rfl⟩ := List.mem_map.mp hq
      have := h2 p hp
      rw [List.length_cons]
      omega
    · have := h4 q hq
      omega
end
/-- a hole with its place -/
def HolV (H : Hp) (v : V) (q : Str × List Int) : Prop := ∃ t p, v = .ref t ∧ H t = some (.tup [.str q.1, .ref p]) ∧ H p = some (.tup (q.2.map V.int))
theorem HolV.same {H H' : Hp} {v : V} {q : Str × List Int} (s : Same H H') (h : HolV H v q) : HolV H' v q := by
  obtain ⟨t, p, e, h1, h2⟩ := h
  exact ⟨t, p, e, s _ _ h1, s _ _ h2⟩
def spHoles (N : Nat) : Sp := fun vs H Q _ => ∃ (v : V) (d : D), vs = [v] ∧ DAt nol H v d ∧ isSh d = true ∧ sz d ≤ N ∧ sz d ≤ 5000 ∧ ∀ (l : Addr) (ws : List V) (H' : Hp), H l = none → Same H H' → H' l = some (.lst ws) → Paired (HolV H') ws (holesP d) → Q (.ref l) H'
def spSpots (N : Nat) : Sp := fun vs H Q _ => ∃ (v : V) (d : D), vs = [v] ∧ DAt nol H v d ∧ isSh d = true ∧ sz d ≤ N ∧ sz d ≤ 5000 ∧ ∀ (l : Addr) (ws : List V) (H' : Hp), H l = none → Same H H' → H' l = some (.lst ws) → Paired (PlV H') ws (spotsP d) → Q (.ref l) H'
abbrev NHo : List Str := ["_law_shape_here", "_law_found", "_law_k", "_law_child", "_law_hole", "_law_place"]
abbrev NSpo : List Str := ["_law_shape_here", "_law_found", "_law_k", "_law_child", "_law_place"]
theorem scHoles : FnScope NHo ["_law_shape_here"] (fnScope sHoles) := fnScope_by (by decide +kernel)
theorem scSpots : FnScope NSpo ["_law_shape_here"] (fnScope sSpots) := fnScope_by (by decide +kernel)
section
variable {P : Program} {w : World} {K : PySem.W.Frag} {mg : Str → Option Value} {base : Heap}
theorem holes_step {k : Nat} {N : Nat} {f : Addr} {fd : FuncData} (F : Def K mg "_law_holes" sHoles f fd) (b : Binds K fd ["_law_shape_here"] []) (T : Blt4 mg) (CP : Cal P w K mg base k "_law_holes" (spHoles N) []) : Cal P w K mg base (k + 1) "_law_holes" (spHoles (N + 1)) [] := by
  refine cal0 F b .nil scHoles (fun vs H Q E h => ?_) (fun cdv A outer s H vs Q E hr h => ?_)
  · obtain ⟨v, d, rfl, _⟩ := h
    rfl
  · obtain ⟨v, d, rfl, hv, hsh, h0, h1, kk⟩ := h
    have nd := scHoles.nd
    refine ⟨_, pss_cons (ps_if (pt_val (pe_callB call_isi (by rfl) T.isi (by decide +kernel) (pa_cons (pv 0) (pa_cons (pe_bt "str" T.str) pa_nil)))) (pss_one (ps_ret (pe_lst (pa_cons (pe_tup (pa_cons (pv 0) (pa_cons (pe_tup pa_nil) pa_nil))) pa_nil)))) pss_nil)
      (pss_cons (ps_set (i := 1) nd rfl (Or.inl rfl) (pe_lst pa_nil))
      (pss_cons (ps_for PassesOwn.never rfl (pi_enumT (by rfl) T.enu (pa_cons (pe_slice sl_tup (pv 0) (po_some pe_int) po_none) pa_nil)) (pg_tup rfl (pgs_cons (pg_name (i := 2) nd rfl (by first | exact Or.inl rfl | exact Or.inr rfl)) (pgs_cons (pg_name (i := 3) nd rfl (by first | exact Or.inl rfl | exact Or.inr rfl)) pgs_nil)))
          (pss_one (ps_expr (pe_bm PySem.F.plainAttrs_list PySem.F.slot_list_extend PySem.F.type_list_extend mt_extend (pv 1) (pa_cons
            (pe_lc (own := [("_law_hole", 4), ("_law_place", 5)]) (g := gTup K 2 (gCons (gName 4) (gCons (gName 5) gNil))) (tt := tYes) rfl nd (pi_list (pe_c CP hr (Nat.le_refl _) (by rfl) (pa_cons (pv 3) pa_nil))) (blkOk_by (N := NHo) (sc := fnScope sHoles) (by decide +kernel)) (fun _ _ _ _ _ => pg_tup rfl (pgs_cons (pg_name (i := 4) nd rfl (Or.inl rfl)) (pgs_cons (pg_name (i := 5) nd rfl (Or.inl rfl)) pgs_nil))) (fun _ _ _ _ _ => pts_nil)
              (fun _ _ _ _ _ => pe_tup (pa_cons (pv 4) (pa_cons (pe_op (show OpR _ (binaryOp .Add) (rCatT K) from op_catT) (pe_tup (pa_cons (pv 2) pa_nil)) (pv 5)) pa_nil)))) pa_nil)))))
      (pss_one (ps_ret (pv 1))))), ?_⟩
    obtain ⟨Ty, ty, _, k2⟩ := d_ty (K := K) hv
    have ty0 := ty H fun _ _ e => e
    refine ⟨_, rfl, v, .ty "str", _, _, _, rfl, .ty _, ty0, k2, _, rfl, ?_⟩
    rcases isSh_inv hsh with ⟨z, rfl, hz⟩ | ⟨z, cs, rfl, hz, hcs⟩
    · obtain ⟨rfl, _⟩ := hv
      refine iteBt rfl ⟨_, rfl, (by show 0 ≤ sizeLine; decide), fun e ne => ⟨(by show 2 ≤ sizeLine; decide), fun t nt => ⟨(by show 1 ≤ sizeLine; decide), fun l nl => ?_⟩⟩⟩
      have et : e ≠ t := ne_of_none upd_same nt
      have h2 : (upd (upd H e (.tup [])) t (.tup [.str z, .ref e])) e = some (.tup []) := by rw [upd_ne et]; exact upd_same
      have s2 : Same H (upd (upd H e (.tup [])) t (.tup [.str z, .ref e])) := (same_upd ne).trans (same_upd nt)
      refine kk l _ _ (same_free s2 nl) (s2.trans (same_upd nl)) upd_same ?_
      rw [holesP]
      exact .cons ⟨t, e, rfl, by rw [upd_ne (ne_of_none upd_same nl)]; exact upd_same, by rw [upd_ne (ne_of_none h2 nl)]; exact h2⟩ .nil
    · refine iteBf rfl ?_
      obtain ⟨a, us, rfl, qa, _, hus⟩ := hv
      have ha : H a = some (.tup us) := qa.elim id fun e => e.1.elim
      match us, hus with
      | [], hus => exact hus.elim
      | u :: cvs, ⟨⟨eu, _⟩, hus⟩ =>
        subst eu
        have hcl := hus.len
        have hsz : sz (.sq (.fl (.str z) :: cs)) = 2 + szs cs := by rw [sz, szs, sz]; omega
        rw [hsz] at h0 h1
        refine ⟨(by show 0 ≤ sizeLine; decide), fun fd nfH => ?_⟩
        have s1 : Same H (upd H fd (.lst [])) := same_upd nfH
        have hf1 : (upd H fd (.lst [])) fd = some (.lst []) := upd_same
        generalize upd H fd (.lst []) = H1 at s1 hf1
        have st : Paired (HolV H1) [] (holesPs 0 (cs.take 0)) := .nil
        refine ⟨_, rfl, 1, rfl, a, _, rfl, SqT.of (s1 _ _ ha), not_whole (by decide) (by simp), fun p np => ?_⟩
        rw [cutFrom (by decide)]
        have cut1 : (V.str z :: cvs).drop (1 : Int).toNat = cvs := rfl
        rw [cut1]
        refine ⟨p, _, rfl, SqT.of upd_same, ?_⟩
        have hfp : fd ≠ p := ne_of_none hf1 np
        refine for_gen (J := IteT K p) cvs.length (fun i σ H' => ∃ (v2 v3 : Option V) (ws : List V), σ = [some (.ref a), some (.ref fd), v2, v3, none, none] ∧ H' fd = some (.lst ws) ∧ Paired (HolV H') ws (holesPs 0 (cs.take i)) ∧ Same H H' ∧ H' p = some (.tup cvs))
          ⟨none, none, _, rfl, by rw [upd_ne hfp]; exact hf1, Paired.mono (fun _ _ h => HolV.same (same_upd np) h) st, s1.trans (same_upd np), upd_same⟩
          (fun i σ H' hi ⟨_, _, _, _, _, _, _, hp⟩ => ⟨_, _, SqT.of hp, List.getElem?_eq_getElem hi⟩) (fun σ H' ⟨_, _, _, _, _, _, _, hp⟩ => ⟨_, SqT.of hp, Nat.le_refl _⟩) ?_
          (fun σ H' ⟨v2, v3, ws, e, hf, hpw, sm, _⟩ => by
            subst e
            rw [hcl, List.take_length] at hpw
            exact ⟨_, rfl, kk fd ws H' nfH sm hf (by rw [holesP]; exact hpw)⟩)
        rintro i σ H2 v H3 hi ⟨v2, v3, ws, rfl, hf, hpw, sm, hp⟩ ⟨T', x, rfl, nT, rfl, hx⟩
        have hx := hx _ (SqT.of hp)
        obtain ⟨c, hc, hxc⟩ := hus.get hx
        obtain ⟨hci, ec⟩ := List.getElem?_eq_some_iff.mp hc
        refine ⟨T', [.int (i : Nat), x], rfl, SqT.of upd_same, rfl, .int (i : Nat), [x], rfl, x, [], rfl, rfl, ?_⟩
        have s3 : Same H2 (upd H2 T' (.tup [.int (i : Nat), x])) := same_upd nT
        generalize upd H2 T' (.tup [.int (i : Nat), x]) = H3 at s3
        have hf3 := s3 _ _ hf
        have szc := szs_get hc
        refine ⟨_, rfl, .inl ⟨rfl, _, SqL.of hf3⟩, _, rfl, x, c, rfl, DAt.hold (.same (sm.trans s3)) _ hxc, isShs_mem hcs c (List.mem_of_getElem? hc), by omega, by omega, fun l us H4 nl s4 hl4 hpu => ⟨l, rfl, ⟨_, SqL.of hl4⟩, fun Da nDa => ?_⟩⟩
        have hul := Paired.length hpu
        obtain ⟨hle, hqe⟩ := holes_le c
        have nDH : H Da = none := same_free (sm.trans (s3.trans s4)) nDa
        have hf4 := s4 _ _ hf3
        refine lc_gen (J := Itl K l) us.length (fun j H' => ∃ ys, H' Da = some (.lst ys) ∧ Paired (HolV H') ys (((holesP c).take j).map (fun q : Str × List Int => (q.1, (i : Int) :: q.2))) ∧ Same H4 H') ⟨[], upd_same, .nil, same_upd nDa⟩
          (fun j H' hj ⟨_, _, _, sm'⟩ => ⟨_, _, SqL.of (sm' _ _ hl4), List.getElem?_eq_getElem hj⟩) (fun H' ⟨_, _, _, sm'⟩ => ⟨_, SqL.of (sm' _ _ hl4), Nat.le_refl _⟩) (fun j H' v H'' hj ⟨ys, hD, hpy, sm'⟩ yl => ?_) (fun H' ⟨ys, hD, hpy, sm'⟩ => ?_)
        · obtain ⟨rfl, hy⟩ := yl
          have hy := hy _ (SqL.of (sm' _ _ hl4))
          obtain ⟨q, hq, hqv⟩ := paired_get hpu hy
          have hyl := Paired.length hpy
          obtain ⟨hqj, eq'⟩ := List.getElem?_eq_some_iff.mp hq
          rw [List.length_map, List.length_take] at hyl
          have hql := hqe q (List.mem_of_getElem? hq)
          obtain ⟨q1, q2⟩ := q
          obtain ⟨qt, qa, rfl, hqt, hqa⟩ := hqv
          refine ⟨qt, _, rfl, SqT.of (sm' _ _ hqt), rfl, .str q1, [.ref qa], rfl, .ref qa, [], rfl, rfl, rfl, ?_⟩
          unfold tYes
          dsimp only
          rw [if_pos rfl]
          have fin : ∀ (H9 : Hp) (ta : Addr), Same H'' H9 → H9 ta = some (.tup (((i : Int) :: q2).map V.int)) → ∀ tt, H9 tt = none → ∃ acc, (upd H9 tt (.tup [.str q1, .ref ta])) Da = some (.lst acc) ∧ acc.length < sizeLine ∧ ∃ ys, (upd (upd H9 tt (.tup [.str q1, .ref ta])) Da (.lst (acc ++ [.ref tt]))) Da = some (.lst ys) ∧ Paired (HolV (upd (upd H9 tt (.tup [.str q1, .ref ta])) Da (.lst (acc ++ [.ref tt])))) ys (((holesP c).take (j + 1)).map (fun q : Str × List Int => (q.1, (i : Int) :: q.2))) ∧ Same H4 (upd (upd H9 tt (.tup [.str q1, .ref ta])) Da (.lst (acc ++ [.ref tt]))) := by
            intro H9 ta s9 ht9 tt ntt
            have sA : Same H'' (upd H9 tt (.tup [.str q1, .ref ta])) := s9.trans (same_upd ntt)
            have htt : (upd H9 tt (.tup [.str q1, .ref ta])) tt = some (.tup [.str q1, .ref ta]) := upd_same
            have htA : (upd H9 tt (.tup [.str q1, .ref ta])) ta = some (.tup (((i : Int) :: q2).map V.int)) := by rw [upd_ne (ne_of_none ht9 ntt)]; exact ht9
            generalize upd H9 tt (.tup [.str q1, .ref ta]) = HA at sA htt htA
            have hDA := sA _ _ hD
            have tD : ∀ {b : Addr} {xs : List V}, HA b = some (.tup xs) → (upd HA Da (.lst (ys ++ [.ref tt]))) b = some (.tup xs) := fun e => by rw [upd_ne (ne_of e hDA (by intro z; cases z))]; exact e
            refine ⟨ys, hDA, by rw [sizeLine_eq]; omega, _, upd_same, ?_, fun b o e => by rw [upd_ne (ne_of_none e nDa)]; exact sA _ _ (sm' _ _ e)⟩
            rw [List.take_succ_eq_append_getElem hqj, List.map_append, eq']
            exact Paired.snoc (Paired.mono (fun _ _ ⟨t', p', e, h1, h2⟩ => ⟨t', p', e, tD (sA _ _ h1), tD (sA _ _ h2)⟩) hpy) ⟨tt, ta, rfl, tD htt, tD htA⟩
          refine ⟨_, rfl, _, rfl, (by show 1 ≤ sizeLine; decide), fun ta nta => ⟨_, rfl, ta, qa, _, _, rfl, rfl, SqT.of upd_same, SqT.of (by rw [upd_ne (ne_of_none (sm' _ _ hqa) nta)]; exact sm' _ _ hqa), by simp, ?_, fun e => ⟨(by show 2 ≤ sizeLine; decide), fun tt ntt => ?_⟩, fun e tb ntb => ⟨(by show 2 ≤ sizeLine; decide), fun tt ntt => ?_⟩⟩⟩
          · rw [List.length_map]
            show 1 + q2.length ≤ sizeLine
            have hql : q2.length ≤ sz c := hql
            rw [sizeLine_eq]; omega
          · refine fin _ ta (same_upd nta) ?_ tt ntt
            have : q2 = [] := List.map_eq_nil_iff.mp e
            rw [this]
            exact upd_same
          · exact fin _ tb ((same_upd nta).trans (same_upd ntb)) upd_same tt ntt
        · have hyl := Paired.length hpy
          rw [List.length_map, hul, List.take_of_length_le (Nat.le_refl _)] at hyl
          rw [hul, List.take_of_length_le (Nat.le_refl _)] at hpy
          have hwl := Paired.length hpw
          obtain ⟨hwl2, _⟩ := holess_le (cs.take i) 0
          have hst := szs_take_le cs i
          have hf5 := sm' _ _ hf4
          refine ⟨fd, Da, ws, ys, rfl, rfl, hf5, hD, by rw [sizeLine_eq]; (try simp only [List.length_cons] at hwl); omega, ?_⟩
          have tF : ∀ {b : Addr} {xs : List V}, H' b = some (.tup xs) → (upd H' fd (.lst (ws ++ ys))) b = some (.tup xs) := fun e => by rw [upd_ne (ne_of e hf5 (by intro z; cases z))]; exact e
          have s5 : Same H2 H' := s3.trans (s4.trans sm')
          refine ⟨_, _, ws ++ ys, rfl, upd_same, ?_, fun b o e => by rw [upd_ne (ne_of_none e nfH)]; exact s5 _ _ (sm _ _ e), tF (s5 _ _ hp)⟩
          have e1 : holesPs 0 (cs.take (i + 1)) = holesPs 0 (cs.take i) ++ (holesP c).map (fun q : Str × List Int => (q.1, (i : Int) :: q.2)) := by
            rw [List.take_succ_eq_append_getElem hci, holesPs_snoc, ec, List.length_take, show 0 + min i cs.length = i by omega]
          rw [e1]
          exact paired_app (Paired.mono (fun _ _ ⟨t', p', e, h1, h2⟩ => ⟨t', p', e, tF (s5 _ _ h1), tF (s5 _ _ h2)⟩) hpw) (Paired.mono (fun _ _ ⟨t', p', e, h1, h2⟩ => ⟨t', p', e, tF h1, tF h2⟩) hpy)
theorem c_holes {f : Addr} {fd : FuncData} (F : Def K mg "_law_holes" sHoles f fd) (b : Binds K fd ["_law_shape_here"] []) (T : Blt4 mg) : ∀ N : Nat, Cal P w K mg base (1 + N) "_law_holes" (spHoles N) []
  | 0 => by
    have no : ∀ {vs H Q E}, spHoles 0 vs H Q E → False := fun ⟨_, d, _, _, _, h, _⟩ => by have := sz_pos d; omega
    exact cal0 F b .nil scHoles (fun vs H Q E h => (no h).elim) (fun cdv A outer s H vs Q E hr h => (no h).elim)
  | N + 1 => holes_step F b T (c_holes F b T N)
theorem spots_step {k : Nat} {N : Nat} {f : Addr} {fd : FuncData} (F : Def K mg "_law_spots" sSpots f fd) (b : Binds K fd ["_law_shape_here"] []) (T : Blt4 mg) (CP : Cal P w K mg base k "_law_spots" (spSpots N) []) : Cal P w K mg base (k + 1) "_law_spots" (spSpots (N + 1)) [] := by
  refine cal0 F b .nil scSpots (fun vs H Q E h => ?_) (fun cdv A outer s H vs Q E hr h => ?_)
  · obtain ⟨v, d, rfl, _⟩ := h
    rfl
  · obtain ⟨v, d, rfl, hv, hsh, h0, h1, kk⟩ := h
    have nd := scSpots.nd
    refine ⟨_, pss_cons (ps_if (pt_val (pe_callB call_isi (by rfl) T.isi (by decide +kernel) (pa_cons (pv 0) (pa_cons (pe_bt "str" T.str) pa_nil)))) (pss_one (ps_ret (pe_lst pa_nil))) pss_nil)
      (pss_cons (ps_set (i := 1) nd rfl (Or.inl rfl) (pe_lst (pa_cons (pe_tup pa_nil) pa_nil)))
      (pss_cons (ps_for PassesOwn.never rfl (pi_enumT (by rfl) T.enu (pa_cons (pe_slice sl_tup (pv 0) (po_some pe_int) po_none) pa_nil)) (pg_tup rfl (pgs_cons (pg_name (i := 2) nd rfl (by first | exact Or.inl rfl | exact Or.inr rfl)) (pgs_cons (pg_name (i := 3) nd rfl (by first | exact Or.inl rfl | exact Or.inr rfl)) pgs_nil)))
          (pss_one (ps_expr (pe_bm PySem.F.plainAttrs_list PySem.F.slot_list_extend PySem.F.type_list_extend mt_extend (pv 1) (pa_cons
            (pe_lc (own := [("_law_place", 4)]) (g := gName 4) (tt := tYes) rfl nd (pi_list (pe_c CP hr (Nat.le_refl _) (by rfl) (pa_cons (pv 3) pa_nil))) (blkOk_by (N := NSpo) (sc := fnScope sSpots) (by decide +kernel)) (fun _ _ _ _ _ => pg_name (i := 4) nd rfl (Or.inl rfl)) (fun _ _ _ _ _ => pts_nil)
              (fun _ _ _ _ _ => pe_op (show OpR _ (binaryOp .Add) (rCatT K) from op_catT) (pe_tup (pa_cons (pv 2) pa_nil)) (pv 4))) pa_nil)))))
      (pss_one (ps_ret (pv 1))))), ?_⟩
    obtain ⟨Ty, ty, _, k2⟩ := d_ty (K := K) hv
    have ty0 := ty H fun _ _ e => e
    refine ⟨_, rfl, v, .ty "str", _, _, _, rfl, .ty _, ty0, k2, _, rfl, ?_⟩
    rcases isSh_inv hsh with ⟨z, rfl, hz⟩ | ⟨z, cs, rfl, hz, hcs⟩
    · obtain ⟨rfl, _⟩ := hv
      refine iteBt rfl ⟨(by show 0 ≤ sizeLine; decide), fun l nl => ?_⟩
      refine kk l _ _ nl (same_upd nl) upd_same ?_
      rw [spotsP]
      · exact .nil
      · intro _ _ e; cases e
    · refine iteBf rfl ?_
      obtain ⟨a, us, rfl, qa, _, hus⟩ := hv
      have ha : H a = some (.tup us) := qa.elim id fun e => e.1.elim
      match us, hus with
      | [], hus => exact hus.elim
      | u :: cvs, ⟨⟨eu, _⟩, hus⟩ =>
        subst eu
        have hcl := hus.len
        have hsz : sz (.sq (.fl (.str z) :: cs)) = 2 + szs cs := by rw [sz, szs, sz]; omega
        rw [hsz] at h0 h1
        refine ⟨(by show 0 ≤ sizeLine; decide), fun e0 ne0 => ⟨(by show 1 ≤ sizeLine; decide), fun fd nfd => ?_⟩⟩
        have fe : fd ≠ e0 := (ne_of_none upd_same nfd).symm
        have nfH : H fd = none := by rw [upd_ne fe] at nfd; exact nfd
        have s1 : Same H (upd (upd H e0 (.tup [])) fd (.lst [.ref e0])) := (same_upd ne0).trans (same_upd nfd)
        have hf1 : (upd (upd H e0 (.tup [])) fd (.lst [.ref e0])) fd = some (.lst [.ref e0]) := upd_same
        have he1 : (upd (upd H e0 (.tup [])) fd (.lst [.ref e0])) e0 = some (.tup []) := by rw [upd_ne fe.symm]; exact upd_same
        generalize upd (upd H e0 (.tup [])) fd (.lst [.ref e0]) = H1 at s1 hf1 he1
        have st : Paired (PlV H1) [.ref e0] ([] :: spotsPs 0 (cs.take 0)) := .cons ⟨e0, rfl, he1⟩ .nil
        refine ⟨_, rfl, 1, rfl, a, _, rfl, SqT.of (s1 _ _ ha), not_whole (by decide) (by simp), fun p np => ?_⟩
        rw [cutFrom (by decide)]
        have cut1 : (V.str z :: cvs).drop (1 : Int).toNat = cvs := rfl
        rw [cut1]
        refine ⟨p, _, rfl, SqT.of upd_same, ?_⟩
        have hfp : fd ≠ p := ne_of_none hf1 np
        refine for_gen (J := IteT K p) cvs.length (fun i σ H' => ∃ (v2 v3 : Option V) (ws : List V), σ = [some (.ref a), some (.ref fd), v2, v3, none] ∧ H' fd = some (.lst ws) ∧ Paired (PlV H') ws ([] :: spotsPs 0 (cs.take i)) ∧ Same H H' ∧ H' p = some (.tup cvs))
          ⟨none, none, _, rfl, by rw [upd_ne hfp]; exact hf1, Paired.mono (fun _ _ h => PlV.same (same_upd np) h) st, s1.trans (same_upd np), upd_same⟩
          (fun i σ H' hi ⟨_, _, _, _, _, _, _, hp⟩ => ⟨_, _, SqT.of hp, List.getElem?_eq_getElem hi⟩) (fun σ H' ⟨_, _, _, _, _, _, _, hp⟩ => ⟨_, SqT.of hp, Nat.le_refl _⟩) ?_
          (fun σ H' ⟨v2, v3, ws, e, hf, hpw, sm, _⟩ => by
            subst e
            rw [hcl, List.take_length] at hpw
            exact ⟨_, rfl, kk fd ws H' nfH sm hf (by rw [spotsP]; exact hpw)⟩)
        rintro i σ H2 v H3 hi ⟨v2, v3, ws, rfl, hf, hpw, sm, hp⟩ ⟨T', x, rfl, nT, rfl, hx⟩
        have hx := hx _ (SqT.of hp)
        obtain ⟨c, hc, hxc⟩ := hus.get hx
        obtain ⟨hci, ec⟩ := List.getElem?_eq_some_iff.mp hc
        refine ⟨T', [.int (i : Nat), x], rfl, SqT.of upd_same, rfl, .int (i : Nat), [x], rfl, x, [], rfl, rfl, ?_⟩
        have s3 : Same H2 (upd H2 T' (.tup [.int (i : Nat), x])) := same_upd nT
        generalize upd H2 T' (.tup [.int (i : Nat), x]) = H3 at s3
        have hf3 := s3 _ _ hf
        have szc := szs_get hc
        refine ⟨_, rfl, .inl ⟨rfl, _, SqL.of hf3⟩, _, rfl, x, c, rfl, DAt.hold (.same (sm.trans s3)) _ hxc, isShs_mem hcs c (List.mem_of_getElem? hc), by omega, by omega, fun l us H4 nl s4 hl4 hpu => ⟨l, rfl, ⟨_, SqL.of hl4⟩, fun Da nDa => ?_⟩⟩
        have hul := Paired.length hpu
        obtain ⟨hle, hqe⟩ := spots_le c
        have nDH : H Da = none := same_free (sm.trans (s3.trans s4)) nDa
        have hf4 := s4 _ _ hf3
        refine lc_gen (J := Itl K l) us.length (fun j H' => ∃ ys, H' Da = some (.lst ys) ∧ Paired (PlV H') ys (((spotsP c).take j).map (fun q : List Int => (i : Int) :: q)) ∧ Same H4 H') ⟨[], upd_same, .nil, same_upd nDa⟩
          (fun j H' hj ⟨_, _, _, sm'⟩ => ⟨_, _, SqL.of (sm' _ _ hl4), List.getElem?_eq_getElem hj⟩) (fun H' ⟨_, _, _, sm'⟩ => ⟨_, SqL.of (sm' _ _ hl4), Nat.le_refl _⟩) (fun j H' v H'' hj ⟨ys, hD, hpy, sm'⟩ yl => ?_) (fun H' ⟨ys, hD, hpy, sm'⟩ => ?_)
        · obtain ⟨rfl, hy⟩ := yl
          have hy := hy _ (SqL.of (sm' _ _ hl4))
          obtain ⟨q, hq, hqv⟩ := paired_get hpu hy
          have hyl := Paired.length hpy
          obtain ⟨hqj, eq'⟩ := List.getElem?_eq_some_iff.mp hq
          rw [List.length_map, List.length_take] at hyl
          have hql := hqe q (List.mem_of_getElem? hq)
          obtain ⟨qa, rfl, hqa⟩ := hqv
          have fin : ∀ (H9 : Hp) (ta : Addr), Same H'' H9 → H9 ta = some (.tup (((i : Int) :: q).map V.int)) → ∃ acc, H9 Da = some (.lst acc) ∧ acc.length < sizeLine ∧ ∃ ys, (upd H9 Da (.lst (acc ++ [.ref ta]))) Da = some (.lst ys) ∧ Paired (PlV (upd H9 Da (.lst (acc ++ [.ref ta])))) ys (((spotsP c).take (j + 1)).map (fun q : List Int => (i : Int) :: q)) ∧ Same H4 (upd H9 Da (.lst (acc ++ [.ref ta]))) := by
            intro H9 ta s9 ht9
            have hD9 := s9 _ _ hD
            have tD : ∀ {b : Addr} {xs : List V}, H9 b = some (.tup xs) → (upd H9 Da (.lst (ys ++ [.ref ta]))) b = some (.tup xs) := fun e => by rw [upd_ne (ne_of e hD9 (by intro z; cases z))]; exact e
            refine ⟨ys, hD9, by rw [sizeLine_eq]; omega, _, upd_same, ?_, fun b o e => by rw [upd_ne (ne_of_none e nDa)]; exact s9 _ _ (sm' _ _ e)⟩
            rw [List.take_succ_eq_append_getElem hqj, List.map_append, eq']
            refine Paired.snoc (Paired.mono (fun _ _ ⟨a', e, q'⟩ => ⟨a', e, tD (s9 _ _ q')⟩) hpy) ⟨ta, rfl, tD ht9⟩
          refine ⟨rfl, ?_⟩
          unfold tYes
          dsimp only
          rw [if_pos rfl]
          refine ⟨_, rfl, (by show 1 ≤ sizeLine; decide), fun ta nta => ⟨_, rfl, ta, qa, _, _, rfl, rfl, SqT.of upd_same, SqT.of (by rw [upd_ne (ne_of_none (sm' _ _ hqa) nta)]; exact sm' _ _ hqa), by simp, ?_, fun e => ?_, fun e tb ntb => ?_⟩⟩
          · rw [List.length_map]
            show 1 + q.length ≤ sizeLine
            rw [sizeLine_eq]; omega
          · refine fin _ ta (same_upd nta) ?_
            have : q = [] := List.map_eq_nil_iff.mp e
            rw [this]
            exact upd_same
          · exact fin _ tb ((same_upd nta).trans (same_upd ntb)) upd_same
        · have hyl := Paired.length hpy
          rw [List.length_map, hul, List.take_of_length_le (Nat.le_refl _)] at hyl
          rw [hul, List.take_of_length_le (Nat.le_refl _)] at hpy
          have hwl := Paired.length hpw
          obtain ⟨hwl2, _⟩ := spotss_le (cs.take i) 0
          have hst := szs_take_le cs i
          have hf5 := sm' _ _ hf4
          refine ⟨fd, Da, ws, ys, rfl, rfl, hf5, hD, by rw [sizeLine_eq]; (try simp only [List.length_cons] at hwl); omega, ?_⟩
          have tF : ∀ {b : Addr} {xs : List V}, H' b = some (.tup xs) → (upd H' fd (.lst (ws ++ ys))) b = some (.tup xs) := fun e => by rw [upd_ne (ne_of e hf5 (by intro z; cases z))]; exact e
          have s5 : Same H2 H' := s3.trans (s4.trans sm')
          refine ⟨_, _, ws ++ ys, rfl, upd_same, ?_, fun b o e => by rw [upd_ne (ne_of_none e nfH)]; exact s5 _ _ (sm _ _ e), tF (s5 _ _ hp)⟩
          have e1 : spotsPs 0 (cs.take (i + 1)) = spotsPs 0 (cs.take i) ++ (spotsP c).map (fun q : List Int => (i : Int) :: q) := by
            rw [List.take_succ_eq_append_getElem hci, spotsPs_snoc, ec, List.length_take, show 0 + min i cs.length = i by omega]
          rw [e1]
          exact paired_app (Paired.mono (fun _ _ ⟨a', e, q'⟩ => ⟨a', e, tF (s5 _ _ q')⟩) hpw) (Paired.mono (fun _ _ ⟨a', e, q'⟩ => ⟨a', e, tF q'⟩) hpy)
theorem c_spots {f : Addr} {fd : FuncData} (F : Def K mg "_law_spots" sSpots f fd) (b : Binds K fd ["_law_shape_here"] []) (T : Blt4 mg) : ∀ N : Nat, Cal P w K mg base (1 + N) "_law_spots" (spSpots N) []
  | 0 => by
    have no : ∀ {vs H Q E}, spSpots 0 vs H Q E → False := fun ⟨_, d, _, _, _, h, _⟩ => by have := sz_pos d; omega
    exact cal0 F b .nil scSpots (fun vs H Q E h => (no h).elim) (fun cdv A outer s H vs Q E hr h => (no h).elim)
  | N + 1 => spots_step F b T (c_spots F b T N)
end
end KT

namespace KT
open PySem PySem.Spec PyProof.Rows L2 C8 XE XR SX
/-! _law_shape: a drawn shape, with a list of one number that tells how many labels are left -/
abbrev sShape : Stmt := top 44
mutual
def nh : D → Nat
  | .fl (.str _) => 1
  | .sq (_ :: cs) => nhs cs
  | _ => 0
def nhs : List D → Nat
  | [] => 0
  | c :: cs => nh c + nhs cs
end
theorem nhs_app : ∀ a b : List D, nhs (a ++ b) = nhs a + nhs b
  | [], b => by rw [List.nil_append, nhs, Nat.zero_add]
  | x :: a, b => by rw [List.cons_append, nhs, nhs, nhs_app a b, Nat.add_assoc]
mutual
theorem holes_nh : ∀ d : D, (holesP d).length = nh d
  | .fl x => by cases x <;> simp [holesP, nh]
  | .emp => by simp [holesP, nh]
  | .sq [] => by simp [holesP, nh]
  | .sq (x :: cs) => by rw [holesP, nh]; exact holess_nh cs 0
theorem holess_nh : ∀ (cs : List D) (k : Nat), (holesPs k cs).length = nhs cs
  | [], k => by rw [holesPs, nhs]; rfl
  | c :: cs, k => by rw [holesPs, nhs, List.length_append, List.length_map, holes_nh c, holess_nh cs]
end
/-- what a language's rows say of a shape -/
def manyR (rs : List Rw) (z : Str) : Option Int := (rs.find? fun r => r.1 == z).map (·.2)
theorem manyR_mem {rs : List Rw} (h : RowsOk rs) {r : Rw} (hr : r ∈ rs) : manyR rs r.1 = some r.2 := by
  unfold manyR
  have nd := h.nd
  clear h
  induction rs with
  | nil => cases hr
  | cons q l ih =>
    rw [List.map_cons, List.nodup_cons] at nd
    rcases List.mem_cons.mp hr with rfl | hr
    · rw [List.find?_cons_of_pos (by simp)]
      rfl
    · have hne : q.1 ≠ r.1 := fun e => nd.1 (by rw [e]; exact List.mem_map_of_mem hr)
      rw [List.find?_cons_of_neg (by simpa using hne)]
      exact ih hr nd.2
theorem manyR_some {rs : List Rw} {z : Str} {m : Int} (h : manyR rs z = some m) : ∃ r ∈ rs, r.1 = z ∧ r.2 = m := by
  unfold manyR at h
  cases hf : rs.find? fun r => r.1 == z with
  | none => rw [hf] at h; cases h
  | some r =>
    rw [hf] at h
    cases h
    exact ⟨r, List.mem_of_find?_eq_some hf, by simpa using List.find?_some hf, rfl⟩
mutual
def isTh (rs : List Rw) : D → Bool
  | .fl (.str z) => wordS z
  | .sq (.fl (.str z) :: cs) => decide (manyR rs z = some (cs.length : Int)) && isThs rs cs
  | _ => false
def isThs (rs : List Rw) : List D → Bool
  | [] => true
  | d :: ds => isTh rs d && isThs rs ds
end
mutual
/-- the names of the holes, in order -/
def hnm : D → List Str
  | .fl (.str z) => [z]
  | .sq (_ :: cs) => hnms cs
  | _ => []
def hnms : List D → List Str
  | [] => []
  | c :: cs => hnm c ++ hnms cs
end
theorem isThs_app {rs : List Rw} : ∀ a b : List D, isThs rs (a ++ b) = (isThs rs a && isThs rs b)
  | [], b => rfl
  | x :: a, b => by rw [List.cons_append, isThs, isThs, isThs_app a b, Bool.and_assoc]
theorem hnms_app : ∀ a b : List D, hnms (a ++ b) = hnms a ++ hnms b
  | [], b => rfl
  | x :: a, b => by rw [List.cons_append, hnms, hnms, hnms_app a b, List.append_assoc]
mutual
theorem holes_hnm : ∀ d : D, (holesP d).map (fun q => q.1) = hnm d
  | .fl x => by cases x <;> simp [holesP, hnm]
  | .emp => by simp [holesP, hnm]
  | .sq [] => by simp [holesP, hnm]
  | .sq (x :: cs) => by rw [holesP, hnm]; exact holess_hnm cs 0
theorem holess_hnm : ∀ (cs : List D) (k : Nat), (holesPs k cs).map (fun q => q.1) = hnms cs
  | [], k => by rw [holesPs, hnms]; rfl
  | c :: cs, k => by rw [holesPs, hnms, List.map_append, List.map_map, ← holes_hnm c, holess_hnm cs]; rfl
end
theorem hnm_nh (d : D) : (hnm d).length = nh d := by rw [← holes_hnm, List.length_map, holes_nh]
/-- all but two is as it was -/
def But2 (a c : Addr) (H H' : Hp) : Prop := ∀ b o, H b = some o → b ≠ a → b ≠ c → H' b = some o
theorem But2.trans {a c : Addr} {H H' H'' : Hp} (h : But2 a c H H') (h' : But2 a c H' H'') : But2 a c H H'' := fun b o e n m => h' b o (h b o e n m) n m
theorem But.two {a c : Addr} {H H' : Hp} (h : But a H H') : But2 a c H H' := fun b o e n _ => h b o e n
theorem But2.same {a c : Addr} {H H' : Hp} (h : Same H H') : But2 a c H H' := fun b o e _ _ => h b o e
theorem But2.put {a c p : Addr} {o : HO} {H H' : Hp} (h : But2 a c H H') (hp : H p = none) : But2 a c H (upd H' p o) := fun b u e n m => by
  rw [upd_ne (ne_of_none e hp)]
  exact h b u e n m
theorem But2.free {H H' : Hp} {a c p : Addr} (h : But2 a c H H') (n : H' p = none) (na : p ≠ a) (nc : p ≠ c) : H p = none := by
  cases e : H p with
  | none => rfl
  | some o => rw [h p o e na nc] at n; cases n
theorem Hold.but2 {F : Addr → Prop} {B : Nat} {H H' : Hp} {st cl ll : Addr} {xs : List V} (hs : StAt B H st cl) (hl : H ll = some (.lst xs)) (hb : But2 st ll H H') (hF : ∀ a, F a → a ≠ st ∧ a ≠ ll) : Hold F H H' := by
  obtain ⟨ns, i, c, h0, n, e1, _⟩ := hs
  refine ⟨fun a vs e => hb _ _ e (ne_of e e1 (by intro z; cases z)) (ne_of e hl (by intro z; cases z)), fun a e => hb _ _ e (ne_of e e1 (by intro z; cases z)) (ne_of e hl (by intro z; cases z)), fun a vs e q => hb _ _ q (hF a e).1 (hF a e).2⟩
theorem RowsAt.but2 {B : Nat} {H H' : Hp} {st cl ll l : Addr} {n : Int} {rs : List Rw} (hs : StAt B H st cl) (hl : H ll = some (.lst [.int n])) (hb : But2 st ll H H') (hn : l ≠ ll) (h : RowsAt H l rs) : RowsAt H' l rs := by
  have h0 := h
  obtain ⟨vs, e, p⟩ := h
  obtain ⟨ns, i, c, h1, m, e1, e2, _⟩ := hs
  have lst : l ≠ st := by
    intro z
    subst z
    rw [e1] at e
    cases e
    cases p with
    | cons q t =>
      cases t with
      | cons q' t =>
        obtain ⟨_, z, _⟩ := q'
        cases z
  refine ⟨vs, hb _ _ e lst hn, Paired.mono (fun _ _ ⟨t, z, q⟩ => ⟨t, z, hb _ _ q (ne_of q e1 (by intro z; cases z)) (ne_of q hl (by intro z; cases z))⟩) p⟩
theorem menu_word : ∀ z ∈ menu, wordS z = true := by decide +kernel
theorem labs_word {rs : List Rw} (ok : RowsOk rs) {z : Str} (h : z ∈ labs rs) : wordS z = true := by
  obtain ⟨r, hr, rfl⟩ := List.mem_map.mp h
  rcases List.mem_append.mp hr with h' | h'
  · exact menu_word _ (ok.mem r h').1
  · rw [List.mem_singleton.mp h']; decide +kernel
/-- the list of what is left -/
structure LeftAt (H : Hp) (st cl l ll : Addr) (n : Nat) : Prop where
  at' : H ll = some (.lst [.int (n : Int)])
  st : ll ≠ st
  cl : ll ≠ cl
  l : ll ≠ l
theorem LeftAt.but {H H' : Hp} {st cl l ll : Addr} {n : Nat} (h : LeftAt H st cl l ll n) (b : But st H H') : LeftAt H' st cl l ll n := ⟨b _ _ h.at' h.st, h.st, h.cl, h.l⟩
theorem LeftAt.same {H H' : Hp} {st cl l ll : Addr} {n : Nat} (h : LeftAt H st cl l ll n) (b : Same H H') : LeftAt H' st cl l ll n := ⟨b _ _ h.at', h.st, h.cl, h.l⟩
theorem LeftAt.put {H : Hp} {st cl l ll p : Addr} {o : HO} {n : Nat} (h : LeftAt H st cl l ll n) (b : p ≠ ll) : LeftAt (upd H p o) st cl l ll n := ⟨by rw [upd_ne b.symm]; exact h.at', h.st, h.cl, h.l⟩
def spShape (N : Nat) : Sp := fun vs H Q _ => ∃ (st l ll hl : Addr) (rs : List Rw) (hs : List Str) (n B : Nat) (cl : Addr), vs = [.ref st, .ref l, .ref ll, .ref hl] ∧ n < N ∧ n ≤ 100 ∧ RowsAt H l rs ∧ RowsOk rs ∧ LeftAt H st cl l ll n ∧
  H hl = some (.lst (hs.map V.str)) ∧ hs ≠ [] ∧ hs.length ≤ 100 ∧ (∀ z ∈ hs, wordS z = true) ∧ StAt B H st cl ∧ B + 4 * n + 2 < 1000000000000000 ∧
  ∀ (v : V) (d : D) (n' : Nat) (H' : Hp), DAt nol H' v d → isSh d = true → (isTh rs d = true ∧ ∀ z ∈ hnm d, z ∈ hs) → n' ≤ n → sz d ≤ 3 * (n - n') + 1 → nh d ≤ (n - n') + 1 → LeftAt H' st cl l ll n' → StAt (B + (4 * (n - n') + 2)) H' st cl → But2 st ll H H' → Q v H'
abbrev NSh : List Str := ["_law_state", "_law_rows_here", "_law_left_here", "_law_holes_here", "_law_fits_here", "_law_label", "_law_many_here", "_law_found", "_law_k"]
theorem scShape : FnScope NSh ["_law_state", "_law_rows_here", "_law_left_here", "_law_holes_here"] (fnScope sShape) := fnScope_by (by decide +kernel)
section
variable {P : Program} {w : World} {K : PySem.W.Frag} {mg : Str → Option Value} {base : Heap}
theorem shape_step {k : Nat} {N : Nat} {f : Addr} {fd : FuncData} (F : Def K mg "_law_shape" sShape f fd) (b : Binds K fd ["_law_state", "_law_rows_here", "_law_left_here", "_law_holes_here"] []) (T : Blt4 mg) (hk : 2 ≤ k) (C : Cal P w K mg base 1 "_law_take" spTake []) (CO : Cal P w K mg base 2 "_law_one" spOne [])
    (CM : Cal P w K mg base 1 "_law_many" spMany []) (CS : Cal P w K mg base k "_law_shape" (spShape N) []) : Cal P w K mg base (k + 1) "_law_shape" (spShape (N + 1)) [] := by
  refine cal0 F b .nil scShape (fun vs H Q E h => ?_) (fun cdv A outer s H vs Q E hr h => ?_)
  · obtain ⟨st, l, ll, hl, rs, hs, n, B, cl, rfl, _⟩ := h
    rfl
  · obtain ⟨st, l, ll, hl, rs, hs, n, B, cl, rfl, n1, n9, hR, ok, hL, hhl, hne, hsl, hsw, hst, hB, kk⟩ := h
    have nd := scShape.nd
    have hu : (A.deeper (envOfC "_law_shape" (fnScope sShape) s.heap.objs.size f cdv)).units + 64 < cLine := by have := hr.un; omega
    refine ⟨_, pss_cut (ps_setLc (i := 4) (own := [("_law_label", 5), ("_law_many_here", 6)]) (g := gTup K 2 (gCons (gName 5) (gCons (gName 6) gNil))) (tt := tYes) rfl nd rfl rfl (by rfl) (pi_list (pv 1)) (blkOk_by (N := NSh) (sc := fnScope sShape) (by decide +kernel))
          (fun _ _ _ _ _ => pg_tup rfl (pgs_cons (pg_name (i := 5) nd rfl (Or.inl rfl)) (pgs_cons (pg_name (i := 6) nd rfl (Or.inl rfl)) pgs_nil))) (fun _ _ _ _ _ => pts_nil) (fun _ _ _ _ _ => pv 5))
      (pss_cons (ps_if (pw_or (pt_cmp (pc_eqI (pe_ix ix_list (pv 2) pe_int fun _ _ => rfl) pe_int)) (pw_or1 (pw_and (pt_cmpR (op_neNil hu) (pv 3) (pe_lst pa_nil) (nomark _)) (pw_and1 (pt_cmp (pc_eqI (pe_c C hr (by omega) (by rfl) (pa_cons (pv 0) (pa_cons pe_int pa_nil))) pe_int)))).pt)).pt
          (pss_one (ps_ret (pe_c CO hr (by omega) (by rfl) (pa_cons (pv 0) (pa_cons (pv 3) pa_nil))))) pss_nil)
      (pss_cons (ps_asg (pe_op op_sub (pe_ix ix_list (pv 2) pe_int fun _ _ => rfl) pe_int) (pg_sub (pv 2) pe_int set_list))
      (pss_cons (ps_set (i := 5) nd rfl (Or.inl rfl) (pe_c CO hr (by omega) (by rfl) (pa_cons (pv 0) (pa_cons (pv 4) pa_nil))))
      (pss_cons (ps_set (i := 7) nd rfl (Or.inl rfl) (pe_lst (pa_cons (pv 5) pa_nil)))
      (pss_cons (ps_for PassesOwn.never rfl (pi_range1 (by rfl) T.ran (pa_cons (pe_c CM hr (by omega) (by rfl) (pa_cons (pv 1) (pa_cons (pv 5) pa_nil))) pa_nil)) (pg_name (i := 8) nd rfl (Or.inl rfl))
          (pss_one (ps_expr (pe_bm PySem.F.plainAttrs_list PySem.F.slot_list_append PySem.F.type_list_append mt_append (pv 7) (pa_cons (pe_c CS hr (Nat.le_refl _) (by rfl) (pa_cons (pv 0) (pa_cons (pv 1) (pa_cons (pv 2) (pa_cons (pv 3) pa_nil))))) pa_nil)))))
      (pss_one (ps_ret (pe_callTy call_tuple_of (by rfl) T.tup (by decide +kernel) (pa_cons (pv 7) pa_nil))))))))), ?_⟩
    obtain ⟨us, hlv, hp⟩ := id hR
    have hlen := Paired.length hp
    have hok := ok.len
    have hll := hL.at'
    have hlst : hl ≠ st := by
      obtain ⟨ns, i, c, h1, m, e1, _⟩ := hst
      refine ne_of hhl e1 fun z => ?_
      cases hs with
      | nil => cases z
      | cons x xs => cases z
    have hlll : hl ≠ ll := by
      refine ne_of hhl hll fun z => ?_
      cases hs with
      | nil => cases z
      | cons x xs => cases z
    have hpos : 0 < hs.length := List.length_pos_iff.mpr hne
    -- the labels
    refine ⟨fun σ H' => ∃ (ft : Addr), σ = [some (.ref st), some (.ref l), some (.ref ll), some (.ref hl), some (.ref ft), none, none, none, none] ∧ H' ft = some (.lst (rs.map fun r => V.str r.1)) ∧ H ft = none ∧ Same H H', ?_, ?_⟩
    · refine ⟨_, rfl, l, rfl, ⟨us, SqL.of hlv⟩, fun D nD => ?_⟩
      refine lc_gen (J := Itl K l) rs.length (fun i H' => H' D = some (.lst ((rs.take i).map fun r => V.str r.1)) ∧ Same H H') ⟨upd_same, same_upd nD⟩ (fun i H' hi ⟨_, sm⟩ => ⟨us, us.getD i .non, SqL.of (sm _ _ hlv), by rw [List.getD_eq_getElem?_getD, List.getElem?_eq_getElem (by omega)]; rfl⟩)
        (fun H' ⟨_, sm⟩ => ⟨us, SqL.of (sm _ _ hlv), by omega⟩) (fun i H' v H'' hi ⟨hD, sm⟩ yl => ?_) (fun H' ⟨hD, sm⟩ => ⟨D, rfl, by rw [hD, List.take_of_length_le (Nat.le_refl _)], nD, sm⟩)
      obtain ⟨rfl, hx⟩ := yl
      have hx := hx _ (SqL.of (sm _ _ hlv))
      obtain ⟨r, hr, t, rfl, ht⟩ := paired_get hp hx
      refine ⟨t, [.str r.1, .int r.2], rfl, SqT.of (sm _ _ ht), rfl, .str r.1, [.int r.2], rfl, .int r.2, [], rfl, rfl, rfl, ?_⟩
      unfold tYes
      dsimp only
      rw [if_pos rfl]
      refine ⟨_, rfl, _, hD, by rw [List.length_map, List.length_take, sizeLine_eq]; omega, ?_, fun b o e => by rw [upd_ne (ne_of_none e nD)]; exact sm _ _ e⟩
      obtain ⟨hlt, e⟩ := List.getElem?_eq_some_iff.mp hr
      rw [upd_same, List.take_succ_eq_append_getElem hlt, List.map_append, e]
      rfl
    rintro σ' H1 ⟨ft, rfl, hf, nft, s1⟩
    have fst : ft ≠ st := (hst.new nft).1
    have ftl : ft ≠ ll := (ne_of_none hll nft).symm
    have finH : ∀ H2 B', B' ≤ B + 1 → But st H H2 → ∀ v H4, v ∈ hs.map V.str → StAt (B' + 1) H4 st cl → But st H2 H4 → Q v H4 := fun H2 B' hB' hb2 v H4 hv hs4 hb4 => by
      obtain ⟨z, hz, rfl⟩ := List.mem_map.mp hv
      refine kk _ (.fl (.str z)) n H4 ⟨rfl, rfl⟩ (hsw z hz) ⟨hsw z hz, fun y hy => by rw [List.mem_singleton.mp hy]; exact hz⟩ (Nat.le_refl _) ?_ ?_ (hL.but (hb2.trans hb4)) (hs4.mono (by omega)) (hb2.trans hb4).two
      · show 1 ≤ _
        omega
      · show 1 ≤ _
        omega
    refine ⟨_, rfl, ll, _, 0, _, rfl, rfl, SqL.of (s1 _ _ hll), rfl, (n : Int), 0, rfl, rfl, _, rfl, ite2 (fun c0 => ?_) (fun c0 => ?_)⟩
    · refine iteBt rfl ⟨_, rfl, _, rfl, st, hl, hs.map V.str, B, cl, rfl, .inl (s1 _ _ hhl), hlst, by rw [List.length_map]; exact hpos, by rw [List.length_map]; omega, hst.same s1, by omega, finH H1 B (by omega) (Same.but s1)⟩
    have n0 : 0 < n := by
      rcases Nat.eq_zero_or_pos n with e | e
      · exact absurd (by rw [e]; rfl) c0
      · exact e
    refine ⟨_, rfl, (by show 0 ≤ sizeLine; decide), fun p np => ⟨hl, p, _, rfl, rfl, SqL.of (by rw [upd_ne (ne_of_none (s1 _ _ hhl) np)]; exact s1 _ _ hhl), SqL.of upd_same, _, rfl, ?_⟩⟩
    have s2 : Same H (upd H1 p (.lst [])) := s1.trans (same_upd np)
    have hf2 : (upd H1 p (.lst [])) ft = some (.lst (rs.map fun r => V.str r.1)) := by rw [upd_ne (ne_of_none hf np)]; exact hf
    generalize upd H1 p (.lst []) = H2 at s2 hf2
    refine iteBt (by cases hs with | nil => exact absurd rfl hne | cons x xs => rfl) ⟨_, rfl, st, 3, B, cl, rfl, by decide, by decide, hst.same s2, by omega, fun d H3 _ _ hs3 hb3 => ⟨d, 0, rfl, rfl, _, rfl, ite2 (fun _ => ?_) (fun _ => ?_)⟩⟩
    · exact ⟨_, rfl, _, rfl, st, hl, hs.map V.str, B + 1, cl, rfl, .inl (hb3 _ _ (s2 _ _ hhl) hlst), hlst, by rw [List.length_map]; exact hpos, by rw [List.length_map]; omega, hs3, by omega, finH H3 (B + 1) (by omega) ((Same.but s2).trans hb3)⟩
    have hb03 : But st H H3 := (Same.but s2).trans hb3
    have hL3 := hL.but hb03
    have hf3 := hb3 _ _ hf2 fst
    have e4 : ((n : Int) - 1) = ((n - 1 : Nat) : Int) := by omega
    refine ⟨_, rfl, ll, _, 0, _, rfl, rfl, SqL.of hL3.at', rfl, (n : Int), 1, rfl, rfl, _, rfl, ll, _, 0, 0, rfl, rfl, hL3.at', rfl, ?_⟩
    have hL4 : LeftAt (upd H3 ll (.lst [.int ((n : Int) - 1)])) st cl l ll (n - 1) := ⟨by rw [upd_same, e4], hL.st, hL.cl, hL.l⟩
    have hs4 : StAt (B + 1) (upd H3 ll (.lst [.int ((n : Int) - 1)])) st cl := hs3.put hL.st hL.cl
    have hb4 : But2 st ll H (upd H3 ll (.lst [.int ((n : Int) - 1)])) := fun b o e n m => by rw [upd_ne m]; exact hb03 _ _ e n
    have hf4 : (upd H3 ll (.lst [.int ((n : Int) - 1)])) ft = some (.lst (rs.map fun r => V.str r.1)) := by rw [upd_ne ftl]; exact hf3
    show tSeq _ _ _ _ (upd H3 ll (.lst [.int ((n : Int) - 1)]))
    generalize upd H3 ll (.lst [.int ((n : Int) - 1)]) = H4 at hL4 hs4 hb4 hf4
    have rpos : 0 < rs.length := by
      obtain ⟨r, hr, _⟩ := ok.leaf
      exact List.length_pos_iff.mpr fun e => by rw [e] at hr; cases hr
    refine ⟨_, rfl, _, rfl, st, ft, _, B + 1, cl, rfl, .inl hf4, fst, by rw [List.length_map]; exact rpos, by rw [List.length_map]; omega, hs4, by omega, fun v H5 hv hs5 hb5 => ?_⟩
    obtain ⟨r, hr, rfl⟩ := List.mem_map.mp hv
    have hmz : many rs r.1 = some r.2 := many_mem ok (List.mem_append_left _ hr)
    obtain ⟨hrm, m0, m2⟩ := ok.mem r hr
    have hrl : r.1 ∈ labs rs := List.mem_map_of_mem (List.mem_append_left _ hr)
    have hL5 := hL4.but hb5
    have hb05 : But2 st ll H H5 := hb4.trans hb5.two
    refine ⟨_, rfl, (by show 1 ≤ sizeLine; decide), fun fd nfd => ?_⟩
    obtain ⟨fs, fc⟩ := hs5.new nfd
    have fll : fd ≠ ll := (ne_of_none hL5.at' nfd).symm
    have nfH : H fd = none := hb05.free nfd fs fll
    have hL6 := hL5.same (same_upd nfd (o := .lst [.str r.1]))
    have hs6 := hs5.same (same_upd nfd (o := .lst [.str r.1]))
    have hb06 : But2 st ll H (upd H5 fd (.lst [.str r.1])) := hb05.trans (But2.same (same_upd nfd))
    have hf6 : (upd H5 fd (.lst [.str r.1])) fd = some (.lst [.str r.1]) := upd_same
    generalize upd H5 fd (.lst [.str r.1]) = H6 at hL6 hs6 hb06 hf6
    refine ⟨_, rfl, _, rfl, l, r.1, rs, r.2, rfl, RowsAt.but2 hst hll hb06 hL.l.symm hR, ok, hmz, fun H7 s7 => ⟨r.2, rfl, by omega, by omega, ?_⟩⟩
    refine for_range (n := r.2.toNat) (fun i σ H' => ∃ (v8 : Option V) (vs : List V) (cs : List D) (n' : Nat), σ = [some (.ref st), some (.ref l), some (.ref ll), some (.ref hl), some (.ref ft), some (.str r.1), none, some (.ref fd), v8] ∧ H' fd = some (.lst (.str r.1 :: vs)) ∧ DAts nol H' vs cs ∧ (isShs cs = true ∧ isThs rs cs = true ∧ ∀ z ∈ hnms cs, z ∈ hs) ∧ cs.length = i ∧ n' + 1 ≤ n ∧ szs cs ≤ 3 * (n - 1 - n') + i ∧ nhs cs ≤ (n - 1 - n') + i ∧ LeftAt H' st cl l ll n' ∧ StAt (B + (4 * (n - 1 - n') + 2 * i + 2)) H' st cl ∧ But2 st ll H H')
      ⟨none, [], [], n - 1, rfl, s7 _ _ hf6, trivial, ⟨rfl, rfl, fun z hz => by cases hz⟩, rfl, by omega, Nat.zero_le _, Nat.zero_le _, hL6.same s7, (hs6.same s7).mono (by omega), hb06.trans (But2.same s7)⟩ ?_ ?_
    · rintro i σ H8 hi ⟨v8, vs, cs, n', rfl, hf8, hds, ⟨hss, hts, hhs⟩, hcl, hn', hsz, hnh, hL8, hs8, hb8⟩
      refine ⟨_, rfl, .inl ⟨rfl, _, SqL.of hf8⟩, _, rfl, _, rfl, _, rfl, _, rfl, st, l, ll, hl, rs, hs, n', _, cl, rfl, by omega, by omega, RowsAt.but2 hst hll hb8 hL.l.symm hR, ok, hL8, hb8 _ _ hhl hlst hlll, hne, hsl, hsw, hs8, by omega, fun v d n'' H9 hd hsh ⟨hth, hhn⟩ hle hsz' hnh' hL9 hs9 hb9 => ?_⟩
      have hf9 := hb9 _ _ hf8 fs fll
      have hl8 := hds.len
      refine ⟨fd, _, v, rfl, rfl, hf9, by rw [List.length_cons, sizeLine_eq]; omega, ?_⟩
      have h10 : Hold nol H9 (upd H9 fd (.lst (.str r.1 :: vs ++ [v]))) := ⟨fun a xs e => by rw [upd_ne (ne_of e hf9 (by intro z; cases z))]; exact e, fun a e => by rw [upd_ne (ne_of e hf9 (by intro z; cases z))]; exact e, fun _ _ h => h.elim⟩
      refine ⟨_, vs ++ [v], cs ++ [d], n'', rfl, upd_same, DAts.app (DAts.hold h10 _ (DAts.hold (Hold.but2 hs8 hL8.at' hb9 fun _ h => h.elim) _ hds)) ⟨DAt.hold h10 _ hd, trivial⟩, ⟨isShs_of fun e he => ?_, by rw [isThs_app, hts, isThs, hth, isThs]; rfl, fun z hz => by rw [hnms_app, hnms, hnms, List.append_nil] at hz; exact (List.mem_append.mp hz).elim (hhs z) (hhn z)⟩, by rw [List.length_append, hcl]; rfl, by omega, ?_, ?_, hL9.put fll, (hs9.mono (by omega)).put fs fc, (hb8.trans hb9).put nfH⟩
      · rcases List.mem_append.mp he with he | he
        · exact isShs_mem hss e he
        · rw [List.mem_singleton.mp he]; exact hsh
      · rw [szs_app, show szs [d] = sz d + 0 from rfl]; omega
      · rw [nhs_app, show nhs [d] = nh d + 0 from rfl]; omega
    · rintro σ H8 ⟨v8, vs, cs, n', rfl, hf8, hds, ⟨hss, hts, hhs⟩, hcl, hn', hsz, hnh, hL8, hs8, hb8⟩
      refine ⟨_, rfl, fd, _, rfl, .inl ⟨SqL.of hf8, fun p np => ?_⟩⟩
      obtain ⟨pa, pc⟩ := hs8.new np
      have pl : p ≠ ll := (ne_of_none hL8.at' np).symm
      refine kk _ _ n' _ (new_tree np hds) (by rw [isSh, labs_word ok hrl, hss]; rfl) ⟨by rw [isTh, manyR_mem ok hr, hts, Bool.and_true, decide_eq_true_eq]; congr 1; omega, hhs⟩ (by omega) ?_ ?_ (hL8.put pl) ((hs8.mono (by omega)).put pa pc) (hb8.put (hb8.free np pa pl))
      · show 1 + (1 + szs cs) ≤ _
        omega
      · show nhs cs ≤ _
        omega
theorem c_shape {f : Addr} {fd : FuncData} (F : Def K mg "_law_shape" sShape f fd) (b : Binds K fd ["_law_state", "_law_rows_here", "_law_left_here", "_law_holes_here"] []) (T : Blt4 mg) (C : Cal P w K mg base 1 "_law_take" spTake []) (CO : Cal P w K mg base 2 "_law_one" spOne [])
    (CM : Cal P w K mg base 1 "_law_many" spMany []) : ∀ N : Nat, Cal P w K mg base (2 + N) "_law_shape" (spShape N) []
  | 0 => by
    have no : ∀ {vs H Q E}, spShape 0 vs H Q E → False := fun ⟨_, _, _, _, _, _, n, _, _, _, h1, _⟩ => by omega
    exact cal0 F b .nil scShape (fun vs H Q E h => (no h).elim) (fun cdv A outer s H vs Q E hr h => (no h).elim)
  | N + 1 => shape_step F b T (Nat.le_add_right 2 N) C CO CM (c_shape F b T C CO CM N)
end
end KT

namespace KT
open PySem PySem.Spec PyProof.Rows L2 C8 XE XR SX
/-! _law_unlike_holes -/
abbrev sUnl : Stmt := top 45
def spUnl (N : Nat) : Sp := fun vs H Q _ => ∃ (v : V) (d : D) (wl : Addr) (ws : List Str), vs = [v, .ref wl] ∧ DAt nol H v d ∧ isSh d = true ∧ sz d ≤ N ∧ sz d ≤ 5000 ∧ H wl = some (.lst (ws.map V.str)) ∧ nh d ≤ ws.length ∧ ws.length ≤ 100 ∧ (∀ z ∈ ws, wordS z = true) ∧
  ∀ (v' : V) (d' : D) (H' : Hp), DAt nol H' v' d' → isSh d' = true → ((∀ rs, isTh rs d = true → isTh rs d' = true) ∧ hnm d' = ws.take (nh d)) → isSq d' = isSq d → sz d' = sz d → nh d' = nh d → H' wl = some (.lst ((ws.drop (nh d)).map V.str)) → But wl H H' → Q v' H'
abbrev NUn : List Str := ["_law_shape_here", "_law_words_here", "_law_child"]
theorem scUnl : FnScope NUn ["_law_shape_here", "_law_words_here"] (fnScope sUnl) := fnScope_by (by decide +kernel)
theorem nhs_take_le (cs : List D) (i : Nat) : nhs (cs.take i) ≤ nhs cs := by
  have h := nhs_app (cs.take i) (cs.drop i)
  rw [List.take_append_drop] at h
  omega
theorem nhs_take_succ {xs : List D} {i : Nat} (h : i < xs.length) : nhs (xs.take (i + 1)) = nhs (xs.take i) + nh xs[i] := by
  rw [List.take_succ_eq_append_getElem h, nhs_app]
  rfl
section
variable {P : Program} {w : World} {K : PySem.W.Frag} {mg : Str → Option Value} {base : Heap}
theorem unl_step {k N : Nat} {f : Addr} {fd : FuncData} (F : Def K mg "_law_unlike_holes" sUnl f fd) (b : Binds K fd ["_law_shape_here", "_law_words_here"] []) (T : Blt4 mg) (CU : Cal P w K mg base k "_law_unlike_holes" (spUnl N) []) : Cal P w K mg base (k + 1) "_law_unlike_holes" (spUnl (N + 1)) [] := by
  refine cal0 F b .nil scUnl (fun vs H Q E h => ?_) (fun cdv A outer s H vs Q E hr h => ?_)
  · obtain ⟨v, d, wl, ws, rfl, _⟩ := h
    rfl
  · obtain ⟨v, d, wl, ws, rfl, hv, hsh, hN, hsz, hwl, hnw, hw9, hww, kk⟩ := h
    have nd := scUnl.nd
    refine ⟨_, pss_cons (ps_if (pt_val (pe_callB call_isi (by rfl) T.isi (by decide +kernel) (pa_cons (pv 0) (pa_cons (pe_bt "str" T.str) pa_nil))))
        (pss_one (ps_ret (pe_bm PySem.F.plainAttrs_list PySem.F.slot_list_pop PySem.F.type_list_pop mt_popAt (pv 1) (pa_cons pe_int pa_nil)))) pss_nil)
      (pss_one (ps_ret (pe_op op_catT (pe_tup (pa_cons (pe_ix ix_tup (pv 0) pe_int fun _ _ => rfl) pa_nil)) (pe_callTy call_tuple_of (by rfl) T.tup (by decide +kernel) (pa_cons
        (pe_lc (own := [("_law_child", 2)]) (g := gName 2) (tt := tYes) rfl nd (pi_tup (pe_slice sl_tup (pv 0) (po_some pe_int) po_none)) (blkOk_by (N := NUn) (sc := fnScope sUnl) (by decide +kernel)) (fun _ _ _ _ _ => pg_name (i := 2) nd rfl (Or.inl rfl)) (fun _ _ _ _ _ => pts_nil)
          (fun _ _ _ _ _ => pe_c CU hr (Nat.le_refl _) (by rfl) (pa_cons (pv 2) (pa_cons (pv 1) pa_nil)))) pa_nil))))), ?_⟩
    obtain ⟨Ty, ty, _, k2⟩ := d_ty (K := K) hv
    have ty0 := ty H fun _ _ e => e
    refine ⟨_, rfl, v, .ty "str", _, _, _, rfl, .ty _, ty0, k2, _, rfl, ?_⟩
    rcases isSh_inv hsh with ⟨z, rfl, hz⟩ | ⟨z, cs, rfl, hz, hcs⟩
    · have hn1 : nh (.fl (.str z)) = 1 := rfl
      cases ws with
      | nil => rw [hn1] at hnw; exact absurd hnw (by simp)
      | cons w0 ws =>
        refine iteBt rfl ⟨_, rfl, .inl ⟨rfl, _, SqL.of hwl⟩, wl, _, 0, (0 : Int).toNat, .str w0, rfl, rfl, hwl, by decide, by decide, seqIndex_of (by decide) (by rw [List.length_map, List.length_cons]; omega), rfl, ?_⟩
        refine kk _ (.fl (.str w0)) _ ⟨rfl, rfl⟩ (hww w0 List.mem_cons_self) ⟨fun _ _ => hww w0 List.mem_cons_self, rfl⟩ rfl rfl rfl (by rw [upd_same, hn1]; rfl) fun b o e n => by rw [upd_ne n]; exact e
    · refine iteBf rfl ?_
      obtain ⟨a, us, rfl, qa, _, hus⟩ := hv
      have qa : H a = some (.tup us) := qa.elim id fun e => e.1.elim
      match us, hus with
      | [], hus => exact hus.elim
      | u :: us, ⟨⟨eu, _⟩, hus⟩ =>
        subst eu
        have hul := hus.len
        have hsc : sz (.sq (.fl (.str z) :: cs)) = 2 + szs cs := by rw [sz, szs, sz]; omega
        have hnc : nh (.sq (.fl (.str z) :: cs)) = nhs cs := by rw [nh]
        have hcl := len_szs cs
        have hsl := sizeLine_eq
        refine ⟨_, rfl, a, _, 0, _, rfl, rfl, SqT.of qa, at_of (j := 0) rfl rfl, (by show 1 ≤ sizeLine; decide), fun t nt => ?_⟩
        have st : Same H (upd H t (.tup [.str z])) := same_upd nt
        have ht : (upd H t (.tup [.str z])) t = some (.tup [.str z]) := upd_same
        generalize upd H t (.tup [.str z]) = H1 at st ht
        refine ⟨_, rfl, 1, rfl, a, _, rfl, SqT.of (st _ _ qa), not_whole (by decide) (by simp), fun p np => ?_⟩
        rw [cutFrom (by decide)]
        have e3 : (V.str z :: us).drop (1 : Int).toNat = us := rfl
        rw [e3]
        refine ⟨p, rfl, ⟨_, SqT.of upd_same⟩, fun Da nDa => ?_⟩
        have sp : Same H1 (upd H1 p (.tup us)) := same_upd np
        have hpp : (upd H1 p (.tup us)) p = some (.tup us) := upd_same
        generalize upd H1 p (.tup us) = H2 at sp hpp nDa
        have s02 := st.trans sp
        have Dwl : Da ≠ wl := (ne_of_none (s02 _ _ hwl) nDa).symm
        refine lc_gen (J := Itt K p) us.length (fun j H' => ∃ vs' cs', H' Da = some (.lst vs') ∧ DAts nol H' vs' cs' ∧ (isShs cs' = true ∧ (∀ rs, isThs rs (cs.take j) = true → isThs rs cs' = true) ∧ hnms cs' = ws.take (nhs (cs.take j))) ∧ cs'.length = j ∧ szs cs' = szs (cs.take j) ∧ nhs cs' = nhs (cs.take j) ∧ H' wl = some (.lst ((ws.drop (nhs (cs.take j))).map V.str)) ∧ But wl H2 H')
          ⟨[], [], upd_same, trivial, ⟨rfl, fun _ h => h, rfl⟩, rfl, rfl, rfl, by rw [upd_ne Dwl.symm]; exact s02 _ _ hwl, Same.but (same_upd nDa)⟩
          (fun j H' hj ⟨_, _, _, _, _, _, _, _, _, b'⟩ => ⟨_, us.getD j .non, SqT.of (b' _ _ hpp (ne_of hpp (s02 _ _ hwl) (by intro z; cases z))), getD_at hj⟩) (fun H' ⟨_, _, _, _, _, _, _, _, _, b'⟩ => ⟨_, SqT.of (b' _ _ hpp (ne_of hpp (s02 _ _ hwl) (by intro z; cases z))), Nat.le_refl _⟩) (fun j H' x H'' hj ⟨vs', cs', hD, hds, ⟨hss, hts, hhn⟩, hcl', hszs, hnhs, hw', b'⟩ yl => ?_) (fun H' ⟨vs', cs', hD, hds, ⟨hss, hts, hhn⟩, hcl', hszs, hnhs, hw', b'⟩ => ?_)
        · obtain ⟨rfl, hx⟩ := yl
          have hx := hx _ (SqT.of (b' _ _ hpp (ne_of hpp (s02 _ _ hwl) (by intro z; cases z))))
          obtain ⟨c, hc, hxc⟩ := hus.get hx
          obtain ⟨hlt, ec⟩ := List.getElem?_eq_some_iff.mp hc
          have hszc := szs_get hc
          have hnt := nhs_take_succ hlt
          rw [ec] at hnt
          have hntl := nhs_take_le cs (j + 1)
          rw [hnc] at hnw
          have hdl : (ws.drop (nhs (cs.take j))).length = ws.length - nhs (cs.take j) := List.length_drop
          refine ⟨rfl, ?_⟩
          unfold tYes
          dsimp only
          rw [if_pos rfl]
          refine ⟨_, rfl, _, rfl, x, c, wl, ws.drop (nhs (cs.take j)), rfl, DAt.hold (Hold.but1 (s02 _ _ hwl) b' fun _ h => h.elim) _ (DAt.hold (.same s02) _ hxc), isShs_mem hcs c (List.mem_of_getElem? hc), by omega, by omega, hw', by omega, by omega, fun z hz => hww z (List.mem_of_mem_drop hz), fun v' d' H3 hd' hsh' ⟨hth', hhn'⟩ _ hsz' hnh' hw3 hb3 => ?_⟩
          have hD3 := hb3 _ _ hD Dwl
          have hvl := hds.len
          have nD2 : H2 Da = none := nDa
          have h10 : Hold nol H3 (upd H3 Da (.lst (vs' ++ [v']))) := ⟨fun a xs e => by rw [upd_ne (ne_of e hD3 (by intro z; cases z))]; exact e, fun a e => by rw [upd_ne (ne_of e hD3 (by intro z; cases z))]; exact e, fun _ _ h => h.elim⟩
          refine ⟨_, hD3, by omega, vs' ++ [v'], cs' ++ [d'], upd_same, DAts.app (DAts.hold h10 _ (DAts.hold (Hold.but1 hw' hb3 fun _ h => h.elim) _ hds)) ⟨DAt.hold h10 _ hd', trivial⟩, ⟨isShs_of fun e he => ?_, fun rs h => ?_, ?_⟩, by rw [List.length_append, hcl']; rfl, ?_, ?_, ?_, fun b o e n => by rw [upd_ne (ne_of_none e nD2)]; exact hb3 _ _ (b' _ _ e n) n⟩
          · rcases List.mem_append.mp he with he | he
            · exact isShs_mem hss e he
            · rw [List.mem_singleton.mp he]; exact hsh'
          · rw [List.take_succ_eq_append_getElem hlt, isThs_app, Bool.and_eq_true, ec] at h
            rw [isThs_app, hts rs h.1, isThs, isThs, Bool.and_true, Bool.true_and]
            have h2 := h.2
            rw [isThs, isThs, Bool.and_true] at h2
            exact hth' rs h2
          · rw [hnms_app, hnms, hnms, List.append_nil, hhn, hhn', hnt, List.take_add]
          · rw [szs_app, show szs [d'] = sz d' + 0 from rfl, szs_take_succ hlt, ec]; omega
          · rw [nhs_app, show nhs [d'] = nh d' + 0 from rfl, hnt]; omega
          · rw [upd_ne Dwl.symm, hw3, List.drop_drop, hnt]
        · rw [hul, List.take_length] at hszs hnhs hw' hts hhn
          have hvl := hds.len
          have htH : H' t = some (.tup [.str z]) := b' _ _ (sp _ _ ht) (ne_of (sp _ _ ht) (s02 _ _ hwl) (by intro z; cases z))
          have hbf : But wl H H' := fun b o e n => b' _ _ (s02 _ _ e) n
          refine ⟨Da, vs', rfl, .inl ⟨SqL.of hD, fun q nq => ?_⟩⟩
          have sq : Same H' (upd H' q (.tup vs')) := same_upd nq
          have hqq : (upd H' q (.tup vs')) q = some (.tup vs') := upd_same
          generalize upd H' q (.tup vs') = H4 at sq hqq
          have ht4 := sq _ _ htH
          have hd4 := DAts.hold (.same sq) _ hds
          have hb4 : But wl H H4 := fun b o e n => sq _ _ (hbf _ _ e n)
          have s1 : isSh (.sq (.fl (.str z) :: cs')) = true := by rw [isSh, hz, hss]; rfl
          have s2 : sz (.sq (.fl (.str z) :: cs')) = sz (.sq (.fl (.str z) :: cs)) := by rw [hsc, sz, szs, sz]; omega
          have s3 : nh (.sq (.fl (.str z) :: cs')) = nh (.sq (.fl (.str z) :: cs)) := by rw [hnc, nh]; exact hnhs
          have s4 : (∀ rs, isTh rs (.sq (.fl (.str z) :: cs)) = true → isTh rs (.sq (.fl (.str z) :: cs')) = true) ∧ hnm (.sq (.fl (.str z) :: cs')) = ws.take (nh (.sq (.fl (.str z) :: cs))) := by
            refine ⟨fun rs h => ?_, by rw [hnc, hnm]; exact hhn⟩
            rw [isTh, Bool.and_eq_true] at h ⊢
            exact ⟨by rw [hcl', hul]; exact h.1, hts rs h.2⟩
          have hwe := sq _ _ hw'
          rw [← hnc] at hwe
          refine ⟨t, q, [.str z], vs', rfl, rfl, SqT.of ht4, SqT.of hqq, by simp, by rw [hvl, List.length_singleton]; omega, fun e => ?_, fun e tt ntt => ?_⟩
          · subst e
            exact kk _ (.sq (.fl (.str z) :: cs')) H4 ⟨t, _, rfl, .inl ht4, rfl, ⟨rfl, rfl⟩, hd4⟩ s1 s4 rfl s2 s3 hwe hb4
          · exact kk _ _ _ (new_tree ntt hd4) s1 s4 rfl s2 s3 (by rw [upd_ne (ne_of_none hwe ntt)]; exact hwe) fun b o e n => by
              have := hb4 _ _ e n
              rw [upd_ne (ne_of_none this ntt)]
              exact this
theorem c_unl {f : Addr} {fd : FuncData} (F : Def K mg "_law_unlike_holes" sUnl f fd) (b : Binds K fd ["_law_shape_here", "_law_words_here"] []) (T : Blt4 mg) : ∀ N : Nat, Cal P w K mg base (1 + N) "_law_unlike_holes" (spUnl N) []
  | 0 => by
    have no : ∀ {vs H Q E}, spUnl 0 vs H Q E → False := fun ⟨_, d, _, _, _, _, _, h1, _⟩ => by have := sz_pos d; omega
    exact cal0 F b .nil scUnl (fun vs H Q E h => (no h).elim) (fun cdv A outer s H vs Q E hr h => (no h).elim)
  | N + 1 => unl_step F b T (c_unl F b T N)
end
end KT

namespace KT
open PySem PySem.Spec PyProof.Rows L2 C8 XE XR SX
/-! _law_left -/
abbrev sLeft : Stmt := top 46
theorem But.two1 {st ll : Addr} {H H1 H2 : Hp} (h : But st H H1) (n : H ll = none) (h2 : But2 st ll H1 H2) : But st H H2 := fun b o e m => h2 b o (h b o e m) m (ne_of_none e n)
theorem But.on1 {st p : Addr} {H H1 H2 : Hp} (h : But st H H1) (n : H p = none) (h2 : But p H1 H2) : But st H H2 := fun b o e m => h2 b o (h b o e m) (ne_of_none e n)
theorem StAt.off {B : Nat} {H H' : Hp} {st cl p : Addr} (h : StAt B H st cl) (h1 : p ≠ st) (h2 : p ≠ cl) (b : But p H H') : StAt B H' st cl := h.keeps (fun o e => b _ _ e h1.symm) fun o e => b _ _ e h2.symm
theorem no_keep : ("keep" : Str) ∈ menu → False := by decide +kernel
def spLeft : Sp := fun vs H Q _ => ∃ (st l : Addr) (m : Int) (rs : List Rw) (B : Nat) (cl : Addr), vs = [.ref st, .ref l, .int m] ∧ 1 ≤ m ∧ m ≤ 3 ∧ RowsAt H l rs ∧ RowsOk rs ∧ StAt B H st cl ∧ B + 50 < 1000000000000000 ∧
  ∀ (v : V) (z : Str) (cs : List D) (H' : Hp), DAt nol H' v (.sq (.fl (.str z) :: cs)) → isSh (.sq (.fl (.str z) :: cs)) = true → (isTh rs (.sq (.fl (.str z) :: cs)) = true ∧ (hnms cs).Nodup) → nhs cs ≤ 4 → szs cs ≤ 8 → StAt (B + 50) H' st cl → But st H H' → Q v H'
abbrev NLe : List Str := ["_law_state", "_law_rows_here", "_law_most", "_law_label", "_law_many_here", "_law_left_here", "_law_found", "_law_k", "_law_words_here"]
theorem scLeft : FnScope NLe ["_law_state", "_law_rows_here", "_law_most"] (fnScope sLeft) := fnScope_by (by decide +kernel)
section
variable {P : Program} {w : World} {K : PySem.W.Frag} {mg : Str → Option Value} {base : Heap}
theorem c_left {f : Addr} {fd : FuncData} (F : Def K mg "_law_left" sLeft f fd) (b : Binds K fd ["_law_state", "_law_rows_here", "_law_most"] []) (T : Blt4 mg) (C : Cal P w K mg base 1 "_law_take" spTake []) (CO : Cal P w K mg base 2 "_law_one" spOne [])
    (CM : Cal P w K mg base 1 "_law_many" spMany []) (CW : Cal P w K mg base 3 "_law_words" spWords []) (CS : Cal P w K mg base 7 "_law_shape" (spShape 5) []) (CU : Cal P w K mg base 13 "_law_unlike_holes" (spUnl 12) []) : Cal P w K mg base 14 "_law_left" spLeft [] := by
  refine cal0 F b .nil scLeft (fun vs H Q E h => ?_) (fun cdv A outer s H vs Q E hr h => ?_)
  · obtain ⟨st, l, m, rs, B, cl, rfl, _⟩ := h
    rfl
  · obtain ⟨st, l, m, rs, B, cl, rfl, hm1, hm3, hR, ok, hst, hB, kk⟩ := h
    have nd := scLeft.nd
    refine ⟨_, pss_cons (ps_set (i := 3) nd rfl (Or.inl rfl) (pe_c CO hr (by decide) (by rfl) (pa_cons (pv 0) (pa_cons
          (pe_lc (own := [("_law_label", 3), ("_law_many_here", 4)]) (g := gTup K 2 (gCons (gName 3) (gCons (gName 4) gNil))) (tt := tYes) rfl nd (pi_list (pv 1)) (blkOk_by (N := NLe) (sc := fnScope sLeft) (by decide +kernel))
            (fun _ _ _ _ _ => pg_tup rfl (pgs_cons (pg_name (i := 3) nd rfl (Or.inl rfl)) (pgs_cons (pg_name (i := 4) nd rfl (Or.inl rfl)) pgs_nil))) (fun _ _ _ _ _ => pts_nil) (fun _ _ _ _ _ => pv 3)) pa_nil))))
      (pss_cons (ps_set (i := 5) nd rfl (Or.inl rfl) (pe_lst (pa_cons (pe_c C hr (by decide) (by rfl) (pa_cons (pv 0) (pa_cons (pv 2) pa_nil))) pa_nil)))
      (pss_cons (ps_set (i := 6) nd rfl (Or.inl rfl) (pe_lst (pa_cons (pv 3) pa_nil)))
      (pss_cons (ps_for PassesOwn.never rfl (pi_range1 (by rfl) T.ran (pa_cons (pe_c CM hr (by decide) (by rfl) (pa_cons (pv 1) (pa_cons (pv 3) pa_nil))) pa_nil)) (pg_name (i := 7) nd rfl (Or.inl rfl))
          (pss_one (ps_expr (pe_bm PySem.F.plainAttrs_list PySem.F.slot_list_append PySem.F.type_list_append mt_append (pv 6) (pa_cons (pe_c CS hr (by decide) (by rfl) (pa_cons (pv 0) (pa_cons (pv 1) (pa_cons (pv 5) (pa_cons (pe_lst (pa_cons pe_str pa_nil)) pa_nil))))) pa_nil)))))
      (pss_cons (ps_set (i := 8) nd rfl (Or.inl rfl) (pe_c CW hr (by decide) (by rfl) (pa_cons (pv 0) (pa_cons pe_int pa_nil))))
      (pss_cut (ps_if (pt_cmp (pc_eqI (pe_c C hr (by decide) (by rfl) (pa_cons (pv 0) (pa_cons pe_int pa_nil))) pe_int)) (pss_one (ps_asg pe_str (pg_sub (pv 8) pe_int set_list))) pss_nil)
      (pss_one (ps_ret (pe_c CU hr (by decide) (by rfl) (pa_cons (pe_callTy call_tuple_of (by rfl) T.tup (by decide +kernel) (pa_cons (pv 6) pa_nil)) (pa_cons (pv 8) pa_nil)))))))))), ?_⟩
    obtain ⟨us, hlv, hp⟩ := id hR
    have hlen := Paired.length hp
    have hok := ok.len
    have rpos : 0 < rs.length := by
      obtain ⟨r, hr, _⟩ := ok.leaf
      exact List.length_pos_iff.mpr fun e => by rw [e] at hr; cases hr
    refine ⟨_, rfl, _, rfl, l, rfl, ⟨us, SqL.of hlv⟩, fun Dl nD => ?_⟩
    obtain ⟨Ds, Dc⟩ := hst.new nD
    refine lc_gen (J := Itl K l) rs.length (fun i H' => H' Dl = some (.lst ((rs.take i).map fun r => V.str r.1)) ∧ Same H H') ⟨upd_same, same_upd nD⟩ (fun i H' hi ⟨_, sm⟩ => ⟨us, us.getD i .non, SqL.of (sm _ _ hlv), by rw [List.getD_eq_getElem?_getD, List.getElem?_eq_getElem (by omega)]; rfl⟩)
      (fun H' ⟨_, sm⟩ => ⟨us, SqL.of (sm _ _ hlv), by omega⟩) (fun i H' v H'' hi ⟨hD, sm⟩ yl => ?_) (fun H1 ⟨hD, s1⟩ => ?_)
    · obtain ⟨rfl, hx⟩ := yl
      have hx := hx _ (SqL.of (sm _ _ hlv))
      obtain ⟨r, hr, t, rfl, ht⟩ := paired_get hp hx
      refine ⟨t, [.str r.1, .int r.2], rfl, SqT.of (sm _ _ ht), rfl, .str r.1, [.int r.2], rfl, .int r.2, [], rfl, rfl, rfl, ?_⟩
      unfold tYes
      dsimp only
      rw [if_pos rfl]
      refine ⟨_, rfl, _, hD, by rw [List.length_map, List.length_take, sizeLine_eq]; omega, ?_, fun b o e => by rw [upd_ne (ne_of_none e nD)]; exact sm _ _ e⟩
      obtain ⟨hlt, e⟩ := List.getElem?_eq_some_iff.mp hr
      rw [upd_same, List.take_succ_eq_append_getElem hlt, List.map_append, e]
      rfl
    rw [List.take_of_length_le (Nat.le_refl _)] at hD
    refine ⟨st, Dl, _, B, cl, rfl, .inl hD, Ds, by rw [List.length_map]; exact rpos, by rw [List.length_map]; omega, hst.same s1, by omega, fun v H2 hv hs2 hb2 => ?_⟩
    obtain ⟨r, hr, rfl⟩ := List.mem_map.mp hv
    have hmz : many rs r.1 = some r.2 := many_mem ok (List.mem_append_left _ hr)
    obtain ⟨hrm, m0, m2⟩ := ok.mem r hr
    have hrl : r.1 ∈ labs rs := List.mem_map_of_mem (List.mem_append_left _ hr)
    have hb02 : But st H H2 := (Same.but s1).trans hb2
    -- the list of what is left
    refine ⟨_, rfl, _, rfl, st, m, B + 1, cl, rfl, by omega, by omega, hs2, by omega, fun d H3 d0 d1 hs3 hb3 => ⟨(by show 1 ≤ sizeLine; decide), fun ll nll => ?_⟩⟩
    obtain ⟨ls, lc⟩ := hs3.new nll
    have hb03 := hb02.trans hb3
    have nlH : H ll = none := hb03.free nll ls
    have lll : ll ≠ l := (ne_of_none hlv nlH).symm
    have ed : d = ((d.toNat : Nat) : Int) := by omega
    have hL4 : LeftAt (upd H3 ll (.lst [.int d])) st cl l ll d.toNat := ⟨by rw [upd_same, ← ed], ls, lc, lll⟩
    have hs4 : StAt (B + 2) (upd H3 ll (.lst [.int d])) st cl := hs3.put ls lc
    have hb4 : But st H (upd H3 ll (.lst [.int d])) := hb03.upd nlH
    generalize upd H3 ll (.lst [.int d]) = H4 at hL4 hs4 hb4
    refine ⟨_, rfl, (by show 1 ≤ sizeLine; decide), fun fd nfd => ?_⟩
    obtain ⟨fs, fc⟩ := hs4.new nfd
    have fll : fd ≠ ll := (ne_of_none hL4.at' nfd).symm
    have nfH : H fd = none := hb4.free nfd fs
    have hL5 := hL4.same (same_upd nfd (o := .lst [.str r.1]))
    have hs5 := hs4.same (same_upd nfd (o := .lst [.str r.1]))
    have hb5 : But st H (upd H4 fd (.lst [.str r.1])) := hb4.upd nfH
    have hf5 : (upd H4 fd (.lst [.str r.1])) fd = some (.lst [.str r.1]) := upd_same
    generalize upd H4 fd (.lst [.str r.1]) = H5 at hL5 hs5 hb5 hf5
    refine ⟨_, rfl, _, rfl, l, r.1, rs, r.2, rfl, hR.but hst hb5, ok, hmz, fun H6 s6 => ⟨r.2, rfl, by omega, by omega, ?_⟩⟩
    refine for_range (n := r.2.toNat) (fun i σ H' => ∃ (v7 : Option V) (vs : List V) (cs : List D) (n' : Nat), σ = [some (.ref st), some (.ref l), some (.int m), some (.str r.1), none, some (.ref ll), some (.ref fd), v7, none] ∧ H' fd = some (.lst (.str r.1 :: vs)) ∧ DAts nol H' vs cs ∧ (isShs cs = true ∧ isThs rs cs = true) ∧ cs.length = i ∧ n' ≤ d.toNat ∧ szs cs ≤ 3 * (d.toNat - n') + i ∧ nhs cs ≤ (d.toNat - n') + i ∧ LeftAt H' st cl l ll n' ∧ StAt (B + 2 + (4 * (d.toNat - n') + 2 * i)) H' st cl ∧ But st H H')
      ⟨none, [], [], d.toNat, rfl, s6 _ _ hf5, trivial, ⟨rfl, rfl⟩, rfl, by omega, Nat.zero_le _, Nat.zero_le _, hL5.same s6, (hs5.same s6).mono (by omega), hb5.trans (Same.but s6)⟩ ?_ ?_
    · rintro i σ H8 hi ⟨v7, vs, cs, n', rfl, hf8, hds, ⟨hss, hts⟩, hcl, hn', hsz, hnh, hL8, hs8, hb8⟩
      refine ⟨_, rfl, .inl ⟨rfl, _, SqL.of hf8⟩, _, rfl, _, rfl, _, rfl, (by show 1 ≤ sizeLine; decide), fun hl nhl => ?_⟩
      have s9 : Same H8 (upd H8 hl (.lst [.str "x"])) := same_upd nhl
      have hh9 : (upd H8 hl (.lst [.str "x"])) hl = some (.lst [.str "x"]) := upd_same
      generalize upd H8 hl (.lst [.str "x"]) = H9 at s9 hh9
      have hb9 := hb8.trans (Same.but s9)
      have hs9 := hs8.same s9
      have hL9 := hL8.same s9
      refine ⟨st, l, ll, hl, rs, ["x"], n', _, cl, rfl, by omega, by omega, hR.but hst hb9, ok, hL9, hh9, by simp, by simp, by decide +kernel, hs9, by omega, fun v dd n'' H10 hd hsh ⟨hth, _⟩ hle hsz' hnh' hL10 hs10 hb10 => ?_⟩
      have hf10 := hb10 _ _ (s9 _ _ hf8) fs fll
      have hl8 := hds.len
      have h10 : Hold nol H10 (upd H10 fd (.lst (.str r.1 :: vs ++ [v]))) := ⟨fun a xs e => by rw [upd_ne (ne_of e hf10 (by intro z; cases z))]; exact e, fun a e => by rw [upd_ne (ne_of e hf10 (by intro z; cases z))]; exact e, fun _ _ h => h.elim⟩
      refine ⟨fd, _, v, rfl, rfl, hf10, by rw [List.length_cons, sizeLine_eq]; omega, ?_⟩
      refine ⟨_, vs ++ [v], cs ++ [dd], n'', rfl, upd_same, DAts.app (DAts.hold h10 _ (DAts.hold (Hold.but2 hs9 hL9.at' hb10 fun _ h => h.elim) _ (DAts.hold (.same s9) _ hds))) ⟨DAt.hold h10 _ hd, trivial⟩, ⟨isShs_of fun e he => ?_, by rw [isThs_app, hts, isThs, hth, isThs]; rfl⟩, by rw [List.length_append, hcl]; rfl, by omega, ?_, ?_, hL10.put fll, (hs10.mono (by omega)).put fs fc, (hb9.two1 nlH hb10).upd nfH⟩
      · rcases List.mem_append.mp he with he | he
        · exact isShs_mem hss e he
        · rw [List.mem_singleton.mp he]; exact hsh
      · rw [szs_app, show szs [dd] = sz dd + 0 from rfl]; omega
      · rw [nhs_app, show nhs [dd] = nh dd + 0 from rfl]; omega
    · rintro σ H8 ⟨v7, vs, cs, n', rfl, hf8, hds, ⟨hss, hts⟩, hcl, hn', hsz, hnh, hL8, hs8, hb8⟩
      refine ⟨_, rfl, st, 4, _, cl, rfl, by decide, by decide, hs8, by omega, fun wl ws H9 nwl hwl hwlen hwnd hwm hs9 hb9 => ?_⟩
      obtain ⟨ws', wc⟩ := hs8.new nwl
      have wfd : fd ≠ wl := ne_of_none hf8 nwl
      have nwH : H wl = none := hb8.free nwl ws'
      have hf9 := hb9 _ _ hf8 fs
      have hd9 := DAts.hold (Hold.but hs8 hb9 fun _ h => h.elim) _ hds
      have hb09 := hb8.trans hb9
      have hww : ∀ z ∈ ws, wordS z = true := fun z hz => menu_word z (hwm z hz)
      match ws, hwlen, hwnd with
      | [w0, w1, w2, w3], _, hwnd =>
      refine ⟨fun σ H' => ∃ (ws' : List Str) (v7 : Option V), σ = [some (.ref st), some (.ref l), some (.int m), some (.str r.1), none, some (.ref ll), some (.ref fd), v7, some (.ref wl)] ∧ H' wl = some (.lst (ws'.map V.str)) ∧ ws'.length = 4 ∧ ((∀ z ∈ ws', wordS z = true) ∧ ws'.Nodup) ∧ H' fd = some (.lst (.str r.1 :: vs)) ∧ DAts nol H' vs cs ∧ StAt (B + 50) H' st cl ∧ But st H H', ?_, ?_⟩
      · refine ⟨_, rfl, st, 6, _, cl, rfl, by decide, by decide, hs9, by omega, fun d6 H10 _ _ hs10 hb10 => ⟨d6, 0, rfl, rfl, _, rfl, ite2 (fun _ => ?_) (fun _ => ?_)⟩⟩
        · have hwl10 := hb10 _ _ hwl ws'
          refine ⟨_, rfl, wl, _, 0, 0, rfl, rfl, hwl10, rfl, ["keep", w1, w2, w3], _, rfl, upd_same, rfl, ⟨fun z hz => ?_, ?_⟩, by rw [upd_ne wfd]; exact hb10 _ _ hf9 fs, ?_, (hs10.mono (by omega)).put ws' wc, (hb09.trans hb10).upd nwH⟩
          · rcases List.mem_cons.mp hz with rfl | hz
            · decide +kernel
            · exact hww z (List.mem_cons_of_mem _ hz)
          · rw [List.nodup_cons] at hwnd ⊢
            exact ⟨fun h => no_keep (hwm _ (List.mem_cons_of_mem _ h)), hwnd.2⟩
          · exact DAts.hold ⟨fun a xs e => by rw [upd_ne (ne_of e hwl10 (by intro z; cases z))]; exact e, fun a e => by rw [upd_ne (ne_of e hwl10 (by intro z; cases z))]; exact e, fun _ _ h => h.elim⟩ _ (DAts.hold (Hold.but hs9 hb10 fun _ h => h.elim) _ hd9)
        · exact ⟨[w0, w1, w2, w3], _, rfl, hb10 _ _ hwl ws', rfl, ⟨hww, hwnd⟩, hb10 _ _ hf9 fs, DAts.hold (Hold.but hs9 hb10 fun _ h => h.elim) _ hd9, hs10.mono (by omega), hb09.trans hb10⟩
      rintro σ H10 ⟨ws, v7, rfl, hwl, hwlen, ⟨hww, hwnd'⟩, hf, hd, hs, hb⟩
      refine ⟨_, rfl, fd, _, rfl, .inl ⟨SqL.of hf, fun p np => ?_⟩⟩
      obtain ⟨ps, pc⟩ := hs.new np
      have sp : Same H10 (upd H10 p (.tup (.str r.1 :: vs))) := same_upd np
      have hsh : isSh (.sq (.fl (.str r.1) :: cs)) = true := by rw [isSh, labs_word ok hrl, hss]; rfl
      have hsc : sz (.sq (.fl (.str r.1) :: cs)) = 2 + szs cs := by rw [sz, szs, sz]; omega
      have hnc : nh (.sq (.fl (.str r.1) :: cs)) = nhs cs := by rw [nh]
      have hth0 : isTh rs (.sq (.fl (.str r.1) :: cs)) = true := by rw [isTh, manyR_mem ok hr, hts, Bool.and_true, decide_eq_true_eq]; congr 1; omega
      refine ⟨_, rfl, .ref p, .sq (.fl (.str r.1) :: cs), wl, ws, rfl, new_tree np hd, hsh, by omega, by omega, sp _ _ hwl, by omega, by omega, hww, fun v' d' H' hd' hsh' ⟨hth', hhn'⟩ _ hsz' hnh' _ hb' => ?_⟩
      rcases isSh_inv hsh' with ⟨z, rfl, _⟩ | ⟨z, cs', rfl, hz, hcs⟩
      · rw [hsc, sz] at hsz'
        omega
      · have hsc' : sz (.sq (.fl (.str z) :: cs')) = 2 + szs cs' := by rw [sz, szs, sz]; omega
        rw [nh, hnc] at hnh'
        rw [hnm] at hhn'
        exact kk v' z cs' H' hd' hsh' ⟨hth' rs hth0, by rw [hhn']; exact hwnd'.sublist (List.take_sublist _ _)⟩ (by omega) (by omega) ((hs.same sp).off ws' wc hb') ((hb.trans (Same.but sp)).on1 nwH hb')
end
end KT

namespace KT
open PySem PySem.Spec PyProof.Rows L2 C8 XE XR SX
/-! _law_right -/
abbrev sRight : Stmt := top 47
theorem isT_shN {rs : List Rw} (ok : RowsOk rs) : ∀ (n : Nat) (t : D), sz t ≤ n → isT rs t = true → isSh t = true
  | 0, t, h, _ => by have := sz_pos t; omega
  | n + 1, t, h, ht => by
    obtain ⟨z, cs, m, rfl, hm, _, hts⟩ := isT_inv ht
    rw [isSh, labs_word ok (many_some hm), isShs_of fun c hc => ?_]
    · rfl
    · obtain ⟨i, hi⟩ := List.getElem?_of_mem hc
      have := szs_get hi
      have e : sz (.sq (.fl (.str z) :: cs)) = 2 + szs cs := by rw [sz, szs, sz]; omega
      exact isT_shN ok n c (by omega) (isTs_get hts hi)
theorem isT_sh {rs : List Rw} (ok : RowsOk rs) {t : D} (h : isT rs t = true) : isSh t = true := isT_shN ok _ t (Nat.le_refl _) h
mutual
theorem holes_word : ∀ d : D, isSh d = true → ∀ q ∈ holesP d, wordS q.1 = true
  | .fl x, h, q, hq => by
    rcases isSh_inv h with ⟨z, e, hz⟩ | ⟨z, cs, e, _⟩
    · cases e
      rw [List.mem_singleton.mp hq]
      exact hz
    · cases e
  | .emp, h, q, hq => by cases hq
  | .sq [], h, q, hq => by cases hq
  | .sq (x :: cs), h, q, hq => by
    rcases isSh_inv h with ⟨z, e, hz⟩ | ⟨z, cs', e, _, hcs⟩
    · cases e
    · injection e with e
      injection e with e1 e2
      subst e2
      exact holess_word cs 0 hcs q hq
theorem holess_word : ∀ (cs : List D) (k : Nat), isShs cs = true → ∀ q ∈ holesPs k cs, wordS q.1 = true
  | [], k, h, q, hq => by cases hq
  | c :: cs, k, h, q, hq => by
    rw [isShs, Bool.and_eq_true] at h
    rw [holesPs] at hq
    rcases List.mem_append.mp hq with hq | hq
    · obtain ⟨p, hp, rfl⟩ := List.mem_map.mp hq
      exact holes_word c h.1 p hp
    · exact holess_word cs (k + 1) h.2 q hq
end
theorem rep_flat (n : Nat) (x : V) : (List.replicate n [x]).flatten = List.replicate n x := by
  induction n with
  | zero => rfl
  | succ n ih => rw [List.replicate_succ, List.flatten_cons, ih]; rfl
theorem dats_rep {F : Addr → Prop} {H : Hp} {h : Str} : ∀ n : Nat, DAts F H (List.replicate n (.str h)) (List.replicate n (.fl (.str h)))
  | 0 => trivial
  | n + 1 => ⟨⟨rfl, rfl⟩, dats_rep n⟩
theorem szs_rep {x : V} : ∀ n : Nat, szs (List.replicate n (.fl x)) = n
  | 0 => rfl
  | n + 1 => by rw [List.replicate_succ, szs, sz, szs_rep n]; omega
def rEqNil (K : PySem.W.Frag) : R2 := fun x y H Q => ∃ a b xs, x = .ref a ∧ y = .ref b ∧ SqL K H a xs ∧ SqL K H b [] ∧ Q (.bl xs.isEmpty) H
theorem op_eqNil (hu : X.A.units + 64 < cLine) : OpR X (compareOp .Eq) (rEqNil X.K) := by
  intro pins s σ H x y v u Q I rx ry h
  obtain ⟨a, b, xs, rfl, rfl, ha, hb, q⟩ := h
  cases rx
  cases ry
  obtain ⟨us, r1, p1, _⟩ := I.list ha
  obtain ⟨ws, r2, p2, _⟩ := I.list hb
  cases r2
  have fin : ∀ b : Bool, b = xs.isEmpty → (EP X pins σ Q) (.bool b) s := fun b e => ⟨.bl b, H, I, rfl, by rw [e]; exact q⟩
  cases r1 with
  | nil => exact SeqAt.RcAt.lists (e := fun _ => true) p1.isList p2.isList rfl (by omega) (fun j h1 h2 => absurd h1 (by simp)) _ _ _ _ (fin true rfl)
  | cons r t => exact SeqAt.RcAt.lists_lengths p1.isList p2.isList (by simp) (by omega) _ _ _ _ (fin false rfl)
theorem hnm_treeN {rs : List Rw} : ∀ (n : Nat) (t : D), sz t ≤ n → isT rs t = true → hnm t = []
  | 0, t, h, _ => by have := sz_pos t; omega
  | n + 1, t, h, ht => by
    obtain ⟨z, cs, m, rfl, _, _, hts⟩ := isT_inv ht
    rw [hnm]
    have e : sz (.sq (.fl (.str z) :: cs)) = 2 + szs cs := by rw [sz, szs, sz]; omega
    have go : ∀ l : List D, (∀ c ∈ l, hnm c = []) → hnms l = [] := fun l => by
      induction l with
      | nil => intro _; rfl
      | cons c l ih => intro hl; rw [hnms, hl c List.mem_cons_self, ih fun c hc => hl c (List.mem_cons_of_mem _ hc)]; rfl
    refine go cs fun c hc => ?_
    obtain ⟨i, hi⟩ := List.getElem?_of_mem hc
    have := szs_get hi
    exact hnm_treeN n c (by omega) (isTs_get hts hi)
theorem hnm_tree {rs : List Rw} {t : D} (h : isT rs t = true) : hnm t = [] := hnm_treeN _ t (Nat.le_refl _) h
theorem hnms_rep {h : Str} : ∀ n : Nat, ∀ z ∈ hnms (List.replicate n (.fl (.str h))), z = h
  | 0, z, hz => by cases hz
  | n + 1, z, hz => by
    rw [List.replicate_succ, hnms] at hz
    rcases List.mem_append.mp hz with hz | hz
    · exact List.mem_singleton.mp hz
    · exact hnms_rep n z hz
def spRight : Sp := fun vs H Q _ => ∃ (st l : Addr) (v : V) (d : D) (m : Int) (rs : List Rw) (B : Nat) (cl : Addr), vs = [.ref st, .ref l, v, .int m] ∧ 1 ≤ m ∧ m ≤ 4 ∧ DAt nol H v d ∧ isSh d = true ∧ sz d ≤ 12 ∧ RowsAt H l rs ∧ RowsOk rs ∧ StAt B H st cl ∧ B + 60 < 1000000000000000 ∧
  ∀ (v' : V) (d' : D) (H' : Hp), DAt nol H' v' d' → isSh d' = true → (∀ z ∈ hnm d', z ∈ hnm d) → sz d' ≤ 30 → StAt (B + 60) H' st cl → But st H H' → Q v' H'
abbrev NRi : List Str := ["_law_state", "_law_rows_here", "_law_left_here", "_law_most", "_law_holes_here", "_law_hole", "_law_place", "_law_found", "_law_names"]
theorem scRight : FnScope NRi ["_law_state", "_law_rows_here", "_law_left_here", "_law_most"] (fnScope sRight) := fnScope_by (by decide +kernel)
theorem mt_lcountK {X : Cx} {K : PySem.W.Frag} (h : X.K = K) : MtR X "list.count" (rCntF K) := by subst h; exact mt_lcountF
section
variable {P : Program} {w : World} {K : PySem.W.Frag} {mg : Str → Option Value} {base : Heap}
theorem c_right {f : Addr} {fd : FuncData} (F : Def K mg "_law_right" sRight f fd) (b : Binds K fd ["_law_state", "_law_rows_here", "_law_left_here", "_law_most"] []) (T : Blt4 mg) (hany : mg "any" = none) (C : Cal P w K mg base 1 "_law_take" spTake [])
    (CT : Cal P w K mg base 7 "_law_tree" (spTree 4) []) (CS : Cal P w K mg base 7 "_law_shape" (spShape 5) []) (CH : Cal P w K mg base 31 "_law_holes" (spHoles 30) []) (CP : Cal P w K mg base 31 "_law_spots" (spSpots 30) []) : Cal P w K mg base 32 "_law_right" spRight [] := by
  refine cal0 F b .nil scRight (fun vs H Q E h => ?_) (fun cdv A outer s H vs Q E hr h => ?_)
  · obtain ⟨st, l, v, d, m, rs, B, cl, rfl, _⟩ := h
    rfl
  · obtain ⟨st, l, v, d, m, rs, B, cl, rfl, hm1, hm4, hv, hsh, hsz, hR, ok, hst, hB, kk⟩ := h
    have nd := scRight.nd
    have hu : (A.deeper (envOfC "_law_right" (fnScope sRight) s.heap.objs.size f cdv)).units + 64 < cLine := by have := hr.un; omega
    refine ⟨_, pss_cut (ps_setLc (i := 4) (own := [("_law_hole", 5), ("_law_place", 6)]) (g := gTup K 2 (gCons (gName 5) (gCons (gName 6) gNil))) (tt := tYes) rfl nd rfl rfl (by rfl) (pi_list (pe_c CH hr (by decide) (by rfl) (pa_cons (pv 2) pa_nil))) (blkOk_by (N := NRi) (sc := fnScope sRight) (by decide +kernel))
          (fun _ _ _ _ _ => pg_tup rfl (pgs_cons (pg_name (i := 5) nd rfl (Or.inl rfl)) (pgs_cons (pg_name (i := 6) nd rfl (Or.inl rfl)) pgs_nil))) (fun _ _ _ _ _ => pts_nil) (fun _ _ _ _ _ => pv 5))
      (pss_cons (ps_if (pt_cmpR (op_eqNil hu) (pv 4) (pe_lst pa_nil) (nomark _)) (pss_one (ps_ret (pe_c CT hr (by decide) (by rfl) (pa_cons (pv 0) (pa_cons (pv 1) (pa_cons (pe_op op_add pe_int (pe_c C hr (by decide) (by rfl) (pa_cons (pv 0) (pa_cons (pv 3) pa_nil)))) pa_nil)))))) pss_nil)
      (pss_cons (ps_set (i := 7) nd rfl (Or.inl rfl) (pe_c CS hr (by decide) (by rfl) (pa_cons (pv 0) (pa_cons (pv 1) (pa_cons (pe_lst (pa_cons (pe_c C hr (by decide) (by rfl) (pa_cons (pv 0) (pa_cons (pe_op op_add (pv 3) pe_int) pa_nil))) pa_nil)) (pa_cons (pv 4) pa_nil))))))
      (pss_cut (ps_set (i := 8) nd rfl (by first | exact Or.inl rfl | exact Or.inr rfl) (pe_lc (own := [("_law_hole", 5), ("_law_place", 6)]) (g := gTup K 2 (gCons (gName 5) (gCons (gName 6) gNil))) (tt := tYes) rfl nd (pi_list (pe_c CH hr (by decide) (by rfl) (pa_cons (pv 7) pa_nil))) (blkOk_by (N := NRi) (sc := fnScope sRight) (by decide +kernel))
          (fun _ _ _ _ _ => pg_tup rfl (pgs_cons (pg_name (i := 5) nd rfl (Or.inl rfl)) (pgs_cons (pg_name (i := 6) nd rfl (Or.inl rfl)) pgs_nil))) (fun _ _ _ _ _ => pts_nil) (fun _ _ _ _ _ => pv 5)))
      (pss_cut (ps_if (pt_val (pe_callB (cr_any rfl) (by rfl) hany (by decide +kernel) (pa_cons (pe_lc (own := [("_law_hole", 5)]) (g := gName 5) (tt := tYes) rfl nd (pi_list (pv 8)) (blkOk_by (N := NRi) (sc := fnScope sRight) (by decide +kernel)) (fun _ _ _ _ _ => pg_name (i := 5) nd rfl (Or.inl rfl)) (fun _ _ _ _ _ => pts_nil)
            (fun _ _ _ _ _ => pe_cmp (pc_gt (show PE _ _ (tBM K "list" (rCntF K) _ _) from pe_bm PySem.F.plainAttrs_list PySem.F.slot_list_count PySem.F.type_list_count (mt_lcountK (K := K) rfl) (pv 8) (pa_cons (pv 5) pa_nil)) pe_int))) pa_nil)))
          (pss_one (ps_set (i := 7) nd rfl (Or.inl rfl) (pe_op op_catT (pe_tup (pa_cons (pe_ix ix_tup (pv 7) pe_int fun _ _ => rfl) pa_nil)) (pe_callTy call_tuple_of (by rfl) T.tup (by decide +kernel) (pa_cons
            (pe_op op_rep (pe_lst (pa_cons (pe_ix ix_list (pv 4) pe_int fun _ _ => rfl) pa_nil)) (pe_op op_sub (pe_callB call_len_seq (by rfl) T.len PySem.boot_len (pa_cons (pv 7) pa_nil)) pe_int)) pa_nil))))) pss_nil)
      (pss_cut (ps_if (pw_and (pt_cmp (pc_eqI (pe_c C hr (by decide) (by rfl) (pa_cons (pv 0) (pa_cons pe_int pa_nil))) pe_int)) (pw_and1 (pt_cmp (pc_lt (pe_callB call_len_seq (by rfl) T.len PySem.boot_len (pa_cons (pe_c CP hr (by decide) (by rfl) (pa_cons (pv 7) pa_nil)) pa_nil)) (pv 3))))).pt
          (pss_one (ps_set (i := 7) nd rfl (Or.inl rfl) (pe_tup (pa_cons pe_str (pa_cons (pv 7) pa_nil))))) pss_nil)
      (pss_one (ps_ret (pv 7)))))))), ?_⟩
    have hsl := sizeLine_eq
    refine ⟨fun σ H' => ∃ (hl : Addr) (hs : List Str), σ = [some (.ref st), some (.ref l), some v, some (.int m), some (.ref hl), none, none, none, none] ∧ H' hl = some (.lst (hs.map V.str)) ∧ hs.length ≤ 30 ∧ ((∀ z ∈ hs, wordS z = true) ∧ hs = hnm d) ∧ H hl = none ∧ Same H H', ?_, ?_⟩
    · refine ⟨_, rfl, v, d, rfl, hv, hsh, by omega, by omega, fun lq us H1 nlq s1 hlq hpu => ⟨lq, rfl, ⟨us, SqL.of hlq⟩, fun Da nDa => ?_⟩⟩
      have hul := Paired.length hpu
      have hqw := holes_word d hsh
      have hql := (holes_le d).1
      have hqe := holes_hnm d
      generalize holesP d = qs at hpu hul hqw hql hqe
      refine lc_gen (J := Itl K lq) us.length (fun i H' => H' Da = some (.lst (((qs.take i).map fun q : Str × List Int => q.1).map V.str)) ∧ Same H1 H') ⟨upd_same, same_upd nDa⟩ (fun i H' hi ⟨_, sm⟩ => ⟨us, us.getD i .non, SqL.of (sm _ _ hlq), getD_at hi⟩) (fun H' ⟨_, sm⟩ => ⟨us, SqL.of (sm _ _ hlq), Nat.le_refl _⟩) (fun i H' x H'' hi ⟨hD, sm⟩ yl => ?_) (fun H' ⟨hD, sm⟩ => ?_)
      · obtain ⟨rfl, hx⟩ := yl
        have hx := hx _ (SqL.of (sm _ _ hlq))
        obtain ⟨q, hq, qt, qa, rfl, hqt, hqa⟩ := paired_get hpu hx
        obtain ⟨hlt, e⟩ := List.getElem?_eq_some_iff.mp hq
        refine ⟨qt, [.str q.1, .ref qa], rfl, SqT.of (sm _ _ hqt), rfl, .str q.1, [.ref qa], rfl, .ref qa, [], rfl, rfl, rfl, ?_⟩
        unfold tYes
        dsimp only
        rw [if_pos rfl]
        refine ⟨_, rfl, _, hD, by rw [List.length_map, List.length_map, List.length_take]; omega, ?_, fun b o e => by rw [upd_ne (ne_of_none e nDa)]; exact sm _ _ e⟩
        rw [upd_same, List.take_succ_eq_append_getElem hlt, List.map_append, List.map_append, e]
        rfl
      · rw [List.take_of_length_le (by omega)] at hD
        refine ⟨Da, _, rfl, hD, by rw [List.length_map]; omega, ⟨fun z hz => ?_, hqe⟩, same_free s1 nDa, s1.trans sm⟩
        obtain ⟨q, hq, rfl⟩ := List.mem_map.mp hz
        exact hqw q hq
    rintro σ' H1 ⟨hl, hs, rfl, hhl, hhn, ⟨hhw, hhe⟩, nhl, s1⟩
    have hlst : hl ≠ st := (hst.new nhl).1
    refine ⟨_, rfl, (by show 0 ≤ sizeLine; decide), fun e ne => ⟨hl, e, _, rfl, rfl, SqL.of (by rw [upd_ne (ne_of_none hhl ne)]; exact hhl), SqL.of upd_same, _, rfl, ?_⟩⟩
    have s2 : Same H (upd H1 e (.lst [])) := s1.trans (same_upd ne)
    have hhl2 : (upd H1 e (.lst [])) hl = some (.lst (hs.map V.str)) := by rw [upd_ne (ne_of_none hhl ne)]; exact hhl
    generalize upd H1 e (.lst []) = H2 at s2 hhl2
    have hs2 := hst.same s2
    have hb2 : But st H H2 := Same.but s2
    cases hs with
    | nil =>
      refine iteBt rfl ⟨_, rfl, _, rfl, _, rfl, _, rfl, st, m, B, cl, rfl, by omega, by omega, hs2, by omega, fun dd H3 d0 d1 hs3 hb3 => ⟨1, dd, rfl, rfl, st, l, 1 + dd, rs, B + 1, cl, rfl, by omega, by omega, by omega, hR.but hst (hb2.trans hb3), ok, hs3, by omega, fun v' t H4 hd hi hz hs4 hb4 => ?_⟩⟩
      exact kk v' t H4 hd (isT_sh ok hi) (fun z hz => by rw [hnm_tree hi] at hz; cases hz) (by omega) (hs4.mono (by omega)) ((hb2.trans hb3).trans hb4)
    | cons h0 hs =>
    refine iteBf rfl ?_
    refine ⟨_, rfl, _, rfl, _, rfl, _, rfl, m, 1, rfl, rfl, st, m + 1, B, cl, rfl, by omega, by omega, hs2, by omega, fun dd H3 d0 d1 hs3 hb3 => ⟨(by show 1 ≤ sizeLine; decide), fun ll nll => ?_⟩⟩
    obtain ⟨ls, lc⟩ := hs3.new nll
    have hb03 := hb2.trans hb3
    have nlH : H ll = none := hb03.free nll ls
    obtain ⟨rv, hlv, _⟩ := id hR
    have lll : ll ≠ l := (ne_of_none hlv nlH).symm
    have ed : dd = ((dd.toNat : Nat) : Int) := by omega
    have hL4 : LeftAt (upd H3 ll (.lst [.int dd])) st cl l ll dd.toNat := ⟨by rw [upd_same, ← ed], ls, lc, lll⟩
    have hs4 : StAt (B + 1) (upd H3 ll (.lst [.int dd])) st cl := hs3.put ls lc
    have hb4 : But st H (upd H3 ll (.lst [.int dd])) := hb03.upd nlH
    have hh3 := hb3 _ _ hhl2 hlst
    have hh4 : (upd H3 ll (.lst [.int dd])) hl = some (.lst ((h0 :: hs).map V.str)) := by rw [upd_ne (ne_of_none hh3 nll)]; exact hh3
    have hlll : hl ≠ ll := ne_of_none hh3 nll
    generalize upd H3 ll (.lst [.int dd]) = H4 at hL4 hs4 hb4 hh4
    refine ⟨_, rfl, st, l, ll, hl, rs, h0 :: hs, dd.toNat, B + 1, cl, rfl, by omega, by omega, hR.but hst hb4, ok, hL4, hh4, by simp, by omega, hhw, hs4, by omega, fun v7 d7 n' H5 hd7 hsh7 ⟨_, hhn7⟩ hle hsz7 hnh7 hL5 hs5 hb5 => ?_⟩
    have hb05 : But st H H5 := hb4.two1 nlH hb5
    have hh5 := hb5 _ _ hh4 hlst hlll
    -- the names
    refine ⟨fun σ H' => ∃ (nl : Addr) (ns : List Str), σ = [some (.ref st), some (.ref l), some v, some (.int m), some (.ref hl), none, none, some v7, some (.ref nl)] ∧ H' nl = some (.lst (ns.map V.str)) ∧ ns.length = nh d7 ∧ Same H5 H', ?_, ?_⟩
    · refine ⟨_, rfl, v7, d7, rfl, hd7, hsh7, by omega, by omega, fun lq us H1 nlq s1 hlq hpu => ⟨lq, rfl, ⟨us, SqL.of hlq⟩, fun Da nDa => ?_⟩⟩
      have hul := Paired.length hpu
      have hqn := holes_nh d7
      have hql := (holes_le d7).1
      generalize holesP d7 = qs at hpu hul hqn hql
      refine lc_gen (J := Itl K lq) us.length (fun i H' => H' Da = some (.lst (((qs.take i).map fun q : Str × List Int => q.1).map V.str)) ∧ Same H1 H') ⟨upd_same, same_upd nDa⟩ (fun i H' hi ⟨_, sm⟩ => ⟨us, us.getD i .non, SqL.of (sm _ _ hlq), getD_at hi⟩) (fun H' ⟨_, sm⟩ => ⟨us, SqL.of (sm _ _ hlq), Nat.le_refl _⟩) (fun i H' x H'' hi ⟨hD, sm⟩ yl => ?_) (fun H' ⟨hD, sm⟩ => ?_)
      · obtain ⟨rfl, hx⟩ := yl
        have hx := hx _ (SqL.of (sm _ _ hlq))
        obtain ⟨q, hq, qt, qa, rfl, hqt, hqa⟩ := paired_get hpu hx
        obtain ⟨hlt, e⟩ := List.getElem?_eq_some_iff.mp hq
        refine ⟨qt, [.str q.1, .ref qa], rfl, SqT.of (sm _ _ hqt), rfl, .str q.1, [.ref qa], rfl, .ref qa, [], rfl, rfl, rfl, ?_⟩
        unfold tYes
        dsimp only
        rw [if_pos rfl]
        refine ⟨_, rfl, _, hD, by rw [List.length_map, List.length_map, List.length_take]; omega, ?_, fun b o e => by rw [upd_ne (ne_of_none e nDa)]; exact sm _ _ e⟩
        rw [upd_same, List.take_succ_eq_append_getElem hlt, List.map_append, List.map_append, e]
        rfl
      · rw [List.take_of_length_le (by omega)] at hD
        exact ⟨Da, _, rfl, hD, by rw [List.length_map]; exact hqn, s1.trans sm⟩
    rintro σ' H6 ⟨nl, ns, rfl, hnl, hnn, s6⟩
    have hd6 := DAt.hold (.same s6) _ hd7
    have hh6 := s6 _ _ hh5
    -- more than two of one name
    refine ⟨fun σ H' => ∃ (v8 : V) (d8 : D), σ = [some (.ref st), some (.ref l), some v, some (.int m), some (.ref hl), none, none, some v8, some (.ref nl)] ∧ DAt nol H' v8 d8 ∧ (isSh d8 = true ∧ ∀ z ∈ hnm d8, z ∈ hnm d) ∧ sz d8 ≤ 13 ∧ Same H6 H', ?_, ?_⟩
    · refine ⟨_, rfl, nl, rfl, ⟨_, SqL.of hnl⟩, fun Da nDa => ?_⟩
      refine lc_gen (J := Itl K nl) ns.length (fun i H' => ∃ bs : List Bool, H' Da = some (.lst (bs.map V.bl)) ∧ bs.length = i ∧ (∀ b ∈ bs, b = true → 2 < ns.length) ∧ Same H6 H') ⟨[], upd_same, rfl, (fun _ h => by cases h), same_upd nDa⟩ (fun i H' hi ⟨_, _, _, _, sm⟩ => ⟨_, .str ns[i], SqL.of (sm _ _ hnl), by rw [List.getElem?_map, List.getElem?_eq_getElem hi]; rfl⟩) (fun H' ⟨_, _, _, _, sm⟩ => ⟨_, SqL.of (sm _ _ hnl), by rw [List.length_map]; exact Nat.le_refl _⟩) (fun i H' x H'' hi ⟨bs, hD, hbl, hbt, sm⟩ yl => ?_) (fun H' ⟨bs, hD, hbl, hbt, sm⟩ => ?_)
      · obtain ⟨rfl, hx⟩ := yl
        have hx := hx _ (SqL.of (sm _ _ hnl))
        rw [List.getElem?_map, List.getElem?_eq_getElem hi] at hx
        obtain rfl := Option.some.inj hx
        refine ⟨rfl, ?_⟩
        unfold tYes
        dsimp only
        rw [if_pos rfl]
        refine ⟨_, rfl, .inl ⟨rfl, _, SqL.of (sm _ _ hnl)⟩, _, rfl, nl, _, _, rfl, rfl, SqL.of (sm _ _ hnl), rfl, List.all_eq_true.mpr fun y hy => ?_, fun c c0 c1 => ⟨c, 2, rfl, rfl, _, hD, by rw [List.length_map]; omega, bs ++ [decide (2 < c)], by rw [upd_same, List.map_append]; rfl, by rw [List.length_append, hbl]; rfl, fun b hb e => ?_, fun b o e => by rw [upd_ne (ne_of_none e nDa)]; exact sm _ _ e⟩⟩
        · obtain ⟨z, _, rfl⟩ := List.mem_map.mp hy
          rfl
        · rcases List.mem_append.mp hb with hb | hb
          · exact hbt b hb e
          · rw [List.mem_singleton.mp hb] at e
            have := of_decide_eq_true e
            rw [List.length_map] at c1
            omega
      · refine ⟨Da, bs, rfl, SqL.of hD, _, rfl, ite2 (fun ca => ?_) (fun _ => ?_)⟩
        · obtain ⟨b, hb, eb⟩ := List.any_eq_true.mp ca
          have h2 := hbt b hb eb
          rw [hnn] at h2
          rcases isSh_inv hsh7 with ⟨z, rfl, _⟩ | ⟨z, cs, rfl, hz, hcs⟩
          · rw [nh] at h2
            omega
          · have hd' := DAt.hold (.same sm) _ hd6
            obtain ⟨a, us, rfl, qa, _, hus⟩ := hd'
            have qa : H' a = some (.tup us) := qa.elim id fun e => e.1.elim
            match us, hus with
            | [], hus => exact hus.elim
            | u :: cvs, ⟨⟨eu, _⟩, hus⟩ =>
              subst eu
              have hcl := hus.len
              have hsc : sz (.sq (.fl (.str z) :: cs)) = 2 + szs cs := by rw [sz, szs, sz]; omega
              have hls := len_szs cs
              refine ⟨_, rfl, a, _, 0, _, rfl, rfl, SqT.of qa, at_of (j := 0) rfl rfl, (by show 1 ≤ sizeLine; decide), fun t nt => ?_⟩
              have sA : Same H' (upd H' t (.tup [.str z])) := same_upd nt
              have ht : (upd H' t (.tup [.str z])) t = some (.tup [.str z]) := upd_same
              generalize upd H' t (.tup [.str z]) = HA at sA ht
              refine ⟨_, rfl, hl, _, 0, _, rfl, rfl, SqL.of (sA _ _ (sm _ _ hh6)), at_of (j := 0) rfl rfl, (by show 1 ≤ sizeLine; decide), fun r nr => ?_⟩
              have sB : Same HA (upd HA r (.lst [.str h0])) := same_upd nr
              have hr : (upd HA r (.lst [.str h0])) r = some (.lst [.str h0]) := upd_same
              generalize upd HA r (.lst [.str h0]) = HB at sB hr
              have ek : ((((V.str z :: cvs).length : Nat) : Int) - 1).toNat = cs.length := by rw [List.length_cons]; omega
              refine ⟨_, rfl, a, _, rfl, .inr (SqT.of (sB _ _ (sA _ _ qa))), ((V.str z :: cvs).length : Nat), 1, rfl, rfl, r, _, [.str h0], rfl, rfl, hr, by omega, by rw [List.length_cons]; omega, by rw [ek, List.length_singleton]; omega, fun p np => ?_⟩
              rw [ek, rep_flat]
              have sC : Same HB (upd HB p (.lst (List.replicate cs.length (.str h0)))) := same_upd np
              have hp : (upd HB p (.lst (List.replicate cs.length (.str h0)))) p = some (.lst (List.replicate cs.length (.str h0))) := upd_same
              generalize upd HB p (.lst (List.replicate cs.length (.str h0))) = HC at sC hp
              refine ⟨p, _, rfl, .inl ⟨SqL.of hp, fun q nq => ?_⟩⟩
              have sD : Same HC (upd HC q (.tup (List.replicate cs.length (.str h0)))) := same_upd nq
              have hq : (upd HC q (.tup (List.replicate cs.length (.str h0)))) q = some (.tup (List.replicate cs.length (.str h0))) := upd_same
              generalize upd HC q (.tup (List.replicate cs.length (.str h0))) = HD at sD hq
              have s9 : Same H6 HD := sm.trans (sA.trans (sB.trans (sC.trans sD)))
              refine ⟨t, q, [.str z], _, rfl, rfl, SqT.of (sD _ _ (sC _ _ (sB _ _ ht))), SqT.of hq, by simp, by rw [List.length_replicate, List.length_singleton]; omega, fun e => ?_, fun e tt ntt => ?_⟩
              · have e0 : cs.length = 0 := by have := congrArg List.length e; rw [List.length_replicate] at this; exact this
                have e1 : cs = [] := List.length_eq_zero_iff.mp e0
                rw [e1, nh, nhs] at h2
                omega
              · refine ⟨.ref tt, .sq (.fl (.str z) :: List.replicate cs.length (.fl (.str h0))), rfl, new_tree ntt (dats_rep cs.length), ⟨?_, fun y hy => ?_⟩, ?_, s9.trans (same_upd ntt)⟩
                · rw [isSh, hz, isShs_of fun c hc => ?_]
                  · rfl
                  · rw [List.eq_of_mem_replicate hc]
                    exact hhw h0 List.mem_cons_self
                · rw [hnm] at hy
                  rw [hnms_rep _ y hy, ← hhe]
                  exact List.mem_cons_self
                · rw [sz, szs, sz, szs_rep]
                  omega
        · exact ⟨v7, d7, rfl, DAt.hold (.same sm) _ hd6, ⟨hsh7, fun y hy => by rw [← hhe]; exact hhn7 y hy⟩, by omega, sm⟩
    rintro σ' H7 ⟨v8, d8, rfl, hd8, ⟨hsh8, hhn8⟩, hsz8, s7⟩
    have hb07 : But st H H7 := hb05.trans (Same.but (s6.trans s7))
    have hs7 : StAt (B + 30) H7 st cl := (hs5.same (s6.trans s7)).mono (by omega)
    -- keep
    refine ⟨fun σ H' => ∃ (v9 : V) (d9 : D), σ = [some (.ref st), some (.ref l), some v, some (.int m), some (.ref hl), none, none, some v9, some (.ref nl)] ∧ DAt nol H' v9 d9 ∧ (isSh d9 = true ∧ ∀ z ∈ hnm d9, z ∈ hnm d) ∧ sz d9 ≤ 30 ∧ StAt (B + 60) H' st cl ∧ But st H H', ?_, fun σ H' ⟨v9, d9, e, h1, h2, h3, h4, h5⟩ => ?_⟩
    · refine ⟨_, rfl, st, 12, B + 30, cl, rfl, by decide, by decide, hs7, by omega, fun d2 H9 _ _ hs9 hb9 => ⟨d2, 0, rfl, rfl, _, rfl, ?_⟩⟩
      have hd9 := DAt.hold (Hold.but hs7 hb9 fun _ h => h.elim) _ hd8
      have hb09 := hb07.trans hb9
      refine ite2 (fun _ => ?_) (fun _ => iteF ⟨v8, d8, rfl, hd9, ⟨hsh8, hhn8⟩, by omega, hs9.mono (by omega), hb09⟩)
      refine ⟨_, rfl, v8, d8, rfl, hd9, hsh8, by omega, by omega, fun lq us H10 nlq s10 hlq _ => ⟨lq, us, rfl, .inl (SqL.of hlq), _, rfl, (us.length : Nat), m, rfl, rfl, _, rfl, ?_⟩⟩
      have hd10 := DAt.hold (.same s10) _ hd9
      have hb10 := hb09.trans (Same.but s10)
      refine ite2 (fun _ => ⟨_, rfl, (by show 2 ≤ sizeLine; decide), fun p np => ?_⟩) (fun _ => ⟨v8, d8, rfl, hd10, ⟨hsh8, hhn8⟩, by omega, (hs9.same s10).mono (by omega), hb10⟩)
      refine ⟨.ref p, .sq [.fl (.str "keep"), d8], rfl, new_tree np ⟨hd10, trivial⟩, ⟨?_, fun y hy => hhn8 y (by rw [hnm, hnms, hnms, List.append_nil] at hy; exact hy)⟩, ?_, ((hs9.same s10).mono (by omega)).same (same_upd np), hb10.trans (Same.but (same_upd np))⟩
      · rw [isSh, isShs, hsh8, isShs]
        decide +kernel
      · rw [sz, szs, sz, szs, szs]
        omega
    · subst e
      exact ⟨_, rfl, kk v9 d9 H' h1 h2.1 h2.2 h3 h4 h5⟩
end
end KT

namespace KT
open PySem PySem.Spec PyProof.Rows L2 C8 XE XR SX
/-! _law_rule -/
abbrev sRule : Stmt := top 48
theorem dats_map {H H' : Hp} : ∀ {cs : List D} {us : List V}, (∀ c ∈ cs, ∀ v, DAt nol H v c → DAt nol H' v c) → DAts nol H us cs → DAts nol H' us cs
  | [], [], _, _ => trivial
  | c :: cs, u :: us, h, ⟨k, t⟩ => ⟨h c List.mem_cons_self u k, dats_map (fun c hc => h c (List.mem_cons_of_mem _ hc)) t⟩
  | [], _ :: _, _, k => k.elim
  | _ :: _, [], _, k => k.elim
theorem sh_tupsN {H H' : Hp} (h : ∀ a vs, H a = some (.tup vs) → H' a = some (.tup vs)) : ∀ (n : Nat) (d : D), sz d ≤ n → isSh d = true → ∀ v, DAt nol H v d → DAt nol H' v d
  | 0, d, hn, _, _, _ => by have := sz_pos d; omega
  | n + 1, d, hn, hs, v, hv => by
    rcases isSh_inv hs with ⟨z, rfl, _⟩ | ⟨z, cs, rfl, _, hcs⟩
    · exact hv
    · obtain ⟨a, us, rfl, qa, o, hus⟩ := hv
      match us, hus with
      | [], hus => exact hus.elim
      | u :: us, ⟨k0, hus⟩ =>
        refine ⟨a, _, rfl, .inl (h _ _ (qa.elim id fun e => e.1.elim)), o, k0, dats_map (fun c hc w hw => ?_) hus⟩
        obtain ⟨i, hi⟩ := List.getElem?_of_mem hc
        have := szs_get hi
        have e : sz (.sq (.fl (.str z) :: cs)) = 2 + szs cs := by rw [sz, szs, sz]; omega
        exact sh_tupsN h n c (by omega) (isShs_mem hcs c hc) w hw
theorem sh_tups {H H' : Hp} (h : ∀ a vs, H a = some (.tup vs) → H' a = some (.tup vs)) {d : D} (hs : isSh d = true) {v : V} (hv : DAt nol H v d) : DAt nol H' v d := sh_tupsN h _ d (Nat.le_refl _) hs v hv
/-- an entry of a dict of lists of words -/
def WE (st : Addr) (H : Hp) (kv : Key × V) (q : Str × List Str) : Prop := kv.1 = .inr q.1 ∧ ∃ l, kv.2 = .ref l ∧ l ≠ st ∧ H l = some (.lst (q.2.map V.str))
def WD (st : Addr) (H : Hp) (a : Addr) (ks : List (Str × List Str)) : Prop := ∃ kvs, H a = some (.dK kvs) ∧ Paired (WE st H) kvs ks
structure KO (hs : List Str) (ks : List (Str × List Str)) : Prop where
  nd : (ks.map fun q => q.1).Nodup
  mem : ∀ q ∈ ks, q.1 ∈ hs ∧ q.2.length ≤ 15 ∧ ∀ z ∈ q.2, wordS z = true
/-- lists stay, but the state -/
def Ls (st : Addr) (H H' : Hp) : Prop := ∀ l xs, l ≠ st → H l = some (.lst xs) → H' l = some (.lst xs)
theorem Ls.but {st : Addr} {H H' : Hp} (b : But st H H') : Ls st H H' := fun l xs n e => b _ _ e n
theorem Ls.trans {st : Addr} {H H' H'' : Hp} (a : Ls st H H') (b : Ls st H' H'') : Ls st H H'' := fun l xs n e => b l xs n (a l xs n e)
theorem Ls.dic {st a : Addr} {H : Hp} {k k' : List (Key × V)} (h : H a = some (.dK k)) : Ls st H (upd H a (.dK k')) := fun l xs _ e => by rw [upd_ne (ne_of e h (by intro z; cases z))]; exact e
theorem WE.ls {st : Addr} {H H' : Hp} (s : Ls st H H') {kv : Key × V} {q : Str × List Str} (h : WE st H kv q) : WE st H' kv q := ⟨h.1, let ⟨l, e, n, k⟩ := h.2; ⟨l, e, n, s l _ n k⟩⟩
theorem WD.ls {st : Addr} {H H' : Hp} (s : Ls st H H') (d : ∀ a k, H a = some (.dK k) → H' a = some (.dK k)) {a : Addr} {ks : List (Str × List Str)} (h : WD st H a ks) : WD st H' a ks := let ⟨kvs, e, p⟩ := h; ⟨kvs, d _ _ e, Paired.mono (fun _ _ q => q.ls s) p⟩
theorem we_none {st : Addr} {H : Hp} {z : Str} : ∀ {k : List (Key × V)} {ks : List (Str × List Str)}, Paired (WE st H) k ks → z ∉ ks.map (fun q => q.1) → valV k (.inr z) = none
  | [], _, .nil, _ => rfl
  | p :: k, q :: ks, .cons ⟨e, _⟩ t, h => by
    rw [List.map_cons, List.mem_cons] at h
    have ne : p.1 ≠ (Sum.inr z : Key) := fun e' => h (.inl (by rw [e'] at e; exact Sum.inr.inj e))
    have := we_none t fun x => h (.inr x)
    unfold valV at this ⊢
    rw [List.find?_cons_of_neg (by simpa using ne)]
    exact this
theorem KO.more {hs hs' : List Str} {ks : List (Str × List Str)} (h : KO hs ks) (s : ∀ z ∈ hs, z ∈ hs') : KO hs' ks := ⟨h.nd, fun q hq => ⟨s _ (h.mem q hq).1, (h.mem q hq).2⟩⟩
theorem KO.snoc {hs hs' : List Str} {ks : List (Str × List Str)} {z : Str} {ss : List Str} (h : KO hs ks) (s : ∀ z ∈ hs, z ∈ hs') (hz : z ∈ hs') (nz : z ∉ hs) (h1 : ss.length ≤ 15) (h2 : ∀ y ∈ ss, wordS y = true) : KO hs' (ks ++ [(z, ss)]) := by
  refine ⟨?_, fun q hq => ?_⟩
  · rw [List.map_append, List.nodup_append]
    refine ⟨h.nd, by simp, fun a ha b hb e => ?_⟩
    obtain ⟨q, hq, rfl⟩ := List.mem_map.mp ha
    have hb : b = z := by simpa using hb
    exact nz (by rw [← hb, ← e]; exact (h.mem q hq).1)
  · rcases List.mem_append.mp hq with hq | hq
    · exact ⟨s _ (h.mem q hq).1, (h.mem q hq).2⟩
    · rw [List.mem_singleton.mp hq]
      exact ⟨hz, h1, h2⟩
def spRule : Sp := fun vs H Q _ => ∃ (st l : Addr) (m : Int) (rs : List Rw) (B : Nat) (cl : Addr), vs = [.ref st, .ref l, .int m] ∧ 1 ≤ m ∧ m ≤ 3 ∧ RowsAt H l rs ∧ RowsOk rs ∧ StAt B H st cl ∧ B + 250 < 1000000000000000 ∧
  ∀ (p kd bd : Addr) (vl vr : V) (dl dr : D) (kk bb : List (Str × List Str)) (H' : Hp), WD st H' kd kk → WD st H' bd bb → KO (hnm dl) kk → KO (hnm dl) bb → kd ≠ bd → kd ≠ st → bd ≠ st → isTh rs dl = true → (hnm dl).Nodup → (∀ z ∈ hnm dr, z ∈ hnm dl) → H' p = some (.tup [vl, vr, .ref kd, .ref bd]) → DAt nol H' vl dl → isSh dl = true → isSq dl = true → sz dl ≤ 12 → DAt nol H' vr dr → isSh dr = true → sz dr ≤ 30 → StAt (B + 250) H' st cl → But st H H' → Q (.ref p) H'
abbrev NRu : List Str := ["_law_state", "_law_rows_here", "_law_most", "_law_left_here", "_law_right_here", "_law_kinds", "_law_bars", "_law_hole", "_law_place", "_law_way", "_law_some", "_law_label"]
theorem scRule : FnScope NRu ["_law_state", "_law_rows_here", "_law_most"] (fnScope sRule) := fnScope_by (by decide +kernel)
section
variable {P : Program} {w : World} {K : PySem.W.Frag} {mg : Str → Option Value} {base : Heap}
theorem c_rule {f : Addr} {fd : FuncData} (F : Def K mg "_law_rule" sRule f fd) (b : Binds K fd ["_law_state", "_law_rows_here", "_law_most"] []) (T : Blt4 mg) (C : Cal P w K mg base 1 "_law_take" spTake [])
    (CL : Cal P w K mg base 1 "_law_labels" spLabels []) (CLe : Cal P w K mg base 14 "_law_left" spLeft []) (CR : Cal P w K mg base 32 "_law_right" spRight []) (CH : Cal P w K mg base 31 "_law_holes" (spHoles 30) []) : Cal P w K mg base 33 "_law_rule" spRule [] := by
  refine cal0 F b .nil scRule (fun vs H Q E h => ?_) (fun cdv A outer s H vs Q E hr h => ?_)
  · obtain ⟨st, l, m, rs, B, cl, rfl, _⟩ := h
    rfl
  · obtain ⟨st, l, m, rs, B, cl, rfl, hm1, hm3, hR, ok, hst, hB, kk⟩ := h
    have nd := scRule.nd
    have hu : (A.deeper (envOfC "_law_rule" (fnScope sRule) s.heap.objs.size f cdv)).units + 1 < cLine := by have := hr.un; omega
    refine ⟨_, pss_cons (ps_set (i := 3) nd rfl (Or.inl rfl) (pe_c CLe hr (by decide) (by rfl) (pa_cons (pv 0) (pa_cons (pv 1) (pa_cons (pv 2) pa_nil)))))
      (pss_cons (ps_set (i := 4) nd rfl (Or.inl rfl) (pe_c CR hr (by decide) (by rfl) (pa_cons (pv 0) (pa_cons (pv 1) (pa_cons (pv 3) (pa_cons pe_int pa_nil))))))
      (pss_cons (ps_par (i := 5) (j := 6) rfl nd rfl rfl (by decide) rfl rfl (pa_cons pe_dnewK (pa_cons pe_dnewK pa_nil)) (by rfl))
      (pss_cons (ps_for PassesOwn.never rfl (pi_list (pe_c CH hr (by decide) (by rfl) (pa_cons (pv 3) pa_nil))) (pg_tup rfl (pgs_cons (pg_name (i := 7) nd rfl (Or.inl rfl)) (pgs_cons (pg_name (i := 8) nd rfl (Or.inl rfl)) pgs_nil)))
          (pss_cons (ps_set (i := 9) nd rfl (Or.inl rfl) (pe_c C hr (by decide) (by rfl) (pa_cons (pv 0) (pa_cons pe_int pa_nil))))
          (pss_cons (ps_setLc (i := 10) (own := [("_law_label", 11)]) (g := gName 11) rfl nd rfl rfl (by rfl) (pi_list (pe_c CL hr (by decide) (by rfl) (pa_cons (pv 1) pa_nil))) (blkOk_by (N := NRu) (sc := fnScope sRule) (by decide +kernel)) (fun _ _ _ _ _ => pg_name (i := 11) nd rfl (Or.inl rfl))
            (fun _ _ _ _ _ => pts_one (pt_cmp (pc_eqI (pe_c C hr (by decide) (by rfl) (pa_cons (pv 0) (pa_cons pe_int pa_nil))) pe_int))) (fun _ _ _ _ _ => pv 11))
          (pss_cut (ps_if (pt_cmp (pc_eqI (pv 9) pe_int)) (pss_one (ps_dput hu (pv 5) (pv 7) (pv 10) rfl)) pss_nil)
          (pss_one (ps_if (pt_cmp (pc_eqI (pv 9) pe_int)) (pss_one (ps_dput hu (pv 6) (pv 7) (pv 10) rfl)) pss_nil))))))
      (pss_one (ps_ret (pe_tup (pa_cons (pv 3) (pa_cons (pv 4) (pa_cons (pv 5) (pa_cons (pv 6) pa_nil)))))))))), ?_⟩
    have hsl := sizeLine_eq
    refine ⟨_, rfl, _, rfl, _, rfl, st, l, m, rs, B, cl, rfl, hm1, hm3, hR, ok, hst, by omega, fun vl z cs H1 hdl hsh ⟨hth, hnd⟩ hnh hszs hs1 hb1 => ?_⟩
    have hsc : sz (.sq (.fl (.str z) :: cs)) = 2 + szs cs := by rw [sz, szs, sz]; omega
    have hnc : nh (.sq (.fl (.str z) :: cs)) = nhs cs := by rw [nh]
    have hsq : isSq (.sq (.fl (.str z) :: cs)) = true := rfl
    have hnd : (hnm (.sq (.fl (.str z) :: cs))).Nodup := hnd
    generalize D.sq (.fl (.str z) :: cs) = dl at hdl hsh hsc hnc hsq hth hnd
    refine ⟨_, rfl, _, rfl, _, rfl, st, l, vl, dl, 4, rs, B + 50, cl, rfl, by decide, by decide, hdl, hsh, by omega, hR.but hst hb1, ok, hs1, by omega, fun vr dr H2 hdr hshr hhr hszr hs2 hb2 => ?_⟩
    have hb02 := hb1.trans hb2
    have hdl2 := DAt.hold (Hold.but hs1 hb2 fun _ h => h.elim) _ hdl
    refine fun kd nkd => ?_
    obtain ⟨ks, kc⟩ := hs2.new nkd
    have nkH : H kd = none := hb02.free nkd ks
    have sa : Same H2 (upd H2 kd (.dK [])) := same_upd nkd
    have hka : (upd H2 kd (.dK [])) kd = some (.dK []) := upd_same
    generalize upd H2 kd (.dK []) = Ha at sa hka
    refine fun bd nbd => ⟨_, _, rfl, ?_⟩
    have hsa := hs2.same sa
    obtain ⟨bs, bc⟩ := hsa.new nbd
    have nbH : H bd = none := (hb02.trans (Same.but sa)).free nbd bs
    have kbd : kd ≠ bd := ne_of_none hka nbd
    have sb : Same H2 (upd Ha bd (.dK [])) := sa.trans (same_upd nbd)
    have hk3 : (upd Ha bd (.dK [])) kd = some (.dK []) := by rw [upd_ne kbd]; exact hka
    have hb3 : (upd Ha bd (.dK [])) bd = some (.dK []) := upd_same
    generalize upd Ha bd (.dK []) = H3 at sb hk3 hb3
    have hs3 := hs2.same sb
    have hb03 := hb02.trans (Same.but sb)
    have hdl3 := DAt.hold (.same sb) _ hdl2
    refine ⟨_, rfl, vl, dl, rfl, hdl3, hsh, by omega, by omega, fun lq us H4 nlq s4 hlq hpu => ⟨lq, rfl, ⟨us, SqL.of hlq⟩, ?_⟩⟩
    have hul := Paired.length hpu
    have hpul := hul
    have hqn := holes_hnm dl
    rw [holes_nh dl] at hul
    generalize holesP dl = qs at hpu hqn hpul
    rw [← hqn] at hnd
    obtain ⟨lqs, lqc⟩ := hs3.new nlq
    have lqk : lq ≠ kd := (ne_of_none hk3 nlq).symm
    have lqb : lq ≠ bd := (ne_of_none hb3 nlq).symm
    have hdl4 := DAt.hold (.same s4) _ hdl3
    have hdr4 := DAt.hold (.same s4) _ (DAt.hold (.same sb) _ hdr)
    refine for_gen (J := Itl K lq) us.length (fun i σ H' => ∃ (v7 v8 v9 v10 : Option V) (k1 k2 : List (Key × V)), σ = [some (.ref st), some (.ref l), some (.int m), some vl, some vr, some (.ref kd), some (.ref bd), v7, v8, v9, v10, none] ∧ (H' kd = some (.dK k1) ∧ ∃ ks, Paired (WE st H') k1 ks ∧ KO ((qs.take i).map fun q => q.1) ks) ∧ k1.length ≤ i ∧ (H' bd = some (.dK k2) ∧ ∃ ks, Paired (WE st H') k2 ks ∧ KO ((qs.take i).map fun q => q.1) ks) ∧ k2.length ≤ i ∧ H' lq = some (.lst us) ∧ (∀ a vs, H4 a = some (.tup vs) → H' a = some (.tup vs)) ∧ StAt (B + 110 + 20 * i) H' st cl ∧ But st H H')
      ⟨none, none, none, none, [], [], rfl, ⟨s4 _ _ hk3, [], .nil, ⟨by simp, fun q hq => by cases hq⟩⟩, Nat.le_refl _, ⟨s4 _ _ hb3, [], .nil, ⟨by simp, fun q hq => by cases hq⟩⟩, Nat.le_refl _, hlq, fun _ _ e => e, (hs3.same s4).mono (by omega), hb03.trans (Same.but s4)⟩
      (fun i σ H' hi ⟨_, _, _, _, _, _, _, _, _, _, _, h, _⟩ => ⟨us, us.getD i .non, SqL.of h, getD_at hi⟩) (fun σ H' ⟨_, _, _, _, _, _, _, _, _, _, _, h, _⟩ => ⟨us, SqL.of h, Nat.le_refl _⟩) ?_
      (fun σ H' ⟨v7, v8, v9, v10, k1, k2, e, ⟨hk, ks1, hp1, ho1⟩, _, ⟨hbk, ks2, hp2, ho2⟩, _, _, ht, hs, hb⟩ => ?_)
    · rintro i σ H7 x H7' hi ⟨v7, v8, v9, v10, k1, k2, rfl, ⟨hk7, ks1, hp1, ho1⟩, hkl, ⟨hb7, ks2, hp2, ho2⟩, hbl, hlq7, ht7, hs7, hbt7⟩ ⟨rfl, hx⟩
      have hx := hx _ (SqL.of hlq7)
      obtain ⟨q, hq, qt, qa, rfl, hqt, hqa⟩ := paired_get hpu hx
      obtain ⟨hqi, eq'⟩ := List.getElem?_eq_some_iff.mp hq
      have tsub : ∀ z ∈ (qs.take i).map (fun q => q.1), z ∈ (qs.take (i + 1)).map (fun q => q.1) := fun z hz => by
        rw [List.take_succ_eq_append_getElem hqi, List.map_append]
        exact List.mem_append_left _ hz
      have tin : q.1 ∈ (qs.take (i + 1)).map (fun q => q.1) := by
        rw [List.take_succ_eq_append_getElem hqi, List.map_append, eq']
        exact List.mem_append_right _ List.mem_cons_self
      have tno : q.1 ∉ (qs.take i).map (fun q => q.1) := fun h => by
        have e : qs.map (fun q => q.1) = (qs.take i).map (fun q => q.1) ++ (q.1 :: (qs.drop (i + 1)).map (fun q => q.1)) := by
          rw [← List.map_cons (f := fun q : Str × List Int => q.1), ← eq', ← List.drop_eq_getElem_cons hqi, ← List.map_append, List.take_append_drop]
        rw [e, List.nodup_append] at hnd
        exact hnd.2.2 _ h _ List.mem_cons_self rfl
      refine ⟨qt, [.str q.1, .ref qa], rfl, SqT.of (ht7 _ _ hqt), rfl, .str q.1, [.ref qa], rfl, .ref qa, [], rfl, rfl, ?_⟩
      refine ⟨_, rfl, st, 8, _, cl, rfl, by decide, by decide, hs7, by omega, fun d8 H9 _ _ hs9 hb9 => ?_⟩
      have hlq9 := hb9 _ _ hlq7 lqs
      have hk9 := hb9 _ _ hk7 ks
      have hbd9 := hb9 _ _ hb7 bs
      have ht9 := (Hold.but (F := nol) hs7 hb9 fun _ h => h.elim).tup
      have hbt9 := hbt7.trans hb9
      refine ⟨_, rfl, l, rs, rfl, hR.but hst hbt9, ok, fun q' H10 nq' s10 hq' => ⟨q', rfl, ⟨_, SqL.of hq'⟩, fun Da nDa => ?_⟩⟩
      have hs10 := hs9.same s10
      obtain ⟨Ds, Dc⟩ := hs10.new nDa
      have q's : q' ≠ st := (hs9.new nq').1
      have hla : (labs rs).length ≤ 15 := by unfold labs nums; rw [List.length_map, List.length_append]; have := ok.len; simp; omega
      refine lc_gen (J := Itl K q') (labs rs).length (fun j H' => ∃ ss : List Str, H' Da = some (.lst (ss.map V.str)) ∧ (ss.length ≤ j ∧ ∀ z ∈ ss, z ∈ labs rs) ∧ StAt (B + 110 + 20 * i + 1 + j) H' st cl ∧ But st H10 H') ⟨[], upd_same, ⟨Nat.le_refl _, fun z hz => by cases hz⟩, (hs10.same (same_upd nDa)).mono (by omega), Same.but (same_upd nDa)⟩
        (fun j H' hj ⟨_, _, _, _, b'⟩ => ⟨_, .str (labs rs)[j], SqL.of (b' _ _ hq' q's), by rw [List.getElem?_map, List.getElem?_eq_getElem hj]; rfl⟩) (fun H' ⟨_, _, _, _, b'⟩ => ⟨_, SqL.of (b' _ _ hq' q's), by rw [List.length_map]; exact Nat.le_refl _⟩) (fun j H' x H'' hj ⟨ss, hD, ⟨hsl', hsm⟩, hs', b'⟩ yl => ?_) (fun H' ⟨ss, hD, ⟨hsl', hsm⟩, hs', b'⟩ => ?_)
      · obtain ⟨rfl, hx⟩ := yl
        have hx := hx _ (SqL.of (b' _ _ hq' q's))
        rw [List.getElem?_map, List.getElem?_eq_getElem hj] at hx
        obtain rfl := Option.some.inj hx
        refine ⟨rfl, _, rfl, st, 2, _, cl, rfl, by decide, by decide, hs', by omega, fun d2 H12 _ _ hs12 hb12 => ⟨d2, 0, rfl, rfl, _, rfl, ?_⟩⟩
        have hD12 := hb12 _ _ hD Ds
        refine ite2 (fun _ => ?_) (fun _ => ?_)
        · exact ⟨_, rfl, _, hD12, by rw [List.length_map]; omega, ss ++ [(labs rs)[j]], by rw [upd_same, List.map_append]; rfl, ⟨by rw [List.length_append, List.length_singleton]; omega, fun z hz => (List.mem_append.mp hz).elim (hsm z) fun h => by rw [List.mem_singleton.mp h]; exact List.getElem_mem hj⟩, (hs12.put Ds Dc).mono (by omega), fun b o e n => by rw [upd_ne (ne_of_none e nDa)]; exact hb12 _ _ (b' _ _ e n) n⟩
        · exact ⟨ss, hD12, ⟨by omega, hsm⟩, hs12.mono (by omega), fun b o e n => hb12 _ _ (b' _ _ e n) n⟩
      · have b9 : But st H9 H' := (Same.but s10).trans b'
        have hk' := b9 _ _ hk9 ks
        have hbd' := b9 _ _ hbd9 bs
        have hlq' := b9 _ _ hlq9 lqs
        have ht' := (Hold.but (F := nol) hs9 b9 fun _ h => h.elim).tup
        have hbt' := hbt9.trans b9
        have hs'' : StAt (B + 110 + 20 * (i + 1)) H' st cl := hs'.mono (by omega)
        have ls7 : Ls st H7' H' := .but (hb9.trans b9)
        have hp1' := Paired.mono (fun _ _ h => WE.ls ls7 h) hp1
        have hp2' := Paired.mono (fun _ _ h => WE.ls ls7 h) hp2
        have hsw : ∀ z ∈ ss, wordS z = true := fun z hz => labs_word ok (hsm z hz)
        refine ⟨fun σ H2 => ∃ (k1 : List (Key × V)), σ = [some (.ref st), some (.ref l), some (.int m), some vl, some vr, some (.ref kd), some (.ref bd), some (.str q.1), some (.ref qa), some (.int d8), some (.ref Da), none] ∧ (H2 kd = some (.dK k1) ∧ ∃ ks, Paired (WE st H2) k1 ks ∧ KO ((qs.take (i + 1)).map fun q => q.1) ks) ∧ k1.length ≤ i + 1 ∧ (H2 bd = some (.dK k2) ∧ Paired (WE st H2) k2 ks2) ∧ (H2 lq = some (.lst us) ∧ H2 Da = some (.lst (ss.map V.str))) ∧ (∀ a vs, H4 a = some (.tup vs) → H2 a = some (.tup vs)) ∧ StAt (B + 110 + 20 * (i + 1)) H2 st cl ∧ But st H H2, ?_, ?_⟩
        · refine ⟨_, rfl, d8, 0, rfl, rfl, _, rfl, ite2 (fun _ => ?_) (fun _ => ⟨k1, rfl, ⟨hk', ks1, hp1', ho1.more tsub⟩, by omega, ⟨hbd', hp2'⟩, ⟨hlq', hD⟩, fun a vs e => ht' _ _ (ht9 _ _ (ht7 _ _ e)), hs'', hbt'⟩)⟩
          refine ⟨_, rfl, _, rfl, _, rfl, kd, _, rfl, DPut.k (k := .inr q.1) hk' (by omega), putK k1 (.inr q.1) (.ref Da), rfl, ⟨upd_same, ks1 ++ [(q.1, ss)], ?_, ho1.snoc tsub tin tno (by omega) hsw⟩, ?_, ⟨by rw [upd_ne kbd.symm]; exact hbd', Paired.mono (fun _ _ h => WE.ls (.dic hk') h) hp2'⟩, ⟨by rw [upd_ne lqk]; exact hlq', by rw [upd_ne (ne_of hD hk' (by intro z; cases z))]; exact hD⟩, fun a vs e => ?_, hs''.put ks kc, hbt'.upd nkH⟩
          · rw [putK_new _ (we_none hp1 fun h => tno (by obtain ⟨x, hx, e⟩ := List.mem_map.mp h; rw [← e]; exact (ho1.mem x hx).1))]
            exact Paired.snoc (Paired.mono (fun _ _ h => WE.ls (.dic hk') h) hp1') ⟨rfl, Da, rfl, Ds, by rw [upd_ne (ne_of hD hk' (by intro z; cases z))]; exact hD⟩
          · have := DSub.putK_len k1 (.inr q.1) (.ref Da)
            omega
          · have e' := ht' _ _ (ht9 _ _ (ht7 _ _ e))
            rw [upd_ne (ne_of e' hk' (by intro z; cases z))]
            exact e'
        rintro σ H2 ⟨k1', rfl, ⟨hk2, ks1', hp1'', ho1'⟩, hk2l, ⟨hb2', hp2''⟩, ⟨hlq2, hD2⟩, ht2, hs2', hbt2⟩
        refine ⟨_, rfl, d8, 1, rfl, rfl, _, rfl, ite2 (fun _ => ?_) (fun _ => ⟨_, _, _, _, k1', k2, rfl, ⟨hk2, ks1', hp1'', ho1'⟩, hk2l, ⟨hb2', ks2, hp2'', ho2.more tsub⟩, by omega, hlq2, ht2, hs2', hbt2⟩)⟩
        refine ⟨_, rfl, _, rfl, _, rfl, bd, _, rfl, DPut.k (k := .inr q.1) hb2' (by omega), _, _, _, _, k1', putK k2 (.inr q.1) (.ref Da), rfl, ⟨by rw [upd_ne kbd]; exact hk2, ks1', Paired.mono (fun _ _ h => WE.ls (.dic hb2') h) hp1'', ho1'⟩, hk2l, ⟨upd_same, ks2 ++ [(q.1, ss)], ?_, ho2.snoc tsub tin tno (by omega) hsw⟩, ?_, by rw [upd_ne lqb]; exact hlq2, fun a vs e => ?_, hs2'.put bs bc, hbt2.upd nbH⟩
        · rw [putK_new _ (we_none hp2 fun h => tno (by obtain ⟨x, hx, e⟩ := List.mem_map.mp h; rw [← e]; exact (ho2.mem x hx).1))]
          exact Paired.snoc (Paired.mono (fun _ _ h => WE.ls (.dic hb2') h) hp2'') ⟨rfl, Da, rfl, Ds, by rw [upd_ne (ne_of hD2 hb2' (by intro z; cases z))]; exact hD2⟩
        · have := DSub.putK_len k2 (.inr q.1) (.ref Da)
          omega
        · have e' := ht2 _ _ e
          rw [upd_ne (ne_of e' hb2' (by intro z; cases z))]
          exact e'
    · subst e
      refine ⟨_, rfl, _, rfl, _, rfl, _, rfl, (by show 4 ≤ sizeLine; decide), fun p np => ?_⟩
      have sp := same_upd np (o := .tup [vl, vr, .ref kd, .ref bd])
      have hall : (qs.take us.length).map (fun q => q.1) = hnm dl := by rw [hpul, List.take_length]; exact hqn
      rw [hall] at ho1 ho2
      rw [hqn] at hnd
      exact kk p kd bd vl vr dl dr ks1 ks2 _ ⟨k1, sp _ _ hk, Paired.mono (fun _ _ h => WE.ls (.but (Same.but sp)) h) hp1⟩ ⟨k2, sp _ _ hbk, Paired.mono (fun _ _ h => WE.ls (.but (Same.but sp)) h) hp2⟩ ho1 ho2 kbd ks bs hth hnd hhr upd_same (DAt.hold (.same sp) _ (sh_tups ht hsh hdl4)) hsh hsq (by omega) (DAt.hold (.same sp) _ (sh_tups ht hshr hdr4)) hshr hszr ((hs.same sp).mono (by omega)) (hb.trans (Same.but sp))
end
end KT

namespace KT
open PySem PySem.Spec PyProof.Rows L2 C8 XE XR
/-! is_word, is_word_list, is_shape, of any data -/
abbrev sWord : Stmt := top 8
abbrev sWL : Stmt := top 9
abbrev sIsSh : Stmt := top 17
structure Gs (mg : Str → Option Value) : Prop where
  let_ : ∃ u, mg "LETTERS" = some u ∧ RelV (.str letters) u
  lon : ∃ u, mg "LONGEST_WORD" = some u ∧ RelV (.int 8) u
  kee : ∃ u, mg "KEEP" = some u ∧ RelV (.str "keep") u
def wordB : D → Bool
  | .fl (.str z) => wordS z
  | _ => false
def spWord : Sp := fun vs H Q _ => ∃ (v : V) (d : D) (F : Addr → Prop), vs = [v] ∧ DAt F H v d ∧ (∀ z, d = .fl (.str z) → z.length ≤ 1000) ∧ ∀ H', Same H H' → Q (.bl (wordB d)) H'
theorem scWord : FnScope ["thing", "letter"] ["thing"] (fnScope sWord) := fnScope_by (by decide +kernel)
theorem isSt_inv {d : D} (h : isSt d = true) : ∃ z, d = .fl (.str z) := by
  cases d with
  | fl x => cases x with
    | str z => exact ⟨z, rfl⟩
    | _ => cases h
  | _ => cases h
theorem wordB_no {d : D} (h : isSt d = false) : wordB d = false := by
  cases d with
  | fl x => cases x with
    | str z => cases h
    | _ => rfl
  | _ => rfl
theorem DAts.snoc_inv {F : Addr → Prop} {H : Hp} : ∀ {xs : List V} {y : V} {ds : List D}, DAts F H (xs ++ [y]) ds → ∃ es e, ds = es ++ [e] ∧ DAts F H xs es ∧ DAt F H y e
  | [], y, [], k => (show False from k).elim
  | [], y, [d], ⟨k, _⟩ => ⟨[], d, rfl, trivial, k⟩
  | [], y, d :: d' :: ds, ⟨_, k⟩ => (show False from k).elim
  | x :: xs, y, [], k => (show False from k).elim
  | x :: xs, y, d :: ds, ⟨k, t⟩ => by
    obtain ⟨es, e, rfl, h1, h2⟩ := DAts.snoc_inv (xs := xs) (y := y) (ds := ds) t
    exact ⟨d :: es, e, rfl, ⟨k, h1⟩, h2⟩
abbrev NWL : List Str := ["thing", "word"]
theorem scWL : FnScope NWL ["thing"] (fnScope sWL) := fnScope_by (by decide +kernel)
abbrev NIs : List Str := ["thing", "waiting", "node"]
theorem scIsSh : FnScope NIs ["thing"] (fnScope sIsSh) := fnScope_by (by decide +kernel)
def wlB : D → Bool
  | .sq xs => xs.all wordB
  | _ => false
mutual
/-- texts are short in it -/
def shortD : D → Bool
  | .fl (.str z) => decide (z.length ≤ 1000)
  | .sq xs => shortDs xs
  | _ => true
def shortDs : List D → Bool
  | [] => true
  | x :: xs => shortD x && shortDs xs
end
theorem short_app : ∀ a b : List D, shortDs (a ++ b) = (shortDs a && shortDs b)
  | [], b => rfl
  | x :: a, b => by rw [List.cons_append, shortDs, shortDs, short_app a b, Bool.and_assoc]
theorem short_mem : ∀ {ds : List D}, shortDs ds = true → ∀ d ∈ ds, shortD d = true
  | x :: ds, h, d, hd => by
    rw [shortDs, Bool.and_eq_true] at h
    rcases List.mem_cons.mp hd with rfl | hd
    · exact h.1
    · exact short_mem h.2 d hd
  | [], _, d, hd => by cases hd
theorem short_str {d : D} (h : shortD d = true) : ∀ z, d = .fl (.str z) → z.length ≤ 1000 := fun z e => by
  subst e
  exact of_decide_eq_true h
mutual
theorem sh_short : ∀ d : D, isSh d = true → shortD d = true
  | .fl x, h => by
    cases x with
    | str z =>
      have h : wordS z = true := h
      unfold wordS at h
      rw [Bool.and_eq_true, Bool.and_eq_true] at h
      have := of_decide_eq_true h.2.1
      exact decide_eq_true (by omega)
    | _ => rfl
  | .emp, h => rfl
  | .sq [], h => rfl
  | .sq (x :: cs), h => by
    rcases isSh_inv h with ⟨z, e, _⟩ | ⟨z, cs', e, hz, hcs⟩
    · cases e
    · injection e with e
      injection e with e1 e2
      subst e1 e2
      show (shortD (.fl (.str z)) && shortDs cs) = true
      have hz : wordS z = true := hz
      unfold wordS at hz
      rw [Bool.and_eq_true, Bool.and_eq_true] at hz
      have := of_decide_eq_true hz.2.1
      rw [sh_shorts cs hcs, Bool.and_true]
      exact decide_eq_true (by omega)
theorem sh_shorts : ∀ ds : List D, isShs ds = true → shortDs ds = true
  | [], _ => rfl
  | d :: ds, h => by
    rw [isShs, Bool.and_eq_true] at h
    rw [shortDs, sh_short d h.1, sh_shorts ds h.2]
    rfl
end
theorem isShs_app : ∀ a b : List D, isShs (a ++ b) = (isShs a && isShs b)
  | [], b => rfl
  | x :: a, b => by rw [List.cons_append, isShs, isShs, isShs_app a b, Bool.and_assoc]
theorem isSh_sq (x : D) (cs : List D) : isSh (.sq (x :: cs)) = (wordB x && isShs cs) := by
  cases x with
  | fl v => cases v <;> rfl
  | _ => rfl
def spWL : Sp := fun vs H Q _ => ∃ (v : V) (d : D) (F : Addr → Prop), vs = [v] ∧ DAt F H v d ∧ shortD d = true ∧ sz d ≤ 100000 ∧ ∀ H', Same H H' → Q (.bl (wlB d)) H'
def spIsSh : Sp := fun vs H Q _ => ∃ (v : V) (d : D) (F : Addr → Prop), vs = [v] ∧ DAt F H v d ∧ shortD d = true ∧ sz d ≤ 5000 ∧ ∀ H', Same H H' → Q (.bl (isSh d)) H'
theorem lt_walk {K : PySem.W.Frag} {i : Nat} {σ : L2.St} {H : Hp} {R : It → Hp → Prop} {a : Addr} {vs : List V} (hi : σ[i]? = some (some (.ref a))) (q : H a = some (.tup vs) ∨ H a = some (.lst vs))
    (h : ∀ J : It, (∀ j H', j < vs.length → H' a = H a → J.go j H') → (∀ H', H' a = H a → J.stop vs.length H') → (∀ j H' x H'', H' a = H a → J.yld j H' x H'' → H'' = H' ∧ vs[j]? = some x) → R J H) : iList K (tVar i) σ H R ∨ iTup K (tVar i) σ H R := by
  rcases q with q | q
  · exact .inr ⟨_, hi, a, rfl, ⟨vs, SqT.of q⟩, h _ (fun j H' hj e => ⟨vs, vs.getD j .non, SqT.of (by rw [e]; exact q), getD_at hj⟩) (fun H' e => ⟨vs, SqT.of (by rw [e]; exact q), Nat.le_refl _⟩) (fun j H' x H'' e y => ⟨y.1, y.2 _ (SqT.of (by rw [e]; exact q))⟩)⟩
  · exact .inl ⟨_, hi, a, rfl, ⟨vs, SqL.of q⟩, h _ (fun j H' hj e => ⟨vs, vs.getD j .non, SqL.of (by rw [e]; exact q), getD_at hj⟩) (fun H' e => ⟨vs, SqL.of (by rw [e]; exact q), Nat.le_refl _⟩) (fun j H' x H'' e y => ⟨y.1, y.2 _ (SqL.of (by rw [e]; exact q))⟩)⟩
section
variable {P : Program} {w : World} {K : PySem.W.Frag} {mg : Str → Option Value} {base : Heap}
theorem c_word {f : Addr} {fd : FuncData} (F : Def K mg "is_word" sWord f fd) (b : Binds K fd ["thing"] []) (T : Blt4 mg) (G : Gs mg) : Cal P w K mg base 1 "is_word" spWord [] := by
  refine cal0 F b .nil scWord (fun vs H Q E h => ?_) (fun cdv A outer s H vs Q E hr h => ?_)
  · obtain ⟨v, d, G, rfl, _⟩ := h
    rfl
  · obtain ⟨v, d, GF, rfl, hv, hz, k⟩ := h
    have nd := scWord.nd
    refine ⟨_, pss_cons (ps_if (pw_or (pt_not (pt_val (pe_callB call_isi (by rfl) T.isi (by decide +kernel) (pa_cons (pv 0) (pa_cons (pe_bt "str" T.str) pa_nil)))))
          (pw_or (pt_cmp (pc_lt (pe_callB call_len_str (by rfl) T.len PySem.boot_len (pa_cons (pv 0) pa_nil)) pe_int))
          (pw_or1 (pt_cmp (pc_gt (pe_callB call_len_str (by rfl) T.len PySem.boot_len (pa_cons (pv 0) pa_nil)) (pe_gc (by rfl) G.lon)))))).pt (pss_one (ps_ret pe_bl)) pss_nil)
      (pss_one (ps_ret (pe_callB (cr_all rfl) (by rfl) T.all (by decide +kernel) (pa_cons (pe_lc (own := [("letter", 1)]) (g := gName 1) (tt := tYes) rfl nd (pi_str (pv 0)) (blkOk_by (N := ["thing", "letter"]) (sc := fnScope sWord) (by decide +kernel))
          (fun _ _ _ _ _ => pg_name (i := 1) nd rfl (Or.inl rfl)) (fun _ _ _ _ _ => pts_nil) (fun _ _ _ _ _ => pe_cmpR op_in_sign (pv 1) (pe_gc (by rfl) G.let_) (by rfl))) pa_nil)))), ?_⟩
    obtain ⟨Ty, ty, _, k1, _⟩ := d_ty2 (K := K) hv
    have ty0 := ty H fun _ _ e => e
    have s0 : Same H H := fun _ _ e => e
    refine ⟨_, rfl, v, .ty "str", _, _, _, rfl, .ty _, ty0, k1, _, rfl, ?_⟩
    cases hs : isSt d with
    | false =>
      rw [wordB_no hs] at k
      exact iteBt rfl (iteBt rfl (k H s0))
    | true =>
      obtain ⟨z, rfl⟩ := isSt_inv hs
      obtain ⟨rfl, _⟩ := hv
      have hz := hz z rfl
      have hls : z.length ≤ sizeLine := by rw [sizeLine_eq]; omega
      have wz : wordB (.fl (.str z)) = wordS z := rfl
      rw [wz] at k
      refine iteBf rfl ⟨_, rfl, z, rfl, hls, z.length, 1, rfl, rfl, _, rfl, ?_⟩
      by_cases l1 : (z.length : Int) < 1
      · have : wordS z = false := by unfold wordS; rw [decide_eq_false (by omega), Bool.false_and]
        rw [this] at k
        exact iteBt (decide_eq_true l1) (iteBt rfl (k H s0))
      refine iteBf (decide_eq_false l1) ⟨_, rfl, z, rfl, hls, z.length, 8, rfl, rfl, _, rfl, ?_⟩
      by_cases l8 : (8 : Int) < z.length
      · have : wordS z = false := by unfold wordS; rw [decide_eq_false (p := z.length ≤ 8) (by omega), Bool.false_and, Bool.and_false]
        rw [this] at k
        exact iteBt (decide_eq_true l8) (k H s0)
      refine iteBf (decide_eq_false l8) ⟨_, rfl, z, rfl, fun Da nDa => ?_⟩
      have hw : wordS z = z.cps.toList.all fun c => decide (c ∈ letters.cps.toList) := by unfold wordS; rw [decide_eq_true (p := 1 ≤ z.length) (by omega), decide_eq_true (p := z.length ≤ 8) (by omega), Bool.true_and, Bool.true_and]
      have hlz : z.cps.size = z.length := rfl
      refine lc_gen (J := Its z) z.cps.size (fun i H' => H' Da = some (.lst (((z.cps.toList.take i).map fun c => decide (c ∈ letters.cps.toList)).map V.bl)) ∧ Same H H') ⟨upd_same, same_upd nDa⟩ (fun i H' hi _ => hi) (fun H' _ => Nat.le_refl _) (fun i H' x H'' hi ⟨hD, sm⟩ yl => ?_) (fun H' ⟨hD, sm⟩ => ?_)
      · obtain ⟨rfl, c, hcc, rfl⟩ := yl
        refine ⟨rfl, ?_⟩
        unfold tYes
        dsimp only
        rw [if_pos rfl]
        have hlt : i < z.cps.toList.length := by rw [Array.length_toList]; exact hi
        have hce : z.cps.toList[i] = c := by
          have : z.cps.toList[i]? = some c := by rw [Array.getElem?_toList]; exact hcc
          exact (List.getElem?_eq_some_iff.mp this).2
        refine ⟨_, rfl, c, letters, rfl, rfl, _, hD, by rw [List.length_map, List.length_map, List.length_take, sizeLine_eq]; omega, ?_, fun b o e => by rw [upd_ne (ne_of_none e nDa)]; exact sm _ _ e⟩
        rw [upd_same, List.take_succ_eq_append_getElem hlt, hce, List.map_append, List.map_append]
        rfl
      · rw [List.take_of_length_le (by rw [Array.length_toList]; exact Nat.le_refl _)] at hD
        refine ⟨Da, _, rfl, SqL.of hD, ?_⟩
        rw [List.all_map]
        rw [hw] at k
        exact k _ sm
theorem c_wl {f : Addr} {fd : FuncData} (F : Def K mg "is_word_list" sWL f fd) (b : Binds K fd ["thing"] []) (T : Blt4 mg) (CR : Cal P w K mg base 1 "is_row" spRow []) (CW : Cal P w K mg base 1 "is_word" spWord []) : Cal P w K mg base 2 "is_word_list" spWL [] := by
  refine cal0 F b .nil scWL (fun vs H Q E h => ?_) (fun cdv A outer s H vs Q E hr h => ?_)
  · obtain ⟨v, d, G, rfl, _⟩ := h
    rfl
  · obtain ⟨v, d, G, rfl, hv, hs, hz, k⟩ := h
    have nd := scWL.nd
    refine ⟨_, pss_one (ps_ret (pe_and (pe_c CR hr (by decide) (by rfl) (pa_cons (pv 0) pa_nil)) (pe_one (pe_callB (cr_all rfl) (by rfl) T.all (by decide +kernel) (pa_cons (pe_lc (own := [("word", 1)]) (g := gName 1) (tt := tYes) rfl nd (PI.or (pi_list (pv 0)) (pi_tup (pv 0))) (blkOk_by (N := NWL) (sc := fnScope sWL) (by decide +kernel))
        (fun _ _ _ _ _ => pg_name (i := 1) nd rfl (Or.inl rfl)) (fun _ _ _ _ _ => pts_nil) (fun _ _ _ _ _ => pe_c CW hr (by decide) (by rfl) (pa_cons (pv 1) pa_nil))) pa_nil))))), ?_⟩
    refine ⟨_, rfl, v, d, G, rfl, hv, fun H1 s1 => ⟨_, rfl, ?_⟩⟩
    cases d with
    | fl x => exact iteBf rfl (k H1 s1)
    | emp => exact iteBf rfl (k H1 s1)
    | sq xs =>
      refine iteBt rfl ?_
      obtain ⟨a, us, rfl, q, _, hus⟩ := hv
      have hul := hus.len
      have hxz : xs.length ≤ 100000 := by
        have := len_szs xs
        rw [sz] at hz
        omega
      have hq1 : H1 a = some (.tup us) ∨ H1 a = some (.lst us) := q.imp (s1 _ _) fun e => s1 _ _ e.2
      have eqa : ∀ {H' : Hp}, Same H1 H' → H' a = H1 a := fun sm => by rcases hq1 with e | e <;> rw [e] <;> exact sm _ _ e
      have hsl := sizeLine_eq
      refine lt_walk (a := a) (vs := us) rfl hq1 fun J jgo jst jyl => fun Da nDa => ?_
      refine lc_gen (J := J) us.length (fun j H' => H' Da = some (.lst (((xs.take j).map wordB).map V.bl)) ∧ Same H1 H') ⟨upd_same, same_upd nDa⟩ (fun j H' hj ⟨_, sm⟩ => jgo j H' hj (eqa sm)) (fun H' ⟨_, sm⟩ => jst H' (eqa sm)) (fun j H' x H'' hj ⟨hD, sm⟩ yl => ?_) (fun H' ⟨hD, sm⟩ => ?_)
      · obtain ⟨rfl, hx⟩ := jyl j H' x H'' (eqa sm) yl
        obtain ⟨c, hc, hxc⟩ := hus.get hx
        obtain ⟨hlt, ec⟩ := List.getElem?_eq_some_iff.mp hc
        refine ⟨rfl, ?_⟩
        unfold tYes
        dsimp only
        rw [if_pos rfl]
        refine ⟨_, rfl, x, c, G, rfl, DAt.hold (.same (s1.trans sm)) _ hxc, short_str (short_mem hs c (List.mem_of_getElem? hc)), fun H3 s3 => ⟨_, s3 _ _ hD, by rw [List.length_map, List.length_map, List.length_take]; omega, ?_, fun b o e => by rw [upd_ne (ne_of_none e nDa)]; exact s3 _ _ (sm _ _ e)⟩⟩
        rw [upd_same, List.take_succ_eq_append_getElem hlt, ec, List.map_append, List.map_append]
        rfl
      · rw [hul, List.take_length] at hD
        refine ⟨Da, _, rfl, SqL.of hD, ?_⟩
        have := k H' (s1.trans sm)
        have e : (xs.map wordB).all id = wlB (.sq xs) := by rw [wlB, List.all_map]; rfl
        rw [e]
        exact this
theorem c_isSh {f : Addr} {fd : FuncData} (F : Def K mg "is_shape" sIsSh f fd) (b : Binds K fd ["thing"] []) (T : Blt4 mg) (CR : Cal P w K mg base 1 "is_row" spRow []) (CW : Cal P w K mg base 1 "is_word" spWord []) : Cal P w K mg base 2 "is_shape" spIsSh [] := by
  refine cal0 F b .nil scIsSh (fun vs H Q E h => ?_) (fun cdv A outer s H vs Q E hr h => ?_)
  · obtain ⟨v, d, G, rfl, _⟩ := h
    rfl
  · obtain ⟨v, d, G, rfl, hv, hsd, hz, k⟩ := h
    have nd := scIsSh.nd
    refine ⟨_, pss_cons (ps_set (i := 1) nd rfl (Or.inl rfl) (pe_lst (pa_cons (pv 0) pa_nil)))
      (pss_cons (ps_while PassesOwn.never (pt_truth (pv 1) (by intro _; rfl))
        (pss_cons (ps_set (i := 2) nd rfl (Or.inl rfl) (pe_bm0 PySem.F.plainAttrs_list PySem.F.slot_list_pop PySem.F.type_list_pop mt_pop (pv 1)))
        (pss_cut (ps_if (pw_and (pt_val (pe_c CR hr (by decide) (by rfl) (pa_cons (pv 2) pa_nil))) (pw_and1 (pt_cmp (pc_gt (pe_callB call_len_seq (by rfl) T.len PySem.boot_len (pa_cons (pv 2) pa_nil)) pe_int)))).pt
            (pss_cons (ps_expr (pe_bm PySem.F.plainAttrs_list PySem.F.slot_list_extend PySem.F.type_list_extend (MtR.or mt_extend mt_extendT) (pv 1) (pa_cons (pe_slice (SlR.or sl_list sl_tup) (pv 2) (po_some pe_int) po_none) pa_nil)))
            (pss_one (ps_set (i := 2) nd rfl (Or.inl rfl) (pe_ix ix_seq (pv 2) pe_int fun _ _ => rfl)))) pss_nil)
        (pss_one (ps_if (pt_not (pt_val (pe_c CW hr (by decide) (by rfl) (pa_cons (pv 2) pa_nil)))) (pss_one (ps_ret pe_bl)) pss_nil)))))
      (pss_one (ps_ret pe_bl))), ?_⟩
    refine ⟨_, rfl, (by show 1 ≤ sizeLine; decide), fun W nW => ?_⟩
    have s1 : Same H (upd H W (.lst [v])) := same_upd nW
    let Iv : Nat → L2.St → Hp → Prop := fun m σ H' => ∃ (xs : List V) (ds : List D) (v3 : Option V), szs ds = m ∧ σ = [some v, some (.ref W), v3] ∧ H' W = some (.lst xs) ∧ DAts G H xs ds ∧ Same H H' ∧ isSh d = isShs ds ∧ shortDs ds = true ∧ m ≤ 5000
    refine ⟨Iv, ⟨sz d, [v], [d], none, rfl, rfl, upd_same, ⟨hv, trivial⟩, s1, by rw [isShs, isShs, Bool.and_true], by rw [shortDs, shortDs, Bool.and_true]; exact hsd, hz⟩, ?_⟩
    rintro m σ H1 ⟨xs, ds, v3, rfl, rfl, hW, hxs, sm, hT, hS, hm⟩
    have hlen := hxs.len
    have hll := len_szs ds
    refine ⟨_, rfl, !xs.isEmpty, .inl ⟨xs, SqL.of hW, rfl⟩, ?_⟩
    cases hxe : xs.isEmpty with
    | true =>
      have e : xs = [] := List.isEmpty_iff.mp hxe
      subst e
      have : ds = [] := List.length_eq_zero_iff.mp hlen.symm
      subst this
      refine iteBf rfl ?_
      have kk := k H1 sm
      rw [hT, isShs] at kk
      exact kk
    | false =>
      refine iteBt rfl ?_
      have hne : xs ≠ [] := fun e => by rw [e] at hxe; cases hxe
      obtain ⟨ys, y, rfl⟩ : ∃ ys y, xs = ys ++ [y] := ⟨xs.dropLast, xs.getLast hne, (List.dropLast_concat_getLast hne).symm⟩
      obtain ⟨es, e, rfl, hys, hy⟩ := DAts.snoc_inv hxs
      have hsz : szs (es ++ [e]) = szs es + sz e := by rw [szs_app]; rfl
      rw [hsz] at hm hll
      rw [short_app, Bool.and_eq_true, shortDs, shortDs, Bool.and_true] at hS
      have hyl := hys.len
      have hes := len_szs es
      have hsl := sizeLine_eq
      refine ⟨fun σ' H' => ∃ m' < szs (es ++ [e]), Iv m' σ' H', fun σ' H' ⟨m', hl, hi⟩ => ⟨m', hl, hi⟩, ?_⟩
      refine ⟨_, rfl, .inl ⟨rfl, _, SqL.of hW⟩, W, _, y, rfl, rfl, hW, by simp, ?_⟩
      rw [List.dropLast_concat]
      have hW2 : (upd H1 W (.lst ys)) W = some (.lst ys) := upd_same
      have sm2 : Same H (upd H1 W (.lst ys)) := fun b o q => by rw [upd_ne (ne_of_none q nW)]; exact sm _ _ q
      generalize upd H1 W (.lst ys) = H2 at hW2 sm2 ⊢
      -- the node's head, its children put behind
      refine ⟨fun σ' H' => ∃ (u : V) (hd : D) (cs : List D) (zs : List V), σ' = [some v, some (.ref W), some u] ∧ DAt G H u hd ∧ shortD hd = true ∧ isSh e = (wordB hd && isShs cs) ∧ szs cs < sz e ∧ shortDs cs = true ∧ H' W = some (.lst zs) ∧ DAts G H zs (es ++ cs) ∧ Same H H', ?_, ?_⟩
      · refine ⟨_, rfl, y, e, G, rfl, DAt.hold (.same sm2) _ hy, fun H3 s3 => ⟨_, rfl, ?_⟩⟩
        have s03 := sm2.trans s3
        have hW3 := s3 _ _ hW2
        have alone : wordB e = isSh e → ∃ (u : V) (hd : D) (cs : List D) (zs : List V), [some v, some (.ref W), some y] = [some v, some (.ref W), some u] ∧ DAt G H u hd ∧ shortD hd = true ∧ isSh e = (wordB hd && isShs cs) ∧ szs cs < sz e ∧ shortDs cs = true ∧ H3 W = some (.lst zs) ∧ DAts G H zs (es ++ cs) ∧ Same H H3 := fun he =>
          ⟨y, e, [], ys, rfl, hy, hS.2, by rw [isShs, Bool.and_true, he], by have := sz_pos e; rw [szs]; omega, rfl, hW3, by rw [List.append_nil]; exact hys, s03⟩
        cases e with
        | fl x => exact iteBf rfl (iteBf rfl (alone (by cases x <;> rfl)))
        | emp => exact iteBf rfl (iteBf rfl (alone rfl))
        | sq xs =>
          refine iteBt rfl ?_
          have hy0 := hy
          obtain ⟨a, vs, rfl, q, _, hvs⟩ := hy
          have hvl := hvs.len
          have q3 : H3 a = some (.tup vs) ∨ H3 a = some (.lst vs) := q.imp (s03 _ _) fun e => s03 _ _ e.2
          refine ⟨_, rfl, a, vs, rfl, q3.elim (fun e => .inr (SqT.of e)) (fun e => .inl (SqL.of e)), (vs.length : Nat), 0, rfl, rfl, _, rfl, ?_⟩
          match xs, vs, hvs with
          | [], [], _ => exact iteBf (by decide) (alone rfl)
          | [], _ :: _, h => exact h.elim
          | _ :: _, [], h => exact h.elim
          | x :: cs, v0 :: cvs, ⟨h0, hcs⟩ =>
            refine iteBt (decide_eq_true (by rw [List.length_cons]; omega)) ?_
            have hcl := hcs.len
            have hez : sz (.sq (x :: cs)) = 1 + (sz x + szs cs) := rfl
            have hcz := len_szs cs
            have hxz := sz_pos x
            have hSe : shortD x = true ∧ shortDs cs = true := by
              have h2 := hS.2
              have h2 : (shortD x && shortDs cs) = true := h2
              rw [Bool.and_eq_true] at h2
              exact h2
            have cut1 : (v0 :: cvs).drop (1 : Int).toNat = cvs := rfl
            have fin : ∀ (H4 : Hp), Same H3 H4 → ∃ (u : V) (hd : D) (cs' : List D) (zs : List V), [some v, some (.ref W), some v0] = [some v, some (.ref W), some u] ∧ DAt G H u hd ∧ shortD hd = true ∧ isSh (.sq (x :: cs)) = (wordB hd && isShs cs') ∧ szs cs' < sz (.sq (x :: cs)) ∧ shortDs cs' = true ∧ (upd H4 W (.lst (ys ++ cvs))) W = some (.lst zs) ∧ DAts G H zs (es ++ cs') ∧ Same H (upd H4 W (.lst (ys ++ cvs))) := fun H4 s4 =>
              ⟨v0, x, cs, ys ++ cvs, rfl, h0, hSe.1, isSh_sq x cs, by omega, hSe.2, upd_same, DAts.app hys hcs, fun b o q => by rw [upd_ne (ne_of_none q nW)]; exact s4 _ _ (s03 _ _ q)⟩
            refine ⟨_, rfl, .inl ⟨rfl, _, SqL.of hW3⟩, _, rfl, 1, rfl, ?_⟩
            rcases q3 with q | q
            · refine .inr ⟨a, _, rfl, SqT.of q, not_whole (by decide) (by simp), fun r nr => .inr ?_⟩
              rw [cutFrom (by decide), cut1]
              have hA := fin _ (same_upd nr (o := .tup cvs))
              have qa : (upd (upd H3 r (.tup cvs)) W (.lst (ys ++ cvs))) a = some (.tup (v0 :: cvs)) := by
                rw [upd_ne (ne_of q hW3 (by intro z; cases z)), upd_ne (ne_of_none q nr)]
                exact q
              refine ⟨W, r, ys, cvs, rfl, rfl, by rw [upd_ne (ne_of_none hW3 nr)]; exact hW3, SqT.of upd_same, by omega, ?_⟩
              exact ⟨_, rfl, .inr (.inl ⟨a, _, 0, v0, rfl, rfl, SqT.of qa, at_of (j := 0) (by omega) rfl, hA⟩)⟩
            · refine .inl ⟨a, _, rfl, SqL.of q, fun r nr => .inl ?_⟩
              rw [cutFrom (by decide), cut1]
              have hA := fin _ (same_upd nr (o := .lst cvs))
              have aW : a ≠ W := fun z => by subst z; rename_i q0 _; rcases q0 with h | ⟨_, h⟩ <;> rw [nW] at h <;> cases h
              have qa : (upd (upd H3 r (.lst cvs)) W (.lst (ys ++ cvs))) a = some (.lst (v0 :: cvs)) := by
                rw [upd_ne aW, upd_ne (ne_of_none q nr)]
                exact q
              refine ⟨W, r, ys, cvs, rfl, rfl, by rw [upd_ne (ne_of_none hW3 nr)]; exact hW3, upd_same, by omega, ?_⟩
              exact ⟨_, rfl, .inl ⟨a, _, 0, v0, rfl, rfl, SqL.of qa, at_of (j := 0) (by omega) rfl, hA⟩⟩
      rintro σ H3 ⟨u, hd, cs, zs, rfl, hu, hds, hee, hcs, hcS, hW3, hzs, s3⟩
      refine ⟨_, rfl, u, hd, G, rfl, DAt.hold (.same s3) _ hu, short_str hds, fun H4 s4 => ⟨_, rfl, ?_⟩⟩
      cases hw : wordB hd with
      | false =>
        refine iteBt rfl ?_
        have kk := k H4 (s3.trans s4)
        rw [hT, isShs_app, isShs, hee, hw, Bool.false_and, Bool.false_and, Bool.and_false] at kk
        exact kk
      | true =>
        refine iteBf rfl ⟨szs (es ++ cs), by rw [hsz, szs_app]; omega, zs, es ++ cs, _, rfl, rfl, s4 _ _ hW3, hzs, s3.trans s4, ?_, ?_, by rw [szs_app]; omega⟩
        · rw [hT, isShs_app, isShs_app, isShs, isShs, hee, hw, Bool.true_and, Bool.and_true]
        · rw [short_app, hS.1, hcS]
          rfl
end
end KT

/-! sets of texts: made of a list, their number, sorted -/
namespace TX
open PySem PySem.Spec PyProof.Rows L2
abbrev kS (P : Program) (w : World) : PySem.KeyKind P w Str := PySem.strKind P w
/-- an entry that is a text, under its own hash -/
def TxE (w : World) (c : Int × Value) : Prop := ∃ z tz, c.2 = Value.str z tz ∧ c.1 = hashStr w z
def txt (c : Int × Value) : Str := strOf c.2
/-- a set of texts at p: M its members, m how many; it can be walked -/
def SetT (w : World) (h : Heap) (p : Addr) (M : Str → Bool) (m : Nat) : Prop := ∃ ob cs ep tb, h.get? p = some ob ∧ ob.ExactSet ∧ ob.data = .set cs ep tb ∧ (∀ c ∈ cs.toList, TxE w c) ∧ (cs.toList.map txt).Nodup ∧
  (∀ z, M z = true ↔ z ∈ cs.toList.map txt) ∧ cs.size < scanBound ∧ tb.fits cs.size = true ∧ cs.size = m ∧ Ris tb.place.toList ∧ (w.params.followText "set-order" = true ∨ tb.led = true)
section
variable {P : Program} {w : World} {h h' : Heap} {p : Addr} {M : Str → Bool} {m : Nat}
theorem SetT.at (R : SetT w h p M m) (k : ∀ o, h.get? p = some o → h'.get? p = some o) : SetT w h' p M m := let ⟨ob, cs, ep, tb, e, rest⟩ := R; ⟨ob, cs, ep, tb, k ob e, rest⟩
theorem txE_elems {l : List (Int × Value)} (g : ∀ c ∈ l, TxE w c) : ElemsOf (kS P w) l := fun c hc => by
  obtain ⟨z, tz, e1, e2⟩ := g c hc
  exact ⟨⟨z, by rw [e1]; exact strKind_is P w z tz, e2⟩, by rw [e1] <;> rfl⟩
theorem txE_is {c : Int × Value} (g : TxE w c) (z : Str) : (kS P w).is z c.2 = true ↔ txt c = z := by
  obtain ⟨y, tz, e1, _⟩ := g
  unfold txt
  rw [e1, (kS P w).is_eq_decide (strKind_is P w y tz) z, decide_eq_true_eq]
  exact ⟨fun e => e.symm, fun e => e.symm⟩
theorem txE_mem {l : List (Int × Value)} (g : ∀ c ∈ l, TxE w c) (z : Str) : z ∈ l.map txt ↔ ∃ c ∈ l, (kS P w).is z c.2 = true :=
  List.mem_map.trans ⟨fun ⟨c, hc, q⟩ => ⟨c, hc, (txE_is (g c hc) z).2 q⟩, fun ⟨c, hc, q⟩ => ⟨c, hc, (txE_is (g c hc) z).1 q⟩⟩
end
section
variable {P : Program} {w : World} {A : Around} {E : Value → Shared → Prop} {s : Shared} {p : Addr} {M : Str → Bool} {m : Nat}
/-- what follows once the new entry is laid: it is kept, the table perhaps laid anew -/
theorem putT_tail {g : Bool → Sem Unit} (hg : ∀ (b : Bool) (s1 : Shared) (R : Unit → Shared → Prop), R () s1 → wpAny (model P w) A (g b) R E s1) {ob : Obj} {cs : Array (Int × Value)} {ep : Nat} {tb : SetTable} (e0 : s.heap.get? p = some ob) (ex : ob.ExactSet) (ed : ob.data = .set cs ep tb)
    {cs1 : Array (Int × Value)} {tb1 : SetTable} {M' : Str → Bool} (good : ∀ c ∈ cs1.toList, TxE w c) (unl : (cs1.toList.map txt).Nodup) (mem : ∀ z, M' z = true ↔ z ∈ cs1.toList.map txt) (few : cs1.size < scanBound) (fit : tb1.fits cs1.size = true) (ris : Ris tb1.place.toList)
    (led : w.params.followText "set-order" = true ∨ tb1.led = true) {was : Bool} {R : Option Bool → Shared → Prop} (hR : ∀ h', Heap.SameBut p s.heap h' → SetT w h' p M' cs1.size → R (some true) { s with heap := h' }) :
    wpAny (model P w) A (do
        storeSet p cs1 tb1
        if (!was && tb1.tooFull) = true then do
            g (relayAll tb1 cs1 (SetTable.grown cs1.size)).2.2
            storeSet p (relayAll tb1 cs1 (SetTable.grown cs1.size)).1 (relayAll tb1 cs1 (SetTable.grown cs1.size)).2.1
            pure (some true)
          else pure (some true)) R E s := by
  have kept1 := store_at (es' := cs1) (t' := tb1) e0 ed
  have but1 := Heap.SameBut.update s.heap p (Obj.putSet cs1 tb1)
  refine wpAny_bind (wpAny_storeSet_of e0 ed ?_ (fits_of_scanBound few))
  by_cases full : (!was && tb1.tooFull) = true
  · rw [if_pos full]
    have perm := relayAll_perm tb1 cs1 (SetTable.grown cs1.size)
    have fit2 := relayAll_fits tb1 cs1 (SetTable.grown cs1.size)
    have ris2 := relayAll_ris tb1 cs1 (SetTable.grown cs1.size)
    have led2 := relayAll_led tb1 cs1 (SetTable.grown cs1.size)
    generalize relayAll tb1 cs1 (SetTable.grown cs1.size) = all at perm fit2 ris2 led2 ⊢
    obtain ⟨cs2, tb2, way⟩ := all
    have size2 : cs2.size = cs1.size := by rw [← Array.length_toList, perm.length_eq, Array.length_toList]
    have few2 : cs2.size < scanBound := size2 ▸ few
    refine wpAny_bind (hg _ _ _ (wpAny_bind (wpAny_storeSet_of kept1 rfl ?_ (fits_of_scanBound few2))))
    have kept2 := store_at (es' := cs2) (t' := tb2) kept1 rfl
    exact wpAny_pure (hR _ (but1.trans (Heap.SameBut.update _ p _)) ⟨_, cs2, _, tb2, kept2, ex, rfl, fun c hc => good c (perm.mem_iff.mp hc), (perm.map txt).nodup_iff.mpr unl, fun z => (mem z).trans (perm.map txt).mem_iff.symm, few2, fit2, size2, ris2, led.imp id fun q => led2.trans q⟩)
  · rw [if_neg full]
    exact wpAny_pure (hR _ but1 ⟨_, cs1, _, tb1, kept1, ex, rfl, good, unl, mem, few, fit, rfl, ris, led⟩)
theorem putT {z : Str} {tz : Tok} {Q : Bool → Shared → Prop} (R : SetT w s.heap p M m) (room : m + 1 < scanBound)
    (hQ : ∀ h', Heap.SameBut p s.heap h' → SetT w h' p (fun y => M y || decide (y = z)) (if M z = true then m else m + 1) → Q (!M z) { s with heap := h' }) :
    wpAny (model P w) A (setAddHashed p (.str z tz) ((kS P w).hash z)) Q E s := by
  obtain ⟨ob, cs, ep, tb, e0, ex, ed, good, unl, mem, few, fit, num, ris, led⟩ := R
  have isz : (kS P w).is z (.str z tz) = true := strKind_is P w z tz
  have scan : (Value.str z tz).scannable = true := rfl
  have els : ElemsOf (kS P w) cs.toList := txE_elems good
  unfold setAddHashed setAddHashedIn
  refine wpAny_holding (wpAny_bind (wpAny_setState_of e0 ed fit ?_))
  dsimp only
  rw [byScan_of scan few els]
  simp only [↓reduceIte]
  unfold setAddByScan
  refine wpAny_bind (wpAny_bind (wpAny_rule (wpAny_bind (wpAny_setScan_of isz e0 ed fit els ?_))))
  cases here : List.findIdx? (fun c => (kS P w).is z c.2) cs.toList with
  | some j =>
    obtain ⟨hj, pj, _⟩ := List.findIdx?_eq_some_iff_getElem.mp here
    have Mz : M z = true := (mem z).2 ((txE_mem (P := P) good z).2 ⟨cs.toList[j], List.getElem_mem hj, pj⟩)
    refine wpAny_pure (wpAny_pure ?_)
    have q := hQ s.heap (Heap.SameBut.refl p s.heap) ⟨ob, cs, ep, tb, e0, ex, ed, good, unl, fun y => by
      rw [Bool.or_eq_true, decide_eq_true_eq, ← mem y]
      exact ⟨fun o => o.elim id (fun e => e ▸ Mz), .inl⟩, few, fit, by rw [if_pos Mz]; exact num, ris, led⟩
    rw [Mz] at q
    exact q
  | none =>
    have nz : z ∉ cs.toList.map txt := fun o => by
      obtain ⟨c, hc, q⟩ := (txE_mem (P := P) good z).1 o
      have no := List.findIdx?_eq_none_iff.mp here c hc
      rw [q] at no
      cases no
    have Mz : M z = false := by
      cases q : M z with
      | false => rfl
      | true => exact absurd ((mem z).1 q) nz
    have gw : ∀ (b : Bool) {s1 : Shared} {R : Unit → Shared → Prop}, R () s1 → wpAny (model P w) A (match b with | true => rule "set.scan.the-table-gave-way" | false => pure ()) R E s1 := fun b s1 R q => by cases b <;> first | exact wpAny_pure q | exact wpAny_rule q
    have perm := layNew_perm tb cs ((kS P w).hash z) (.str z tz)
    have fit1 := layNew_fits tb cs ((kS P w).hash z) (.str z tz)
    have ris1 := layNew_ris tb cs ((kS P w).hash z) (.str z tz) ris
    have led1 := layNew_led tb cs ((kS P w).hash z) (.str z tz)
    dsimp only
    generalize layNew tb cs ((kS P w).hash z) (.str z tz) = all at perm fit1 ris1 led1 ⊢
    obtain ⟨cs1, tb1, was, way⟩ := all
    dsimp only at perm fit1 ris1 led1 ⊢
    rw [Array.toList_push] at perm
    have pc : cs1.toList.Perm (((kS P w).hash z, Value.str z tz) :: cs.toList) := perm.trans (List.perm_append_singleton _ _)
    have pz : (cs1.toList.map txt).Perm (z :: cs.toList.map txt) := pc.map txt
    have good1 : ∀ c ∈ cs1.toList, TxE w c := fun c hc => (List.mem_cons.mp (pc.mem_iff.mp hc)).elim (fun e => by rw [e]; exact ⟨z, tz, rfl, rfl⟩) (good c)
    have unl1 : (cs1.toList.map txt).Nodup := pz.nodup_iff.mpr (List.nodup_cons.mpr ⟨nz, unl⟩)
    have mem1 : ∀ y, (M y || decide (y = z)) = true ↔ y ∈ cs1.toList.map txt := fun y => by
      rw [Bool.or_eq_true, decide_eq_true_eq, mem y, pz.mem_iff, List.mem_cons]
      exact Or.comm
    have size1 : cs1.size = m + 1 := by rw [← Array.length_toList, pc.length_eq, List.length_cons, Array.length_toList, num]
    have few1 : cs1.size < scanBound := size1 ▸ room
    have led1' : w.params.followText "set-order" = true ∨ tb1.led = true := led.imp id fun q => led1.trans q
    have fin : ∀ h', Heap.SameBut p s.heap h' → SetT w h' p (fun y => M y || decide (y = z)) cs1.size → Q true { s with heap := h' } := fun h' sb r => by
      have q := hQ h' sb
      rw [Mz] at q
      exact q (size1 ▸ r)
    refine wpAny_bind (gw _ ?_)
    split
    · refine wpAny_bind ?_
      rw [hashByValue_scannable 8 scan]
      refine wpAny_pure (putT_tail ?_ e0 ex ed good1 unl1 mem1 few1 ?_ ?_ ?_ ?_)
      · intro b s1 R q; cases b <;> first | exact wpAny_pure q | exact wpAny_rule q
      · first | (split <;> first | exact fit1 | exact SetTable.fits_plain_off fit1) | exact fit1
      · first | (split <;> exact ris1) | exact ris1
      · first | (split <;> exact led1') | exact led1'
      · intro h' sb r; exact wpAny_pure (fin h' sb r)
    · refine wpAny_bind (wpAny_pure ?_)
      simp only [↓reduceIte]
      refine putT_tail ?_ e0 ex ed good1 unl1 mem1 few1 fit1 ris1 led1' ?_
      · intro b s1 R q; cases b <;> first | exact wpAny_pure q | exact wpAny_rule q
      · intro h' sb r; exact wpAny_pure (fin h' sb r)
end
theorem strs_len {vs : List Value} {xs : List Str} (h : StrsAre vs xs) : vs.length = xs.length := by
  induction h with
  | nil => rfl
  | cons y t _ ih => rw [List.length_cons, List.length_cons, ih]
theorem strs_get : ∀ {vs : List Value} {xs : List Str}, StrsAre vs xs → ∀ (i : Nat) (v : Value), vs[i]? = some v → ∃ z tz, xs[i]? = some z ∧ v = Value.str z tz
  | _, _, .nil, i, v, h => by cases h
  | _, _, .cons y t r, 0, v, h => by cases h; exact ⟨y, t, rfl, rfl⟩
  | _, _, .cons y t r, i + 1, v, h => strs_get r i v h
/-! the texts of a list, one after another -/
/-- what is met first -/
def once : List Str → List Str
  | [] => []
  | x :: xs => x :: (once xs).filter fun y => decide (y ≠ x)
theorem mem_once : ∀ {xs : List Str} {z : Str}, z ∈ once xs ↔ z ∈ xs
  | [], z => Iff.rfl
  | x :: xs, z => by
    rw [once, List.mem_cons, List.mem_filter, mem_once, List.mem_cons, decide_eq_true_eq]
    constructor
    · exact fun h => h.imp id fun q => q.1
    · intro h
      by_cases e : z = x
      · exact .inl e
      · exact .inr ⟨h.elim (fun q => absurd q e) id, e⟩
/-- how many unlike ones there are -/
def many (xs : List Str) : Nat := (once xs).length
theorem once_snoc : ∀ (xs : List Str) (z : Str), once (xs ++ [z]) = if z ∈ xs then once xs else once xs ++ [z]
  | [], z => rfl
  | x :: xs, z => by
    rw [List.cons_append, once, once_snoc xs z]
    by_cases e : z = x
    · subst e
      rw [if_pos List.mem_cons_self, once]
      by_cases h : z ∈ xs
      · rw [if_pos h]
      · rw [if_neg h, List.filter_append]
        simp
    · by_cases h : z ∈ xs
      · rw [if_pos h, if_pos (List.mem_cons_of_mem _ h), once]
      · rw [if_neg h, if_neg (fun q => (List.mem_cons.mp q).elim e h), once, List.filter_append]
        simp [e]
theorem many_snoc (xs : List Str) (z : Str) : many (xs ++ [z]) = if z ∈ xs then many xs else many xs + 1 := by
  unfold many
  rw [once_snoc]
  split
  · rfl
  · rw [List.length_append]; rfl
theorem once_le : ∀ xs : List Str, (once xs).length ≤ xs.length
  | [] => Nat.le_refl _
  | x :: xs => by
    rw [once, List.length_cons, List.length_cons]
    have := List.length_filter_le (fun y => decide (y ≠ x)) (once xs)
    have := once_le xs
    omega
theorem once_nodup : ∀ {xs : List Str}, xs.Nodup → once xs = xs
  | [], _ => rfl
  | x :: xs, h => by
    obtain ⟨h1, h2⟩ := List.nodup_cons.mp h
    rw [once, once_nodup h2]
    congr 1
    exact List.filter_eq_self.mpr fun y hy => decide_eq_true fun e => h1 (e ▸ hy)
section
variable {P : Program} {w : World} {A : Around} {R : Result → Shared → Prop} {I : Addr} {fp wr : List Addr} {G : Array GenState → Array GenState → Prop} {Pv : Nat → Value → Prop} {St : Nat → Shared → Prop}
theorem SetT.congr {h : Heap} {p : Addr} {M M' : Str → Bool} {m m' : Nat} (r : SetT w h p M m) (e : ∀ z, M z = M' z) (en : m = m') : SetT w h p M' m' := by
  obtain rfl : M = M' := funext e
  exact en ▸ r
theorem fillT (xs : List Str) (W : WalksS P w A.in1 I fp wr G xs.length Pv St) (p : Addr) (pf : p ∉ fp) (isx : ∀ i v, Pv i v → ∃ z tz, xs[i]? = some z ∧ v = Value.str z tz) (room : xs.length + 1 < scanBound) :
    ∀ (d i : Nat) (s : Shared), xs.length - i = d → i ≤ xs.length → St i s → SetT w s.heap p (fun z => decide (z ∈ xs.take i)) (many (xs.take i)) →
      (∀ s', Moved (p :: wr) G s s' → SetT w s'.heap p (fun z => decide (z ∈ xs)) (many xs) → R (.ok (.ret .none)) s') → codeAny (model P w) A (.builtin "set.update.loop" ⟨[.ref p, .ref I], []⟩) R s := by
  have pw : p ∉ wr := fun o => pf (W.sub _ o)
  have more : ∀ b ∈ wr, b ∈ p :: wr := fun b hb => List.mem_cons_of_mem _ hb
  intro d
  induction d with
  | zero =>
    intro i s hd hi st r done
    obtain rfl : i = xs.length := by omega
    rw [List.take_length] at r
    refine codeAny_builtin F.entry_set_update_loop ?_
    rw [Around.under_plainId F.plain_set_update_loop _]
    show wpAny _ A.in1 (pyNext (.ref I) >>= _) _ _ s
    refine wpAny_bind (W.done s _ _ st fun s' mv => ?_)
    show wpAny _ A.in1 (ret Value.none) _ _ s'
    exact wpAny_pure (done s' (mv.mono more) (r.at fun o e => mv.heap p o pw e))
  | succ d ih =>
    intro i s hd hi st r done
    have lt : i < xs.length := by omega
    refine codeAny_builtin F.entry_set_update_loop ?_
    rw [Around.under_plainId F.plain_set_update_loop _]
    show wpAny _ A.in1 (pyNext (.ref I) >>= _) _ _ s
    refine wpAny_bind (W.item i s _ _ lt st fun v s' hv st' mv => ?_)
    obtain ⟨z, tz, hz, rfl⟩ := isx i v hv
    obtain ⟨_, ez⟩ := List.getElem?_eq_some_iff.mp hz
    have r' : SetT w s'.heap p (fun z => decide (z ∈ xs.take i)) (many (xs.take i)) := r.at fun o e => mv.heap p o pw e
    show wpAny _ A.in1 (holding [Value.str z tz] (setAdd p (.str z tz)) >>= _) _ _ s'
    refine wpAny_bind (wpAny_holding ?_)
    unfold setAdd
    refine wpAny_holding (wpAny_bind ((kS P w).pyHash (k := z) (strKind_is _ _ _ _) ?_))
    have roomi : many (xs.take i) + 1 < scanBound := by
      have := once_le (xs.take i)
      rw [List.length_take] at this
      unfold many
      omega
    refine putT (s := { s' with toks := s'.toks + 1 }) r' roomi fun h' sb r2 => ?_
    have r3 : SetT w h' p (fun y => decide (y ∈ xs.take (i + 1))) (many (xs.take (i + 1))) := r2.congr (fun y => by
      rw [List.take_succ_eq_append_getElem lt, ez, Bool.eq_iff_iff]
      simp) (by
      rw [List.take_succ_eq_append_getElem lt, ez, many_snoc]
      by_cases q : z ∈ xs.take i
      · rw [if_pos q, if_pos (decide_eq_true q)]
      · rw [if_neg q, if_neg (by rw [decide_eq_true_eq]; exact q)])
    refine wpAny_pure ⟨plainId_quiet F.plain_set_update_loop _, ih (i + 1) _ (by omega) lt (W.frame _ s' _ _ st' (Nat.le_succ _) fun b hb o e => ?_) r3 fun s2 mv2 r4 => ?_⟩
    · rw [sb.2 b fun q : b = p => pf (q ▸ hb)]
      exact e
    · refine done s2 (Moved.trans W.gtrans ((mv.mono more).then_heap (Nat.le_succ _) fun b o hb e => ?_) mv2) r4
      rw [sb.2 b fun q : b = p => hb (q ▸ List.mem_cons_self)]
      exact e
end
end TX

namespace TX
open PySem PySem.Spec PyProof.Rows L2
section
variable {P : Program} {w : World} {A : Around} {E : Value → Shared → Prop} {s : Shared}
/-- the heap with a new, empty set -/
abbrev bare (w : World) (h : Heap) : Heap := h.push { cls := .type "set", dict := none, data := .set #[] 0 (.fresh 0 0 (!w.params.followText "set-order")) }
theorem bare_at {h : Heap} (w : World) : (bare w h).get? h.objs.size = some { cls := .type "set", dict := none, data := .set #[] 0 (.fresh 0 0 (!w.params.followText "set-order")) } := Heap.get?_push_size _ rfl
theorem bareT {h h2 : Heap} (k : ∀ o, (bare w h).get? h.objs.size = some o → h2.get? h.objs.size = some o) : SetT w h2 h.objs.size (fun _ => false) 0 :=
  ⟨_, #[], 0, _, k _ (bare_at w), ⟨rfl, rfl, rfl⟩, rfl, (fun c hc => by simp at hc), (by simp), (fun z => by simp), (by decide), (by rfl), rfl, List.Pairwise.nil, by
    show _ ∨ (!w.params.followText "set-order") = true
    cases w.params.followText "set-order" with
    | true => exact .inl rfl
    | false => exact .inr rfl⟩
theorem new_bare (a : Value) {R : Value → Shared → Prop} (k : R (.ref s.heap.objs.size) { s with heap := bare w s.heap }) : codeAny (model P w) A (.call (.builtin "set.__new__") ⟨[.type "set", a], []⟩) (wants R E) s := by
  refine codeAny_of_tree ?_
  show wpAny _ A.in1 (do checkBuiltinCall "set.__new__" ⟨[.type "set", a], []⟩; again (.builtin "set.__new__" ⟨[.type "set", a], []⟩)) _ _ s
  refine wpAny_bind (wpAny_of_eq (F.newCall_set_1 a) (wpAny_pure ⟨plainId_quiet F.plain_set_new _, codeAny_builtin F.entry_set_new ?_⟩))
  rw [Around.under_plainId F.plain_set_new _]
  unfold Builtin.«set.__new__» Builtin.Frozenset.newClass
  have self := sub_set_self
  obtain ⟨hp, g, d, tk, os⟩ := s
  dsimp only
  wp_walk
  refine wpAny_askSetting (wpAny_pure ?_)
  dsimp only
  simp only [newObj]
  exact wpAny_bind (wpAny_alloc (wpAny_pure (wpAny_pure k)))
/-- set(xs) of a list of texts -/
theorem set_of_list {l : Addr} {items : Array Value} {xs : List Str} {Q : Value → Shared → Prop} (hh : A.handled = none) (hl : s.heap.IsList l items) (hx : StrsAre items.toList xs) (room : items.size + 1 < scanBound)
    (k : ∀ (h' : Heap) (tk : Nat), SetT w h' s.heap.objs.size (fun z => decide (z ∈ xs)) (many xs) → (∀ b o, b < s.heap.objs.size → s.heap.get? b = some o → h'.get? b = some o) → Q (.ref s.heap.objs.size) { s with heap := h', toks := tk }) :
    wpAny (model P w) A (call (.type "set") [.ref l]) Q E s := by
  obtain ⟨c, tl, mro⟩ := F.called_set.mro
  have made := F.called_set.made
  have sub := F.called_set.sub
  have lenx : items.size = xs.length := by rw [← Array.length_toList, strs_len hx]
  refine wpAny_call (codeAny_of_tree ?_)
  show wpAny _ _ (callAny (.type "set") _) _ _ _
  refine wpAny_pure ⟨Code.quiet_builtin _ (by decide +kernel), codeAny_builtin F.entry_type_call ?_⟩
  rw [Around.under_plain (weight_type_call_type "set" [.ref l] []) rfl]
  have n1 := F.called_set.notType
  have n2 := F.called_set.canCreate
  have n3 := F.typeCall_set_1 (.ref l)
  repeat (any_goals (first | assumption | wp_step))
  refine codeAny_mono (new_bare (.ref l) (E := E) (R := fun ob s1 => ob = .ref s.heap.objs.size ∧ s1 = { s with heap := bare w s.heap }) ⟨rfl, rfl⟩) fun r s1 hr => ?_
  cases r with
  | error e => exact hr
  | ok fl =>
    cases fl with
    | next => exact hr.elim
    | brk => exact hr.elim
    | cont => exact hr.elim
    | ret ob =>
      obtain ⟨rfl, rfl⟩ := hr
      have at0 := bare_at (h := s.heap) w
      have isS : Shared.TypeIs { s with heap := bare w s.heap } (.ref s.heap.objs.size) "set" := ⟨_, at0, rfl⟩
      have n4 := F.called_set.init.lookup
      have n5 := F.called_set.init.bind (.ref s.heap.objs.size)
      repeat (any_goals (first | assumption | wp_step))
      refine codeAny_mono (codeAny_call_builtin (R := wants (fun r s2 => r = .none ∧ ∃ h' tk, s2 = { s with heap := h', toks := tk } ∧ SetT w h' s.heap.objs.size (fun z => decide (z ∈ xs)) (many xs) ∧ (∀ b o, b < s.heap.objs.size → s.heap.get? b = some o → h'.get? b = some o)) E)
        F.called_set.init.plain F.entry_set_init (check_set_init_1 isS ?_)) fun r2 s2 hr2 => ?_
      · obtain ⟨ol, hol, hcl, nl, hdl⟩ := hl
        obtain ⟨ocls, odict, odata, oslots⟩ := ol
        simp only at hcl hdl
        subst hcl hdl
        have hol' : (bare w s.heap).get? l = some { cls := .type "list", dict := odict, data := .seq items nl, slots := oslots } := Heap.get?_push_of_some _ hol
        have m1 := F.sub_list_set
        have m2 := F.sub_list_frozenset
        have m3 : (Value.type "list" == Value.type "dict") = false := by decide
        have isl : (bare w s.heap).IsList l items := ⟨_, hol', rfl, nl, rfl⟩
        unfold Builtin.«set.__init__» noKeywords Builtin.Frozenset.updateFrom
        generalize hPI : pyIter = PI
        wp_walk
        subst hPI
        refine wpAny_pyIter_list isl (wpAny_bind (wpAny_runValue ?_))
        have lS : l < s.heap.objs.size := Heap.lt_size hol
        have size1 : (bare w s.heap).objs.size = s.heap.objs.size + 1 := Heap.size_push _ _
        have hh3 : A.in1.in1.in1.handled = none := by simp [hh]
        have lI : l ≠ (bare w s.heap).objs.size := by rw [size1]; exact Nat.ne_of_lt (Nat.lt_succ_of_lt lS)
        have notF : s.heap.objs.size ∉ [(bare w s.heap).objs.size, l] := by
          rw [size1]
          simp only [List.mem_cons, List.not_mem_nil, or_false, not_or]
          exact ⟨Nat.ne_of_lt (Nat.lt_succ_self _), Nat.ne_of_gt lS⟩
        have isx : ∀ (i : Nat) (v : Value), items[i]? = some v → ∃ z tz, xs[i]? = some z ∧ v = Value.str z tz := fun i v hv => strs_get hx i v (by rw [Array.getElem?_toList]; exact hv)
        have W := (Walks.list (prog := P) (w := w) hh3 (bare w s.heap).objs.size l lI items).toS
        rw [lenx] at W room
        refine fillT xs W s.heap.objs.size notF isx room xs.length 0 _ rfl (Nat.zero_le _) ⟨⟨_, Heap.get?_push_size _ rfl, rfl, rfl⟩, (isl.push _)⟩ ((bareT fun o e => Heap.get?_push_of_some _ e).congr (fun z => rfl) rfl) ?_
        intro s' mv r
        obtain ⟨h', g', d', tk', os'⟩ := s'
        obtain rfl : g' = s.gens := mv.gens
        obtain rfl : d' = s.drawn := mv.drawn
        obtain rfl : os' = s.os := mv.os
        show wpAny _ _ _ _ _ _
        refine wpAny_pure ?_
        show wpAny _ _ (ret Value.none) _ _ _
        refine wpAny_pure ⟨rfl, h', tk', rfl, r, fun b o hb e => mv.heap b o ?_ (Heap.get?_push_of_some _ (Heap.get?_push_of_some _ e))⟩
        have b1 : b ≠ s.heap.objs.size := Nat.ne_of_lt hb
        have b2 : b ≠ (bare w s.heap).objs.size := by rw [size1]; exact Nat.ne_of_lt (Nat.lt_succ_of_lt hb)
        simp only [List.mem_cons, List.not_mem_nil, or_false, not_or]
        exact ⟨b1, b2⟩
      · cases r2 with
        | error e => exact hr2
        | ok f2 =>
          cases f2 with
          | ret r =>
            obtain ⟨rfl, h', tk, rfl, r, kp⟩ := hr2
            repeat (any_goals (first | assumption | wp_step))
            exact k _ _ r kp
          | next => exact hr2.elim
          | brk => exact hr2.elim
          | cont => exact hr2.elim
end
end TX

namespace TX
open PySem PySem.Spec PyProof.Rows L2
section
variable {P : Program} {w : World} {A : Around} {E : Value → Shared → Prop} {s : Shared}
/-- sorted(a set of texts) -/
theorem sort_set {p : Addr} {M : Str → Bool} {m : Nat} {Q : Value → Shared → Prop} (R : SetT w s.heap p M m) (hh : A.handled = none) (few64 : m < 64)
    (k : ∀ s' q (out : Array Value) (c : Nat) (ys : List Str), (∀ b o, s.heap.get? b = some o → s'.heap.get? b = some o) → s'.gens = s.gens → s'.os = s.os → s.heap.objs.size ≤ q → s'.heap.get? q = some (seqObj "list" out c) →
      StrsAre out.toList ys → sortedS ys = true → ys.Nodup → (∀ z, z ∈ ys ↔ M z = true) → ys.length = m → Q (.ref q) s') :
    wpAny (model P w) A (call (.builtin "sorted") [.ref p]) Q E s := by
  obtain ⟨ob, cs, ep, tb, e0, ex, ed, good, unl, mem, few, fit, num, ris, led⟩ := R
  refine Calls.call_function_entry kind_sorted plain_sorted entry_sorted (args_sorted1 _) ?_
  unfold Builtin.«sorted»
  refine wpAny_bind (m := checkCount "sorted" 1 1 _) (wpAny_pure (wpAny_bind (collect_set (A := A.in1) hh ⟨ob, e0, ex.1, ed⟩ fit few ris led fun s1 vs k1 hz g1 o1 pm => ?_)))
  have lenv : vs.length = m := by rw [pm.length_eq, List.length_map, Array.length_toList]; exact num
  have hst : StrsAre vs (vs.map strOf) := strsAre_map vs fun v hv => by
    obtain ⟨c, hc, q⟩ := List.mem_map.mp (pm.mem_iff.mp hv)
    obtain ⟨z, tz, e1, _⟩ := good c hc
    exact ⟨z, tz, by rw [← q]; exact e1⟩
  have permv : (vs.map strOf).Perm (cs.toList.map txt) := by
    have q := pm.map strOf
    rw [List.map_map] at q
    exact q
  refine wpAny_bind (wpAny_newList ?_ (by rw [lenv, sizeLine_eq]; omega))
  have atL : (s1.heap.push (seqObj "list" vs.toArray 0)).get? s1.heap.objs.size = some (seqObj "list" vs.toArray 0) := Heap.get?_push_size _ rfl
  refine wpAny_bind (wpAny_holding (wpAny_call_entry slot_list_sort ⟨_, atL, rfl⟩ entry_list_sort (list_sort_treeK strKind_oneLt atL hst.keysOf (fun v1 v2 rest e => keyKind_strs (by rw [← e]; exact hst)) (by rw [lenv]; exact few64) fun st' a1 a2 => ⟨_, rfl, ?_⟩) (args_list_sort _)))
  obtain ⟨ys, y1, y2, y3⟩ := sorted_out_str hst a1 a2
  obtain ⟨c, hc⟩ := sortedHeap_at (vs := vs) (out := (arrOf st').map (·.2)) atL
  have perm : ys.Perm (cs.toList.map txt) := y2.trans permv
  refine wpAny_pure ⟨_, rfl, k _ s1.heap.objs.size _ c ys (fun b u e => ?_) g1 o1 hz hc y1 y3 (perm.nodup_iff.mpr unl) (fun z => by rw [perm.mem_iff, mem z]) (by rw [perm.length_eq, List.length_map, Array.length_toList]; exact num)⟩
  have q := k1 b u e
  have lt := Heap.lt_size q
  show (sortedHeap (s1.heap.push (seqObj "list" vs.toArray 0)) s1.heap.objs.size vs _).get? b = some u
  rw [sortedHeap_old (Nat.ne_of_lt lt) (by rw [size_push']; exact Nat.lt_succ_of_lt lt)]
  exact Heap.get?_push_of_some _ q
end
/-! in the hand layer -/
def SetX (w : World) (p : Addr) (M : Str → Bool) (m : Nat) : HO := .ext fun h => SetT w h p M m
section
variable {X : Cx}
theorem setX_ok {w : World} {P : Program} {H : Hp} {h : Heap} {p : Addr} {M : Str → Bool} {m : Nat} (R : SetT w h p M m) : ObjOk P w H h p (SetX w p M m) := by
  have ⟨ob, _, _, _, e, _⟩ := R
  exact ⟨R, ⟨ob, e⟩, fun h1 h2 _ k => SetT.at ‹_› k⟩
theorem setX_at {pins : List (Addr × Obj)} {σ : L2.St} {H : Hp} {s : Shared} {p : Addr} {M : Str → Bool} {m : Nat} (I : Inv X pins σ H s) (e : H p = some (SetX X.w p M m)) : SetT X.w s.heap p M m := (I.hok p _ e).1
/-- set(xs) -/
def rSetX (K : PySem.W.Frag) (w : World) : List V → Hp → VK → Prop := fun vs H Q => ∃ (l : Addr) (xs : List Str), vs = [.ref l] ∧ SqL K H l (xs.map V.str) ∧ xs.length ≤ 1000 ∧ ∀ p, H p = none → Q (.ref p) (upd H p (SetX w p (fun z => decide (z ∈ xs)) (many xs)))
theorem cr_setX (hc : X.calm = true) : CallR X (.type "set") (rSetX X.K X.w) := by
  intro pins s σ H vs us Q I r h
  obtain ⟨l, xs, rfl, hl, few, q⟩ := h
  obtain ⟨its, rv, isl, _⟩ := I.list hl
  rw [Vals.ref1 r]
  have lenv := rv.length
  rw [List.length_map] at lenv
  refine set_of_list (I.ok.hd hc) isl.isList (by simpa using rv.strs) (by rw [List.size_toArray, ← lenv]; unfold scanBound; omega) fun h' tk r kp => ?_
  have n0 := I.hok.fresh (Nat.le_refl s.heap.objs.size)
  exact ⟨.ref _, _, I.laid (t' := tk) (fun b o e => kp b o (Heap.lt_size e) e) (Nat.le_refl _) (setX_ok r), rfl, q _ n0⟩
/-- len(set) -/
def rLenX (w : World) : List V → Hp → VK → Prop := fun vs H Q => ∃ (p : Addr) (M : Str → Bool) (m : Nat), vs = [.ref p] ∧ H p = some (SetX w p M m) ∧ Q (.int m) H
theorem cr_lenX : CallR X (.builtin "len") (rLenX X.w) := by
  intro pins s σ H vs us Q I r h
  obtain ⟨p, M, m, rfl, e, q⟩ := h
  obtain ⟨ob, cs, ep, tb, e0, ex, ed, good, unl, mem, few, fit, num, _⟩ := setX_at I e
  rw [Vals.ref1 r]
  refine call_len_set e0 ex ed fit (by unfold scanBound at few; omega) ⟨.int m, H, (I.tok _), ⟨_, by rw [num]⟩, q⟩
/-- sorted(set), fewer than 64 -/
def rSortX (w : World) : List V → Hp → VK → Prop := fun vs H Q => ∃ (p : Addr) (M : Str → Bool) (m : Nat), vs = [.ref p] ∧ H p = some (SetX w p M m) ∧ m < 64 ∧
  ∀ (ys : List Str) (l : Addr), sortedS ys = true → ys.Nodup → (∀ z, z ∈ ys ↔ M z = true) → ys.length = m → H l = none → Q (.ref l) (upd H l (.lst (ys.map V.str)))
theorem cr_sortX (hc : X.calm = true) : CallR X (.builtin "sorted") (rSortX X.w) := by
  intro pins s σ H vs us Q I r h
  obtain ⟨p, M, m, rfl, e, few64, q⟩ := h
  rw [Vals.ref1 r]
  refine sort_set (setX_at I e) (I.ok.hd hc) few64 fun s' l out c ys kp g o hl hg hs h1 h2 h3 h4 => ?_
  have lenY : (ys.map V.str).length ≤ sizeLine := by rw [List.length_map, h4, sizeLine_eq]; omega
  have nl : H l = none := I.hok.fresh hl
  have J : Inv X pins σ (upd H l (.lst (ys.map V.str))) { s with heap := s'.heap, gens := s'.gens, drawn := s'.drawn, toks := s'.toks } :=
    I.call (ch := []) (Un.laid kp hl nl) (I.hok.laid kp hl ⟨lenY, out.toList, c, vals_of_strs hs, hg⟩) (by rw [g]; exact I.bare) (fun _ z => nomatch z)
  have same : s' = { s with heap := s'.heap, gens := s'.gens, drawn := s'.drawn, toks := s'.toks } := by
    cases s'
    cases s
    cases o
    rfl
  rw [same]
  exact ⟨.ref l, _, J, rfl, q ys l h1 h2 h3 h4 nl⟩
end
end TX

namespace KT
open PySem PySem.Spec PyProof.Rows L2 C8 XE XR TX
/-! holes_in, labels_in, is_left, is_right -/
abbrev sHoI : Stmt := top 18
abbrev sLaI : Stmt := top 19
abbrev sIsL : Stmt := top 20
abbrev sIsR : Stmt := top 21
abbrev NHoI : List Str := ["shape", "node"]
theorem scHoI : FnScope NHoI ["shape"] (fnScope sHoI) := fnScope_by (by decide +kernel)
theorem scLaI : FnScope NHoI ["shape"] (fnScope sLaI) := fnScope_by (by decide +kernel)
theorem scIsL : FnScope ["thing", "holes"] ["thing"] (fnScope sIsL) := fnScope_by (by decide +kernel)
theorem scIsR : FnScope ["thing", "holes", "hole"] ["thing", "holes"] (fnScope sIsR) := fnScope_by (by decide +kernel)
mutual
/-- the labels, in order -/
def lnm : D → List Str
  | .sq (.fl (.str z) :: cs) => z :: lnms cs
  | .sq (_ :: cs) => lnms cs
  | _ => []
def lnms : List D → List Str
  | [] => []
  | c :: cs => lnm c ++ lnms cs
end
def hdOf : D → List Str
  | .sq (.fl (.str z) :: _) => [z]
  | _ => []
def stOf : D → List Str
  | .fl (.str z) => [z]
  | _ => []
mutual
theorem nodes_hnm : ∀ d : D, (nodesD d).flatMap stOf = hnm d
  | .fl x => by cases x <;> simp [nodesD, hnm, stOf]
  | .emp => by simp [nodesD, hnm, stOf]
  | .sq [] => by simp [nodesD, hnm, stOf]
  | .sq (x :: cs) => by rw [nodesD, hnm, List.flatMap_cons, nodess_hnm cs]; rfl
theorem nodess_hnm : ∀ cs : List D, (nodesDs cs).flatMap stOf = hnms cs
  | [] => rfl
  | c :: cs => by rw [nodesDs, hnms, List.flatMap_append, nodes_hnm c, nodess_hnm cs]
end
mutual
theorem nodes_lnm : ∀ d : D, (nodesD d).flatMap hdOf = lnm d
  | .fl x => by cases x <;> simp [nodesD, lnm, hdOf]
  | .emp => by simp [nodesD, lnm, hdOf]
  | .sq [] => by simp [nodesD, lnm, hdOf]
  | .sq (x :: cs) => by
    rw [nodesD, List.flatMap_cons, nodess_lnm cs]
    cases x with
    | fl v => cases v <;> rfl
    | _ => rfl
theorem nodess_lnm : ∀ cs : List D, (nodesDs cs).flatMap hdOf = lnms cs
  | [] => rfl
  | c :: cs => by rw [nodesDs, lnms, List.flatMap_append, nodes_lnm c, nodess_lnm cs]
end
theorem hnm_le (d : D) : (hnm d).length ≤ sz d := by rw [hnm_nh, ← holes_nh]; exact (holes_le d).1
theorem flat_len {f : D → List Str} (h : ∀ d, (f d).length ≤ 1) : ∀ ds : List D, (ds.flatMap f).length ≤ ds.length
  | [] => Nat.le_refl _
  | d :: ds => by rw [List.flatMap_cons, List.length_append, List.length_cons]; have := h d; have := flat_len h ds; omega
theorem lnm_le (d : D) : (lnm d).length ≤ sz d := by
  rw [← nodes_lnm]
  refine Nat.le_trans (flat_len (fun d => ?_) _) (nodes_sz d)
  unfold hdOf
  split <;> simp
def spHoI (g : D → List Str) : Sp := fun vs H Q _ => ∃ (v : V) (d : D) (F : Addr → Prop), vs = [v] ∧ DAt F H v d ∧ isSh d = true ∧ sz d ≤ 5000 ∧ ∀ l H', H l = none → Same H H' → H' l = some (.lst ((g d).map V.str)) → Q (.ref l) H'
def leftB (d : D) : Bool := isSh d && (!isSt d && (decide (("keep" : Str) ∉ lnm d) && decide (TX.many (hnm d) = (hnm d).length)))
def rightB (d : D) (hs : List Str) : Bool := isSh d && (hnm d).all fun z => decide (z ∈ hs)
def spIsL : Sp := fun vs H Q _ => ∃ (v : V) (d : D) (F : Addr → Prop), vs = [v] ∧ DAt F H v d ∧ shortD d = true ∧ sz d ≤ 900 ∧ ∀ H', Same H H' → Q (.bl (leftB d)) H'
def spIsR : Sp := fun vs H Q _ => ∃ (v : V) (d : D) (F : Addr → Prop) (hl : Addr) (hs : List Str), vs = [v, .ref hl] ∧ DAt F H v d ∧ shortD d = true ∧ sz d ≤ 900 ∧ H hl = some (.lst (hs.map V.str)) ∧ ∀ H', Same H H' → Q (.bl (rightB d hs)) H'
theorem inV_str (z : Str) (hs : List Str) : inV (.str z) (hs.map V.str) = decide (z ∈ hs) := by
  rw [isOf_flat rfl]
  unfold isOf
  by_cases h : z ∈ hs
  · rw [decide_eq_true h]
    exact List.any_eq_true.mpr ⟨z, h, beq_self_eq_true z⟩
  · rw [decide_eq_false h]
    exact List.any_eq_false.mpr fun y hy e => h (by rw [← beq_iff_eq.mp e]; exact hy)
theorem all_flat (hs : List Str) : (hs.map V.str).all flatV = true := List.all_eq_true.mpr fun v hv => by
  obtain ⟨z, _, rfl⟩ := List.mem_map.mp hv
  rfl
section
variable {P : Program} {w : World} {K : PySem.W.Frag} {mg : Str → Option Value} {base : Heap}
theorem c_hoI {f : Addr} {fd : FuncData} (F : Def K mg "holes_in" sHoI f fd) (b : Binds K fd ["shape"] []) (T : Blt4 mg) (CN : Cal P w K mg base 2 "nodes_in_order" spNodes []) (CH : Cal P w K mg base 1 "is_hole" spHole []) : Cal P w K mg base 3 "holes_in" (spHoI hnm) [] := by
  refine cal0 F b .nil scHoI (fun vs H Q E h => ?_) (fun cdv A outer s H vs Q E hr h => ?_)
  · obtain ⟨v, d, G, rfl, _⟩ := h
    rfl
  · obtain ⟨v, d, G, rfl, hv, hsh, hz, k⟩ := h
    have nd := scHoI.nd
    refine ⟨_, pss_one (ps_ret (pe_lc (own := [("node", 1)]) (g := gName 1) (tt := _) rfl nd (pi_list (pe_c CN hr (by decide) (by rfl) (pa_cons (pv 0) pa_nil))) (blkOk_by (N := NHoI) (sc := fnScope sHoI) (by decide +kernel)) (fun _ _ _ _ _ => pg_name (i := 1) nd rfl (Or.inl rfl))
        (fun _ _ _ _ _ => pts_one (pt_val (pe_c CH hr (by decide) (by rfl) (pa_cons (pv 1) pa_nil)))) (fun _ _ _ _ _ => pv 1))), ?_⟩
    have hsl := sizeLine_eq
    refine ⟨_, rfl, v, d, G, rfl, hv, hsh, hz, fun lq us H1 nlq s1 hlq hus => ⟨lq, rfl, ⟨us, SqL.of hlq⟩, fun Da nDa => ?_⟩⟩
    have hul := hus.len
    have hnz := nodes_sz d
    have hnn := nodes_hnm d
    have hns : ∀ n ∈ nodesD d, isSh n = true := isSh_nodes hsh
    generalize nodesD d = ns at hus hul hnz hnn hns
    refine lc_gen (J := Itl K lq) us.length (fun i H' => H' Da = some (.lst (((ns.take i).flatMap stOf).map V.str)) ∧ Same H1 H') ⟨upd_same, same_upd nDa⟩ (fun i H' hi ⟨_, sm⟩ => ⟨us, us.getD i .non, SqL.of (sm _ _ hlq), getD_at hi⟩) (fun H' ⟨_, sm⟩ => ⟨us, SqL.of (sm _ _ hlq), Nat.le_refl _⟩) (fun i H' x H'' hi ⟨hD, sm⟩ yl => ?_) (fun H' ⟨hD, sm⟩ => ?_)
    · obtain ⟨rfl, hx⟩ := yl
      have hx := hx _ (SqL.of (sm _ _ hlq))
      obtain ⟨n, hn, hxn⟩ := hus.get hx
      obtain ⟨hlt, en⟩ := List.getElem?_eq_some_iff.mp hn
      have hx1 := DAt.hold (.same (s1.trans sm)) _ hxn
      have hfl : ((ns.take i).flatMap stOf).length ≤ i := by
        have h1 : ((ns.take i).flatMap stOf).length ≤ (ns.take i).length := flat_len (fun d => by unfold stOf; split <;> simp) (ns.take i)
        rw [List.length_take] at h1
        omega
      refine ⟨rfl, _, rfl, x, n, G, rfl, hx1, _, rfl, ?_⟩
      rcases isSh_inv (hns n (List.mem_of_getElem? hn)) with ⟨z, rfl, _⟩ | ⟨z, cs, rfl, _⟩
      · obtain ⟨rfl, _⟩ := hx1
        refine iteBt rfl ⟨_, rfl, _, hD, by rw [List.length_map]; omega, ?_, fun b o e => by rw [upd_ne (ne_of_none e nDa)]; exact sm _ _ e⟩
        rw [upd_same, List.take_succ_eq_append_getElem hlt, en, List.flatMap_append, List.map_append]
        rfl
      · refine iteBf rfl ⟨?_, sm⟩
        rw [hD, List.take_succ_eq_append_getElem hlt, en, List.flatMap_append]
        show _ = some (HO.lst ((_ ++ []).map V.str))
        rw [List.append_nil]
    · rw [hul, List.take_length, hnn] at hD
      exact k Da H' (same_free s1 nDa) (s1.trans sm) hD
theorem c_laI {f : Addr} {fd : FuncData} (F : Def K mg "labels_in" sLaI f fd) (b : Binds K fd ["shape"] []) (T : Blt4 mg) (CN : Cal P w K mg base 2 "nodes_in_order" spNodes []) (CH : Cal P w K mg base 1 "is_hole" spHole []) : Cal P w K mg base 3 "labels_in" (spHoI lnm) [] := by
  refine cal0 F b .nil scLaI (fun vs H Q E h => ?_) (fun cdv A outer s H vs Q E hr h => ?_)
  · obtain ⟨v, d, G, rfl, _⟩ := h
    rfl
  · obtain ⟨v, d, G, rfl, hv, hsh, hz, k⟩ := h
    have nd := scLaI.nd
    refine ⟨_, pss_one (ps_ret (pe_lc (own := [("node", 1)]) (g := gName 1) (tt := _) rfl nd (pi_list (pe_c CN hr (by decide) (by rfl) (pa_cons (pv 0) pa_nil))) (blkOk_by (N := NHoI) (sc := fnScope sLaI) (by decide +kernel)) (fun _ _ _ _ _ => pg_name (i := 1) nd rfl (Or.inl rfl))
        (fun _ _ _ _ _ => pts_one (pt_not (pt_val (pe_c CH hr (by decide) (by rfl) (pa_cons (pv 1) pa_nil))))) (fun _ _ _ _ _ => pe_ix (show IxR _ (rIx K) from ix_seq) (pv 1) pe_int fun _ _ => rfl))), ?_⟩
    have hsl := sizeLine_eq
    refine ⟨_, rfl, v, d, G, rfl, hv, hsh, hz, fun lq us H1 nlq s1 hlq hus => ⟨lq, rfl, ⟨us, SqL.of hlq⟩, fun Da nDa => ?_⟩⟩
    have hul := hus.len
    have hnz := nodes_sz d
    have hnn := nodes_lnm d
    have hns : ∀ n ∈ nodesD d, isSh n = true := isSh_nodes hsh
    generalize nodesD d = ns at hus hul hnz hnn hns
    refine lc_gen (J := Itl K lq) us.length (fun i H' => H' Da = some (.lst (((ns.take i).flatMap hdOf).map V.str)) ∧ Same H1 H') ⟨upd_same, same_upd nDa⟩ (fun i H' hi ⟨_, sm⟩ => ⟨us, us.getD i .non, SqL.of (sm _ _ hlq), getD_at hi⟩) (fun H' ⟨_, sm⟩ => ⟨us, SqL.of (sm _ _ hlq), Nat.le_refl _⟩) (fun i H' x H'' hi ⟨hD, sm⟩ yl => ?_) (fun H' ⟨hD, sm⟩ => ?_)
    · obtain ⟨rfl, hx⟩ := yl
      have hx := hx _ (SqL.of (sm _ _ hlq))
      obtain ⟨n, hn, hxn⟩ := hus.get hx
      obtain ⟨hlt, en⟩ := List.getElem?_eq_some_iff.mp hn
      have hx1 := DAt.hold (.same (s1.trans sm)) _ hxn
      have hfl : ((ns.take i).flatMap hdOf).length ≤ i := by
        have h1 : ((ns.take i).flatMap hdOf).length ≤ (ns.take i).length := flat_len (fun d => by unfold hdOf; split <;> simp) (ns.take i)
        rw [List.length_take] at h1
        omega
      refine ⟨rfl, _, rfl, x, n, G, rfl, hx1, _, rfl, ?_⟩
      rcases isSh_inv (hns n (List.mem_of_getElem? hn)) with ⟨z, rfl, _⟩ | ⟨z, cs, rfl, _⟩
      · refine iteBf rfl ⟨?_, sm⟩
        rw [hD, List.take_succ_eq_append_getElem hlt, en, List.flatMap_append]
        show _ = some (HO.lst ((_ ++ []).map V.str))
        rw [List.append_nil]
      · obtain ⟨a, vs, rfl, q, _, hvs⟩ := hx1
        match vs, hvs with
        | [], hvs => exact hvs.elim
        | u :: us', ⟨⟨eu, _⟩, _⟩ =>
          subst eu
          have fin : ∃ acc, H'' Da = some (.lst acc) ∧ acc.length < sizeLine ∧ (upd H'' Da (.lst (acc ++ [.str z]))) Da = some (.lst (((ns.take (i + 1)).flatMap hdOf).map V.str)) ∧ Same H1 (upd H'' Da (.lst (acc ++ [.str z]))) := by
            refine ⟨_, hD, by rw [List.length_map]; omega, ?_, fun b o e => by rw [upd_ne (ne_of_none e nDa)]; exact sm _ _ e⟩
            rw [upd_same, List.take_succ_eq_append_getElem hlt, en, List.flatMap_append, List.map_append]
            rfl
          refine iteBt rfl ⟨_, rfl, ?_⟩
          rcases q with q | ⟨_, q⟩
          · exact .inr (.inl ⟨a, _, 0, _, rfl, rfl, SqT.of q, at_of (j := 0) (by omega) rfl, fin⟩)
          · exact .inl ⟨a, _, 0, _, rfl, rfl, SqL.of q, at_of (j := 0) (by omega) rfl, fin⟩
    · rw [hul, List.take_length, hnn] at hD
      exact k Da H' (same_free s1 nDa) (s1.trans sm) hD
theorem c_isL {f : Addr} {fd : FuncData} (F : Def K mg "is_left" sIsL f fd) (b : Binds K fd ["thing"] []) (T : Blt4 mg) (hset : mg "set" = none) (G : Gs mg) (CS : Cal P w K mg base 2 "is_shape" spIsSh []) (CH : Cal P w K mg base 1 "is_hole" spHole []) (CL : Cal P w K mg base 3 "labels_in" (spHoI lnm) []) (CO : Cal P w K mg base 3 "holes_in" (spHoI hnm) []) : Cal P w K mg base 4 "is_left" spIsL [] := by
  refine cal0 F b .nil scIsL (fun vs H Q E h => ?_) (fun cdv A outer s H vs Q E hr h => ?_)
  · obtain ⟨v, d, G, rfl, _⟩ := h
    rfl
  · obtain ⟨v, d, GF, rfl, hv, hs, hz, k⟩ := h
    have nd := scIsL.nd
    refine ⟨_, pss_cons (ps_if (pw_or (pt_not (pt_val (pe_c CS hr (by decide) (by rfl) (pa_cons (pv 0) pa_nil)))) (pw_or (pt_val (pe_c CH hr (by decide) (by rfl) (pa_cons (pv 0) pa_nil)))
          (pw_or1 (pt_cmpR op_in_seq (pe_gc (by rfl) G.kee) (pe_c CL hr (by decide) (by rfl) (pa_cons (pv 0) pa_nil)) (by rfl))))).pt (pss_one (ps_ret pe_bl)) pss_nil)
      (pss_cons (ps_set (i := 1) nd rfl (Or.inl rfl) (pe_c CO hr (by decide) (by rfl) (pa_cons (pv 0) pa_nil)))
      (pss_one (ps_ret (pe_cmpR op_eq (pe_callB cr_lenX (by rfl) T.len PySem.boot_len (pa_cons (pe_callTy (cr_setX rfl) (by rfl) hset (by decide +kernel) (pa_cons (pv 1) pa_nil)) pa_nil)) (pe_callB call_len_seq (by rfl) T.len PySem.boot_len (pa_cons (pv 1) pa_nil)) (nomark _))))), ?_⟩
    refine ⟨_, rfl, v, d, GF, rfl, hv, hs, by omega, fun H1 s1 => ⟨_, rfl, ?_⟩⟩
    cases hsh : isSh d with
    | false =>
      refine iteBt rfl ?_
      have := k H1 s1
      rw [leftB, hsh, Bool.false_and] at this
      exact this
    | true =>
      refine iteBf rfl ⟨_, rfl, v, d, GF, rfl, DAt.hold (.same s1) _ hv, _, rfl, ?_⟩
      cases hst : isSt d with
      | true =>
        refine iteBt rfl ?_
        have := k H1 s1
        rw [leftB, hsh, hst] at this
        exact this
      | false =>
        refine iteBf rfl ⟨_, rfl, v, d, GF, rfl, DAt.hold (.same s1) _ hv, hsh, by omega, fun l H2 nl s2 hl => ⟨l, _, rfl, .inl (SqL.of hl), rfl, all_flat _, _, rfl, ?_⟩⟩
        rw [if_neg Bool.false_ne_true, inV_str]
        have s02 := s1.trans s2
        by_cases hk : ("keep" : Str) ∈ lnm d
        · refine iteBt (decide_eq_true hk) ?_
          have := k H2 s02
          rw [leftB, hsh, hst, decide_eq_false (by simpa using hk)] at this
          exact this
        · refine iteBf (decide_eq_false hk) ⟨_, rfl, v, d, GF, rfl, DAt.hold (.same s02) _ hv, hsh, by omega, fun hl H3 nhl s3 hhl => ⟨_, rfl, hl, _, rfl, SqL.of hhl, by have := hnm_le d; omega, fun p np => ⟨p, _, _, rfl, upd_same, _, rfl, hl, _, rfl, .inl (SqL.of (by rw [upd_ne (ne_of_none hhl np)]; exact hhl)), rfl, ?_⟩⟩⟩
          have := k _ (s02.trans (s3.trans (same_upd np (o := SetX w p (fun z => decide (z ∈ hnm d)) (TX.many (hnm d))))))
          rw [leftB, hsh, hst, decide_eq_true hk, Bool.true_and, Bool.not_false, Bool.true_and, Bool.true_and] at this
          rw [List.length_map]
          have e : decide (V.int ((TX.many (hnm d) : Nat) : Int) = V.int (((hnm d).length : Nat) : Int)) = decide (TX.many (hnm d) = (hnm d).length) := by
            rw [decide_eq_decide]
            exact ⟨fun e => by have := V.int.inj e; omega, fun e => by rw [e]⟩
          rw [e]
          exact this
theorem c_isR {f : Addr} {fd : FuncData} (F : Def K mg "is_right" sIsR f fd) (b : Binds K fd ["thing", "holes"] []) (T : Blt4 mg) (CS : Cal P w K mg base 2 "is_shape" spIsSh []) (CO : Cal P w K mg base 3 "holes_in" (spHoI hnm) []) : Cal P w K mg base 4 "is_right" spIsR [] := by
  refine cal0 F b .nil scIsR (fun vs H Q E h => ?_) (fun cdv A outer s H vs Q E hr h => ?_)
  · obtain ⟨v, d, G, hl, hs, rfl, _⟩ := h
    rfl
  · obtain ⟨v, d, GF, hl, hs, rfl, hv, hsd, hz, hhl, k⟩ := h
    have nd := scIsR.nd
    refine ⟨_, pss_one (ps_ret (pe_and (pe_c CS hr (by decide) (by rfl) (pa_cons (pv 0) pa_nil)) (pe_one (pe_callB (cr_all rfl) (by rfl) T.all (by decide +kernel) (pa_cons (pe_lc (own := [("hole", 2)]) (g := gName 2) (tt := tYes) rfl nd (pi_list (pe_c CO hr (by decide) (by rfl) (pa_cons (pv 0) pa_nil))) (blkOk_by (N := ["thing", "holes", "hole"]) (sc := fnScope sIsR) (by decide +kernel))
        (fun _ _ _ _ _ => pg_name (i := 2) nd rfl (Or.inl rfl)) (fun _ _ _ _ _ => pts_nil) (fun _ _ _ _ _ => pe_cmpR (show OpR _ (compareOp .In) (rIn K false) from op_in_seq) (pv 2) (pv 1) (by rfl))) pa_nil))))), ?_⟩
    have hsl := sizeLine_eq
    refine ⟨_, rfl, v, d, GF, rfl, hv, hsd, by omega, fun H1 s1 => ⟨_, rfl, ?_⟩⟩
    cases hsh : isSh d with
    | false =>
      refine iteBf rfl ?_
      have := k H1 s1
      rw [rightB, hsh, Bool.false_and] at this
      exact this
    | true =>
      refine iteBt rfl ?_
      refine ⟨_, rfl, v, d, GF, rfl, DAt.hold (.same s1) _ hv, hsh, by omega, fun lq H2 nlq s2 hlq => ⟨lq, rfl, ⟨_, SqL.of hlq⟩, fun Da nDa => ?_⟩⟩
      have hln := hnm_le d
      have s02 := s1.trans s2
      refine lc_gen (J := Itl K lq) (hnm d).length (fun j H' => H' Da = some (.lst ((((hnm d).take j).map fun z => decide (z ∈ hs)).map V.bl)) ∧ Same H2 H') ⟨upd_same, same_upd nDa⟩ (fun j H' hj ⟨_, sm⟩ => ⟨_, .str (hnm d)[j], SqL.of (sm _ _ hlq), by rw [List.getElem?_map, List.getElem?_eq_getElem hj]; rfl⟩) (fun H' ⟨_, sm⟩ => ⟨_, SqL.of (sm _ _ hlq), by rw [List.length_map]; exact Nat.le_refl _⟩) (fun j H' x H'' hj ⟨hD, sm⟩ yl => ?_) (fun H' ⟨hD, sm⟩ => ?_)
      · obtain ⟨rfl, hx⟩ := yl
        have hx := hx _ (SqL.of (sm _ _ hlq))
        rw [List.getElem?_map, List.getElem?_eq_getElem hj] at hx
        obtain rfl := Option.some.inj hx
        refine ⟨rfl, ?_⟩
        unfold tYes
        dsimp only
        rw [if_pos rfl]
        refine ⟨_, rfl, _, rfl, hl, _, rfl, .inl (SqL.of (sm _ _ (s02 _ _ hhl))), rfl, all_flat _, _, hD, by rw [List.length_map, List.length_map, List.length_take]; omega, ?_, fun b o e => by rw [upd_ne (ne_of_none e nDa)]; exact sm _ _ e⟩
        rw [upd_same, List.take_succ_eq_append_getElem hj, List.map_append, List.map_append, if_neg Bool.false_ne_true, inV_str]
        rfl
      · rw [List.take_length] at hD
        refine ⟨Da, _, rfl, SqL.of hD, ?_⟩
        have := k H' (s02.trans sm)
        rw [rightB, hsh, Bool.true_and] at this
        rw [List.all_map]
        exact this
end
end KT

namespace KT
open PySem PySem.Spec PyProof.Rows L2 C8 XE XR TX
/-! are_labels, wrong_argument: what the law draws is right -/
abbrev sArL : Stmt := top 22
abbrev sWrA : Stmt := top 23
abbrev NAr : List Str := ["thing", "holes", "hole", "labels"]
abbrev NWr : List Str := ["left", "right", "kinds", "bars", "holes"]
theorem scArL : FnScope NAr ["thing", "holes"] (fnScope sArL) := fnScope_by (by decide +kernel)
theorem scWrA : FnScope NWr ["left", "right", "kinds", "bars"] (fnScope sWrA) := fnScope_by (by decide +kernel)
/-- a list of words as data -/
def wsD (xs : List Str) : D := .sq (xs.map fun z => .fl (.str z))
theorem dats_strs {F : Addr → Prop} {H : Hp} : ∀ xs : List Str, DAts F H (xs.map V.str) (xs.map fun z => D.fl (.str z))
  | [] => trivial
  | z :: xs => ⟨⟨rfl, rfl⟩, dats_strs xs⟩
theorem hdOk_strs : ∀ xs : List Str, hdOk (xs.map fun z => D.fl (.str z)) = true
  | [] => rfl
  | _ :: _ => rfl
theorem wsD_at {F : Addr → Prop} {H : Hp} {l : Addr} {xs : List Str} (hl : H l = some (.lst (xs.map V.str))) (f : F l) : DAt F H (.ref l) (wsD xs) := ⟨l, _, rfl, .inr ⟨f, hl⟩, hdOk_strs xs, dats_strs xs⟩
theorem wsD_sz : ∀ xs : List Str, szs (xs.map fun z => D.fl (.str z)) = xs.length
  | [] => rfl
  | z :: xs => by rw [List.map_cons, szs, sz, wsD_sz xs, List.length_cons]; omega
theorem word_le {z : Str} (h : wordS z = true) : z.length ≤ 8 := by
  unfold wordS at h
  rw [Bool.and_eq_true, Bool.and_eq_true] at h
  exact of_decide_eq_true h.2.1
theorem wsD_short : ∀ xs : List Str, (∀ z ∈ xs, wordS z = true) → shortDs (xs.map fun z => D.fl (.str z)) = true
  | [], _ => rfl
  | z :: xs, h => by
    have := word_le (h z List.mem_cons_self)
    rw [List.map_cons, shortDs, shortD, decide_eq_true (by omega), wsD_short xs fun y hy => h y (List.mem_cons_of_mem _ hy)]
    rfl
theorem wsD_wl {xs : List Str} (h : ∀ z ∈ xs, wordS z = true) : wlB (wsD xs) = true := by
  unfold wlB wsD
  dsimp only
  rw [List.all_map]
  exact List.all_eq_true.mpr fun z hz => by
    show wordB (.fl (.str z)) = true
    unfold wordB
    exact h z hz
def spArL : Sp := fun vs H Q _ => ∃ (a hl st : Addr) (ks : List (Str × List Str)) (hs : List Str), vs = [.ref a, .ref hl] ∧ WD st H a ks ∧ KO hs ks ∧ H hl = some (.lst (hs.map V.str)) ∧ ks.length ≤ 5000 ∧ ∀ H', Same H H' → Q (.bl true) H'
theorem same_lock {H H' : Hp} {d : Addr} {u x : HO} (hd : H d = some u) (s : ∀ b o, b ≠ d → (upd H d x) b = some o → H' b = some o) : Same H (upd H' d u) := fun b o e => by
  by_cases hb : b = d
  · rw [hb, upd_same, ← hd, ← hb]; exact e
  · rw [upd_ne hb]
    exact s b o hb (by rw [upd_ne hb]; exact e)
theorem sub_len : ∀ (l m : List Str), l.Nodup → (∀ z ∈ l, z ∈ m) → l.length ≤ m.length
  | [], _, _, _ => Nat.zero_le _
  | z :: l, m, nd, s => by
    have hz := s z List.mem_cons_self
    rw [List.nodup_cons] at nd
    have := sub_len l (m.erase z) nd.2 fun y hy => (List.mem_erase_of_ne fun e => nd.1 (by rw [← e]; exact hy)).mpr (s y (List.mem_cons_of_mem _ hy))
    have hm : 0 < m.length := List.length_pos_of_mem hz
    rw [List.length_erase_of_mem hz] at this
    rw [List.length_cons]
    omega
theorem KO.len {hs : List Str} {ks : List (Str × List Str)} (h : KO hs ks) : ks.length ≤ hs.length := by
  have := sub_len (ks.map fun q => q.1) hs h.nd fun z hz => by
    obtain ⟨q, hq, rfl⟩ := List.mem_map.mp hz
    exact (h.mem q hq).1
  rwa [List.length_map] at this
theorem WD.same {st : Addr} {H H' : Hp} (s : Same H H') {a : Addr} {ks : List (Str × List Str)} (h : WD st H a ks) : WD st H' a ks := h.ls (fun l xs _ e => s _ _ e) fun a k e => s _ _ e
/-- a right rule's arguments -/
structure RA (H : Hp) (st : Addr) (v1 v2 : V) (d1 d2 : D) (a1 a2 : Addr) (ks bs : List (Str × List Str)) : Prop where
  v1 : DAt nol H v1 d1
  h1 : isSh d1 = true
  q1 : isSq d1 = true
  k : ("keep" : Str) ∉ lnm d1
  nd : (hnm d1).Nodup
  s1 : sz d1 ≤ 900
  v2 : DAt nol H v2 d2
  h2 : isSh d2 = true
  s2 : sz d2 ≤ 900
  sub : ∀ z ∈ hnm d2, z ∈ hnm d1
  k1 : WD st H a1 ks
  k2 : WD st H a2 bs
  o1 : KO (hnm d1) ks
  o2 : KO (hnm d1) bs
theorem isSq_st {d : D} (h : isSq d = true) : isSt d = false := by
  cases d with
  | fl x => cases h
  | emp => rfl
  | sq xs => rfl
theorem RA.same {H H' : Hp} {st : Addr} {v1 v2 : V} {d1 d2 : D} {a1 a2 : Addr} {ks bs : List (Str × List Str)} (R : RA H st v1 v2 d1 d2 a1 a2 ks bs) (s : Same H H') : RA H' st v1 v2 d1 d2 a1 a2 ks bs :=
  ⟨DAt.hold (.same s) _ R.v1, R.h1, R.q1, R.k, R.nd, R.s1, DAt.hold (.same s) _ R.v2, R.h2, R.s2, R.sub, R.k1.same s, R.k2.same s, R.o1, R.o2⟩
theorem RA.isL {H : Hp} {st : Addr} {v1 v2 : V} {d1 d2 : D} {a1 a2 : Addr} {ks bs : List (Str × List Str)} (R : RA H st v1 v2 d1 d2 a1 a2 ks bs) : leftB d1 = true := by
  unfold leftB TX.many
  rw [R.h1, isSq_st R.q1, decide_eq_true R.k, once_nodup R.nd, decide_eq_true rfl]
  rfl
theorem RA.isR {H : Hp} {st : Addr} {v1 v2 : V} {d1 d2 : D} {a1 a2 : Addr} {ks bs : List (Str × List Str)} (R : RA H st v1 v2 d1 d2 a1 a2 ks bs) : rightB d2 (hnm d1) = true := by
  unfold rightB
  rw [R.h2, Bool.true_and]
  exact List.all_eq_true.mpr fun z hz => decide_eq_true (R.sub z hz)
def spWrA : Sp := fun vs H Q _ => ∃ (v1 v2 : V) (d1 d2 : D) (a1 a2 st : Addr) (ks bs : List (Str × List Str)), vs = [v1, v2, .ref a1, .ref a2] ∧ RA H st v1 v2 d1 d2 a1 a2 ks bs ∧ ∀ H', Same H H' → Q .non H'
section
variable {P : Program} {w : World} {K : PySem.W.Frag} {mg : Str → Option Value} {base : Heap}
theorem c_arL {f : Addr} {fd : FuncData} (F : Def K mg "are_labels" sArL f fd) (b : Binds K fd ["thing", "holes"] []) (T : Blt4 mg) (CW : Cal P w K mg base 2 "is_word_list" spWL []) : Cal P w K mg base 3 "are_labels" spArL [] := by
  refine cal0 F b .nil scArL (fun vs H Q E h => ?_) (fun cdv A outer s H vs Q E hr h => ?_)
  · obtain ⟨a, hl, st, ks, hs, rfl, _⟩ := h
    rfl
  · obtain ⟨a, hl, st, ks, hs, rfl, ⟨kvs, ha, hp⟩, ko, hhl, hkl, k⟩ := h
    have nd := scArL.nd
    refine ⟨_, pss_cons (ps_if (pt_not (pt_val (pe_callB call_isi (by rfl) T.isi (by decide +kernel) (pa_cons (pv 0) (pa_cons (pe_bt "dict" T.dic) pa_nil))))) (pss_one (ps_ret pe_bl)) pss_nil)
      (pss_one (ps_ret (pe_callB (cr_all rfl) (by rfl) T.all (by decide +kernel) (pa_cons (pe_lock (pe_lc (own := [("hole", 2), ("labels", 3)]) (g := gTup K 2 (gCons (gName 2) (gCons (gName 3) gNil))) (tt := tYes) rfl nd (pi_items (pv 0)) (blkOk_by (N := NAr) (sc := fnScope sArL) (by decide +kernel))
        (fun _ _ _ _ _ => pg_tup rfl (pgs_cons (pg_name (i := 2) nd rfl (Or.inl rfl)) (pgs_cons (pg_name (i := 3) nd rfl (Or.inl rfl)) pgs_nil))) (fun _ _ _ _ _ => pts_nil)
        (fun _ _ _ _ _ => pe_and (pe_cmpR (show OpR _ (compareOp .In) (rIn K false) from op_in_seq) (pv 2) (pv 1) (by rfl)) (pe_one (pe_c CW hr (by decide) (by rfl) (pa_cons (pv 3) pa_nil)))))) pa_nil)))), ?_⟩
    have hsl := sizeLine_eq
    have hlen := Paired.length hp
    have hne : hl ≠ a := ne_of hhl ha (by intro z; cases z)
    refine ⟨_, rfl, _, .ty "dict", _, _, true, rfl, .ty _, .base (.dK ha), kit_ty (by decide +kernel), true, rfl, iteBf rfl ?_⟩
    refine ⟨a, _, ha, trivial, fun od => ⟨_, rfl, a, od, kvs, rfl, upd_same, fun Da nDa => ?_⟩⟩
    have hh0 : (upd H a (.frz od (.dK kvs))) hl = some (.lst (hs.map V.str)) := by rw [upd_ne hne]; exact hhl
    have ha0 : (upd H a (.frz od (.dK kvs))) a = some (.frz od (.dK kvs)) := upd_same
    have hp0 : Paired (WE st (upd H a (.frz od (.dK kvs)))) kvs ks := Paired.mono (fun _ _ ⟨e, l, e2, n, q⟩ => ⟨e, l, e2, n, by rw [upd_ne (ne_of q ha (by intro z; cases z))]; exact q⟩) hp
    have fin : ∀ H', Same (upd H a (.frz od (.dK kvs))) H' → Q (.bl true) (upd H' a (.dK kvs)) := fun H' sm => k _ (same_lock ha fun b o _ e => sm _ _ e)
    generalize upd H a (.frz od (.dK kvs)) = H0 at hh0 ha0 hp0 nDa fin ⊢
    refine lc_gen (J := Iti a od kvs) ks.length (fun i H' => H' Da = some (.lst ((List.replicate i true).map V.bl)) ∧ Same H0 H') ⟨upd_same, same_upd nDa⟩ (fun i H' hi ⟨_, sm⟩ => ⟨sm _ _ ha0, by omega⟩) (fun H' ⟨_, sm⟩ => ⟨sm _ _ ha0, by omega⟩) (fun i H' x H'' hi ⟨hD, sm⟩ yl => ?_) (fun H' ⟨hD, sm⟩ => ?_)
    · obtain ⟨T', kk, v, hkv, rfl, nT, rfl⟩ := yl
      obtain ⟨q, hq, ek, l, ev, _, hl'⟩ := paired_get hp0 hkv
      dsimp only at ek ev
      subst ek ev
      obtain ⟨hqm, hql, hqw⟩ := ko.mem q (List.mem_of_getElem? hq)
      have sT : Same H' (upd H' T' (.tup [kV (.inr q.1), .ref l])) := same_upd nT
      have hT : (upd H' T' (.tup [kV (.inr q.1), .ref l])) T' = some (.tup [.str q.1, .ref l]) := upd_same
      have hD' := sT _ _ hD
      generalize upd H' T' (.tup [kV (.inr q.1), .ref l]) = H2 at sT hT hD' ⊢
      have s02 := sm.trans sT
      refine ⟨T', _, rfl, SqT.of hT, rfl, .str q.1, [.ref l], rfl, .ref l, [], rfl, rfl, rfl, ?_⟩
      unfold tYes
      dsimp only
      rw [if_pos rfl]
      refine ⟨_, rfl, _, rfl, hl, _, rfl, .inl (SqL.of (s02 _ _ hh0)), rfl, all_flat _, ?_⟩
      rw [if_neg Bool.false_ne_true, inV_str]
      refine ⟨_, rfl, iteBt (decide_eq_true hqm) ⟨_, rfl, .ref l, wsD q.2, fun c => c = l, rfl, wsD_at (s02 _ _ hl') rfl, wsD_short _ hqw, ?_, fun H3 s3 => ⟨_, s3 _ _ hD', by rw [List.length_map, List.length_replicate]; omega, ?_, fun b o e => by rw [upd_ne (ne_of_none e nDa)]; exact s3 _ _ (s02 _ _ e)⟩⟩⟩
      · have : sz (wsD q.2) = q.2.length + 1 := by unfold wsD; rw [sz, wsD_sz]; omega
        omega
      · rw [upd_same, wsD_wl hqw, List.replicate_succ', List.map_append]
        rfl
    · refine ⟨sm _ _ ha0, Da, List.replicate ks.length true, rfl, SqL.of ?_, ?_⟩
      · rw [upd_ne (ne_of hD (sm _ _ ha0) (by intro z; cases z))]
        exact hD
      · rw [show (List.replicate ks.length true).all id = true from List.all_eq_true.mpr fun b hb => (List.mem_replicate.mp hb).2]
        exact fin _ sm
theorem c_wrA {f : Addr} {fd : FuncData} (F : Def K mg "wrong_argument" sWrA f fd) (b : Binds K fd ["left", "right", "kinds", "bars"] []) (CL : Cal P w K mg base 4 "is_left" spIsL []) (CR : Cal P w K mg base 4 "is_right" spIsR []) (CO : Cal P w K mg base 3 "holes_in" (spHoI hnm) []) (CA : Cal P w K mg base 3 "are_labels" spArL []) : Cal P w K mg base 5 "wrong_argument" spWrA [] := by
  refine cal0 F b .nil scWrA (fun vs H Q E h => ?_) (fun cdv A outer s H vs Q E hr h => ?_)
  · obtain ⟨v1, v2, d1, d2, a1, a2, st, ks, bs, rfl, _⟩ := h
    rfl
  · obtain ⟨v1, v2, d1, d2, a1, a2, st, ks, bs, rfl, R, k⟩ := h
    have nd := scWrA.nd
    refine ⟨_, pss_cons (ps_if (pt_not (pt_val (pe_c CL hr (by decide) (by rfl) (pa_cons (pv 0) pa_nil)))) pss_never pss_nil)
      (pss_cons (ps_set (i := 4) nd rfl (Or.inl rfl) (pe_c CO hr (by decide) (by rfl) (pa_cons (pv 0) pa_nil)))
      (pss_cons (ps_if (pt_not (pt_val (pe_c CR hr (by decide) (by rfl) (pa_cons (pv 1) (pa_cons (pv 4) pa_nil))))) pss_never pss_nil)
      (pss_cons (ps_if (pw_and (pt_cmp (pc_notN (pv 2))) (pw_and1 (pt_not (pt_val (pe_c CA hr (by decide) (by rfl) (pa_cons (pv 2) (pa_cons (pv 4) pa_nil))))))).pt pss_never pss_nil)
      (pss_cons (ps_if (pw_and (pt_cmp (pc_notN (pv 3))) (pw_and1 (pt_not (pt_val (pe_c CA hr (by decide) (by rfl) (pa_cons (pv 3) (pa_cons (pv 4) pa_nil))))))).pt pss_never pss_nil)
      (pss_one (ps_ret pe_non)))))), ?_⟩
    have hl := hnm_le d1
    have n1 := R.s1
    have n2 := R.s2
    refine ⟨_, rfl, v1, d1, nol, rfl, R.v1, sh_short d1 R.h1, R.s1, fun H1 s1 => ?_⟩
    rw [R.isL]
    refine ⟨true, rfl, iteBf rfl ⟨_, rfl, v1, d1, nol, rfl, DAt.hold (.same s1) _ R.v1, R.h1, by omega, fun hl H2 nhl s2 hhl => ?_⟩⟩
    have s02 := s1.trans s2
    refine ⟨_, rfl, _, rfl, v2, d2, nol, hl, hnm d1, rfl, DAt.hold (.same s02) _ R.v2, sh_short d2 R.h2, R.s2, hhl, fun H3 s3 => ?_⟩
    rw [R.isR]
    have s03 := s02.trans s3
    refine ⟨true, rfl, iteBf rfl ?_⟩
    refine ⟨_, rfl, _, rfl, iteBt (by rfl) ⟨_, rfl, _, rfl, a1, hl, st, ks, hnm d1, rfl, R.k1.same s03, R.o1, s3 _ _ hhl, by have := R.o1.len; omega, fun H4 s4 => ⟨true, rfl, iteBf rfl ?_⟩⟩⟩
    have s04 := s03.trans s4
    refine ⟨_, rfl, _, rfl, iteBt (by rfl) ⟨_, rfl, _, rfl, a2, hl, st, bs, hnm d1, rfl, R.k2.same s04, R.o2, s4 _ _ (s3 _ _ hhl), by have := R.o2.len; omega, fun H5 s5 => ⟨true, rfl, iteBf rfl ?_⟩⟩⟩
    exact k _ (s04.trans s5)
end
end KT

namespace KT
open PySem PySem.Spec PyProof.Rows L2 C8 XE XR TX
/-! class Rule: its __init__ -/
def clsBody (s : Stmt) : List Stmt := match s with
  | .ClassDef (body := b) .. => b
  | _ => []
def mthR (j : Nat) : Stmt := (clsBody (top 24)).getD j (.Pass ⟨0, 0, 0, 0⟩)
abbrev sRI : Stmt := mthR 0
abbrev NRI : List Str := ["self", "left", "right", "kinds", "bars", "wrong", "hole", "labels"]
theorem scRI : FnScope NRI ["self", "left", "right", "kinds", "bars"] (fnScope sRI) := fnScope_by (by decide +kernel)
/-- the words of a hole -/
def kwOf (ks : List (Str × List Str)) (z : Str) : Option (List Str) := (ks.find? fun q => q.1 == z).map fun q => q.2
theorem kwOf_new {ks : List (Str × List Str)} {q : Str × List Str} (h : q.1 ∉ ks.map fun q => q.1) : kwOf (ks ++ [q]) q.1 = some q.2 := by
  unfold kwOf
  have e : ks.find? (fun r => r.1 == q.1) = none := List.find?_eq_none.mpr fun r hr e => h (by rw [← beq_iff_eq.mp e]; exact List.mem_map_of_mem hr)
  rw [List.find?_append, e, Option.none_or, List.find?_cons_of_pos (by simp)]
  rfl
theorem kwOf_old {ks : List (Str × List Str)} {q : Str × List Str} {z : Str} (h : z ≠ q.1) : kwOf (ks ++ [q]) z = kwOf ks z := by
  unfold kwOf
  have e : [q].find? (fun r => r.1 == z) = none := List.find?_eq_none.mpr fun r hr e => by
    rw [List.mem_singleton.mp hr] at e
    exact h (beq_iff_eq.mp e).symm
  rw [List.find?_append, e, Option.or_none]
/-- an entry of a rule's dict -/
def Ent (G : Hp → Option (List Str) → V → Prop) (H : Hp) (ks : List (Str × List Str)) (kv : Key × V) (z : Str) : Prop := kv.1 = .inr z ∧ G H (kwOf ks z) kv.2
def TupOf (H : Hp) (ws : List Str) (v : V) : Prop := ∃ (t : Addr) (ys : List Str), v = .ref t ∧ H t = some (.tup (ys.map V.str)) ∧ ys.length ≤ 100 ∧ ∀ y, y ∈ ys ↔ y ∈ ws
def GK (H : Hp) (o : Option (List Str)) (v : V) : Prop := match o with
  | none => v = .non
  | some ws => TupOf H ws v
def GB (H : Hp) (o : Option (List Str)) (v : V) : Prop := TupOf H (o.getD []) v
/-- tuples stay -/
def TK (H H' : Hp) : Prop := ∀ a vs, H a = some (.tup vs) → H' a = some (.tup vs)
theorem TK.of {H H' : Hp} (s : Same H H') : TK H H' := fun a vs e => s _ _ e
theorem TupOf.tk {H H' : Hp} (s : TK H H') {ws : List Str} {v : V} (h : TupOf H ws v) : TupOf H' ws v := let ⟨t, ys, e, q, r⟩ := h; ⟨t, ys, e, s _ _ q, r⟩
theorem GK.tk {H H' : Hp} (s : TK H H') {o : Option (List Str)} {v : V} (h : GK H o v) : GK H' o v := by
  cases o with
  | none => exact h
  | some ws => exact TupOf.tk s h
theorem GB.tk {H H' : Hp} (s : TK H H') {o : Option (List Str)} {v : V} (h : GB H o v) : GB H' o v := TupOf.tk s h
theorem paired_mem {α β : Type} {R : α → β → Prop} : ∀ {xs : List α} {ys : List β}, Paired R xs ys → ∀ y ∈ ys, ∃ x ∈ xs, R x y
  | _, _, .nil, y, h => by cases h
  | x :: _, z :: _, .cons r t, y, h => by
    rcases List.mem_cons.mp h with rfl | h
    · exact ⟨x, List.mem_cons_self, r⟩
    · obtain ⟨x', hx, r'⟩ := paired_mem t y h
      exact ⟨x', List.mem_cons_of_mem _ hx, r'⟩
theorem paired_map {α β : Type} {R R' : α → β → Prop} {f : α → α} (g : ∀ x y, R x y → R' (f x) y) : ∀ {xs : List α} {ys : List β}, Paired R xs ys → Paired R' (xs.map f) ys
  | _, _, .nil => .nil
  | _, _, .cons r t => .cons (g _ _ r) (paired_map g t)
theorem ent_put {G : Hp → Option (List Str) → V → Prop} {H : Hp} {ks : List (Str × List Str)} {q : Str × List Str} {kd : List (Key × V)} {hs : List Str} {v : V} (h : Paired (Ent G H ks) kd hs) (hq : q.1 ∈ hs) (hn : q.1 ∉ ks.map fun q => q.1) (hv : G H (some q.2) v) :
    Paired (Ent G H (ks ++ [q])) (putK kd (.inr q.1) v) hs := by
  obtain ⟨kv, hkv, e, _⟩ := paired_mem h q.1 hq
  unfold putK
  rw [if_pos (List.any_eq_true.mpr ⟨kv, hkv, decide_eq_true e⟩)]
  refine paired_map (fun kv z ⟨e, g⟩ => ?_) h
  by_cases hz : z = q.1
  · rw [if_pos (by rw [e, hz])]
    exact ⟨e, by rw [hz, kwOf_new hn]; exact hv⟩
  · rw [if_neg (fun e' => hz (by rw [e] at e'; exact Sum.inr.inj e'))]
    exact ⟨e, by rw [kwOf_old hz]; exact g⟩
theorem ent_none {G : Hp → Option (List Str) → V → Prop} {H : Hp} {ks : List (Str × List Str)} {z : Str} : ∀ {kd : List (Key × V)} {hs : List Str}, Paired (Ent G H ks) kd hs → z ∉ hs → valV kd (.inr z) = none
  | _, _, .nil, _ => rfl
  | _, _, .cons ⟨e, _⟩ t, h => by
    rw [List.mem_cons] at h
    rw [valV_neg (fun e' => h (.inl (by rw [e] at e'; exact (Sum.inr.inj e').symm)))]
    exact ent_none t fun x => h (.inr x)
theorem ent_some {G : Hp → Option (List Str) → V → Prop} {H : Hp} {ks : List (Str × List Str)} {z : Str} : ∀ {kd : List (Key × V)} {hs : List Str}, Paired (Ent G H ks) kd hs → z ∈ hs → ∃ v, valV kd (.inr z) = some v ∧ G H (kwOf ks z) v
  | _, _, .nil, h => by cases h
  | kv :: _, y :: _, .cons ⟨e, g⟩ t, h => by
    by_cases hz : y = z
    · rw [hz] at e g
      exact ⟨_, valV_pos e, g⟩
    · obtain ⟨v, e1, e2⟩ := ent_some t ((List.mem_cons.mp h).resolve_left fun e => hz e.symm)
      exact ⟨v, by rw [valV_neg (fun e' => hz (by rw [e] at e'; exact Sum.inr.inj e'))]; exact e1, e2⟩
/-- a dict comprehension by an invariant -/
theorem dc_gen {J : It} {g : TG} {tt : TT} {tk tv : TE} {vs : List Nat} {σ : L2.St} {H1 : Hp} {D : Addr} {Qd : Hp → Prop} (n : Nat) (Pv : Nat → Hp → Prop) (h0 : Pv 0 (upd H1 D (.dK []))) (hgo : ∀ i H, i < n → Pv i H → J.go i H) (hst : ∀ H, Pv n H → J.stop n H)
    (hs : ∀ i H x H', i < n → Pv i H → J.yld i H x H' → g x (wipe σ vs) H' fun σ2 H2 => wipe σ2 vs = wipe σ vs ∧ tt σ2 H2 fun b H3 =>
      if b = true then tk σ2 H3 fun y H4 => tv σ2 H4 fun z H5 => ∃ kvs k, y = kV k ∧ H5 D = some (.dK kvs) ∧ kvs.length < sizeLine ∧ Pv (i + 1) (upd H5 D (.dK (putK kvs k z))) else Pv (i + 1) H3) (hd : ∀ H, Pv n H → Qd H) :
    ∃ W : Nat → Nat → Hp → Prop, (∃ m, W 0 m (upd H1 D (.dK []))) ∧ ∀ i m H, W i m H →
      (J.stop i H ∧ Qd H) ∨ (J.go i H ∧ ∃ Nx : Hp → Prop, (∀ H', Nx H' → ∃ m', m' < m ∧ W (i + 1) m' H') ∧ ∀ x H', J.yld i H x H' → g x (wipe σ vs) H' fun σ2 H2 => wipe σ2 vs = wipe σ vs ∧ tt σ2 H2 fun b H3 =>
        if b = true then tk σ2 H3 fun y H4 => tv σ2 H4 fun z H5 => ∃ kvs k, y = kV k ∧ H5 D = some (.dK kvs) ∧ kvs.length < sizeLine ∧ Nx (upd H5 D (.dK (putK kvs k z))) else Nx H3) := by
  refine ⟨fun i m H => m + i = n ∧ Pv i H, ⟨n, rfl, h0⟩, ?_⟩
  rintro i m H ⟨hm, p⟩
  by_cases hi : i < n
  · exact .inr ⟨hgo i H hi p, Pv (i + 1), fun H' p' => ⟨m - 1, by omega, by omega, p'⟩, fun x H' y => hs i H x H' hi p y⟩
  · obtain rfl : i = n := by omega
    exact .inl ⟨hst H p, hd H p⟩
/-- a rule -/
def RuleAt (H : Hp) (x C : Addr) (d1 d2 : D) (ks bs : List (Str × List Str)) : Prop := ∃ dx v1 v2 ka ba kd bd, H x = some (.ins C dx [("left", v1), ("right", v2), ("kinds", .ref ka), ("bars", .ref ba)]) ∧ DAt nol H v1 d1 ∧ DAt nol H v2 d2 ∧
  H ka = some (.dK kd) ∧ Paired (Ent GK H ks) kd (hnm d1) ∧ H ba = some (.dK bd) ∧ Paired (Ent GB H bs) bd (hnm d1)
structure LR (K : PySem.W.Frag) (mg : Str → Option Value) (C : Addr) : Prop where
  cls : Cls K C
  left : NoAttr K C "left"
  right : NoAttr K C "right"
  kinds : NoAttr K C "kinds"
  bars : NoAttr K C "bars"
def spRI (C : Addr) : Sp := fun vs H Q _ => ∃ (x dx st : Addr) (v1 v2 : V) (d1 d2 : D) (a1 a2 : Addr) (ks bs : List (Str × List Str)), vs = [.ref x, v1, v2, .ref a1, .ref a2] ∧ H x = some (.ins C dx []) ∧ RA H st v1 v2 d1 d2 a1 a2 ks bs ∧
  ∀ H', (∀ b o, H b = some o → b ≠ x → H' b = some o) → RuleAt H' x C d1 d2 ks bs → Q .non H'
section
variable {P : Program} {w : World} {K : PySem.W.Frag} {mg : Str → Option Value} {base : Heap}
theorem c_rI {C f : Addr} {fd : FuncData} (M : Mk K C f) (hm : mg "Rule" = some (.ref C)) (F : C8.Fun K "__init__" "Rule.__init__" sRI f fd) (b : Binds K fd ["self", "left", "right", "kinds", "bars"] []) (T : Blt4 mg) (hset : mg "set" = none) (hsor : mg "sorted" = none) (L : LR K mg C)
    (CW : Cal P w K mg base 5 "wrong_argument" spWrA []) (CT : Cal P w K mg base 4 "as_tuples" spAsT []) (CO : Cal P w K mg base 3 "holes_in" (spHoI hnm) []) : Mak P w K mg base 6 "Rule" C (spRI C) [] := by
  refine mak0 M hm F b .nil scRI (fun vs H Q E h => ?_) (fun cdv A outer s H vs Q E hr h => ?_)
  · obtain ⟨x, dx, st, v1, v2, d1, d2, a1, a2, ks, bs, rfl, _⟩ := h
    rfl
  · obtain ⟨x, dx, st, v1, v2, d1, d2, a1, a2, ks, bs, rfl, hx, R, k⟩ := h
    have nd := scRI.nd
    have hu : (A.deeper (envOfC "Rule.__init__" (fnScope sRI) s.heap.objs.size f cdv)).units + 1 < cLine := by have := hr.un; omega
    refine ⟨_, pss_cons (ps_set (i := 5) nd rfl (Or.inl rfl) (pe_c CW hr (by decide) (by rfl) (pa_cons (pv 1) (pa_cons (pv 2) (pa_cons (pv 3) (pa_cons (pv 4) pa_nil))))))
      (pss_cons (ps_if (pt_cmp (pc_notN (pv 5))) pss_never pss_nil)
      (pss_cut (ps_fld (pv 0) (pe_c CT hr (by decide) (by rfl) (pa_cons (pv 1) pa_nil)) rfl)
      (pss_cut (ps_fld (pv 0) (pe_c CT hr (by decide) (by rfl) (pa_cons (pv 2) pa_nil)) rfl)
      (pss_cut (ps_fld (pv 0) (pe_dc (own := [("hole", 6)]) (g := gName 6) (tt := tYes) rfl nd (pi_list (pe_c CO hr (by decide) (by rfl) (pa_cons (pv 1) pa_nil))) (blkOk_by (N := NRI) (sc := fnScope sRI) (by decide +kernel)) (fun _ _ _ _ _ => pg_name (i := 6) nd rfl (Or.inl rfl)) (fun _ _ _ _ _ => pts_nil) (fun _ _ _ _ _ => pv 6) (fun _ _ _ _ _ => pe_non)) rfl)
      (pss_cut (ps_fld (pv 0) (pe_dc (own := [("hole", 6)]) (g := gName 6) (tt := tYes) rfl nd (pi_list (pe_c CO hr (by decide) (by rfl) (pa_cons (pv 1) pa_nil))) (blkOk_by (N := NRI) (sc := fnScope sRI) (by decide +kernel)) (fun _ _ _ _ _ => pg_name (i := 6) nd rfl (Or.inl rfl)) (fun _ _ _ _ _ => pts_nil) (fun _ _ _ _ _ => pv 6) (fun _ _ _ _ _ => pe_tup pa_nil)) rfl)
      (pss_cut (ps_if (pt_cmp (pc_notN (pv 3))) (pss_one (ps_lock (ps_for PassesOwn.never rfl (pi_items (pv 3)) (pg_tup rfl (pgs_cons (pg_name (i := 6) nd rfl (Or.inl rfl)) (pgs_cons (pg_name (i := 7) nd rfl (Or.inl rfl)) pgs_nil)))
          (pss_one (ps_dput hu (pe_fld (pv 0) rfl) (pv 6) (pe_callTy call_tuple_of (by rfl) T.tup (by decide +kernel) (pa_cons (pe_callB (cr_sortX rfl) (by rfl) hsor (by decide +kernel) (pa_cons (pe_callTy (cr_setX rfl) (by rfl) hset (by decide +kernel) (pa_cons (pv 7) pa_nil)) pa_nil)) pa_nil)) rfl))))) pss_nil)
      (pss_one (ps_if (pt_cmp (pc_notN (pv 4))) (pss_one (ps_lock (ps_for PassesOwn.never rfl (pi_items (pv 4)) (pg_tup rfl (pgs_cons (pg_name (i := 6) nd rfl (Or.inl rfl)) (pgs_cons (pg_name (i := 7) nd rfl (Or.inl rfl)) pgs_nil)))
          (pss_one (ps_dput hu (pe_fld (pv 0) rfl) (pv 6) (pe_callTy call_tuple_of (by rfl) T.tup (by decide +kernel) (pa_cons (pe_callB (cr_sortX rfl) (by rfl) hsor (by decide +kernel) (pa_cons (pe_callTy (cr_setX rfl) (by rfl) hset (by decide +kernel) (pa_cons (pv 7) pa_nil)) pa_nil)) pa_nil)) rfl))))) pss_nil)))))))), ?_⟩
    refine ⟨_, rfl, _, rfl, _, rfl, _, rfl, v1, v2, d1, d2, a1, a2, st, ks, bs, rfl, R, fun H1 s1 => ⟨_, rfl, _, rfl, iteBf (by rfl) ?_⟩⟩
    have hsl := sizeLine_eq
    have R1 := R.same s1
    have hx1 := s1 _ _ hx
    have hz1 := R.s1
    have hz2 := R.s2
    refine ⟨fun σ H' => ∃ w1, σ = [some (.ref x), some v1, some v2, some (.ref a1), some (.ref a2), some .non, none, none] ∧ H' x = some (.ins C dx [("left", w1)]) ∧ DAt nol H' w1 d1 ∧ (∀ b o, H b = some o → b ≠ x → H' b = some o), ?_, ?_⟩
    · refine ⟨_, rfl, v1, d1, nol, rfl, R1.v1, R1.h1, by omega, fun w1 H2 s2 hw => ?_⟩
      have hx2 := s2 _ _ hx1
      refine ⟨_, rfl, x, C, dx, _, rfl, hx2, L.cls, L.left, by decide, w1, rfl, upd_same, sh_tups (fun a vs e => by rw [upd_ne (ne_of e hx2 (by intro z; cases z))]; exact e) R1.h1 hw, fun b o e ne => by rw [upd_ne ne]; exact s2 _ _ (s1 _ _ e)⟩
    rintro σ H2 ⟨w1, rfl, hx2, hw1, b2⟩
    have ntx : ∀ {a : Addr} {vs : List V}, H a = some (.tup vs) → a ≠ x := fun e => ne_of e hx (by intro z; cases z)
    have tk2 : TK H H2 := fun a vs e => b2 _ _ e (ntx e)
    refine ⟨fun σ H' => ∃ w2, σ = [some (.ref x), some v1, some v2, some (.ref a1), some (.ref a2), some .non, none, none] ∧ H' x = some (.ins C dx [("left", w1), ("right", w2)]) ∧ DAt nol H' w1 d1 ∧ DAt nol H' w2 d2 ∧ (∀ b o, H b = some o → b ≠ x → H' b = some o), ?_, ?_⟩
    · refine ⟨_, rfl, v2, d2, nol, rfl, sh_tups tk2 R.h2 R.v2, R.h2, by omega, fun w2 H3 s3 hw => ?_⟩
      have hx3 := s3 _ _ hx2
      have tkx : TK H3 (upd H3 x (.ins C dx [("left", w1), ("right", w2)])) := fun a vs e => by rw [upd_ne (ne_of e hx3 (by intro z; cases z))]; exact e
      refine ⟨_, rfl, x, C, dx, _, rfl, hx3, L.cls, L.right, by simp, w2, rfl, upd_same, sh_tups tkx R.h1 (DAt.hold (.same s3) _ hw1), sh_tups tkx R.h2 hw, fun b o e ne => by rw [upd_ne ne]; exact s3 _ _ (b2 _ _ e ne)⟩
    clear hw1 b2 tk2
    rintro σ H3 ⟨w2, rfl, hx3, hw1, hw2, b3⟩
    have tk3 : TK H H3 := fun a vs e => b3 _ _ e (ntx e)
    have hnl : (hnm d1).length ≤ 900 := Nat.le_trans (hnm_le d1) hz1
    refine ⟨fun σ H' => ∃ ka kd, σ = [some (.ref x), some v1, some v2, some (.ref a1), some (.ref a2), some .non, none, none] ∧ H' x = some (.ins C dx [("left", w1), ("right", w2), ("kinds", .ref ka)]) ∧ DAt nol H' w1 d1 ∧ DAt nol H' w2 d2 ∧ H ka = none ∧ H' ka = some (.dK kd) ∧ Paired (Ent GK H' []) kd (hnm d1) ∧ (∀ b o, H b = some o → b ≠ x → H' b = some o), ?_, ?_⟩
    · refine ⟨_, rfl, v1, d1, nol, rfl, sh_tups tk3 R.h1 R.v1, R.h1, by omega, fun lq H4 nlq s4 hlq => ⟨lq, rfl, ⟨_, SqL.of hlq⟩, fun Da nDa => ?_⟩⟩
      refine dc_gen (J := Itl K lq) (hnm d1).length (fun i H' => ∃ kd, H' Da = some (.dK kd) ∧ Paired (Ent GK H' []) kd ((hnm d1).take i) ∧ Same H4 H') ⟨[], upd_same, .nil, same_upd nDa⟩ (fun i H' hi ⟨_, _, _, sm⟩ => ⟨_, .str (hnm d1)[i], SqL.of (sm _ _ hlq), by rw [List.getElem?_map, List.getElem?_eq_getElem hi]; rfl⟩) (fun H' ⟨_, _, _, sm⟩ => ⟨_, SqL.of (sm _ _ hlq), by rw [List.length_map]; exact Nat.le_refl _⟩) (fun i H' v H'' hi ⟨kd, hD, hp, sm⟩ yl => ?_) (fun H' ⟨kd, hD, hp, sm⟩ => ?_)
      · obtain ⟨rfl, hv⟩ := yl
        have hv := hv _ (SqL.of (sm _ _ hlq))
        rw [List.getElem?_map, List.getElem?_eq_getElem hi] at hv
        obtain rfl := Option.some.inj hv
        have hkl := Paired.length hp
        rw [List.length_take] at hkl
        have nw : (hnm d1)[i] ∉ (hnm d1).take i := fun h => by
          have := R.nd
          rw [← List.take_append_drop i (hnm d1), List.drop_eq_getElem_cons hi] at this
          exact (List.nodup_append.mp this).2.2 _ h _ List.mem_cons_self rfl
        refine ⟨rfl, ?_⟩
        unfold tYes
        dsimp only
        rw [if_pos rfl]
        have tkd : TK H'' (upd H'' Da (.dK (putK kd (.inr (hnm d1)[i]) .non))) := fun a vs e => by rw [upd_ne (ne_of e hD (by intro z; cases z))]; exact e
        refine ⟨_, rfl, kd, .inr (hnm d1)[i], rfl, hD, by omega, _, upd_same, ?_, fun b o e => by rw [upd_ne (ne_of_none e nDa)]; exact sm _ _ e⟩
        rw [putK_new _ (ent_none hp nw), List.take_succ_eq_append_getElem hi]
        exact Paired.snoc (Paired.mono (fun _ _ ⟨e, g⟩ => ⟨e, by rw [putK_new _ (ent_none hp nw)] at tkd; exact g.tk tkd⟩) hp) ⟨rfl, rfl⟩
      · rw [List.take_length] at hp
        have s3' := s4.trans sm
        have hx4 := s3' _ _ hx3
        have tkx : TK H' (upd H' x (.ins C dx [("left", w1), ("right", w2), ("kinds", .ref Da)])) := fun a vs e => by rw [upd_ne (ne_of e hx4 (by intro z; cases z))]; exact e
        have nH : H Da = none := by
          cases e : H Da with
          | none => rfl
          | some o =>
            by_cases hh : Da = x
            · rw [hh] at nDa
              rw [s4 _ _ hx3] at nDa
              cases nDa
            · rw [s4 _ _ (b3 _ _ e hh)] at nDa
              cases nDa
        exact ⟨_, rfl, x, C, dx, _, rfl, hx4, L.cls, L.kinds, by simp, Da, kd, rfl, upd_same, sh_tups tkx R.h1 (DAt.hold (.same s3') _ hw1), sh_tups tkx R.h2 (DAt.hold (.same s3') _ hw2), nH, by rw [upd_ne (ne_of hD hx4 (by intro z; cases z))]; exact hD, Paired.mono (fun _ _ ⟨e, g⟩ => ⟨e, g.tk tkx⟩) hp, fun b o e ne => by rw [upd_ne ne]; exact s3' _ _ (b3 _ _ e ne)⟩
    clear hw1 hw2 b3 tk3 hx3
    rintro σ H3 ⟨ka, kd, rfl, hx3, hw1, hw2, nka, hka, hpk, b3⟩
    have tk3 : TK H H3 := fun a vs e => b3 _ _ e (ntx e)
    have hxka : ka ≠ x := fun e => by rw [e] at nka; rw [hx] at nka; cases nka
    refine ⟨fun σ H' => ∃ ba bd, σ = [some (.ref x), some v1, some v2, some (.ref a1), some (.ref a2), some .non, none, none] ∧ H' x = some (.ins C dx [("left", w1), ("right", w2), ("kinds", .ref ka), ("bars", .ref ba)]) ∧ DAt nol H' w1 d1 ∧ DAt nol H' w2 d2 ∧ H' ka = some (.dK kd) ∧ Paired (Ent GK H' []) kd (hnm d1) ∧ ba ≠ ka ∧ H ba = none ∧ H' ba = some (.dK bd) ∧ Paired (Ent GB H' []) bd (hnm d1) ∧ (∀ b o, H b = some o → b ≠ x → H' b = some o), ?_, ?_⟩
    · refine ⟨_, rfl, v1, d1, nol, rfl, sh_tups tk3 R.h1 R.v1, R.h1, by omega, fun lq H4 nlq s4 hlq => ⟨lq, rfl, ⟨_, SqL.of hlq⟩, fun Da nDa => ?_⟩⟩
      refine dc_gen (J := Itl K lq) (hnm d1).length (fun i H' => ∃ kd, H' Da = some (.dK kd) ∧ Paired (Ent GB H' []) kd ((hnm d1).take i) ∧ Same H4 H') ⟨[], upd_same, .nil, same_upd nDa⟩ (fun i H' hi ⟨_, _, _, sm⟩ => ⟨_, .str (hnm d1)[i], SqL.of (sm _ _ hlq), by rw [List.getElem?_map, List.getElem?_eq_getElem hi]; rfl⟩) (fun H' ⟨_, _, _, sm⟩ => ⟨_, SqL.of (sm _ _ hlq), by rw [List.length_map]; exact Nat.le_refl _⟩) (fun i H' v H'' hi ⟨kd, hD, hp, sm⟩ yl => ?_) (fun H' ⟨kd, hD, hp, sm⟩ => ?_)
      · obtain ⟨rfl, hv⟩ := yl
        have hv := hv _ (SqL.of (sm _ _ hlq))
        rw [List.getElem?_map, List.getElem?_eq_getElem hi] at hv
        obtain rfl := Option.some.inj hv
        have hkl := Paired.length hp
        rw [List.length_take] at hkl
        have nw : (hnm d1)[i] ∉ (hnm d1).take i := fun h => by
          have := R.nd
          rw [← List.take_append_drop i (hnm d1), List.drop_eq_getElem_cons hi] at this
          exact (List.nodup_append.mp this).2.2 _ h _ List.mem_cons_self rfl
        refine ⟨rfl, ?_⟩
        unfold tYes
        dsimp only
        rw [if_pos rfl]
        refine ⟨_, rfl, (by show 0 ≤ sizeLine; omega), fun p np => ?_⟩
        have sp := same_upd (o := .tup []) np
        have hp0 : (upd H'' p (.tup [])) p = some (.tup []) := upd_same
        have hD' := sp _ _ hD
        generalize upd H'' p (.tup []) = H5 at sp hp0 hD' ⊢
        have tkd : TK H5 (upd H5 Da (.dK (putK kd (.inr (hnm d1)[i]) (.ref p)))) := fun a vs e => by rw [upd_ne (ne_of e hD' (by intro z; cases z))]; exact e
        refine ⟨kd, .inr (hnm d1)[i], rfl, hD', by omega, _, upd_same, ?_, fun b o e => by rw [upd_ne (ne_of_none e nDa)]; exact sp _ _ (sm _ _ e)⟩
        rw [putK_new _ (ent_none hp nw)] at tkd ⊢
        rw [List.take_succ_eq_append_getElem hi]
        exact Paired.snoc (Paired.mono (fun _ _ ⟨e, g⟩ => ⟨e, (g.tk (.of sp)).tk tkd⟩) hp) ⟨rfl, p, [], rfl, tkd _ _ hp0, by simp, fun y => Iff.rfl⟩
      · rw [List.take_length] at hp
        have s3' := s4.trans sm
        have hx4 := s3' _ _ hx3
        have tkx : TK H' (upd H' x (.ins C dx [("left", w1), ("right", w2), ("kinds", .ref ka), ("bars", .ref Da)])) := fun a vs e => by rw [upd_ne (ne_of e hx4 (by intro z; cases z))]; exact e
        have nH : H Da = none := by
          cases e : H Da with
          | none => rfl
          | some o =>
            by_cases hh : Da = x
            · rw [hh] at nDa
              rw [s4 _ _ hx3] at nDa
              cases nDa
            · rw [s4 _ _ (b3 _ _ e hh)] at nDa
              cases nDa
        exact ⟨_, rfl, x, C, dx, _, rfl, hx4, L.cls, L.bars, by simp, Da, _, rfl, upd_same, sh_tups tkx R.h1 (DAt.hold (.same s3') _ hw1), sh_tups tkx R.h2 (DAt.hold (.same s3') _ hw2), by rw [upd_ne hxka]; exact s3' _ _ hka, Paired.mono (fun _ _ ⟨e, g⟩ => ⟨e, (g.tk (.of s3')).tk tkx⟩) hpk, (ne_of_none (s4 _ _ hka) nDa).symm, nH, by rw [upd_ne (ne_of hD hx4 (by intro z; cases z))]; exact hD, Paired.mono (fun _ _ ⟨e, g⟩ => ⟨e, g.tk tkx⟩) hp, fun b o e ne => by rw [upd_ne ne]; exact s3' _ _ (b3 _ _ e ne)⟩
    clear hw1 hw2 b3 tk3 hx3 hka hpk
    rintro σ H3 ⟨ba, bd, rfl, hx3, hw1, hw2, hka, hpk, nbk, nba, hba, hpb, b3⟩
    obtain ⟨kvs1, hA1, hP1⟩ := R.k1
    obtain ⟨kvs2, hA2, hP2⟩ := R.k2
    have hl1 := Paired.length hP1
    have hl2 := Paired.length hP2
    have nx1 : a1 ≠ x := ne_of hA1 hx (by intro z; cases z)
    have nx2 : a2 ≠ x := ne_of hA2 hx (by intro z; cases z)
    have na1k : a1 ≠ ka := ne_of_none hA1 nka
    have na1b : a1 ≠ ba := ne_of_none hA1 nba
    have na2k : a2 ≠ ka := ne_of_none hA2 nka
    have na2b : a2 ≠ ba := ne_of_none hA2 nba
    refine ⟨fun σ H' => ∃ (o6 o7 : Option V) (cd : List (Key × V)), σ = [some (.ref x), some v1, some v2, some (.ref a1), some (.ref a2), some .non, o6, o7] ∧ H' x = some (.ins C dx [("left", w1), ("right", w2), ("kinds", .ref ka), ("bars", .ref ba)]) ∧ DAt nol H' w1 d1 ∧ DAt nol H' w2 d2 ∧ H' ka = some (.dK cd) ∧ Paired (Ent GK H' ks) cd (hnm d1) ∧ H' ba = some (.dK bd) ∧ Paired (Ent GB H' []) bd (hnm d1) ∧ (∀ b o, H b = some o → b ≠ x → H' b = some o), ?_, ?_⟩
    · have hA13 := b3 _ _ hA1 nx1
      refine ⟨_, rfl, _, rfl, iteBt (by rfl) ⟨a1, _, hA13, trivial, fun od => ⟨_, rfl, a1, od, kvs1, rfl, upd_same, ?_⟩⟩⟩
      have hFx : (upd H3 a1 (.frz od (.dK kvs1))) x = some (.ins C dx [("left", w1), ("right", w2), ("kinds", .ref ka), ("bars", .ref ba)]) := by rw [upd_ne (ne_of hx3 hA13 (by intro z; cases z))]; exact hx3
      have hFk : (upd H3 a1 (.frz od (.dK kvs1))) ka = some (.dK kd) := by rw [upd_ne na1k.symm]; exact hka
      have hFb : (upd H3 a1 (.frz od (.dK kvs1))) ba = some (.dK bd) := by rw [upd_ne na1b.symm]; exact hba
      have hFt : TK H3 (upd H3 a1 (.frz od (.dK kvs1))) := fun a vs e => by rw [upd_ne (ne_of e hA13 (by intro z; cases z))]; exact e
      have hFa : (upd H3 a1 (.frz od (.dK kvs1))) a1 = some (.frz od (.dK kvs1)) := upd_same
      have hFK : ∀ b o, H b = some o → b ≠ x → b ≠ a1 → (upd H3 a1 (.frz od (.dK kvs1))) b = some o := fun b o e n n' => by rw [upd_ne n']; exact b3 _ _ e n
      generalize upd H3 a1 (.frz od (.dK kvs1)) = HF at hFx hFk hFb hFt hFa hFK ⊢
      refine for_gen (J := Iti a1 od kvs1) ks.length (fun i σ H' => ∃ (o6 o7 : Option V) (cd : List (Key × V)), σ = [some (.ref x), some v1, some v2, some (.ref a1), some (.ref a2), some .non, o6, o7] ∧ H' x = some (.ins C dx [("left", w1), ("right", w2), ("kinds", .ref ka), ("bars", .ref ba)]) ∧ DAt nol H' w1 d1 ∧ DAt nol H' w2 d2 ∧ H' ka = some (.dK cd) ∧ Paired (Ent GK H' (ks.take i)) cd (hnm d1) ∧ H' ba = some (.dK bd) ∧ Paired (Ent GB H' []) bd (hnm d1) ∧ H' a1 = some (.frz od (.dK kvs1)) ∧ ∀ b o, H b = some o → b ≠ x → b ≠ a1 → H' b = some o)
        ⟨_, _, kd, rfl, hFx, sh_tups hFt R.h1 hw1, sh_tups hFt R.h2 hw2, hFk, Paired.mono (fun _ _ ⟨e, g⟩ => ⟨e, g.tk hFt⟩) hpk, hFb, Paired.mono (fun _ _ ⟨e, g⟩ => ⟨e, g.tk hFt⟩) hpb, hFa, hFK⟩
        (fun i σ H' hi ⟨_, _, _, _, _, _, _, _, _, _, _, ha, _⟩ => ⟨ha, by omega⟩) (fun σ H' ⟨_, _, _, _, _, _, _, _, _, _, _, ha, _⟩ => ⟨ha, by omega⟩) ?_ ?_
      · rintro i σ H4 u H5 hi ⟨o6, o7, cd, rfl, hx4, hw14, hw24, hk4, hpk4, hb4, hpb4, ha4, b4⟩ ⟨T', kk, v, hkv, rfl, nT, rfl⟩
        obtain ⟨q, hq, ek, l, ev, _, hl'⟩ := paired_get hP1 hkv
        obtain ⟨hlt, eq⟩ := List.getElem?_eq_some_iff.mp hq
        dsimp only at ek ev
        subst ek ev
        obtain ⟨hqm, hql, hqw⟩ := R.o1.mem q (List.mem_of_getElem? hq)
        have hl4 := b4 _ _ hl' (ne_of hl' hx (by intro z; cases z)) (ne_of hl' hA1 (by intro z; cases z))
        have qnew : q.1 ∉ (ks.take i).map fun q => q.1 := fun h => by
          have := R.o1.nd
          rw [← List.take_append_drop i ks, List.map_append, List.drop_eq_getElem_cons hlt, eq, List.map_cons] at this
          exact (List.nodup_append.mp this).2.2 _ h _ List.mem_cons_self rfl
        have ety := List.take_succ_eq_append_getElem hlt
        rw [eq] at ety
        have sT : Same H4 (upd H4 T' (.tup [kV (.inr q.1), .ref l])) := same_upd nT
        have hT : (upd H4 T' (.tup [kV (.inr q.1), .ref l])) T' = some (.tup [.str q.1, .ref l]) := upd_same
        generalize upd H4 T' (.tup [kV (.inr q.1), .ref l]) = H6 at sT hT ⊢
        refine ⟨T', _, rfl, SqT.of hT, rfl, .str q.1, [.ref l], rfl, .ref l, [], rfl, rfl, ?_⟩
        refine ⟨_, rfl, l, q.2, rfl, SqL.of (sT _ _ hl4), by omega, fun p np => ⟨p, _, _, rfl, upd_same, by have := once_le q.2; unfold TX.many; omega, fun ys lq _ _ mem hlen nlq => ⟨lq, _, rfl, .inl ⟨SqL.of upd_same, fun rt nrt => ?_⟩⟩⟩⟩
        have s7 := (same_upd (o := SetX (cxOf C8.CX0 P w K mg base NRI "Rule.__init__" (fnScope sRI) f cdv A outer s H E).nox.w p (fun z => decide (z ∈ q.2)) (TX.many q.2)) np).trans ((same_upd (o := .lst (ys.map V.str)) nlq).trans (same_upd (o := .tup (ys.map V.str)) nrt))
        have hrt : (upd (upd (upd H6 p (SetX (cxOf C8.CX0 P w K mg base NRI "Rule.__init__" (fnScope sRI) f cdv A outer s H E).nox.w p (fun z => decide (z ∈ q.2)) (TX.many q.2))) lq (.lst (ys.map V.str))) rt (.tup (ys.map V.str))) rt = some (.tup (ys.map V.str)) := upd_same
        generalize upd (upd (upd H6 p (SetX (cxOf C8.CX0 P w K mg base NRI "Rule.__init__" (fnScope sRI) f cdv A outer s H E).nox.w p (fun z => decide (z ∈ q.2)) (TX.many q.2))) lq (.lst (ys.map V.str))) rt (.tup (ys.map V.str)) = H7 at s7 hrt ⊢
        have s47 := sT.trans s7
        have hx7 := s47 _ _ hx4
        have hC7 := s47 _ _ hk4
        have hcl := Paired.length hpk4
        have tkd : TK H7 (upd H7 ka (.dK (putK cd (.inr q.1) (.ref rt)))) := fun a vs e => by rw [upd_ne (ne_of e hC7 (by intro z; cases z))]; exact e
        have tk47 := TK.of s47
        have hv : TupOf (upd H7 ka (.dK (putK cd (.inr q.1) (.ref rt)))) q.2 (.ref rt) := ⟨rt, ys, rfl, tkd _ _ hrt, by have := once_le q.2; unfold TX.many at hlen; omega, fun y => by rw [mem y]; exact decide_eq_true_iff⟩
        refine ⟨_, rfl, x, C, dx, _, _, rfl, hx7, L.cls, L.kinds, rfl, _, rfl, ka, _, rfl, DPut.k (k := .inr q.1) hC7 (by omega), _, _, putK cd (.inr q.1) (.ref rt), rfl, by rw [upd_ne (ne_of hx7 hC7 (by intro z; cases z))]; exact hx7, sh_tups tkd R.h1 (DAt.hold (.same s47) _ hw14), sh_tups tkd R.h2 (DAt.hold (.same s47) _ hw24), upd_same, ?_, by rw [upd_ne nbk]; exact s47 _ _ hb4, Paired.mono (fun _ _ ⟨e, g⟩ => ⟨e, (g.tk tk47).tk tkd⟩) hpb4, by rw [upd_ne (ne_of (s47 _ _ ha4) hC7 (by intro z; cases z))]; exact s47 _ _ ha4, fun b o e n n' => by rw [upd_ne (ne_of_none e nka)]; exact s47 _ _ (b4 _ _ e n n')⟩
        rw [ety]
        exact ent_put (Paired.mono (fun _ _ ⟨e, g⟩ => ⟨e, (g.tk tk47).tk tkd⟩) hpk4) hqm qnew hv
      · rintro σ H4 ⟨o6, o7, cd, rfl, hx4, hw14, hw24, hk4, hpk4, hb4, hpb4, ha4, b4⟩
        rw [List.take_length] at hpk4
        have tku : TK H4 (upd H4 a1 (.dK kvs1)) := fun a vs e => by rw [upd_ne (ne_of e ha4 (by intro z; cases z))]; exact e
        have hxu : (upd H4 a1 (.dK kvs1)) x = some (.ins C dx [("left", w1), ("right", w2), ("kinds", .ref ka), ("bars", .ref ba)]) := by rw [upd_ne (ne_of hx4 ha4 (by intro z; cases z))]; exact hx4
        have hku := (upd_ne (H := H4) (o := .dK kvs1) (ne_of hk4 ha4 (by intro z; cases z))).trans hk4
        have hbu := (upd_ne (H := H4) (o := .dK kvs1) (ne_of hb4 ha4 (by intro z; cases z))).trans hb4
        have bu : ∀ b o, H b = some o → b ≠ x → (upd H4 a1 (.dK kvs1)) b = some o := fun b o e n => by
          by_cases hh : b = a1
          · rw [hh, hA1] at e
            rw [hh, upd_same]
            exact e
          · rw [upd_ne hh]
            exact b4 _ _ e n hh
        have hpku := Paired.mono (fun _ _ (⟨e, g⟩ : Ent GK _ _ _ _) => (⟨e, g.tk tku⟩ : Ent GK _ _ _ _)) hpk4
        have hpbu := Paired.mono (fun _ _ (⟨e, g⟩ : Ent GB _ _ _ _) => (⟨e, g.tk tku⟩ : Ent GB _ _ _ _)) hpb4
        exact ⟨ha4, o6, o7, cd, rfl, hxu, sh_tups tku R.h1 hw14, sh_tups tku R.h2 hw24, hku, hpku, hbu, hpbu, bu⟩
    clear hw1 hw2 b3 hx3 hka hpk hba hpb
    rintro σ H3 ⟨o6, o7, kd, rfl, hx3, hw1, hw2, hka, hpk, hba, hpb, b3⟩
    have hA23 := b3 _ _ hA2 nx2
    refine ⟨_, rfl, _, rfl, iteBt (by rfl) ⟨a2, _, hA23, trivial, fun od => ⟨_, rfl, a2, od, kvs2, rfl, upd_same, ?_⟩⟩⟩
    have hFx : (upd H3 a2 (.frz od (.dK kvs2))) x = some (.ins C dx [("left", w1), ("right", w2), ("kinds", .ref ka), ("bars", .ref ba)]) := by rw [upd_ne (ne_of hx3 hA23 (by intro z; cases z))]; exact hx3
    have hFk : (upd H3 a2 (.frz od (.dK kvs2))) ka = some (.dK kd) := by rw [upd_ne na2k.symm]; exact hka
    have hFb : (upd H3 a2 (.frz od (.dK kvs2))) ba = some (.dK bd) := by rw [upd_ne na2b.symm]; exact hba
    have hFt : TK H3 (upd H3 a2 (.frz od (.dK kvs2))) := fun a vs e => by rw [upd_ne (ne_of e hA23 (by intro z; cases z))]; exact e
    have hFa : (upd H3 a2 (.frz od (.dK kvs2))) a2 = some (.frz od (.dK kvs2)) := upd_same
    have hFK : ∀ b o, H b = some o → b ≠ x → b ≠ a2 → (upd H3 a2 (.frz od (.dK kvs2))) b = some o := fun b o e n n' => by rw [upd_ne n']; exact b3 _ _ e n
    generalize upd H3 a2 (.frz od (.dK kvs2)) = HF at hFx hFk hFb hFt hFa hFK ⊢
    refine for_gen (J := Iti a2 od kvs2) bs.length (fun i σ H' => ∃ (o6 o7 : Option V) (cd : List (Key × V)), σ = [some (.ref x), some v1, some v2, some (.ref a1), some (.ref a2), some .non, o6, o7] ∧ H' x = some (.ins C dx [("left", w1), ("right", w2), ("kinds", .ref ka), ("bars", .ref ba)]) ∧ DAt nol H' w1 d1 ∧ DAt nol H' w2 d2 ∧ H' ka = some (.dK kd) ∧ Paired (Ent GK H' ks) kd (hnm d1) ∧ H' ba = some (.dK cd) ∧ Paired (Ent GB H' (bs.take i)) cd (hnm d1) ∧ H' a2 = some (.frz od (.dK kvs2)) ∧ ∀ b o, H b = some o → b ≠ x → b ≠ a2 → H' b = some o)
      ⟨_, _, bd, rfl, hFx, sh_tups hFt R.h1 hw1, sh_tups hFt R.h2 hw2, hFk, Paired.mono (fun _ _ ⟨e, g⟩ => ⟨e, g.tk hFt⟩) hpk, hFb, Paired.mono (fun _ _ ⟨e, g⟩ => ⟨e, g.tk hFt⟩) hpb, hFa, hFK⟩
      (fun i σ H' hi ⟨_, _, _, _, _, _, _, _, _, _, _, ha, _⟩ => ⟨ha, by omega⟩) (fun σ H' ⟨_, _, _, _, _, _, _, _, _, _, _, ha, _⟩ => ⟨ha, by omega⟩) ?_ ?_
    · rintro i σ H4 u H5 hi ⟨o6, o7, cd, rfl, hx4, hw14, hw24, hk4, hpk4, hb4, hpb4, ha4, b4⟩ ⟨T', kk, v, hkv, rfl, nT, rfl⟩
      obtain ⟨q, hq, ek, l, ev, _, hl'⟩ := paired_get hP2 hkv
      obtain ⟨hlt, eq⟩ := List.getElem?_eq_some_iff.mp hq
      dsimp only at ek ev
      subst ek ev
      obtain ⟨hqm, hql, hqw⟩ := R.o2.mem q (List.mem_of_getElem? hq)
      have hl4 := b4 _ _ hl' (ne_of hl' hx (by intro z; cases z)) (ne_of hl' hA2 (by intro z; cases z))
      have qnew : q.1 ∉ (bs.take i).map fun q => q.1 := fun h => by
        have := R.o2.nd
        rw [← List.take_append_drop i bs, List.map_append, List.drop_eq_getElem_cons hlt, eq, List.map_cons] at this
        exact (List.nodup_append.mp this).2.2 _ h _ List.mem_cons_self rfl
      have ety := List.take_succ_eq_append_getElem hlt
      rw [eq] at ety
      have sT : Same H4 (upd H4 T' (.tup [kV (.inr q.1), .ref l])) := same_upd nT
      have hT : (upd H4 T' (.tup [kV (.inr q.1), .ref l])) T' = some (.tup [.str q.1, .ref l]) := upd_same
      generalize upd H4 T' (.tup [kV (.inr q.1), .ref l]) = H6 at sT hT ⊢
      refine ⟨T', _, rfl, SqT.of hT, rfl, .str q.1, [.ref l], rfl, .ref l, [], rfl, rfl, ?_⟩
      refine ⟨_, rfl, l, q.2, rfl, SqL.of (sT _ _ hl4), by omega, fun p np => ⟨p, _, _, rfl, upd_same, by have := once_le q.2; unfold TX.many; omega, fun ys lq _ _ mem hlen nlq => ⟨lq, _, rfl, .inl ⟨SqL.of upd_same, fun rt nrt => ?_⟩⟩⟩⟩
      have s7 := (same_upd (o := SetX (cxOf C8.CX0 P w K mg base NRI "Rule.__init__" (fnScope sRI) f cdv A outer s H E).nox.w p (fun z => decide (z ∈ q.2)) (TX.many q.2)) np).trans ((same_upd (o := .lst (ys.map V.str)) nlq).trans (same_upd (o := .tup (ys.map V.str)) nrt))
      have hrt : (upd (upd (upd H6 p (SetX (cxOf C8.CX0 P w K mg base NRI "Rule.__init__" (fnScope sRI) f cdv A outer s H E).nox.w p (fun z => decide (z ∈ q.2)) (TX.many q.2))) lq (.lst (ys.map V.str))) rt (.tup (ys.map V.str))) rt = some (.tup (ys.map V.str)) := upd_same
      generalize upd (upd (upd H6 p (SetX (cxOf C8.CX0 P w K mg base NRI "Rule.__init__" (fnScope sRI) f cdv A outer s H E).nox.w p (fun z => decide (z ∈ q.2)) (TX.many q.2))) lq (.lst (ys.map V.str))) rt (.tup (ys.map V.str)) = H7 at s7 hrt ⊢
      have s47 := sT.trans s7
      have hx7 := s47 _ _ hx4
      have hC7 := s47 _ _ hb4
      have hcl := Paired.length hpb4
      have tkd : TK H7 (upd H7 ba (.dK (putK cd (.inr q.1) (.ref rt)))) := fun a vs e => by rw [upd_ne (ne_of e hC7 (by intro z; cases z))]; exact e
      have tk47 := TK.of s47
      have hv : TupOf (upd H7 ba (.dK (putK cd (.inr q.1) (.ref rt)))) q.2 (.ref rt) := ⟨rt, ys, rfl, tkd _ _ hrt, by have := once_le q.2; unfold TX.many at hlen; omega, fun y => by rw [mem y]; exact decide_eq_true_iff⟩
      refine ⟨_, rfl, x, C, dx, _, _, rfl, hx7, L.cls, L.bars, rfl, _, rfl, ba, _, rfl, DPut.k (k := .inr q.1) hC7 (by omega), _, _, putK cd (.inr q.1) (.ref rt), rfl, by rw [upd_ne (ne_of hx7 hC7 (by intro z; cases z))]; exact hx7, sh_tups tkd R.h1 (DAt.hold (.same s47) _ hw14), sh_tups tkd R.h2 (DAt.hold (.same s47) _ hw24), by rw [upd_ne nbk.symm]; exact s47 _ _ hk4, Paired.mono (fun _ _ ⟨e, g⟩ => ⟨e, (g.tk tk47).tk tkd⟩) hpk4, upd_same, ?_, by rw [upd_ne (ne_of (s47 _ _ ha4) hC7 (by intro z; cases z))]; exact s47 _ _ ha4, fun b o e n n' => by rw [upd_ne (ne_of_none e nba)]; exact s47 _ _ (b4 _ _ e n n')⟩
      rw [ety]
      exact ent_put (Paired.mono (fun _ _ ⟨e, g⟩ => ⟨e, (g.tk tk47).tk tkd⟩) hpb4) hqm qnew hv
    · rintro σ H4 ⟨o6, o7, cd, rfl, hx4, hw14, hw24, hk4, hpk4, hb4, hpb4, ha4, b4⟩
      rw [List.take_length] at hpb4
      have tku : TK H4 (upd H4 a2 (.dK kvs2)) := fun a vs e => by rw [upd_ne (ne_of e ha4 (by intro z; cases z))]; exact e
      have hxu : (upd H4 a2 (.dK kvs2)) x = some (.ins C dx [("left", w1), ("right", w2), ("kinds", .ref ka), ("bars", .ref ba)]) := by rw [upd_ne (ne_of hx4 ha4 (by intro z; cases z))]; exact hx4
      have hku := (upd_ne (H := H4) (o := .dK kvs2) (ne_of hk4 ha4 (by intro z; cases z))).trans hk4
      have hbu := (upd_ne (H := H4) (o := .dK kvs2) (ne_of hb4 ha4 (by intro z; cases z))).trans hb4
      have bu : ∀ b o, H b = some o → b ≠ x → (upd H4 a2 (.dK kvs2)) b = some o := fun b o e n => by
        by_cases hh : b = a2
        · rw [hh, hA2] at e
          rw [hh, upd_same]
          exact e
        · rw [upd_ne hh]
          exact b4 _ _ e n hh
      have hpku := Paired.mono (fun _ _ (⟨e, g⟩ : Ent GK _ _ _ _) => (⟨e, g.tk tku⟩ : Ent GK _ _ _ _)) hpk4
      have hpbu := Paired.mono (fun _ _ (⟨e, g⟩ : Ent GB _ _ _ _) => (⟨e, g.tk tku⟩ : Ent GB _ _ _ _)) hpb4
      exact ⟨ha4, k _ bu ⟨dx, w1, w2, ka, ba, kd, cd, hxu, sh_tups tku R.h1 hw14, sh_tups tku R.h2 hw24, hku, hpku, hbu, hpbu⟩⟩
end
end KT

namespace KT
open PySem PySem.Spec PyProof.Rows L2 C8 XE XR TX
/-! Rule.holes, kind, bar; has_label, may_stand -/
abbrev sRH : Stmt := mthR 2
abbrev sRK : Stmt := mthR 3
abbrev sRB : Stmt := mthR 4
abbrev sHL : Stmt := top 26
abbrev sMS : Stmt := top 27
theorem scRH : FnScope ["self"] ["self"] (fnScope sRH) := fnScope_by (by decide +kernel)
theorem scRK : FnScope ["self", "hole"] ["self", "hole"] (fnScope sRK) := fnScope_by (by decide +kernel)
theorem scRB : FnScope ["self", "hole"] ["self", "hole"] (fnScope sRB) := fnScope_by (by decide +kernel)
abbrev NHL : List Str := ["tree", "labels", "waiting", "node"]
theorem scHL : FnScope NHL ["tree", "labels"] (fnScope sHL) := fnScope_by (by decide +kernel)
abbrev NMS : List Str := ["rule", "hole", "content", "kind"]
theorem scMS : FnScope NMS ["rule", "hole", "content"] (fnScope sMS) := fnScope_by (by decide +kernel)
theorem ent_keys {G : Hp → Option (List Str) → V → Prop} {H : Hp} {ks : List (Str × List Str)} : ∀ {kd : List (Key × V)} {hs : List Str}, Paired (Ent G H ks) kd hs → (kd.map fun kv => kV kv.1) = hs.map V.str
  | _, _, .nil => rfl
  | _, _, .cons ⟨e, _⟩ t => by
    rw [List.map_cons, List.map_cons, ent_keys t, e]
    rfl
theorem RuleAt.same {H H' : Hp} (s : Same H H') {x C : Addr} {d1 d2 : D} {ks bs : List (Str × List Str)} (h : RuleAt H x C d1 d2 ks bs) : RuleAt H' x C d1 d2 ks bs :=
  let ⟨dx, v1, v2, ka, ba, kd, bd, e1, e2, e3, e4, e5, e6, e7⟩ := h
  ⟨dx, v1, v2, ka, ba, kd, bd, s _ _ e1, DAt.hold (.same s) _ e2, DAt.hold (.same s) _ e3, s _ _ e4, Paired.mono (fun _ _ ⟨e, g⟩ => ⟨e, g.tk (.of s)⟩) e5, s _ _ e6, Paired.mono (fun _ _ ⟨e, g⟩ => ⟨e, g.tk (.of s)⟩) e7⟩
def spRH (C : Addr) : Sp := fun vs H Q _ => ∃ (x : Addr) (d1 d2 : D) (ks bs : List (Str × List Str)), vs = [.ref x] ∧ RuleAt H x C d1 d2 ks bs ∧ ∀ l H', H l = none → Same H H' → H' l = some (.lst ((hnm d1).map V.str)) → Q (.ref l) H'
def spRK (C : Addr) : Sp := fun vs H Q _ => ∃ (x : Addr) (d1 d2 : D) (ks bs : List (Str × List Str)) (z : Str), vs = [.ref x, .str z] ∧ RuleAt H x C d1 d2 ks bs ∧ z ∈ hnm d1 ∧ ∀ v H', Same H H' → GK H' (kwOf ks z) v → Q v H'
def spRB (C : Addr) : Sp := fun vs H Q _ => ∃ (x : Addr) (d1 d2 : D) (ks bs : List (Str × List Str)) (z : Str), vs = [.ref x, .str z] ∧ RuleAt H x C d1 d2 ks bs ∧ z ∈ hnm d1 ∧ ∀ v H', Same H H' → GB H' (kwOf bs z) v → Q v H'
mutual
/-- a tree: no hole in it -/
def treeD : D → Bool
  | .sq (.fl (.str z) :: cs) => wordS z && treeDs cs
  | _ => false
def treeDs : List D → Bool
  | [] => true
  | c :: cs => treeD c && treeDs cs
end
mutual
/-- a label of these stands in it, not beneath a keep -/
def hasD (p : Str → Bool) : D → Bool
  | .sq (.fl (.str z) :: cs) => p z || (decide (z ≠ "keep") && hasDs p cs)
  | _ => false
def hasDs (p : Str → Bool) : List D → Bool
  | [] => false
  | c :: cs => hasD p c || hasDs p cs
end
theorem treeDs_app : ∀ a b : List D, treeDs (a ++ b) = (treeDs a && treeDs b)
  | [], b => rfl
  | x :: a, b => by rw [List.cons_append, treeDs, treeDs, treeDs_app a b, Bool.and_assoc]
theorem hasDs_app (p : Str → Bool) : ∀ a b : List D, hasDs p (a ++ b) = (hasDs p a || hasDs p b)
  | [], b => rfl
  | x :: a, b => by rw [List.cons_append, hasDs, hasDs, hasDs_app p a b, Bool.or_assoc]
theorem treeD_inv {d : D} (h : treeD d = true) : ∃ z cs, d = .sq (.fl (.str z) :: cs) ∧ treeDs cs = true := by
  unfold treeD at h
  split at h
  · rename_i z cs
    rw [Bool.and_eq_true] at h
    exact ⟨z, cs, rfl, h.2⟩
  · cases h
def spHL : Sp := fun vs H Q _ => ∃ (v : V) (d : D) (t : Addr) (ys : List Str), vs = [v, .ref t] ∧ DAt nol H v d ∧ treeD d = true ∧ sz d ≤ 5000 ∧ H t = some (.tup (ys.map V.str)) ∧ ys.length ≤ 100 ∧ ∀ H', Same H H' → Q (.bl (hasD (fun z => decide (z ∈ ys)) d)) H'
def topL : D → Str
  | .sq (.fl (.str z) :: _) => z
  | _ => ""
/-- a content may stand at a hole -/
def mayB (ks bs : List (Str × List Str)) (z : Str) (u : D) : Bool :=
  (match kwOf ks z with
    | none => true
    | some ws => decide (topL u ∈ ws)) && !hasD (fun y => decide (y ∈ (kwOf bs z).getD [])) u
theorem mayB_none {ks bs : List (Str × List Str)} {z : Str} {u : D} (h : kwOf ks z = none) : mayB ks bs z u = !hasD (fun y => decide (y ∈ (kwOf bs z).getD [])) u := by
  unfold mayB
  rw [h]
  rfl
theorem mayB_some {ks bs : List (Str × List Str)} {z : Str} {u : D} {ws : List Str} (h : kwOf ks z = some ws) : mayB ks bs z u = (decide (topL u ∈ ws) && !hasD (fun y => decide (y ∈ (kwOf bs z).getD [])) u) := by
  unfold mayB
  rw [h]
def spMS (C : Addr) : Sp := fun vs H Q _ => ∃ (x : Addr) (d1 d2 : D) (ks bs : List (Str × List Str)) (z : Str) (v : V) (u : D), vs = [.ref x, .str z, v] ∧ RuleAt H x C d1 d2 ks bs ∧ z ∈ hnm d1 ∧ DAt nol H v u ∧ treeD u = true ∧ sz u ≤ 5000 ∧ ∀ H', Same H H' → Q (.bl (mayB ks bs z u)) H'
section
variable {P : Program} {w : World} {K : PySem.W.Frag} {mg : Str → Option Value} {base : Heap}
theorem c_rH {C f : Addr} {fd : FuncData} (M : Meth K C "holes" f) (F : C8.Fun K "holes" "Rule.holes" sRH f fd) (b : Binds K fd ["self"] []) (T : Blt4 mg) (L : LR K mg C) : Met P w K mg base 1 C "holes" (spRH C) [] := by
  refine met0 L.cls M F b scRH (fun vs H Q E h => ?_) (fun cdv A outer s H vs Q E hr h => ?_)
  · obtain ⟨x, d1, d2, ks, bs, rfl, _⟩ := h
    rfl
  · obtain ⟨x, d1, d2, ks, bs, rfl, ⟨dx, v1, v2, ka, ba, kd, bd, e1, e2, e3, e4, e5, e6, e7⟩, k⟩ := h
    refine ⟨_, pss_one (ps_ret (pe_callTy (call_listD rfl) (by rfl) T.list (by decide +kernel) (pa_cons (pe_fld (pv 0) rfl) pa_nil))), ?_⟩
    refine ⟨_, rfl, x, C, dx, _, _, rfl, e1, L.cls, L.kinds, rfl, ka, kd, rfl, .of e4, fun p np => ?_⟩
    rw [ent_keys e5]
    exact k p _ np (same_upd np) upd_same
theorem c_rK {C f : Addr} {fd : FuncData} (M : Meth K C "kind" f) (F : C8.Fun K "kind" "Rule.kind" sRK f fd) (b : Binds K fd ["self", "hole"] []) (L : LR K mg C) (CH : Met P w K mg base 1 C "holes" (spRH C) []) : Met P w K mg base 2 C "kind" (spRK C) [] := by
  refine met0 L.cls M F b scRK (fun vs H Q E h => ?_) (fun cdv A outer s H vs Q E hr h => ?_)
  · obtain ⟨x, d1, d2, ks, bs, z, rfl, _⟩ := h
    rfl
  · obtain ⟨x, d1, d2, ks, bs, z, rfl, R, hz, k⟩ := h
    have hu : (A.deeper (envOfC "Rule.kind" (fnScope sRK) s.heap.objs.size f cdv)).units + 1 < cLine := by have := hr.un; omega
    refine ⟨_, pss_cons (ps_if (pt_cmpR op_notIn_seq (pv 1) (pe_mt0 CH hr (by decide) (pv 0)) (by rfl)) pss_never pss_nil)
      (pss_one (ps_ret (pe_dget hu (pe_fld (pv 0) rfl) (pv 1) (fun _ _ => rfl)))), ?_⟩
    obtain ⟨dx, v1, v2, ka, ba, kd, bd, e1, e2, e3, e4, e5, e6, e7⟩ := R
    refine ⟨_, rfl, _, rfl, x, dx, _, rfl, e1, rfl, x, d1, d2, ks, bs, rfl, ⟨dx, v1, v2, ka, ba, kd, bd, e1, e2, e3, e4, e5, e6, e7⟩, fun l H1 nl s1 hl => ⟨l, _, rfl, .inl (SqL.of hl), rfl, all_flat _, _, rfl, ?_⟩⟩
    rw [if_pos rfl, inV_str, decide_eq_true hz]
    refine iteBf rfl ?_
    obtain ⟨v, e, g⟩ := ent_some e5 hz
    refine ⟨_, rfl, x, C, dx, _, _, rfl, s1 _ _ e1, L.cls, L.kinds, rfl, _, rfl, ka, v, rfl, ?_, k v _ s1 (g.tk (.of s1))⟩
    have := DGet.k (k := .inr z) (s1 _ _ e4)
    rw [e] at this
    exact this
theorem c_rB {C f : Addr} {fd : FuncData} (M : Meth K C "bar" f) (F : C8.Fun K "bar" "Rule.bar" sRB f fd) (b : Binds K fd ["self", "hole"] []) (L : LR K mg C) (CH : Met P w K mg base 1 C "holes" (spRH C) []) : Met P w K mg base 2 C "bar" (spRB C) [] := by
  refine met0 L.cls M F b scRB (fun vs H Q E h => ?_) (fun cdv A outer s H vs Q E hr h => ?_)
  · obtain ⟨x, d1, d2, ks, bs, z, rfl, _⟩ := h
    rfl
  · obtain ⟨x, d1, d2, ks, bs, z, rfl, R, hz, k⟩ := h
    have hu : (A.deeper (envOfC "Rule.bar" (fnScope sRB) s.heap.objs.size f cdv)).units + 1 < cLine := by have := hr.un; omega
    refine ⟨_, pss_cons (ps_if (pt_cmpR op_notIn_seq (pv 1) (pe_mt0 CH hr (by decide) (pv 0)) (by rfl)) pss_never pss_nil)
      (pss_one (ps_ret (pe_dget hu (pe_fld (pv 0) rfl) (pv 1) (fun _ _ => rfl)))), ?_⟩
    obtain ⟨dx, v1, v2, ka, ba, kd, bd, e1, e2, e3, e4, e5, e6, e7⟩ := R
    refine ⟨_, rfl, _, rfl, x, dx, _, rfl, e1, rfl, x, d1, d2, ks, bs, rfl, ⟨dx, v1, v2, ka, ba, kd, bd, e1, e2, e3, e4, e5, e6, e7⟩, fun l H1 nl s1 hl => ⟨l, _, rfl, .inl (SqL.of hl), rfl, all_flat _, _, rfl, ?_⟩⟩
    rw [if_pos rfl, inV_str, decide_eq_true hz]
    refine iteBf rfl ?_
    obtain ⟨v, e, g⟩ := ent_some e7 hz
    refine ⟨_, rfl, x, C, dx, _, _, rfl, s1 _ _ e1, L.cls, L.bars, rfl, _, rfl, ba, v, rfl, ?_, k v _ s1 (g.tk (.of s1))⟩
    have := DGet.k (k := .inr z) (s1 _ _ e6)
    rw [e] at this
    exact this
theorem c_hL {f : Addr} {fd : FuncData} (F : Def K mg "has_label" sHL f fd) (b : Binds K fd ["tree", "labels"] []) (T : Blt4 mg) (G : Gs mg) : Cal P w K mg base 1 "has_label" spHL [] := by
  refine cal0 F b .nil scHL (fun vs H Q E h => ?_) (fun cdv A outer s H vs Q E hr h => ?_)
  · obtain ⟨v, d, t, ys, rfl, _⟩ := h
    rfl
  · obtain ⟨v, d, t, ys, rfl, hv, htr, hz, ht, hyl, k⟩ := h
    have nd := scHL.nd
    refine ⟨_, pss_cons (ps_set (i := 2) nd rfl (Or.inl rfl) (pe_lst (pa_cons (pv 0) pa_nil)))
      (pss_cons (ps_while PassesOwn.never (pt_truth (pv 2) (by intro _; rfl))
        (pss_cons (ps_set (i := 3) nd rfl (Or.inl rfl) (pe_bm0 PySem.F.plainAttrs_list PySem.F.slot_list_pop PySem.F.type_list_pop mt_pop (pv 2)))
        (pss_cons (ps_if (pt_cmpR op_in_seq (pe_ix ix_tup (pv 3) pe_int fun _ _ => rfl) (pv 1) (by rfl)) (pss_one (ps_ret pe_bl)) pss_nil)
        (pss_one (ps_if (pt_cmpR op_ne (pe_ix ix_tup (pv 3) pe_int fun _ _ => rfl) (pe_gc (by rfl) G.kee) (nomark _)) (pss_one (ps_expr (pe_bm PySem.F.plainAttrs_list PySem.F.slot_list_extend PySem.F.type_list_extend mt_extendT (pv 2) (pa_cons (pe_slice sl_tup (pv 3) (po_some pe_int) po_none) pa_nil)))) pss_nil)))))
      (pss_one (ps_ret pe_bl))), ?_⟩
    refine ⟨_, rfl, (by show 1 ≤ sizeLine; decide), fun W nW => ?_⟩
    have s1 : Same H (upd H W (.lst [v])) := same_upd nW
    let Iv : Nat → L2.St → Hp → Prop := fun m σ H' => ∃ (xs : List V) (ds : List D) (v3 : Option V), szs ds = m ∧ σ = [some v, some (.ref t), some (.ref W), v3] ∧ H' W = some (.lst xs) ∧ DAts nol H xs ds ∧ Same H H' ∧ treeDs ds = true ∧ hasD (fun z => decide (z ∈ ys)) d = hasDs (fun z => decide (z ∈ ys)) ds ∧ m ≤ 5000
    refine ⟨Iv, ⟨sz d, [v], [d], none, rfl, rfl, upd_same, ⟨hv, trivial⟩, s1, by rw [treeDs, treeDs, Bool.and_true]; exact htr, by rw [hasDs, hasDs, Bool.or_false], hz⟩, ?_⟩
    rintro m σ H1 ⟨xs, ds, v3, rfl, rfl, hW, hxs, sm, hT, hS, hm⟩
    have hlen := hxs.len
    have hll := len_szs ds
    have hsl := sizeLine_eq
    refine ⟨_, rfl, !xs.isEmpty, .inl ⟨xs, SqL.of hW, rfl⟩, ?_⟩
    cases hxe : xs.isEmpty with
    | true =>
      have e : xs = [] := List.isEmpty_iff.mp hxe
      subst e
      have : ds = [] := List.length_eq_zero_iff.mp hlen.symm
      subst this
      refine iteBf rfl ?_
      have kk := k H1 sm
      rw [hS, hasDs] at kk
      exact kk
    | false =>
      refine iteBt rfl ?_
      have hne : xs ≠ [] := fun e => by rw [e] at hxe; cases hxe
      obtain ⟨us, u, rfl⟩ : ∃ us u, xs = us ++ [u] := ⟨xs.dropLast, xs.getLast hne, (List.dropLast_concat_getLast hne).symm⟩
      obtain ⟨es, e, rfl, hus, hu⟩ := DAts.snoc_inv hxs
      have hsz : szs (es ++ [e]) = szs es + sz e := by rw [szs_app]; rfl
      rw [hsz] at hm hll
      rw [treeDs_app, Bool.and_eq_true, treeDs, treeDs, Bool.and_true] at hT
      rw [hasDs_app, hasDs, hasDs, Bool.or_false] at hS
      have hyl' := hus.len
      have hes := len_szs es
      refine ⟨fun σ' H' => ∃ m' < szs (es ++ [e]), Iv m' σ' H', fun σ' H' ⟨m', hl, hi⟩ => ⟨m', hl, hi⟩, ?_⟩
      refine ⟨_, rfl, .inl ⟨rfl, _, SqL.of hW⟩, W, _, u, rfl, rfl, hW, by simp, ?_⟩
      rw [List.dropLast_concat]
      have hW2 : (upd H1 W (.lst us)) W = some (.lst us) := upd_same
      have sm2 : Same H (upd H1 W (.lst us)) := fun b o q => by rw [upd_ne (ne_of_none q nW)]; exact sm _ _ q
      generalize upd H1 W (.lst us) = H2 at hW2 sm2 ⊢
      obtain ⟨z, cs, rfl, hcs⟩ := treeD_inv hT.2
      obtain ⟨a, vs, rfl, q, _, hvs⟩ := hu
      match vs, hvs with
      | [], hvs => exact hvs.elim
      | v0 :: cvs, ⟨⟨e0, _⟩, hcv⟩ =>
        subst e0
        have qa := q.elim id fun e => e.1.elim
        have q2 := sm2 _ _ qa
        have hcl := hcv.len
        have hez : sz (.sq (.fl (.str z) :: cs)) = 2 + szs cs := by rw [sz, szs, sz]; omega
        have hcz := len_szs cs
        rw [hasD] at hS
        refine ⟨_, rfl, a, _, 0, _, rfl, rfl, SqT.of q2, at_of (j := 0) (by omega) rfl, _, rfl, t, _, rfl, .inr (SqT.of (sm2 _ _ ht)), rfl, all_flat _, _, rfl, ?_⟩
        rw [if_neg Bool.false_ne_true, inV_str]
        cases hin : decide (z ∈ ys) with
        | true =>
          refine iteBt rfl ?_
          have kk := k H2 sm2
          rw [hS, hin, Bool.true_or, Bool.or_true] at kk
          exact kk
        | false =>
          refine iteBf rfl ?_
          rw [hin, Bool.false_or] at hS
          refine ⟨_, rfl, a, _, 0, _, rfl, rfl, SqT.of q2, at_of (j := 0) (by omega) rfl, rfl, _, rfl, ?_⟩
          by_cases hk : z = "keep"
          · rw [hk] at hS
            refine iteBf (by rw [hk, decide_eq_true rfl]; rfl) ⟨szs es, by rw [hsz]; omega, us, es, _, rfl, rfl, hW2, hus, sm2, hT.1, ?_, by omega⟩
            rw [hS, decide_eq_false (by simp), Bool.false_and, Bool.or_false]
          · refine iteBt (by rw [decide_eq_false (fun e => hk (V.str.inj e))]; rfl) ?_
            have cut1 : (V.str z :: cvs).drop (1 : Int).toNat = cvs := rfl
            refine ⟨_, rfl, .inl ⟨rfl, _, SqL.of hW2⟩, _, rfl, 1, rfl, a, _, rfl, SqT.of q2, not_whole (by decide) (by simp), fun r nr => ?_⟩
            rw [cutFrom (by decide), cut1]
            refine ⟨W, r, us, cvs, rfl, rfl, by rw [upd_ne (ne_of_none hW2 nr)]; exact hW2, SqT.of upd_same, by omega, ?_⟩
            refine ⟨szs (es ++ cs), by rw [hsz, szs_app]; omega, us ++ cvs, es ++ cs, _, rfl, rfl, upd_same, DAts.app hus hcv, fun b o q => by rw [upd_ne (ne_of_none q nW), upd_ne (ne_of_none (sm2 _ _ q) nr)]; exact sm2 _ _ q, by rw [treeDs_app, hT.1, hcs]; rfl, ?_, by rw [szs_app]; omega⟩
            rw [hS, hasDs_app, decide_eq_true hk, Bool.true_and]
theorem c_mS {C f : Addr} {fd : FuncData} (F : Def K mg "may_stand" sMS f fd) (b : Binds K fd ["rule", "hole", "content"] []) (CK : Met P w K mg base 2 C "kind" (spRK C) []) (CB : Met P w K mg base 2 C "bar" (spRB C) []) (CL : Cal P w K mg base 1 "has_label" spHL []) : Cal P w K mg base 3 "may_stand" (spMS C) [] := by
  refine cal0 F b .nil scMS (fun vs H Q E h => ?_) (fun cdv A outer s H vs Q E hr h => ?_)
  · obtain ⟨x, d1, d2, ks, bs, z, v, u, rfl, _⟩ := h
    rfl
  · obtain ⟨x, d1, d2, ks, bs, z, v, u, rfl, R, hz, hv, hu, hs, k⟩ := h
    have nd := scMS.nd
    refine ⟨_, pss_cons (ps_set (i := 3) nd rfl (Or.inl rfl) (pe_mt CK hr (by decide) (pv 0) (pa_cons (pv 1) pa_nil)))
      (pss_cons (ps_if (pw_and (pt_cmp (pc_notN (pv 3))) (pw_and1 (pt_cmpR op_notIn_seq (pe_ix ix_tup (pv 2) pe_int fun _ _ => rfl) (pv 3) (by rfl)))).pt (pss_one (ps_ret pe_bl)) pss_nil)
      (pss_one (ps_ret (pe_not (pe_c CL hr (by decide) (by rfl) (pa_cons (pv 2) (pa_cons (pe_mt CB hr (by decide) (pv 0) (pa_cons (pv 1) pa_nil)) pa_nil))))))), ?_⟩
    obtain ⟨dx, v1, v2, ka, ba, kd, bd, e1, _⟩ := id R
    refine ⟨_, rfl, x, dx, _, rfl, e1, rfl, _, rfl, x, d1, d2, ks, bs, z, rfl, R, hz, fun kv H1 s1 g => ?_⟩
    obtain ⟨y, cs, rfl, _⟩ := treeD_inv hu
    have hv1 := DAt.hold (.same s1) _ hv
    have fin : ∀ H2, Same H1 H2 → (∀ ws, kwOf ks z = some ws → y ∈ ws) → ∀ bv H3, Same H2 H3 → GB H3 (kwOf bs z) bv → ∃ (t : Addr) (ys : List Str), bv = .ref t ∧ H3 t = some (.tup (ys.map V.str)) ∧ ys.length ≤ 100 ∧ ∀ H', Same H3 H' → Q (.bl (!hasD (fun z => decide (z ∈ ys)) (.sq (.fl (.str y) :: cs)))) H' := fun H2 s2 hk bv H3 s3 ⟨t, ys, e, q, l, m⟩ => by
      refine ⟨t, ys, e, q, l, fun H' s' => ?_⟩
      have kk := k H' (s1.trans (s2.trans (s3.trans s')))
      have ef : (fun z => decide (z ∈ ys)) = fun y => decide (y ∈ (kwOf bs z).getD []) := funext fun y => by rw [decide_eq_decide]; exact m y
      rw [ef]
      cases ho : kwOf ks z with
      | none => rw [mayB_none ho] at kk; exact kk
      | some ws =>
        rw [mayB_some ho, decide_eq_true (show topL (.sq (.fl (.str y) :: cs)) ∈ ws from hk ws ho), Bool.true_and] at kk
        exact kk
    cases ho : kwOf ks z with
    | none =>
      rw [ho] at g
      obtain rfl := g
      refine ⟨_, rfl, _, rfl, iteBf (by rfl) (iteBf (by rfl) ?_)⟩
      refine ⟨_, rfl, _, rfl, x, dx, _, rfl, s1 _ _ e1, rfl, _, rfl, x, d1, d2, ks, bs, z, rfl, R.same s1, hz, fun bv H3 s3 gb => ?_⟩
      obtain ⟨t, ys, rfl, q, l, kk⟩ := fin H1 (fun b o e => e) (fun ws e => by rw [ho] at e; cases e) bv H3 s3 gb
      exact ⟨v, _, t, ys, rfl, DAt.hold (.same s3) _ hv1, hu, hs, q, l, fun H' s' => ⟨_, rfl, kk H' s'⟩⟩
    | some ws =>
      rw [ho] at g
      obtain ⟨t, ys, rfl, q, l, m⟩ := g
      obtain ⟨a, vs, rfl, qa, _, hvs⟩ := id hv1
      match vs, hvs with
      | [], hvs => exact hvs.elim
      | v0 :: cvs, ⟨⟨e0, _⟩, hcv⟩ =>
        subst e0
        have qa := qa.elim id fun e => e.1.elim
        refine ⟨_, rfl, _, rfl, iteBt (by rfl) ?_⟩
        refine ⟨_, rfl, a, _, 0, _, rfl, rfl, SqT.of qa, at_of (j := 0) (by omega) rfl, _, rfl, t, _, rfl, .inr (SqT.of q), rfl, all_flat _, _, rfl, ?_⟩
        rw [if_pos rfl, inV_str]
        by_cases hin : y ∈ ws
        · rw [decide_eq_true ((m y).mpr hin)]
          refine iteBf rfl ?_
          refine ⟨_, rfl, _, rfl, x, dx, _, rfl, s1 _ _ e1, rfl, _, rfl, x, d1, d2, ks, bs, z, rfl, R.same s1, hz, fun bv H3 s3 gb => ?_⟩
          obtain ⟨t', ys', rfl, q', l', kk⟩ := fin H1 (fun b o e => e) (fun ws' e => by rw [ho] at e; cases e; exact hin) bv H3 s3 gb
          exact ⟨_, _, t', ys', rfl, DAt.hold (.same s3) _ hv1, hu, hs, q', l', fun H' s' => ⟨_, rfl, kk H' s'⟩⟩
        · rw [decide_eq_false (fun e => hin ((m y).mp e))]
          refine iteBt rfl ?_
          have kk := k H1 s1
          rw [mayB_some ho, decide_eq_false (show ¬ topL (.sq (.fl (.str y) :: cs)) ∈ ws from hin), Bool.false_and] at kk
          exact kk
end
end KT

/-! zip drawn by list(..): every pair stays out -/
namespace ZL
open PySem PySem.Spec PySem.W PyProof.Rows L2
theorem nolen_zip : typeLookup (.type "zip") "__len__" = pure none := by rw [typeLookup_type, builtinLookup_eq_fast]; kernel_rfl
theorem nohint_zip : typeLookup (.type "zip") "__length_hint__" = pure none := by rw [typeLookup_type, builtinLookup_eq_fast]; kernel_rfl
section
variable {prog : Program} {w : World} {A : Around} {E : Value → Shared → Prop} {s : Shared} {z TI TO i1 i2 T : Addr} {fp1 fp2 : List Addr} {n i : Nat} {P1 P2 : Nat → Value → Prop} {St1 St2 : Nat → Heap → Prop} {f : Bool} {oT : Obj}
theorem held_item {Q : Value → Shared → Prop} (S : ZipSep2 z TI TO i1 i2 fp1 fp2) (D1 : Draws prog w A i1 fp1 n P1 St1) (D2 : Draws prog w A i2 fp2 n P2 St2)
    (hz : IsZipHeld s.heap z TI TO T f) (hT : s.heap.get? T = some oT) (hTI : IsTupOf2 s.heap TI (.ref i1) (.ref i2)) (st1 : St1 i s.heap) (st2 : St2 i s.heap) (hlt : i < n)
    (hQ : ∀ x1 x2 h' tk, P1 i x1 → P2 i x2 → IsZipHeld h' z TI TO T true → St1 (i + 1) h' → St2 (i + 1) h' → IsTupOf2 h' s.heap.objs.size x1 x2 → h'.objs.size = s.heap.objs.size + 1 →
      (∀ c o, c ≠ z → c ≠ i1 → c ≠ i2 → s.heap.get? c = some o → h'.get? c = some o) → Q (.ref s.heap.objs.size) { s with heap := h', toks := tk }) :
    wpAny (model prog w) A (Builtin.«zip.__next__» ⟨[.ref z], []⟩) (fun fin s' => ∃ v, fin = .done (.ret v) ∧ Q v s') E s := by
  obtain ⟨hp, g, d, tk0, os⟩ := s
  show wpAny _ _ (field (.ref z) 2 >>= _) _ _ _
  refine wpAny_bind (wpAny_field hz rfl (x := .bool false) rfl ?_)
  show wpAny _ _ (field (.ref z) 3 >>= _) _ _ _
  refine wpAny_bind (wpAny_field hz rfl (x := .ref TI) rfl ?_)
  refine wpAny_bind (wpAny_seqItems hTI rfl ?_)
  show wpAny _ _ (Builtin.SmallTypes.ownedTupleIsFree (.ref z) >>= _) _ _ _
  refine wpAny_bind (wpAny_tupleHeld_zip hz hT fun h₁ hz₁ hs₁ => ?_)
  replace hs₁ : Heap.SameBut z hp h₁ := hs₁
  simp only [Bool.false_eq_true, if_false]
  refine wpAny_bind ?_
  rw [← Array.forIn_toList]
  simp only [List.forIn_cons, List.forIn_nil]
  refine wpAny_bind (wpAny_bind (wpAny_holding ?_))
  show wpAny _ _ (Builtin.SmallTypes.nextOf (.ref i1) >>= _) _ _ ⟨h₁, g, d, tk0, os⟩
  refine wpAny_bind (D1.item i _ _ _ hlt (D1.over st1 hs₁ S.zf1) fun x1 p1 tk1 hx1 sn1 hp1 => wpAny_pure ?_)
  replace hp1 : Heap.SameBut i1 h₁ p1 := hp1
  refine wpAny_pure ?_
  refine wpAny_bind (wpAny_bind (wpAny_holding ?_))
  show wpAny _ _ (Builtin.SmallTypes.nextOf (.ref i2) >>= _) _ _ ⟨p1, g, d, tk1, os⟩
  refine wpAny_bind (D2.item i _ _ _ hlt (D2.over (D2.over st2 hs₁ S.zf2) hp1 S.sep1_2) fun x2 p2 tk2 hx2 sn2 hp2 => wpAny_pure ?_)
  replace hp2 : Heap.SameBut i2 p1 p2 := hp2
  refine wpAny_pure (wpAny_pure ?_)
  show wpAny _ _ (newTuple [x1, x2] >>= _) _ _ _
  refine wpAny_bind (wpAny_newTuple ?_)
  have hsz : p2.objs.size = hp.objs.size := by rw [hp2.1, hp1.1, hs₁.1]
  have hz₃ : IsZipHeld p2 z TI TO T true := hp2.extBut _ _ S.zi2 (hp1.extBut _ _ S.zi1 hz₁)
  have hk : ∀ c o, c ≠ z → c ≠ i1 → c ≠ i2 → hp.get? c = some o → p2.get? c = some o := fun c o c1 c2 c3 e => hp2.extBut _ _ c3 (hp1.extBut _ _ c2 (hs₁.extBut _ _ c1 e))
  have hj1 : St1 (i + 1) p2 := D1.over sn1 hp2 S.sep2_1
  refine wpAny_pure ⟨_, rfl, ?_⟩
  show Q (.ref p2.objs.size) ⟨p2.push { cls := .type "tuple", data := .seq #[x1, x2] }, g, d, tk2, os⟩
  have hpt : IsTupOf2 (p2.push { cls := .type "tuple", data := .seq #[x1, x2] }) p2.objs.size x1 x2 := Heap.get?_push_size _ rfl
  have hz4 : (p2.push { cls := .type "tuple", data := .seq #[x1, x2] }).objs.size = p2.objs.size + 1 := Heap.size_push ..
  rw [hsz] at hpt hz4 ⊢
  exact hQ x1 x2 _ tk2 hx1 hx2 (Heap.get?_push_of_some _ hz₃) (D1.frame _ _ _ hj1 fun b _ o e => Heap.get?_push_of_some _ e) (D2.frame _ _ _ sn2 fun b _ o e => Heap.get?_push_of_some _ e) hpt hz4 fun c o c1 c2 c3 e => Heap.get?_push_of_some _ (hk c o c1 c2 c3 e)
theorem held_end {Q : Fin → Shared → Prop} (S : ZipSep2 z TI TO i1 i2 fp1 fp2) (D1 : Draws prog w A i1 fp1 n P1 St1)
    (hz : IsZipHeld s.heap z TI TO T f) (hT : s.heap.get? T = some oT) (hTI : IsTupOf2 s.heap TI (.ref i1) (.ref i2)) (st1 : St1 n s.heap)
    (hE : ∀ h' e, (∀ c o, c ≠ z → c ≠ i1 → c ≠ i2 → s.heap.get? c = some o → h'.get? c = some o) → (∃ o, h'.get? e = some o ∧ o.cls = .type "StopIteration") → E (.ref e) { s with heap := h' }) :
    wpAny (model prog w) A (Builtin.«zip.__next__» ⟨[.ref z], []⟩) Q E s := by
  obtain ⟨hp, g, d, tk0, os⟩ := s
  show wpAny _ _ (field (.ref z) 2 >>= _) _ _ _
  refine wpAny_bind (wpAny_field hz rfl (x := .bool false) rfl ?_)
  show wpAny _ _ (field (.ref z) 3 >>= _) _ _ _
  refine wpAny_bind (wpAny_field hz rfl (x := .ref TI) rfl ?_)
  refine wpAny_bind (wpAny_seqItems hTI rfl ?_)
  show wpAny _ _ (Builtin.SmallTypes.ownedTupleIsFree (.ref z) >>= _) _ _ _
  refine wpAny_bind (wpAny_tupleHeld_zip hz hT fun h₁ hz₁ hs₁ => ?_)
  replace hs₁ : Heap.SameBut z hp h₁ := hs₁
  simp only [Bool.false_eq_true, if_false]
  refine wpAny_bind ?_
  rw [← Array.forIn_toList]
  simp only [List.forIn_cons, List.forIn_nil]
  refine wpAny_bind (wpAny_bind (wpAny_holding ?_))
  show wpAny _ _ (Builtin.SmallTypes.nextOf (.ref i1) >>= _) _ _ ⟨h₁, g, d, tk0, os⟩
  refine wpAny_bind (D1.done ⟨h₁, g, d, tk0, os⟩ _ _ (D1.over st1 hs₁ S.zf1) fun q e hq he => ?_)
  replace hq : Heap.ExtBut i1 h₁ q := hq
  exact hE q e (fun c o c1 c2 _ x => hq _ _ c2 (hs₁.extBut _ _ c1 x)) he
/-- the state of a zip behind i pairs, all of them still out -/
def ZSt (z TI TO i1 i2 : Addr) (St1 St2 : Nat → Heap → Prop) (i : Nat) (h : Heap) : Prop := IsTupOf2 h TI (.ref i1) (.ref i2) ∧ St1 i h ∧ St2 i h ∧
  ((IsZip h z TI TO .none ∧ ∃ a b, IsTupOf2 h TO a b) ∨ ∃ T f oT, IsZipHeld h z TI TO T f ∧ h.get? T = some oT ∧ z < T ∧ oT.data ≠ .seq #[] ∧ oT.cls = .type "tuple")
theorem zst_item {Q : Option Value → Shared → Prop} (S : ZipSep2 z TI TO i1 i2 fp1 fp2) (D1 : Draws prog w A.in1 i1 fp1 n P1 St1) (D2 : Draws prog w A.in1 i2 fp2 n P2 St2) (l1 : i1 < z) (l2 : i2 < z) (lT : TO < z)
    (hZ : ZSt z TI TO i1 i2 St1 St2 i s.heap) (hlt : i < n)
    (hQ : ∀ x1 x2 h' tk, P1 i x1 → P2 i x2 → ZSt z TI TO i1 i2 St1 St2 (i + 1) h' → IsTupOf2 h' s.heap.objs.size x1 x2 → h'.objs.size = s.heap.objs.size + 1 →
      (∀ c o, c ≠ z → c ≠ TO → c ≠ i1 → c ≠ i2 → s.heap.get? c = some o → h'.get? c = some o) → Q (some (.ref s.heap.objs.size)) { s with heap := h', toks := tk }) :
    wpAny (model prog w) A (pyNext (.ref z)) Q E s := by
  obtain ⟨hTI, st1, st2, ⟨hz, a, b, hTO⟩ | ⟨T, f, oT, hz, hT, zT, ne, oc⟩⟩ := hZ
  · refine wpAny_pyNext_zipD2_item S D1 D2 hz hTI hTO st1 st2 hlt hlt fun x1 x2 h' tk p1 p2 hz' hTO' s1 s2 ht hsz hk => ?_
    exact hQ x1 x2 h' tk p1 p2 ⟨hk _ _ S.TIz S.TITO S.TIi1 S.TIi2 hTI, s1, s2, .inr ⟨_, false, _, hz', ht, Heap.lt_size hz, by simp, rfl⟩⟩ ht hsz hk
  · have hTy : s.TypeIs (.ref z) "zip" := ⟨_, hz, rfl⟩
    unfold pyNext
    refine wpAny_bind (wpAny_attempt (wpAny_callSpecial?_slot (name := Str.ofString "__next__") hTy F.slot_zip_next
      (wpAny_call_entry F.slot_zip_next hTy F.entry_zip_next
        (held_item S D1 D2 hz hT hTI st1 st2 hlt fun x1 x2 h' tk p1 p2 hz' s1 s2 ht hsz hk => wpAny_pure ?_) (F.args_zip_next_1 _))))
    have nz : T ≠ z := Nat.ne_of_gt zT
    have n1 : T ≠ i1 := Nat.ne_of_gt (Nat.lt_trans l1 zT)
    have n2 : T ≠ i2 := Nat.ne_of_gt (Nat.lt_trans l2 zT)
    exact hQ x1 x2 h' tk p1 p2 ⟨hk _ _ S.TIz S.TIi1 S.TIi2 hTI, s1, s2, .inr ⟨T, true, oT, hz', hk _ _ nz n1 n2 hT, zT, ne, oc⟩⟩ ht hsz fun c o c1 _ c2 c3 e => hk c o c1 c2 c3 e
theorem zst_done {Q : Option Value → Shared → Prop} (S : ZipSep2 z TI TO i1 i2 fp1 fp2) (D1 : Draws prog w A.in1 i1 fp1 n P1 St1) (D2 : Draws prog w A.in1 i2 fp2 n P2 St2)
    (hZ : ZSt z TI TO i1 i2 St1 St2 n s.heap)
    (hQ : ∀ h' tk, (∀ c o, c ≠ z → c ≠ TO → c ≠ i1 → c ≠ i2 → s.heap.get? c = some o → h'.get? c = some o) → Q none { s with heap := h', toks := tk }) :
    wpAny (model prog w) A (pyNext (.ref z)) Q E s := by
  obtain ⟨hTI, st1, st2, ⟨hz, a, b, hTO⟩ | ⟨T, f, oT, hz, hT, zT, ne, oc⟩⟩ := hZ
  · exact wpAny_pyNext_zipD2_end S D1 D2 hz hTI hTO st1 st2 (Nat.le_refl _) (Nat.le_refl _) (.inl rfl) hQ
  · have hTy : s.TypeIs (.ref z) "zip" := ⟨_, hz, rfl⟩
    unfold pyNext
    refine wpAny_bind (wpAny_attempt (wpAny_callSpecial?_slot (name := Str.ofString "__next__") hTy F.slot_zip_next
      (wpAny_call_entry F.slot_zip_next hTy F.entry_zip_next (held_end S D1 hz hT hTI st1 fun h' e hk he => ?_) (F.args_zip_next_1 _))))
    obtain ⟨o, ho, hc⟩ := he
    refine wpAny_bind (wpAny_isInstance (T := "StopIteration") (b := true) ⟨o, ho, hc⟩ isSubtype_stop ?_)
    exact wpAny_pure (hQ h' s.toks fun c o c1 _ c2 c3 e => hk c o c1 c2 c3 e)
end
end ZL

/-! list(zip(a, b)): the new pairs in a new list -/
namespace ZL
open PySem PySem.Spec PySem.W PyProof.Rows L2
structure ZG (P1 P2 : Nat → Value → Prop) (lo : Addr) (h : Heap) (as : List Addr) : Prop where
  rise : as.Pairwise (· < ·)
  above : ∀ a ∈ as, lo < a
  pairs : ∀ (j : Nat) (a : Addr), as[j]? = some a → ∃ x y, P1 j x ∧ P2 j y ∧ IsTupOf2 h a x y
theorem ZG.there {P1 P2 : Nat → Value → Prop} {lo : Addr} {h : Heap} {as : List Addr} (g : ZG P1 P2 lo h as) {a : Addr} (ha : a ∈ as) : a < h.objs.size := by
  obtain ⟨j, hj⟩ := List.mem_iff_getElem?.mp ha
  obtain ⟨_, _, _, _, e⟩ := g.pairs j a hj
  exact Heap.lt_size e
section
variable {prog : Program} {w : World} {A : Around} {E : Value → Shared → Prop} {s : Shared} {z TI TO i1 i2 L : Addr} {fp1 fp2 : List Addr} {n i : Nat} {P1 P2 : Nat → Value → Prop} {St1 St2 : Nat → Heap → Prop} {R : Result → Shared → Prop}
/-- how the cells of a zip lie -/
structure Low (z TI TO i1 i2 L : Addr) (fp1 fp2 : List Addr) : Prop where
  l1 : i1 < z
  l2 : i2 < z
  lT : TO < z
  lI : TI < z
  zL : z < L
  f1 : L ∉ fp1
  f2 : L ∉ fp2
theorem zst_keep (D1 : Draws prog w A i1 fp1 n P1 St1) (D2 : Draws prog w A i2 fp2 n P2 St2) (W : Low z TI TO i1 i2 L fp1 fp2) {h h' : Heap} {o : Obj} (hL : h.get? L = some o) (hc : o.cls = .type "list") (st : ZSt z TI TO i1 i2 St1 St2 i h) (k : ∀ b o, b ≠ L → h.get? b = some o → h'.get? b = some o) : ZSt z TI TO i1 i2 St1 St2 i h' := by
  obtain ⟨hTI, s1, s2, q⟩ := st
  refine ⟨k _ _ (Nat.ne_of_lt (Nat.lt_trans W.lI W.zL)) hTI, D1.frame _ _ _ s1 fun b hb o e => k b o (fun z => W.f1 (z ▸ hb)) e, D2.frame _ _ _ s2 fun b hb o e => k b o (fun z => W.f2 (z ▸ hb)) e, ?_⟩
  rcases q with ⟨hz, a, b, hTO⟩ | ⟨T, f, oT, hz, hT, zT, ne, oc⟩
  · exact .inl ⟨k _ _ (Nat.ne_of_lt W.zL) hz, a, b, k _ _ (Nat.ne_of_lt (Nat.lt_trans W.lT W.zL)) hTO⟩
  · refine .inr ⟨T, f, oT, k _ _ (Nat.ne_of_lt W.zL) hz, k _ _ (fun e => ?_) hT, zT, ne, oc⟩
    rw [e, hL] at hT
    cases hT
    rw [hc] at oc
    exact absurd (Value.type.inj oc) (by decide)
theorem zl_loop (hh : A.handled = none) (S : ZipSep2 z TI TO i1 i2 fp1 fp2) (D1 : ∀ A' : Around, A'.handled = none → Draws prog w A' i1 fp1 n P1 St1) (D2 : ∀ A' : Around, A'.handled = none → Draws prog w A' i2 fp2 n P2 St2) (W : Low z TI TO i1 i2 L fp1 fp2) (hn : n ≤ sizeLine) (res : Value) {h₁ : Heap}
    (hR : ∀ h' tk acc c as, (∀ b o, b ≠ L → b ≠ z → b ≠ TO → b ≠ i1 → b ≠ i2 → h₁.get? b = some o → h'.get? b = some o) → h'.get? L = some { cls := .type "list", dict := none, data := .seq acc c, slots := #[] } → as.length = n → ZG P1 P2 L h' as →
      acc.toList = as.map Value.ref → R (.ok (.ret res)) { s with heap := h', toks := tk }) :
    ∀ (k i : Nat) (h : Heap) (tk c : Nat) (acc : Array Value) (as : List Addr), n - i = k → i ≤ n → ZSt z TI TO i1 i2 St1 St2 i h → (∀ b o, b ≠ L → b ≠ z → b ≠ TO → b ≠ i1 → b ≠ i2 → h₁.get? b = some o → h.get? b = some o) →
      h.get? L = some { cls := .type "list", dict := none, data := .seq acc c, slots := #[] } → acc.toList = as.map Value.ref → as.length = i → ZG P1 P2 L h as →
      codeAny (model prog w) A (.builtin "list.extend.loop" ⟨[.ref L, .ref z, res], []⟩) R { s with heap := h, toks := tk } := by
  have nLz : L ≠ z := Nat.ne_of_gt W.zL
  have nL1 : L ≠ i1 := Nat.ne_of_gt (Nat.lt_trans W.l1 W.zL)
  have nL2 : L ≠ i2 := Nat.ne_of_gt (Nat.lt_trans W.l2 W.zL)
  have nLT : L ≠ TO := Nat.ne_of_gt (Nat.lt_trans W.lT W.zL)
  have off : ∀ a, L < a → a ≠ z ∧ a ≠ TO ∧ a ≠ i1 ∧ a ≠ i2 := fun a ha => ⟨Nat.ne_of_gt (Nat.lt_trans W.zL ha), Nat.ne_of_gt (Nat.lt_trans (Nat.lt_trans W.lT W.zL) ha), Nat.ne_of_gt (Nat.lt_trans (Nat.lt_trans W.l1 W.zL) ha), Nat.ne_of_gt (Nat.lt_trans (Nat.lt_trans W.l2 W.zL) ha)⟩
  intro k
  induction k with
  | zero =>
    intro i h tk c acc as hk hi hst hkeep hS hacc hal hG
    have hin : i = n := by omega
    subst hin
    refine codeAny_builtin PySem.F.entry_extend_loop ?_
    rw [Around.under_plainId PySem.F.plain_extend_loop _]
    show wpAny _ A.in1 (pyNext (.ref z) >>= _) _ _ _
    refine wpAny_bind (zst_done (s := { s with heap := h, toks := tk }) (A := A.in1) S (D1 _ hh) (D2 _ hh) hst fun h' tk' he => ?_)
    refine wpAny_pure (hR h' tk' acc c as (fun b o h1 h2 h3 h4 h5 e => he b o h2 h3 h4 h5 (hkeep b o h1 h2 h3 h4 h5 e)) (he L _ nLz nLT nL1 nL2 hS) (by omega) ⟨hG.rise, hG.above, fun j a hj => ?_⟩ hacc)
    obtain ⟨x, y, p1, p2, e3⟩ := hG.pairs j a hj
    obtain ⟨o1, o2, o3, o4⟩ := off a (hG.above a (List.mem_of_getElem? hj))
    exact ⟨x, y, p1, p2, he a _ o1 o2 o3 o4 e3⟩
  | succ k ih =>
    intro i h tk c acc as hk hi hst hkeep hS hacc hal hG
    have hlt : i < n := by omega
    have hsz : acc.size = i := by rw [← Array.length_toList, hacc, List.length_map, hal]
    refine codeAny_builtin PySem.F.entry_extend_loop ?_
    rw [Around.under_plainId PySem.F.plain_extend_loop _]
    show wpAny _ A.in1 (pyNext (.ref z) >>= _) _ _ _
    refine wpAny_bind (zst_item (s := { s with heap := h, toks := tk }) (A := A.in1) S (D1 _ hh) (D2 _ hh) W.l1 W.l2 W.lT hst hlt fun x1 x2 h' tk' p1 p2 hst' ht hz hkp => ?_)
    dsimp only at ht hz hkp ⊢
    have hS' := hkp L _ nLz nLT nL1 nL2 hS
    have up : ∀ b o, b ≠ L → h'.get? b = some o → (h'.update L (Obj.mapSeq (·.push (Value.ref h.objs.size)))).get? b = some o := fun b o hb e => (Heap.get?_update_other _ _ (Ne.symm hb)).trans e
    have hSl : L < h.objs.size := Heap.lt_size hS
    show wpAny _ A.in1 (updateSeq L (·.push (Value.ref h.objs.size)) >>= _) _ _ _
    refine wpAny_bind ?_
    refine wpAny_updateSeq hS' rfl (wpAny_pure ⟨plainId_quiet PySem.F.plain_extend_loop _, ih (i + 1) _ tk' _ (acc.push (Value.ref h.objs.size)) (as ++ [h.objs.size]) (by omega) hlt (zst_keep (D1 _ hh) (D2 _ hh) W hS' rfl hst' up)
      (fun b o h1 h2 h3 h4 h5 e => up b o h1 (hkp b o h2 h3 h4 h5 (hkeep b o h1 h2 h3 h4 h5 e))) (Heap.get?_update_self _ hS' rfl) (by rw [Array.toList_push, hacc, List.map_append]; rfl) (by rw [List.length_append, hal]; rfl) ⟨?_, ?_, ?_⟩⟩) (by rw [hsz]; omega) (by show (acc.push (Value.ref h.objs.size)).size ≤ sizeLine + 1; rw [Array.size_push, hsz]; omega)
    · refine List.pairwise_append.mpr ⟨hG.rise, List.pairwise_singleton _ _, fun a ha b hb => ?_⟩
      rw [List.mem_singleton.mp hb]
      exact hG.there ha
    · intro a ha
      rcases List.mem_append.mp ha with ha | ha
      · exact hG.above a ha
      · rw [List.mem_singleton.mp ha]; exact hSl
    · intro j b hj
      rcases Nat.lt_trichotomy j as.length with h1 | h1 | h1
      · rw [List.getElem?_append_left h1] at hj
        obtain ⟨x, y, q1, q2, e3⟩ := hG.pairs j b hj
        have hb := hG.above b (List.mem_of_getElem? hj)
        obtain ⟨o1, o2, o3, o4⟩ := off b hb
        exact ⟨x, y, q1, q2, up b _ (Nat.ne_of_gt hb) (hkp b _ o1 o2 o3 o4 e3)⟩
      · subst h1
        have hb : h.objs.size = b := by simpa using hj
        subst hb
        exact ⟨x1, x2, by rw [hal]; exact p1, by rw [hal]; exact p2, up _ _ (Nat.ne_of_gt hSl) ht⟩
      · have hnone : (as ++ [h.objs.size])[j]? = none := List.getElem?_eq_none (by rw [List.length_append, List.length_singleton]; omega)
        rw [hnone] at hj; cases hj
end
section
variable {prog : Program} {w : World} {A : Around} {E : Value → Shared → Prop} {s : Shared} {z TI TO i1 i2 L : Addr} {fp1 fp2 : List Addr} {n i : Nat} {P1 P2 : Nat → Value → Prop} {St1 St2 : Nat → Heap → Prop} {R : Result → Shared → Prop}
theorem zl_extend (hh : A.handled = none) (S : ZipSep2 z TI TO i1 i2 fp1 fp2) (D1 : ∀ A' : Around, A'.handled = none → Draws prog w A' i1 fp1 n P1 St1) (D2 : ∀ A' : Around, A'.handled = none → Draws prog w A' i2 fp2 n P2 St2) (W : Low z TI TO i1 i2 L fp1 fp2) (hn : n ≤ sizeLine) (res : Value)
    (hz : IsZip s.heap z TI TO .none) (hTI : IsTupOf2 s.heap TI (.ref i1) (.ref i2)) {a b : Value} (hTO : IsTupOf2 s.heap TO a b) (st1 : St1 0 s.heap) (st2 : St2 0 s.heap) (c₀ : Nat) (hS : s.heap.get? L = some { cls := .type "list", data := .seq #[] c₀ })
    (hR : ∀ h' tk acc c as, (∀ b o, b ≠ L → b ≠ z → b ≠ TO → b ≠ i1 → b ≠ i2 → s.heap.get? b = some o → h'.get? b = some o) → h'.get? L = some { cls := .type "list", dict := none, data := .seq acc c, slots := #[] } → as.length = n → ZG P1 P2 L h' as →
      acc.toList = as.map Value.ref → R (.ok (.ret res)) { s with heap := h', toks := tk }) :
    wpAny (model prog w) A.in1 (Builtin.List.listExtendWith (.ref L) (.ref z) res)
      (fun fin s' => match fin with | .done f => R (.ok f) s' | .again c' => c'.quiet = true ∧ codeAny (model prog w) A c' R s') (fun e s' => R (.error e) s') s := by
  have hTy : s.TypeIs (.ref z) "zip" := ⟨_, hz, rfl⟩
  have nLz : L ≠ z := Nat.ne_of_gt W.zL
  unfold Builtin.List.listExtendWith
  refine wpAny_bind (wpAny_typeOf hTy ?_)
  have h1 : Builtin.List.listSameRef (.ref L) (.ref z) = false := by simp [Builtin.List.listSameRef, nLz]
  have h2 : (Value.type "zip" == Value.type "list") = false := by decide
  have h3 : (Value.type "zip" == Value.type "tuple") = false := by decide
  simp only [h1, h2, h3, Bool.or_false, Bool.false_eq_true, if_false]
  refine wpAny_bind (wpAny_pyIter_zip hz ?_)
  refine wpAny_bind (wpAny_holding ?_)
  unfold Builtin.List.listLengthHint
  refine wpAny_bind (wpAny_specialOf hTy nolen_zip ?_)
  show wpAny _ A.in1 (specialOf (Value.ref z) (Str.ofString "__length_hint__") >>= _) _ _ _
  refine wpAny_bind (wpAny_specialOf hTy nohint_zip ?_)
  refine wpAny_pure ?_
  show wpAny _ A.in1 (rule "list.extend.makes-room" >>= fun _ => Builtin.List.listTouch (.ref L) >>= fun _ =>
    again (.builtin "list.extend.loop" ⟨[.ref L, .ref z, res], []⟩)) _ _ _
  refine wpAny_bind (wpAny_rule ?_)
  refine wpAny_bind ?_
  show wpAny _ A.in1 (updateSeq L (·.push .none) >>= fun _ => updateSeq L (·.pop)) _ _ _
  refine wpAny_bind (wpAny_updateSeq hS rfl ?_)
  have hS₂ := Heap.get?_update_self (Obj.mapSeq (·.push Value.none)) hS rfl
  refine wpAny_updateSeq hS₂ rfl ?_
  have hS₃ := Heap.get?_update_self (Obj.mapSeq (·.pop)) hS₂ rfl
  have oth : ∀ b o, b ≠ L → s.heap.get? b = some o → ((s.heap.update L (Obj.mapSeq (·.push Value.none))).update L (Obj.mapSeq (·.pop))).get? b = some o :=
    fun b o hb e => (Heap.get?_update_other _ _ (Ne.symm hb)).trans ((Heap.get?_update_other _ _ (Ne.symm hb)).trans e)
  refine wpAny_pure ⟨plainId_quiet PySem.F.plain_extend_loop _, ?_⟩
  exact zl_loop (s := s) (h₁ := s.heap) hh S D1 D2 W hn res hR n 0 _ s.toks _ _ [] (Nat.sub_zero _) (Nat.zero_le _) (zst_keep (D1 A hh) (D2 A hh) W hS rfl ⟨hTI, st1, st2, .inl ⟨hz, a, b, hTO⟩⟩ oth) (fun b o h1 _ _ _ _ e => oth b o h1 e) hS₃ rfl rfl
    ⟨List.Pairwise.nil, (fun _ ha => nomatch ha), (fun j a hj => by simp at hj)⟩
theorem zl_call {Q : Value → Shared → Prop} (hh : A.handled = none) (S : ZipSep2 z TI TO i1 i2 fp1 fp2) (D1 : ∀ A' : Around, A'.handled = none → Draws prog w A' i1 fp1 n P1 St1) (D2 : ∀ A' : Around, A'.handled = none → Draws prog w A' i2 fp2 n P2 St2)
    (l1 : i1 < z) (l2 : i2 < z) (lT : TO < z) (lI : TI < z) (f1 : ∀ b ∈ fp1, b < s.heap.objs.size) (f2 : ∀ b ∈ fp2, b < s.heap.objs.size) (hn : n ≤ sizeLine)
    (hz : IsZip s.heap z TI TO .none) (hTI : IsTupOf2 s.heap TI (.ref i1) (.ref i2)) {a b : Value} (hTO : IsTupOf2 s.heap TO a b) (st1 : St1 0 s.heap) (st2 : St2 0 s.heap)
    (hQ : ∀ h' tk acc c as, (∀ b o, b ≠ z → b ≠ TO → b ≠ i1 → b ≠ i2 → s.heap.get? b = some o → h'.get? b = some o) → h'.get? s.heap.objs.size = some { cls := .type "list", dict := none, data := .seq acc c, slots := #[] } → as.length = n → ZG P1 P2 s.heap.objs.size h' as →
      acc.toList = as.map Value.ref → Q (.ref s.heap.objs.size) { s with heap := h', toks := tk }) :
    wpAny (model prog w) A (call (.type "list") [.ref z]) Q E s := by
  have hzl : z < s.heap.objs.size := Heap.lt_size hz
  have W : Low z TI TO i1 i2 s.heap.objs.size fp1 fp2 := ⟨l1, l2, lT, lI, hzl, fun h => Nat.lt_irrefl _ (f1 _ h), fun h => Nat.lt_irrefl _ (f2 _ h)⟩
  refine callType_codes (Q₁ := fun obj s₁ => obj = .ref s.heap.objs.size ∧ s₁ = { s with heap := s.heap.push { cls := .type "list", data := .seq #[] } }) PySem.F.called_list (PySem.F.typeCall_list_1 _) PySem.F.entry_list_init
    (code_list_new _ ⟨rfl, rfl⟩) fun obj s₁ h₁ => ?_
  obtain ⟨rfl, rfl⟩ := h₁
  have hS : (s.heap.push { cls := .type "list", data := .seq #[] }).get? s.heap.objs.size = some { cls := .type "list", data := .seq #[] } := Heap.get?_push_size _ rfl
  refine ⟨⟨_, hS, rfl⟩, PySem.F.args_list_init_2 _ _, ?_⟩
  show wpAny _ _ (do let old ← Builtin.List.listItems (.ref s.heap.objs.size); Builtin.List.listUpdate (.ref s.heap.objs.size) (fun _ => #[]); letGo old.toList.reverse; Builtin.List.listExtendWith (.ref s.heap.objs.size) (.ref z) .none) _ _ _
  refine wpAny_bind ?_
  unfold Builtin.List.listItems
  refine wpAny_bind (wpAny_seqItems hS rfl (wpAny_pure ?_))
  show wpAny _ _ (updateSeq s.heap.objs.size (fun _ => #[]) >>= fun _ => letGo (#[] : Array Value).toList.reverse >>= fun _ => Builtin.List.listExtendWith (.ref s.heap.objs.size) (.ref z) .none) _ _ _
  refine wpAny_bind (wpAny_updateSeq hS rfl ?_)
  have hS₂ := Heap.get?_update_self (Obj.mapSeq (fun _ => (#[] : Array Value))) hS rfl
  have oth : ∀ b o, s.heap.get? b = some o → ((s.heap.push { cls := .type "list", data := .seq #[] }).update s.heap.objs.size (Obj.mapSeq (fun _ => (#[] : Array Value)))).get? b = some o :=
    fun b o e => (Heap.get?_update_other _ _ (Nat.ne_of_gt (Heap.lt_size e))).trans (Heap.get?_push_of_some _ e)
  refine wpAny_bind (wpAny_letGo ?_)
  refine zl_extend (A := A.in1) (s := { s with heap := (s.heap.push { cls := .type "list", data := .seq #[] }).update s.heap.objs.size (Obj.mapSeq (fun _ => (#[] : Array Value))) }) hh S D1 D2 W hn .none (oth _ _ hz) (oth _ _ hTI) (oth _ _ hTO) ((D1 A hh).frame _ _ _ st1 fun b _ o e => oth b o e) ((D2 A hh).frame _ _ _ st2 fun b _ o e => oth b o e) _ hS₂ fun h' tk acc c as hk hS' hl hG hacc => ?_
  exact ⟨rfl, hQ h' tk acc c as (fun b o h1 h2 h3 h4 e => hk b o (Nat.ne_of_lt (Heap.lt_size e)) h1 h2 h3 h4 (oth b o e)) hS' hl hG hacc⟩
end
end ZL

/-! list(zip(a, b)): the rule -/
namespace ZL
open PySem PySem.Spec PySem.W PyProof.Rows L2
def putZ : Hp → List Addr → List (V × V) → Hp
  | H, a :: as, p :: ps => putZ (upd H a (.tup [p.1, p.2])) as ps
  | H, _, _ => H
theorem putZ_off {b : Addr} : ∀ (as : List Addr) (ps : List (V × V)) (H : Hp), b ∉ as → putZ H as ps b = H b
  | [], _, _, _ => rfl
  | _ :: _, [], _, _ => rfl
  | a :: as, p :: ps, H, h => by
    show putZ (upd H a (.tup [p.1, p.2])) as ps b = H b
    rw [putZ_off as ps _ (fun z => h (List.mem_cons_of_mem _ z)), upd_ne (fun z => h (by rw [z]; exact List.mem_cons_self))]
theorem putZ_at : ∀ (as : List Addr) (ps : List (V × V)) (H : Hp), as.length = ps.length → as.Nodup → Paired (fun (t : Addr) (p : V × V) => putZ H as ps t = some (.tup [p.1, p.2])) as ps
  | [], [], _, _, _ => .nil
  | [], _ :: _, _, h, _ => by cases h
  | _ :: _, [], _, h, _ => by cases h
  | a :: as, p :: ps, H, h, hn => by
    have hn' := List.nodup_cons.mp hn
    have ih := putZ_at as ps (upd H a (.tup [p.1, p.2])) (Nat.succ.inj h) hn'.2
    refine .cons ?_ ih
    show putZ (upd H a (.tup [p.1, p.2])) as ps a = some (.tup [p.1, p.2])
    rw [putZ_off as ps _ hn'.1, upd_same]
section
variable {X : Cx}
theorem zip_laid {pins : List (Addr × Obj)} {σ : L2.St} {H : Hp} {s : Shared} {h' : Heap} {tk : Nat} {xs ys : List V} {its jts : List Value} {acc : Array Value} {c : Nat} {S : Addr} {as : List Addr} (I : Inv X pins σ H s) (hn : xs.length ≤ sizeLine) (hs : s.heap.objs.size ≤ S) (lx : xs.length = ys.length) (rx : Vals xs its) (ry : Vals ys jts)
    (hk : ∀ b o, s.heap.get? b = some o → h'.get? b = some o) (hS : h'.get? S = some { cls := .type "list", dict := none, data := .seq acc c, slots := #[] }) (hl : as.length = xs.length) (hG : ZG (fun i v => its.toArray[i]? = some v) (fun i v => jts.toArray[i]? = some v) S h' as) (hacc : acc.toList = as.map Value.ref) :
    ∃ H' : Hp, Same H H' ∧ H S = none ∧ H' S = some (.lst (as.map V.ref)) ∧ Paired (fun (t : Addr) (p : V × V) => H t = none ∧ H' t = some (.tup [p.1, p.2])) as (xs.zip ys) ∧ Inv X pins σ H' { s with heap := h', toks := tk } := by
  have hSn : S ∉ as := fun z => Nat.lt_irrefl _ (hG.above _ z)
  have nd : as.Nodup := List.Pairwise.imp (fun {a b} (h : a < b) => Nat.ne_of_lt h) hG.rise
  have new : ∀ t ∈ as, H t = none := fun t ht => I.hok.fresh (Nat.le_trans hs (Nat.le_of_lt (hG.above t ht)))
  have newS : H S = none := I.hok.fresh hs
  have lz : as.length = (xs.zip ys).length := by rw [List.length_zip, ← lx, Nat.min_self]; exact hl
  have atP := putZ_at as (xs.zip ys) (upd H S (.lst (as.map V.ref))) lz nd
  have off : ∀ b, b ∉ as → b ≠ S → putZ (upd H S (.lst (as.map V.ref))) as (xs.zip ys) b = H b := fun b h1 h2 => by rw [putZ_off as _ _ h1, upd_ne h2]
  have low : ∀ b o, s.heap.get? b = some o → b ∉ as ∧ b ≠ S := fun b o e => ⟨fun z => absurd (Nat.lt_of_lt_of_le (Heap.lt_size e) hs) (Nat.not_lt.mpr (Nat.le_of_lt (hG.above b z))), Nat.ne_of_lt (Nat.lt_of_lt_of_le (Heap.lt_size e) hs)⟩
  have kp : ∀ b u, H b = some u → (putZ (upd H S (.lst (as.map V.ref))) as (xs.zip ys)) b = some u := fun b u e => by
    rw [off b (fun z => by rw [new b z] at e; cases e) (fun z => by rw [z, newS] at e; cases e)]
    exact e
  have eS : putZ (upd H S (.lst (as.map V.ref))) as (xs.zip ys) S = some (.lst (as.map V.ref)) := by rw [putZ_off as _ _ hSn, upd_same]
  refine ⟨putZ (upd H S (.lst (as.map V.ref))) as (xs.zip ys), kp, newS, eS, ?_, ?_⟩
  · have both : ∀ {l : List Addr} {ps : List (V × V)}, (∀ t ∈ l, H t = none) → Paired (fun (t : Addr) (p : V × V) => putZ (upd H S (.lst (as.map V.ref))) as (xs.zip ys) t = some (.tup [p.1, p.2])) l ps → Paired (fun (t : Addr) (p : V × V) => H t = none ∧ putZ (upd H S (.lst (as.map V.ref))) as (xs.zip ys) t = some (.tup [p.1, p.2])) l ps := by
      intro l ps hn h
      induction h with
      | nil => exact .nil
      | cons r _ ih => exact .cons ⟨hn _ List.mem_cons_self, r⟩ (ih fun t ht => hn t (List.mem_cons_of_mem _ ht))
    exact both new atP
  refine I.call' (ch := []) rfl ⟨fun b o q _ _ _ => hk b o q, fun b o q _ _ _ => ⟨o.slots, hk b o q⟩, fun b o q n _ => ?_, fun b o q _ => ⟨o, hk b o q⟩, fun b xs q => kp b _ q, fun b o u q => kp b _ q, fun b ps q => ⟨#[], by rw [kp b _ q]; simp⟩⟩ (fun b u q => ?_) I.bare fun b z => by simp at z
  · obtain ⟨z1, z2⟩ := low b o q
    rw [off b z1 z2]
    exact n
  · by_cases hb : b ∈ as
    · obtain ⟨j, pk, e1, e2, e3⟩ := LiI.paired_ix atP hb
      rw [e3] at q
      cases q
      obtain ⟨x, y, f1, f2, f3⟩ := hG.pairs j b e1
      obtain ⟨gx, gy⟩ := List.getElem?_zip_eq_some.mp e2
      obtain ⟨u1, hu1, r1⟩ := rx.get gx
      obtain ⟨u2, hu2, r2⟩ := ry.get gy
      rw [List.getElem?_toArray, hu1] at f1
      rw [List.getElem?_toArray, hu2] at f2
      cases f1
      cases f2
      exact ⟨by show 2 ≤ sizeLine; decide, [x, y], .cons r1 (.cons r2 .nil), ⟨_, f3, rfl, _, rfl⟩⟩
    · by_cases hb2 : b = S
      · rw [hb2] at q ⊢
        rw [eS] at q
        cases q
        refine ⟨by rw [List.length_map]; omega, acc.toList, c, by rw [hacc]; exact LiI.vals_refs as, ?_⟩
        rw [Array.toArray_toList]
        exact hS
      · rw [off b hb hb2] at q
        exact (I.hok b u q).stay (fun d v _ y => hk d v y) (fun d y => kp d _ y) fun d xs y => kp d _ y
/-- what a list or a tuple gives to zip -/
theorem src {pins : List (Addr × Obj)} {σ : L2.St} {H : Hp} {s : Shared} (I : Inv X pins σ H s) {a : Addr} {xs : List V} (h : SqL X.K H a xs ∨ SqT X.K H a xs) : ∃ its : List Value, Vals xs its ∧ xs.length ≤ sizeLine ∧ ∃ (o : Obj) (B : Heap → Prop), Begins (.ref a) o B ∧ B s.heap ∧ a < s.heap.objs.size ∧
    ∀ it : Addr, a ≠ it → ∃ St : Nat → Heap → Prop, (∀ A' : Around, A'.handled = none → Draws X.prog X.w A' it [it, a] its.length (fun i v => its.toArray[i]? = some v) St) ∧ ∀ h', h'.get? it = some o → B h' → St 0 h' := by
  rcases h with h | h
  · obtain ⟨its, rv, p1, hz⟩ := I.list h
    refine ⟨its, rv, hz, _, _, begins_list a its.toArray, p1.isList, p1.lt, fun it hne => ⟨fun i h => h.IsListIter it a i ∧ h.IsList a its.toArray, fun A' hh => ?_, fun h' g b => ⟨⟨_, g, rfl, rfl⟩, b⟩⟩⟩
    have := Draws.list (prog := X.prog) (w := X.w) hh it a hne its.toArray
    rwa [List.size_toArray] at this
  · obtain ⟨its, rv, p1, hz⟩ := I.tuple h
    refine ⟨its, rv, hz, _, _, begins_tuple a its.toArray, p1, ?_, fun it hne => ⟨fun i h => h.IsTupleIter it a i ∧ h.IsTuple a its.toArray, fun A' hh => ?_, fun h' g b => ⟨⟨_, g, rfl, rfl⟩, b⟩⟩⟩
    · obtain ⟨o1, ho1, _⟩ := id p1
      exact Heap.lt_size ho1
    · have := Draws.tuple (prog := X.prog) (w := X.w) hh it a hne its.toArray
      rwa [List.size_toArray] at this
/-- list(zip(a, b)): two of one length, lists or tuples -/
def tListZip (K : PySem.W.Frag) (ta : TA) : TE := fun σ H Q => ta σ H fun vs H1 => ∃ a b xs ys, vs = [.ref a, .ref b] ∧ (SqL K H1 a xs ∨ SqT K H1 a xs) ∧ (SqL K H1 b ys ∨ SqT K H1 b ys) ∧ xs.length = ys.length ∧
  ∀ (S : Addr) (as : List Addr) (H' : Hp), Same H1 H' → H1 S = none → H' S = some (.lst (as.map V.ref)) → Paired (fun (t : Addr) (p : V × V) => H1 t = none ∧ H' t = some (.tup [p.1, p.2])) as (xs.zip ys) → Q (.ref S) H'
theorem pe_listZip {e e2 : Expr} {ta : TA} {p p2 pos pos2 : Pos} (hc : X.calm = true) (hg : Gl X "list") (hm : X.mg "list" = none) (hv : bootBuiltins "list" = some (.type "list")) (hg2 : Gl X "zip") (hm2 : X.mg "zip" = none) (ha : PA X [e, e2] ta)
    (hs2 : starEach [e, e2] X.env = (false, eval e X.env) :: starEach [e2] X.env := by rfl) (hpl : (backTo pos2 (starEach [e2] X.env)).any (·.1) = false := by rfl)
    (hs : starEach [.Call (.Name "zip" p2) [e, e2] [] pos2] X.env = (false, eval (.Call (.Name "zip" p2) [e, e2] [] pos2) X.env) :: starEach [] X.env := by rfl) :
    PE X (.Call (.Name "list" p) [.Call (.Name "zip" p2) [e, e2] [] pos2] [] pos) (tListZip X.K ta) := by
  refine ⟨fun pins s σ H Q I hq => ?_⟩
  refine wpAny_Call_Name_kw (ld_blt I hg hm hv ?_)
  refine PyProof.Rows.callWith_type1 ?_ hs rfl
  rw [hs]
  show wpAny _ _ (spliced ((false, eval (.Call (.Name "zip" p2) [e, e2] [] pos2) X.env) :: backTo pos (starEach [] X.env))) _ _ s
  refine Calls.spliced_cons ?_
  refine Call_ (ld_blt I hg2 hm2 PyProof.Rows.boot_zip (PyProof.Rows.callWith_type1 (thn (ha.run pos2 pins s σ H _ I hq) fun us s1 ⟨vs, H1, I1, r1, q1⟩ => ?_) hs2 hpl))
  obtain ⟨a, b, xs, ys, ex, hx, hy, lx, q⟩ := q1
  subst ex
  cases r1 with
  | cons r rr =>
    cases rr with
    | cons r' rr =>
      cases rr
      cases r
      cases r'
      obtain ⟨its, rx, zx, o1, B1, b1, h1, la, d1⟩ := src I1 hx
      obtain ⟨jts, ry, zy, o2, B2, b2, h2, lb, d2⟩ := src I1 hy
      have l1 := rx.length
      have l2 := ry.length
      refine zip_begins2 b1 b2 h1 h2 fun h' hz hTI hTO g1 g2 hsz hk => ?_
      refine Calls.spliced_nil ?_
      obtain ⟨St1, D1, s1'⟩ := d1 s1.heap.objs.size (Nat.ne_of_lt la)
      obtain ⟨St2, D2, s2'⟩ := d2 (s1.heap.objs.size + 1) (Nat.ne_of_lt (Nat.lt_succ_of_lt lb))
      have e12 : jts.length = its.length := by omega
      rw [e12] at D2
      have lo : ∀ k, k < 5 → s1.heap.objs.size + k < h'.objs.size := fun k hk => by rw [hsz]; exact Nat.add_lt_add_left hk _
      have hN : s1.heap.objs.size < h'.objs.size := lo 0 (by decide)
      have off : ∀ b o, s1.heap.get? b = some o → b ≠ s1.heap.objs.size + 4 ∧ b ≠ s1.heap.objs.size + 3 ∧ b ≠ s1.heap.objs.size ∧ b ≠ s1.heap.objs.size + 1 := fun b o e => by
        have := Heap.lt_size e
        exact ⟨Nat.ne_of_lt (Nat.lt_of_lt_of_le this (Nat.le_add_right _ _)), Nat.ne_of_lt (Nat.lt_of_lt_of_le this (Nat.le_add_right _ _)), Nat.ne_of_lt this, Nat.ne_of_lt (Nat.lt_of_lt_of_le this (Nat.le_add_right _ _))⟩
      refine zl_call (s := { s1 with heap := h' }) (n := its.length) (I1.ok.hd hc) (zip_sep2 (fp1 := [a]) (fp2 := [b]) (fun c hc => by rw [List.mem_singleton.mp hc]; exact la) (fun c hc => by rw [List.mem_singleton.mp hc]; exact lb)) D1 D2
        (Nat.lt_add_of_pos_right (by decide)) (Nat.add_lt_add_left (by decide) _) (Nat.add_lt_add_left (by decide) _) (Nat.add_lt_add_left (by decide) _) ?_ ?_ (by omega) hz hTI hTO (s1' _ g1 (b1.keeps _ _ h1 hk)) (s2' _ g2 (b2.keeps _ _ h2 hk)) fun h'' tk acc c as hk2 hS hl hG hacc => ?_
      · intro c hc
        rcases List.mem_cons.mp hc with e | hc
        · rw [e]; exact hN
        · rw [List.mem_singleton.mp hc]; exact Nat.lt_trans la hN
      · intro c hc
        rcases List.mem_cons.mp hc with e | hc
        · rw [e]; exact lo 1 (by decide)
        · rw [List.mem_singleton.mp hc]; exact Nat.lt_trans lb hN
      obtain ⟨H', k1, k2, k3, k4, J⟩ := zip_laid (tk := tk) I1 zx (Nat.le_of_lt hN) lx rx ry (fun b o e => by
        obtain ⟨e1, e2, e3, e4⟩ := off b o e
        exact hk2 b o e1 e2 e3 e4 (hk b o e)) hS (by omega) hG hacc
      exact ⟨.ref _, H', J, rfl, q _ as H' k1 k2 k3 k4⟩
end
end ZL

namespace KT
open PySem PySem.Spec PyProof.Rows L2 C8 XE XR TX ZL
/-! contents_of -/
abbrev sCo : Stmt := top 25
abbrev NCo : List Str := ["left", "tree", "contents", "waiting", "shape", "found"]
theorem scCo : FnScope NCo ["left", "tree"] (fnScope sCo) := fnScope_by (by decide +kernel)
mutual
/-- a shape lies on a tree -/
def layB : D → D → Bool
  | .fl (.str _), _ => true
  | .sq (.fl (.str z) :: cs), .sq (.fl (.str y) :: us) => decide (z = y) && (decide (cs.length = us.length) && layBs cs us)
  | _, _ => false
def layBs : List D → List D → Bool
  | c :: cs, u :: us => layB c u && layBs cs us
  | _, _ => true
end
mutual
/-- the contents of the holes, in order -/
def conts : D → D → List (Str × D)
  | .fl (.str z), t => [(z, t)]
  | .sq (_ :: cs), .sq (_ :: us) => contss cs us
  | _, _ => []
def contss : List D → List D → List (Str × D)
  | c :: cs, u :: us => conts c u ++ contss cs us
  | _, _ => []
end
theorem layBs_zip : ∀ (cs us : List D), layBs cs us = (cs.zip us).all fun p => layB p.1 p.2
  | [], us => by cases us <;> rfl
  | c :: cs, [] => rfl
  | c :: cs, u :: us => by rw [layBs, layBs_zip cs us]; rfl
theorem contss_zip : ∀ (cs us : List D), contss cs us = (cs.zip us).flatMap fun p => conts p.1 p.2
  | [], us => by cases us <;> rfl
  | c :: cs, [] => rfl
  | c :: cs, u :: us => by rw [contss, contss_zip cs us]; rfl
mutual
theorem conts_sub : ∀ (d t : D), ((conts d t).map fun q => q.1).Sublist (hnm d)
  | .fl x, t => by
    cases x with
    | str z => exact List.Sublist.refl _
    | _ => exact List.nil_sublist _
  | .emp, t => List.nil_sublist _
  | .sq [], t => List.nil_sublist _
  | .sq (x :: cs), .fl _ => List.nil_sublist _
  | .sq (x :: cs), .emp => List.nil_sublist _
  | .sq (x :: cs), .sq [] => List.nil_sublist _
  | .sq (x :: cs), .sq (y :: us) => by rw [conts, hnm]; exact contss_sub cs us
theorem contss_sub : ∀ (cs us : List D), ((contss cs us).map fun q => q.1).Sublist (hnms cs)
  | [], us => by cases us <;> exact List.nil_sublist _
  | c :: cs, [] => List.nil_sublist _
  | c :: cs, u :: us => by
    rw [contss, List.map_append, hnms]
    exact (conts_sub c u).append (contss_sub cs us)
end
mutual
theorem conts_names : ∀ (d t : D), layB d t = true → ((conts d t).map fun q => q.1) = hnm d
  | .fl x, t, h => by
    cases x with
    | str z => rfl
    | _ => cases h
  | .emp, t, h => by cases h
  | .sq [], t, h => by cases h
  | .sq (x :: cs), .fl _, h => by cases x <;> first | cases h | (rename_i v; cases v <;> cases h)
  | .sq (x :: cs), .emp, h => by cases x <;> first | cases h | (rename_i v; cases v <;> cases h)
  | .sq (x :: cs), .sq [], h => by cases x <;> first | cases h | (rename_i v; cases v <;> cases h)
  | .sq (x :: cs), .sq (y :: us), h => by
    rw [conts, hnm]
    unfold layB at h
    split at h
    · rename_i e; cases e
    · rename_i e1 e2
      cases e1
      cases e2
      rw [Bool.and_eq_true, Bool.and_eq_true] at h
      exact contss_names cs us (of_decide_eq_true h.2.1) h.2.2
    · cases h
theorem contss_names : ∀ (cs us : List D), cs.length = us.length → layBs cs us = true → ((contss cs us).map fun q => q.1) = hnms cs
  | [], us, _, _ => by cases us <;> rfl
  | c :: cs, [], h, _ => by cases h
  | c :: cs, u :: us, hl, h => by
    rw [layBs, Bool.and_eq_true] at h
    rw [contss, List.map_append, hnms, conts_names c u h.1, contss_names cs us (Nat.succ.inj hl) h.2]
end
theorem treeDs_mem : ∀ {ds : List D}, treeDs ds = true → ∀ d ∈ ds, treeD d = true
  | [], _, d, h => by cases h
  | x :: ds, h, d, hd => by
    rw [treeDs, Bool.and_eq_true] at h
    rcases List.mem_cons.mp hd with rfl | hd
    · exact h.1
    · exact treeDs_mem h.2 d hd
theorem treeD_sh : ∀ d : D, treeD d = true → isSh d = true
  | .fl x, h => by cases x <;> cases h
  | .emp, h => by cases h
  | .sq [], h => by cases h
  | .sq (x :: cs), h => by
    obtain ⟨z, cs', e, h2⟩ := treeD_inv h
    cases e
    rw [treeD, Bool.and_eq_true] at h
    rw [isSh, h.1, Bool.true_and]
    exact isShs_of fun c hc => by
      have := List.sizeOf_lt_of_mem hc
      exact treeD_sh c (treeDs_mem h2 c hc)
termination_by d => sizeOf d
decreasing_by simp only [D.sq.sizeOf_spec, List.cons.sizeOf_spec]; omega
end KT

namespace KT
open PySem PySem.Spec PyProof.Rows L2 C8 XE XR TX ZL
theorem paired_snoc_inv {α β : Type} {R : α → β → Prop} : ∀ {xs : List α} {x : α} {ys : List β}, Paired R (xs ++ [x]) ys → ∃ ys0 y, ys = ys0 ++ [y] ∧ Paired R xs ys0 ∧ R x y
  | [], x, [], k => by cases k
  | [], x, [y], .cons r _ => ⟨[], y, rfl, .nil, r⟩
  | [], x, y :: y' :: ys, .cons _ k => by cases k
  | a :: xs, x, [], k => by cases k
  | a :: xs, x, y :: ys, .cons r k => by
    obtain ⟨ys0, y', rfl, h1, h2⟩ := paired_snoc_inv k
    exact ⟨y :: ys0, y', rfl, .cons r h1, h2⟩
/-- a pair that waits -/
def PW (F : Addr → Prop) (H H' : Hp) (v : V) (p : D × D) : Prop := ∃ q a b, v = .ref q ∧ H' q = some (.tup [a, b]) ∧ DAt nol H a p.1 ∧ isSh p.1 = true ∧ DAt F H b p.2 ∧ treeD p.2 = true
theorem PW.tk {F : Addr → Prop} {H H' H'' : Hp} (s : TK H' H'') {v : V} {p : D × D} (h : PW F H H' v p) : PW F H H'' v p := let ⟨q, a, b, e, e2, r⟩ := h; ⟨q, a, b, e, s _ _ e2, r⟩
/-- a hole's content -/
def CE (H : Hp) (kv : Key × V) (q : Str × D) : Prop := kv.1 = .inr q.1 ∧ DAt nol H kv.2 q.2 ∧ treeD q.2 = true
theorem CE.tk {H H' : Hp} (s : TK H H') {kv : Key × V} {q : Str × D} (h : CE H kv q) : CE H' kv q := ⟨h.1, sh_tups s (treeD_sh _ h.2.2) h.2.1, h.2.2⟩
theorem ce_none {H : Hp} {z : Str} : ∀ {kvs : List (Key × V)} {col : List (Str × D)}, Paired (CE H) kvs col → z ∉ col.map (fun q => q.1) → valV kvs (.inr z) = none
  | _, _, .nil, _ => rfl
  | _, _, .cons ⟨e, _⟩ t, h => by
    rw [List.map_cons, List.mem_cons] at h
    rw [valV_neg (fun e' => h (.inl (by rw [e] at e'; exact (Sum.inr.inj e').symm)))]
    exact ce_none t fun x => h (.inr x)
theorem ce_some {H : Hp} : ∀ {kvs : List (Key × V)} {col : List (Str × D)}, Paired (CE H) kvs col → (col.map fun q => q.1).Nodup → ∀ q ∈ col, ∃ v, valV kvs (.inr q.1) = some v ∧ DAt nol H v q.2 ∧ treeD q.2 = true
  | _, _, .nil, _, q, h => by cases h
  | kv :: _, q0 :: _, .cons ⟨e, r⟩ t, nd, q, h => by
    rw [List.map_cons, List.nodup_cons] at nd
    rcases List.mem_cons.mp h with rfl | h
    · exact ⟨_, valV_pos e, r⟩
    · obtain ⟨v, e1, e2⟩ := ce_some t nd.2 q h
      refine ⟨v, ?_, e2⟩
      rw [valV_neg (fun e' => nd.1 (by rw [e] at e'; rw [Sum.inr.inj e']; exact List.mem_map_of_mem h))]
      exact e1
def pend (ps : List (D × D)) : List (Str × D) := ps.flatMap fun p => conts p.1 p.2
def szp (ps : List (D × D)) : Nat := szs (ps.map fun p => p.1)
theorem szp_app (a b : List (D × D)) : szp (a ++ b) = szp a + szp b := by unfold szp; rw [List.map_append, szs_app]
theorem szp_zip : ∀ (cs us : List D), szp (cs.zip us) ≤ szs cs
  | [], us => by cases us <;> exact Nat.le_refl _
  | c :: cs, [] => Nat.zero_le _
  | c :: cs, u :: us => by
    have := szp_zip cs us
    show sz c + szp (cs.zip us) ≤ sz c + szs cs
    omega
def spCo : Sp := fun vs H Q _ => ∃ (v1 v2 : V) (d t : D) (F : Addr → Prop), vs = [v1, v2] ∧ DAt nol H v1 d ∧ isSh d = true ∧ sz d ≤ 900 ∧ (hnm d).Nodup ∧ DAt F H v2 t ∧ treeD t = true ∧ sz t ≤ 4000 ∧
  (layB d t = false → ∀ H', Same H H' → Q .non H') ∧
  (layB d t = true → ∀ c kvs col H', Same H H' → H' c = some (.dK kvs) → Paired (CE H') kvs col → col.Perm (conts d t) → Q (.ref c) H')
theorem ix0 {K : PySem.W.Frag} {H : Hp} {b : Addr} {v : V} {vs : List V} {Q : VK} (q : H b = some (.tup (v :: vs)) ∨ H b = some (.lst (v :: vs))) (h : Q v H) : rIx K (.ref b) (.int 0) H Q := by
  rcases q with q | q
  · exact .inr (.inl ⟨b, _, 0, v, rfl, rfl, SqT.of q, at_of (j := 0) (by omega) rfl, h⟩)
  · exact .inl ⟨b, _, 0, v, rfl, rfl, SqL.of q, at_of (j := 0) (by omega) rfl, h⟩
theorem sl1 {K : PySem.W.Frag} {H : Hp} {b : Addr} {v : V} {vs : List V} {Q : VK} (q : H b = some (.tup (v :: vs)) ∨ H b = some (.lst (v :: vs))) (h : ∀ r H', H r = none → Same H H' → (SqL K H' r vs ∨ SqT K H' r vs) → Q (.ref r) H') : rSlL K (.ref b) (some 1) none H Q ∨ rSlT K (.ref b) (some 1) none H Q := by
  have cut1 : cutV (v :: vs) (some 1) none = vs := by rw [cutFrom (by decide)]; rfl
  rcases q with q | q
  · exact .inr ⟨b, _, rfl, SqT.of q, not_whole (by decide) (by simp), fun r nr => by rw [cut1]; exact h r _ nr (same_upd nr) (.inr (SqT.of upd_same))⟩
  · exact .inl ⟨b, _, rfl, SqL.of q, fun r nr => by rw [cut1]; exact h r _ nr (same_upd nr) (.inl (SqL.of upd_same))⟩
theorem sz_mem {cs : List D} {c : D} (h : c ∈ cs) : sz c ≤ szs cs := by
  obtain ⟨i, hi⟩ := List.getElem?_of_mem h
  exact szs_get hi
theorem paired_pw {G : Addr → Prop} {H H1 H' : Hp} : ∀ {cs us : List D} {as bs : List V} {ts : List Addr}, DAts nol H as cs → isShs cs = true → DAts G H bs us → treeDs us = true → Paired (fun (t : Addr) (p : V × V) => H1 t = none ∧ H' t = some (.tup [p.1, p.2])) ts (as.zip bs) → Paired (PW G H H') (ts.map V.ref) (cs.zip us)
  | [], us, [], bs, ts, _, _, _, _, h => by
    cases h
    exact .nil
  | c :: cs, [], a :: as, [], ts, _, _, _, _, h => by
    cases h
    exact .nil
  | c :: cs, u :: us, a :: as, b :: bs, ts, ⟨ha, has⟩, hs, ⟨hb, hbs⟩, ht, h => by
    rw [isShs, Bool.and_eq_true] at hs
    rw [treeDs, Bool.and_eq_true] at ht
    cases h with
    | cons r t => exact .cons ⟨_, a, b, rfl, r.2, ha, hs.1, hb, ht.1⟩ (paired_pw has hs.2 hbs ht.2 t)
  | [], _, _ :: _, _, _, h, _, _, _, _ => h.elim
  | _ :: _, _, [], _, _, h, _, _, _, _ => h.elim
  | _ :: _, [], _ :: _, _ :: _, _, _, _, h, _, _ => h.elim
  | _ :: _, _ :: _, _ :: _, [], _, _, _, h, _, _ => h.elim
/-- trees are small -/
def smallP (ps : List (D × D)) : Prop := ∀ p ∈ ps, sz p.2 ≤ 4000
section
variable {P : Program} {w : World} {K : PySem.W.Frag} {mg : Str → Option Value} {base : Heap}
theorem c_co {f : Addr} {fd : FuncData} (F : Def K mg "contents_of" sCo f fd) (b : Binds K fd ["left", "tree"] []) (T : Blt4 mg) (CH : Cal P w K mg base 1 "is_hole" spHole []) (CT : Cal P w K mg base 4 "as_tuples" spAsT []) : Cal P w K mg base 5 "contents_of" spCo [] := by
  refine cal0 F b .nil scCo (fun vs H Q E h => ?_) (fun cdv A outer s H vs Q E hr h => ?_)
  · obtain ⟨v1, v2, d, t, G, rfl, _⟩ := h
    rfl
  · obtain ⟨v1, v2, d, t, G, rfl, hv1, hsd, hzd, hnd, hv2, htr, hzt, kN, kY⟩ := h
    have nd := scCo.nd
    have hu : (A.deeper (envOfC "contents_of" (fnScope sCo) s.heap.objs.size f cdv)).units + 1 < cLine := by have := hr.un; omega
    refine ⟨_, pss_cons (ps_set (i := 2) nd rfl (Or.inl rfl) pe_dnewK)
      (pss_cons (ps_set (i := 3) nd rfl (Or.inl rfl) (pe_lst (pa_cons (pe_tup (pa_cons (pv 0) (pa_cons (pv 1) pa_nil))) pa_nil)))
      (pss_cons (ps_while PassesOwn.never (pt_truth (pv 3) (by intro _; rfl))
        (pss_cons (ps_asg (pe_bm0 PySem.F.plainAttrs_list PySem.F.slot_list_pop PySem.F.type_list_pop mt_pop (pv 3)) (pg_tup rfl (pgs_cons (pg_name (i := 4) nd rfl (Or.inl rfl)) (pgs_cons (pg_name (i := 5) nd rfl (Or.inl rfl)) pgs_nil))))
        (pss_one (ps_if (pt_val (pe_c CH hr (by decide) (by rfl) (pa_cons (pv 4) pa_nil)))
          (pss_one (ps_dput hu (pv 2) (pv 4) (pe_c CT hr (by decide) (by rfl) (pa_cons (pv 5) pa_nil)) rfl))
          (pss_one (ps_if (pw_or (pt_cmpR op_ne (pe_ix ix_tup (pv 4) pe_int fun _ _ => rfl) (pe_ix ix_seq (pv 5) pe_int fun _ _ => rfl) (nomark _)) (pw_or1 (pt_cmp (pc_neI (pe_callB call_len_seq (by rfl) T.len PySem.boot_len (pa_cons (pv 4) pa_nil)) (pe_callB call_len_seq (by rfl) T.len PySem.boot_len (pa_cons (pv 5) pa_nil)))))).pt
            (pss_one (ps_ret pe_non))
            (pss_one (ps_expr (pe_bm PySem.F.plainAttrs_list PySem.F.slot_list_extend PySem.F.type_list_extend mt_extend (pv 3) (pa_cons (pe_listZip rfl (by rfl) T.list (by decide +kernel) (by rfl) T.zip (pa_cons (pe_slice sl_tup (pv 4) (po_some pe_int) po_none) (pa_cons (pe_slice (SlR.or sl_list sl_tup) (pv 5) (po_some pe_int) po_none) pa_nil))) pa_nil))))))))))
      (pss_one (ps_ret (pv 2))))), ?_⟩
    have hsl := sizeLine_eq
    refine fun c nc => ⟨_, rfl, _, rfl, (by show 2 ≤ sizeLine; decide), fun q0 nq => ⟨(by show 1 ≤ sizeLine; decide), fun wl nw => ?_⟩⟩
    have cq : q0 ≠ c := (ne_of_none upd_same nq).symm
    have wq : wl ≠ q0 := (ne_of_none upd_same nw).symm
    have wc : wl ≠ c := (ne_of_none (show (upd (upd H c (.dK [])) q0 _) c = some (.dK []) by rw [upd_ne cq.symm]; exact upd_same) nw).symm
    have nwH : H wl = none := by rw [upd_ne wq, upd_ne wc] at nw; exact nw
    have hcl : (conts d t).length ≤ 900 := by
      have h1 := (conts_sub d t).length_le
      rw [List.length_map] at h1
      have h2 := hnm_le d
      omega
    have hcn : ((conts d t).map fun q => q.1).Nodup := List.Pairwise.sublist (conts_sub d t) hnd
    let Iv : Nat → L2.St → Hp → Prop := fun m σ H' => ∃ (o4 o5 : Option V) (ws : List V) (ps : List (D × D)) (kvs : List (Key × V)) (col : List (Str × D)), σ = [some v1, some v2, some (.ref c), some (.ref wl), o4, o5] ∧ szp ps = m ∧ H' wl = some (.lst ws) ∧ Paired (PW G H H') ws ps ∧ H' c = some (.dK kvs) ∧ Paired (CE H') kvs col ∧ Same H H' ∧
      (col ++ pend ps).Perm (conts d t) ∧ layB d t = ps.all (fun p => layB p.1 p.2) ∧ smallP ps ∧ m ≤ 900
    have s0 : Same H (upd (upd (upd H c (.dK [])) q0 (.tup [v1, v2])) wl (.lst [.ref q0])) := (same_upd nc).trans ((same_upd nq).trans (same_upd nw))
    refine ⟨Iv, ⟨sz d, none, none, [.ref q0], [(d, t)], [], [], rfl, rfl, upd_same, .cons ⟨q0, v1, v2, rfl, by rw [upd_ne wq.symm]; exact upd_same, hv1, hsd, hv2, htr⟩ .nil, by rw [upd_ne wc.symm, upd_ne cq.symm]; exact upd_same, .nil, s0, by
      show ([] ++ (conts d t ++ [])).Perm (conts d t)
      rw [List.append_nil]
      exact List.Perm.refl _, by rw [List.all_cons, List.all_nil, Bool.and_true], fun p hp => by rw [List.mem_singleton.mp hp]; exact hzt, hzd⟩, ?_⟩
    rintro m σ H1 ⟨o4, o5, ws, ps, kvs, col, rfl, rfl, hW, hws, hc, hcol, sm, hperm, hlay, hsm, hm⟩
    have hlen := Paired.length hws
    have hkl := Paired.length hcol
    have hpl : ps.length ≤ szp ps := by
      have := len_szs (ps.map fun p => p.1)
      rw [List.length_map] at this
      exact this
    have hcoll : col.length ≤ 900 := by
      have := hperm.length_eq
      rw [List.length_append] at this
      omega
    refine ⟨_, rfl, !ws.isEmpty, .inl ⟨ws, SqL.of hW, rfl⟩, ?_⟩
    cases hwe : ws.isEmpty with
    | true =>
      have e : ws = [] := List.isEmpty_iff.mp hwe
      subst e
      have : ps = [] := List.length_eq_zero_iff.mp hlen.symm
      subst this
      refine iteBf rfl ⟨_, rfl, kY (by rw [hlay]; rfl) c kvs col H1 sm hc hcol ?_⟩
      rw [← List.append_nil col]
      exact hperm
    | false =>
      refine iteBt rfl ?_
      have hne : ws ≠ [] := fun e => by rw [e] at hwe; cases hwe
      obtain ⟨ws0, x, rfl⟩ : ∃ ws0 x, ws = ws0 ++ [x] := ⟨ws.dropLast, ws.getLast hne, (List.dropLast_concat_getLast hne).symm⟩
      obtain ⟨ps0, p, rfl, hws0, q1, a, bb, rfl, hq1, ha, hsp, hb, htp⟩ := paired_snoc_inv hws
      have hsz : szp (ps0 ++ [p]) = szp ps0 + sz p.1 := by rw [szp_app]; rfl
      have hpp := sz_pos p.1
      rw [hsz] at hm hpl
      have hp2 := hsm p (List.mem_append_right _ (List.mem_singleton.mpr rfl))
      have hsm0 : smallP ps0 := fun p hp => hsm p (List.mem_append_left _ hp)
      have hpd : pend (ps0 ++ [p]) = pend ps0 ++ conts p.1 p.2 := by unfold pend; rw [List.flatMap_append, List.flatMap_cons, List.flatMap_nil, List.append_nil]
      rw [hpd] at hperm
      rw [List.all_append, List.all_cons, List.all_nil, Bool.and_true] at hlay
      rw [List.length_append] at hlen hpl
      refine ⟨fun σ' H' => ∃ m' < szp (ps0 ++ [p]), Iv m' σ' H', fun σ' H' ⟨m', hl, hi⟩ => ⟨m', hl, hi⟩, ?_⟩
      refine ⟨_, rfl, .inl ⟨rfl, _, SqL.of hW⟩, wl, _, .ref q1, rfl, rfl, hW, by simp, ?_⟩
      rw [List.dropLast_concat]
      have hW2 : (upd H1 wl (.lst ws0)) wl = some (.lst ws0) := upd_same
      have tk2 : TK H1 (upd H1 wl (.lst ws0)) := fun a vs e => by rw [upd_ne (ne_of e hW (by intro z; cases z))]; exact e
      have hc2 : (upd H1 wl (.lst ws0)) c = some (.dK kvs) := by rw [upd_ne wc.symm]; exact hc
      have sm2 : Same H (upd H1 wl (.lst ws0)) := fun b o q => by rw [upd_ne (ne_of_none q nwH)]; exact sm _ _ q
      have hws2 : Paired (PW G H (upd H1 wl (.lst ws0))) ws0 ps0 := Paired.mono (fun _ _ h => h.tk tk2) hws0
      have hcol2 : Paired (CE (upd H1 wl (.lst ws0))) kvs col := Paired.mono (fun _ _ h => h.tk tk2) hcol
      have hq2 := tk2 _ _ hq1
      generalize upd H1 wl (.lst ws0) = H2 at hW2 tk2 hc2 sm2 hws2 hcol2 hq2 ⊢
      refine ⟨q1, [a, bb], rfl, SqT.of hq2, rfl, a, [bb], rfl, bb, [], rfl, rfl, ?_⟩
      obtain ⟨sd, td⟩ := p
      dsimp only at ha hsp hb htp hsz hm hpl hp2 hpd hperm hlay hpp
      refine ⟨_, rfl, a, sd, nol, rfl, DAt.hold (.same sm2) _ ha, isSt sd, rfl, ?_⟩
      rcases isSh_inv hsp with ⟨z, rfl, _⟩ | ⟨z, cs, rfl, _, hcs⟩
      · obtain ⟨rfl, _⟩ := ha
        refine iteBt rfl ?_
        refine ⟨_, rfl, bb, td, G, rfl, DAt.hold (.same sm2) _ hb, treeD_sh _ htp, by omega, fun v' H3 s3 hv' => ⟨_, rfl, _, rfl, c, _, rfl, DPut.k (k := .inr z) (s3 _ _ hc2) (by omega), ?_⟩⟩
        have hc3 := s3 _ _ hc2
        have tk3 : TK H3 (upd H3 c (.dK (putK kvs (.inr z) v'))) := fun a vs e => by rw [upd_ne (ne_of e hc3 (by intro z; cases z))]; exact e
        have hnew : z ∉ col.map fun q => q.1 := fun h => by
          have h1 := (hperm.map fun q => q.1).nodup_iff.mpr hcn
          rw [List.map_append, List.map_append] at h1
          exact (List.nodup_append.mp h1).2.2 z h z (List.mem_append_right _ List.mem_cons_self) rfl
        refine ⟨szp ps0, by rw [hsz]; omega, _, _, ws0, ps0, putK kvs (.inr z) v', col ++ [(z, td)], rfl, rfl, by rw [upd_ne wc]; exact s3 _ _ hW2, Paired.mono (fun _ _ h => (h.tk (.of s3)).tk tk3) hws2, upd_same, ?_, fun b o e => by rw [upd_ne (ne_of_none e nc)]; exact s3 _ _ (sm2 _ _ e), ?_, ?_, hsm0, by omega⟩
        · rw [putK_new _ (ce_none hcol2 hnew)] at tk3 ⊢
          exact Paired.snoc (Paired.mono (fun _ _ h => (h.tk (.of s3)).tk tk3) hcol2) ⟨rfl, sh_tups tk3 (treeD_sh _ htp) hv', htp⟩
        · refine List.Perm.trans ?_ hperm
          show (col ++ [(z, td)] ++ pend ps0).Perm (col ++ (pend ps0 ++ [(z, td)]))
          rw [List.append_assoc]
          exact List.Perm.append_left _ List.perm_append_comm
        · rw [hlay, show layB (.fl (.str z)) td = true from rfl, Bool.and_true]
      · obtain ⟨aa, vs, rfl, qa, _, hvs⟩ := ha
        obtain ⟨y, us, rfl, hus⟩ := treeD_inv htp
        obtain ⟨ab, vs', rfl, qb, _, hvs'⟩ := hb
        match vs, hvs, vs', hvs' with
        | [], hvs, _, _ => exact hvs.elim
        | _ :: _, _, [], hvs' => exact hvs'.elim
        | v0 :: cvs, ⟨⟨e0, _⟩, hcv⟩, v0' :: uvs, ⟨⟨e0', _⟩, huv⟩ =>
          subst e0 e0'
          have qa := qa.elim id fun e => e.1.elim
          have qa2 := sm2 _ _ qa
          have qb2 : H2 ab = some (.tup (.str y :: uvs)) ∨ H2 ab = some (.lst (.str y :: uvs)) := qb.imp (sm2 _ _) fun e => sm2 _ _ e.2
          have hcl' := hcv.len
          have hul' := huv.len
          have hez : sz (.sq (.fl (.str z) :: cs)) = 2 + szs cs := by rw [sz, szs, sz]; omega
          have hez2 : sz (.sq (.fl (.str y) :: us)) = 2 + szs us := by rw [sz, szs, sz]; omega
          refine iteBf rfl ?_
          refine ⟨_, rfl, aa, _, 0, _, rfl, rfl, SqT.of qa2, at_of (j := 0) (by omega) rfl, _, rfl, ix0 qb2 ⟨rfl, _, rfl, ?_⟩⟩
          by_cases hzy : z = y
          · subst hzy
            refine iteBf (by rw [decide_eq_true rfl]; rfl) ?_
            refine ⟨_, rfl, aa, _, rfl, .inr (SqT.of qa2), _, rfl, ab, _, rfl, qb2.elim (fun e => .inr (SqT.of e)) (fun e => .inl (SqL.of e)), _, _, rfl, rfl, _, rfl, ?_⟩
            by_cases hll : cs.length = us.length
            · refine iteBf (by rw [List.length_cons, List.length_cons, hcl', hul', hll]; simp) ?_
              refine ⟨_, rfl, .inl ⟨rfl, _, SqL.of hW2⟩, _, rfl, 1, rfl, aa, _, rfl, SqT.of qa2, not_whole (by decide) (by simp), fun r nr => ?_⟩
              rw [cutFrom (by decide), show (V.str z :: cvs).drop (1 : Int).toNat = cvs from rfl]
              have sr := same_upd (o := .tup cvs) nr
              have hr : (upd H2 r (.tup cvs)) r = some (.tup cvs) := upd_same
              generalize upd H2 r (.tup cvs) = H3 at sr hr ⊢
              have qb3 : H3 ab = some (.tup (.str z :: uvs)) ∨ H3 ab = some (.lst (.str z :: uvs)) := qb2.imp (sr _ _) (sr _ _)
              refine ⟨_, rfl, 1, rfl, sl1 qb3 fun r2 H4 nr2 s4 hr2 => ⟨r, r2, cvs, uvs, rfl, .inr (SqT.of (s4 _ _ hr)), hr2, by omega, fun S as H5 s5 nS hS hpr => ?_⟩⟩
              have s25 := sr.trans (s4.trans s5)
              have hW5 := s25 _ _ hW2
              have hpw := paired_pw (G := G) (H := H) hcv hcs huv hus hpr
              have hzl := Paired.length hpw
              rw [List.length_zip] at hzl
              have hczl := len_szs cs
              have hw0 := Paired.length hws0
              have hp1 : [((D.sq (D.fl (V.str z) :: cs)), (D.sq (D.fl (V.str z) :: us)))].length = 1 := rfl
              refine ⟨wl, S, ws0, as.map V.ref, rfl, rfl, hW5, hS, by omega, ?_⟩
              have tk5 : TK H5 (upd H5 wl (.lst (ws0 ++ as.map V.ref))) := fun a vs e => by rw [upd_ne (ne_of e hW5 (by intro z; cases z))]; exact e
              refine ⟨szp (ps0 ++ cs.zip us), by rw [hsz, szp_app]; have := szp_zip cs us; omega, _, _, ws0 ++ as.map V.ref, ps0 ++ cs.zip us, kvs, col, rfl, rfl, upd_same, Paired.mono (fun _ _ h => h.tk tk5) (paired_app (Paired.mono (fun _ _ h => h.tk (.of s25)) hws2) hpw), by rw [upd_ne wc.symm]; exact s25 _ _ hc2, Paired.mono (fun _ _ h => (h.tk (.of s25)).tk tk5) hcol2, fun b o e => by rw [upd_ne (ne_of_none e nwH)]; exact s25 _ _ (sm2 _ _ e), ?_, ?_, ?_, by rw [szp_app]; have := szp_zip cs us; omega⟩
              · show (col ++ (ps0 ++ cs.zip us).flatMap _).Perm _
                rw [List.flatMap_append, ← contss_zip]
                exact hperm
              · rw [hlay, List.all_append, ← layBs_zip]
                rw [layB, decide_eq_true rfl, decide_eq_true hll, Bool.true_and, Bool.true_and]
              · intro p hp
                rcases List.mem_append.mp hp with hp | hp
                · exact hsm0 p hp
                · obtain ⟨p1, p2⟩ := p
                  have := sz_mem (List.of_mem_zip hp).2
                  show sz p2 ≤ 4000
                  omega
            · refine iteBt (by rw [List.length_cons, List.length_cons, hcl', hul']; simp; omega) (kN ?_ H2 sm2)
              rw [hlay, layB, decide_eq_false hll, Bool.false_and, Bool.and_false, Bool.and_false]
          · refine iteBt (by rw [decide_eq_false (fun e => hzy (V.str.inj e))]; rfl) (kN ?_ H2 sm2)
            rw [hlay, layB, decide_eq_false hzy, Bool.false_and, Bool.and_false]
end
end KT

namespace KT
open PySem PySem.Spec PyProof.Rows L2 C8 XE XR TX ZL
/-! fit -/
abbrev sFit : Stmt := top 28
abbrev NFt : List Str := ["rule", "tree", "contents", "holes", "hole"]
theorem scFit : FnScope NFt ["rule", "tree"] (fnScope sFit) := fnScope_by (by decide +kernel)
def fitB (d : D) (ks bs : List (Str × List Str)) (t : D) : Bool := layB d t && (conts d t).all fun q => mayB ks bs q.1 q.2
mutual
theorem conts_sz : ∀ (d t : D), ∀ q ∈ conts d t, sz q.2 ≤ sz t
  | .fl x, t, q, h => by
    cases x with
    | str z =>
      rw [List.mem_singleton.mp h]
      exact Nat.le_refl _
    | _ => cases h
  | .emp, t, q, h => by cases h
  | .sq [], t, q, h => by cases h
  | .sq (x :: cs), .fl _, q, h => by cases h
  | .sq (x :: cs), .emp, q, h => by cases h
  | .sq (x :: cs), .sq [], q, h => by cases h
  | .sq (x :: cs), .sq (y :: us), q, h => by
    rw [conts] at h
    have := contss_sz cs us q h
    rw [sz, szs]
    omega
theorem contss_sz : ∀ (cs us : List D), ∀ q ∈ contss cs us, sz q.2 ≤ szs us
  | [], us, q, h => by cases us <;> cases h
  | c :: cs, [], q, h => by cases h
  | c :: cs, u :: us, q, h => by
    rw [contss] at h
    rw [szs]
    rcases List.mem_append.mp h with h | h
    · have := conts_sz c u q h
      omega
    · have := contss_sz cs us q h
      omega
end
def spFit (C : Addr) : Sp := fun vs H Q _ => ∃ (x : Addr) (v : V) (t d1 d2 : D) (ks bs : List (Str × List Str)) (F : Addr → Prop), vs = [.ref x, v] ∧ RuleAt H x C d1 d2 ks bs ∧ isSh d1 = true ∧ sz d1 ≤ 900 ∧ (hnm d1).Nodup ∧ DAt F H v t ∧ treeD t = true ∧ sz t ≤ 4000 ∧
  (fitB d1 ks bs t = false → ∀ H', Same H H' → Q .non H') ∧
  (fitB d1 ks bs t = true → ∀ c kvs H', Same H H' → H' c = some (.dK kvs) → Paired (CE H') kvs (conts d1 t) → Q (.ref c) H')
section
variable {P : Program} {w : World} {K : PySem.W.Frag} {mg : Str → Option Value} {base : Heap}
theorem c_fit {C f : Addr} {fd : FuncData} (F : Def K mg "fit" sFit f fd) (b : Binds K fd ["rule", "tree"] []) (T : Blt4 mg) (L : LR K mg C) (CC : Cal P w K mg base 5 "contents_of" spCo []) (CH : Met P w K mg base 1 C "holes" (spRH C) []) (CM : Cal P w K mg base 3 "may_stand" (spMS C) []) : Cal P w K mg base 6 "fit" (spFit C) [] := by
  refine cal0 F b .nil scFit (fun vs H Q E h => ?_) (fun cdv A outer s H vs Q E hr h => ?_)
  · obtain ⟨x, v, t, d1, d2, ks, bs, G, rfl, _⟩ := h
    rfl
  · obtain ⟨x, v, t, d1, d2, ks, bs, G, rfl, R, hsd, hzd, hnd, hv, htr, hzt, kN, kY⟩ := h
    have nd := scFit.nd
    have hu : (A.deeper (envOfC "fit" (fnScope sFit) s.heap.objs.size f cdv)).units + 1 < cLine := by have := hr.un; omega
    refine ⟨_, pss_cons (ps_set (i := 2) nd rfl (by first | exact Or.inl rfl | exact Or.inr rfl) (pe_c CC hr (by decide) (by rfl) (pa_cons (pe_fld (pv 0) rfl) (pa_cons (pv 1) pa_nil))))
      (pss_cons (ps_if (pt_cmp (pc_isN (pv 2))) (pss_one (ps_ret pe_non)) pss_nil)
      (pss_cons (ps_set (i := 3) nd rfl (Or.inl rfl) (pe_mt0 CH hr (by decide) (pv 0)))
      (pss_cons (ps_if (pt_not (pt_val (pe_callB (cr_all rfl) (by rfl) T.all (by decide +kernel) (pa_cons (pe_lc (own := [("hole", 4)]) (g := gName 4) (tt := tYes) rfl nd (pi_list (pv 3)) (blkOk_by (N := NFt) (sc := fnScope sFit) (by decide +kernel)) (fun _ _ _ _ _ => pg_name (i := 4) nd rfl (Or.inl rfl)) (fun _ _ _ _ _ => pts_nil)
          (fun _ _ _ _ _ => pe_c CM hr (by decide) (by rfl) (pa_cons (pv 0) (pa_cons (pv 4) (pa_cons (pe_dget hu (pv 2) (pv 4) (fun _ _ => rfl)) pa_nil))))) pa_nil)))) (pss_one (ps_ret pe_non)) pss_nil)
      (pss_one (ps_ret (pe_dc (own := [("hole", 4)]) (g := gName 4) (tt := tYes) rfl nd (pi_list (pv 3)) (blkOk_by (N := NFt) (sc := fnScope sFit) (by decide +kernel)) (fun _ _ _ _ _ => pg_name (i := 4) nd rfl (Or.inl rfl)) (fun _ _ _ _ _ => pts_nil) (fun _ _ _ _ _ => pv 4) (fun _ _ _ _ _ => pe_dget hu (pv 2) (pv 4) (fun _ _ => rfl)))))))), ?_⟩
    have hsl := sizeLine_eq
    obtain ⟨dx, w1, w2, ka, ba, kd, bd, e1, e2, e3, e4, e5, e6, e7⟩ := id R
    refine ⟨_, rfl, x, C, dx, _, _, rfl, e1, L.cls, L.left, rfl, _, rfl, w1, v, d1, t, G, rfl, e2, hsd, hzd, hnd, hv, htr, hzt, fun hl H1 s1 => ?_, fun hl c kvs col H1 s1 hc hcol hperm => ?_⟩
    · refine ⟨_, rfl, _, rfl, iteBt (by rfl) (kN (by unfold fitB; rw [hl, Bool.false_and]) H1 s1)⟩
    · have hnames := conts_names d1 t hl
      have hcnd : (col.map fun q => q.1).Nodup := (hperm.map fun q => q.1).nodup_iff.mpr (by rw [hnames]; exact hnd)
      refine ⟨_, rfl, _, rfl, iteBf (by rfl) ?_⟩
      refine ⟨_, rfl, x, dx, _, rfl, s1 _ _ e1, rfl, x, d1, d2, ks, bs, rfl, R.same s1, fun lh H2 nlh s2 hlh => ?_⟩
      have s02 := s1.trans s2
      have hc2 := s2 _ _ hc
      have hcol2 : Paired (CE H2) kvs col := Paired.mono (fun _ _ h => h.tk (.of s2)) hcol
      rw [← hnames] at hlh
      have hlen : (conts d1 t).length ≤ 900 := by
        have h1 := congrArg List.length hnames
        rw [List.length_map] at h1
        have := hnm_le d1
        omega
      have hmn : ∀ q ∈ conts d1 t, q.1 ∈ hnm d1 := fun q hq => by rw [← hnames]; exact List.mem_map_of_mem hq
      have hgt : ∀ q ∈ conts d1 t, ∃ v, valV kvs (.inr q.1) = some v ∧ DAt nol H2 v q.2 ∧ treeD q.2 = true := fun q hq => ce_some hcol2 hcnd q (hperm.mem_iff.mpr hq)
      have hsq := conts_sz d1 t
      have hfb : fitB d1 ks bs t = (conts d1 t).all fun q => mayB ks bs q.1 q.2 := by unfold fitB; rw [hl, Bool.true_and]
      have hnq : ((conts d1 t).map fun q => q.1).Nodup := by rw [hnames]; exact hnd
      rw [hfb] at kN kY
      generalize conts d1 t = qs at hlh hlen hmn hgt hsq kN kY hnq
      refine ⟨_, rfl, lh, rfl, ⟨_, SqL.of hlh⟩, fun Da nDa => ?_⟩
      refine lc_gen (J := Itl K lh) qs.length (fun j H' => H' Da = some (.lst (((qs.take j).map fun q => mayB ks bs q.1 q.2).map V.bl)) ∧ Same H2 H') ⟨upd_same, same_upd nDa⟩ (fun j H' hj ⟨_, sm⟩ => ⟨_, .str qs[j].1, SqL.of (sm _ _ hlh), by rw [List.map_map, List.getElem?_map, List.getElem?_eq_getElem hj]; rfl⟩) (fun H' ⟨_, sm⟩ => ⟨_, SqL.of (sm _ _ hlh), by rw [List.length_map, List.length_map]; exact Nat.le_refl _⟩) (fun j H' y H'' hj ⟨hD, sm⟩ yl => ?_) (fun H' ⟨hD, sm⟩ => ?_)
      · obtain ⟨rfl, hy⟩ := yl
        have hy := hy _ (SqL.of (sm _ _ hlh))
        rw [List.map_map, List.getElem?_map, List.getElem?_eq_getElem hj] at hy
        obtain rfl := Option.some.inj hy
        have hm := List.getElem_mem hj
        obtain ⟨v', ev, hv', htv⟩ := hgt _ hm
        have hz' := hsq _ hm
        refine ⟨rfl, ?_⟩
        unfold tYes
        dsimp only
        rw [if_pos rfl]
        have hg := DGet.k (k := .inr qs[j].1) (sm _ _ hc2)
        rw [ev] at hg
        refine ⟨_, rfl, _, rfl, _, rfl, _, rfl, c, v', rfl, hg, x, d1, d2, ks, bs, qs[j].1, v', qs[j].2, rfl, R.same (s02.trans sm), hmn _ hm, DAt.hold (.same sm) _ hv', htv, by omega, fun H5 s5 => ⟨_, s5 _ _ hD, by rw [List.length_map, List.length_map, List.length_take]; omega, ?_, fun b o e => by rw [upd_ne (ne_of_none e nDa)]; exact s5 _ _ (sm _ _ e)⟩⟩
        rw [upd_same, List.take_succ_eq_append_getElem hj, List.map_append, List.map_append]
        rfl
      · rw [List.take_length] at hD
        refine ⟨Da, _, rfl, SqL.of hD, _, rfl, ?_⟩
        rw [List.all_map]
        cases hall : qs.all (fun q => mayB ks bs q.1 q.2) with
        | false => exact iteBt (by rw [show qs.all (id ∘ fun q => mayB ks bs q.1 q.2) = false from hall]; rfl) (kN hall H' (s02.trans sm))
        | true =>
          refine iteBf (by rw [show qs.all (id ∘ fun q => mayB ks bs q.1 q.2) = true from hall]; rfl) ?_
          have hlh' := sm _ _ hlh
          have hc' := sm _ _ hc2
          have s03 := s02.trans sm
          refine ⟨_, rfl, lh, rfl, ⟨_, SqL.of hlh'⟩, fun De nDe => ?_⟩
          refine dc_gen (J := Itl K lh) qs.length (fun i H5 => ∃ kd, H5 De = some (.dK kd) ∧ Paired (CE H5) kd (qs.take i) ∧ Same H' H5) ⟨[], upd_same, .nil, same_upd nDe⟩ (fun j H5 hj ⟨_, _, _, sm5⟩ => ⟨_, .str qs[j].1, SqL.of (sm5 _ _ hlh'), by rw [List.map_map, List.getElem?_map, List.getElem?_eq_getElem hj]; rfl⟩) (fun H5 ⟨_, _, _, sm5⟩ => ⟨_, SqL.of (sm5 _ _ hlh'), by rw [List.length_map, List.length_map]; exact Nat.le_refl _⟩) (fun j H5 y H6 hj ⟨kd, hDe, hpk, sm5⟩ yl => ?_) (fun H5 ⟨kd, hDe, hpk, sm5⟩ => ?_)
          · obtain ⟨rfl, hy⟩ := yl
            have hy := hy _ (SqL.of (sm5 _ _ hlh'))
            rw [List.map_map, List.getElem?_map, List.getElem?_eq_getElem hj] at hy
            obtain rfl := Option.some.inj hy
            have hm := List.getElem_mem hj
            obtain ⟨v', ev, hv', htv⟩ := hgt _ hm
            have hkl := Paired.length hpk
            rw [List.length_take] at hkl
            have hg := DGet.k (k := .inr qs[j].1) (sm5 _ _ hc')
            rw [ev] at hg
            have nw : qs[j].1 ∉ (qs.take j).map fun q => q.1 := fun h => by
              rw [← List.take_append_drop j qs, List.map_append, List.drop_eq_getElem_cons hj, List.map_cons] at hnq
              exact (List.nodup_append.mp hnq).2.2 _ h _ List.mem_cons_self rfl
            have tkd : TK H6 (upd H6 De (.dK (putK kd (.inr qs[j].1) v'))) := fun a vs e => by rw [upd_ne (ne_of e hDe (by intro z; cases z))]; exact e
            refine ⟨rfl, ?_⟩
            unfold tYes
            dsimp only
            rw [if_pos rfl]
            refine ⟨_, rfl, _, rfl, _, rfl, c, v', rfl, hg, kd, .inr qs[j].1, rfl, hDe, by omega, _, upd_same, ?_, fun b o e => by rw [upd_ne (ne_of_none e nDe)]; exact sm5 _ _ e⟩
            rw [putK_new _ (ce_none hpk nw)] at tkd ⊢
            rw [List.take_succ_eq_append_getElem hj]
            exact Paired.snoc (Paired.mono (fun _ _ h => h.tk tkd) hpk) ⟨rfl, sh_tups tkd (treeD_sh _ htv) (DAt.hold (.same (sm.trans sm5)) _ hv'), htv⟩
          · rw [List.take_length] at hpk
            exact kY hall De kd H5 (s03.trans sm5) hDe hpk
end
end KT

namespace KT
open PySem PySem.Spec PyProof.Rows L2 C8 XE XR TX ZL
/-! _law_rule_of, _law_within, _law_lies -/
abbrev sRO : Stmt := top 49
abbrev sWi : Stmt := top 50
abbrev sLi : Stmt := top 51
theorem scRO : FnScope ["_law_rule_here"] ["_law_rule_here"] (fnScope sRO) := fnScope_by (by decide +kernel)
abbrev NWi : List Str := ["_law_tree_here", "_law_found", "_law_child"]
theorem scWi : FnScope NWi ["_law_tree_here"] (fnScope sWi) := fnScope_by (by decide +kernel)
abbrev NLi : List Str := ["_law_shape_here", "_law_tree_here", "_law_x", "_law_y"]
theorem scLi : FnScope NLi ["_law_shape_here", "_law_tree_here"] (fnScope sLi) := fnScope_by (by decide +kernel)
mutual
/-- the labels of a tree, but beneath a keep -/
def wth : D → List Str
  | .sq (.fl (.str z) :: cs) => z :: (if z = "keep" then [] else wths cs)
  | _ => []
def wths : List D → List Str
  | [] => []
  | c :: cs => wth c ++ wths cs
end
mutual
theorem has_wth (p : Str → Bool) : ∀ d : D, hasD p d = (wth d).any p
  | .fl x => by cases x <;> rfl
  | .emp => rfl
  | .sq [] => rfl
  | .sq (x :: cs) => by
    cases x with
    | fl v =>
      cases v with
      | str z =>
        rw [hasD, wth, List.any_cons]
        by_cases h : z = "keep"
        · rw [if_pos h, decide_eq_false (by simpa using h)]
          rfl
        · rw [if_neg h, decide_eq_true h, Bool.true_and, has_wths p cs]
      | _ => rfl
    | _ => rfl
theorem has_wths (p : Str → Bool) : ∀ cs : List D, hasDs p cs = (wths cs).any p
  | [] => rfl
  | c :: cs => by rw [hasDs, wths, List.any_append, has_wth p c, has_wths p cs]
end
mutual
theorem wth_le : ∀ d : D, (wth d).length ≤ sz d
  | .fl x => by cases x <;> simp [wth]
  | .emp => by simp [wth]
  | .sq [] => by simp [wth]
  | .sq (x :: cs) => by
    have := wths_le cs
    cases x with
    | fl v =>
      cases v with
      | str z =>
        rw [wth, List.length_cons, sz, szs, sz]
        split
        · simp only [List.length_nil]
          omega
        · omega
      | _ => simp [wth]
    | _ => simp [wth]
theorem wths_le : ∀ cs : List D, (wths cs).length ≤ szs cs
  | [] => Nat.le_refl _
  | c :: cs => by
    have := wth_le c
    have := wths_le cs
    rw [wths, List.length_append, szs]
    omega
end
theorem wths_snoc : ∀ (a : List D) (c : D), wths (a ++ [c]) = wths a ++ wth c
  | [], c => by rw [List.nil_append, wths, wths, wths, List.append_nil, List.nil_append]
  | x :: a, c => by rw [List.cons_append, wths, wths, wths_snoc a c, List.append_assoc]
def spRO (C : Addr) : Sp := fun vs H Q _ => ∃ (p st : Addr) (v1 v2 : V) (d1 d2 : D) (a1 a2 : Addr) (ks bs : List (Str × List Str)), vs = [.ref p] ∧ H p = some (.tup [v1, v2, .ref a1, .ref a2]) ∧ RA H st v1 v2 d1 d2 a1 a2 ks bs ∧ ∀ x H', Same H H' → RuleAt H' x C d1 d2 ks bs → Q (.ref x) H'
def spWi (N : Nat) : Sp := fun vs H Q _ => ∃ (v : V) (d : D), vs = [v] ∧ DAt nol H v d ∧ treeD d = true ∧ sz d ≤ N ∧ sz d ≤ 4000 ∧ ∀ l H', H l = none → Same H H' → H' l = some (.lst ((wth d).map V.str)) → Q (.ref l) H'
section
variable {P : Program} {w : World} {K : PySem.W.Frag} {mg : Str → Option Value} {base : Heap}
theorem c_rO {C f : Addr} {fd : FuncData} (F : Def K mg "_law_rule_of" sRO f fd) (b : Binds K fd ["_law_rule_here"] []) (CR : Mak P w K mg base 6 "Rule" C (spRI C) []) : Cal P w K mg base 8 "_law_rule_of" (spRO C) [] := by
  refine cal0 F b .nil scRO (fun vs H Q E h => ?_) (fun cdv A outer s H vs Q E hr h => ?_)
  · obtain ⟨p, st, v1, v2, d1, d2, a1, a2, ks, bs, rfl, _⟩ := h
    rfl
  · obtain ⟨p, st, v1, v2, d1, d2, a1, a2, ks, bs, rfl, hp, R, k⟩ := h
    refine ⟨_, pss_one (ps_ret (pe_mk CR hr (by decide) (by rfl) (pa_cons (pe_ix ix_tup (pv 0) pe_int fun _ _ => rfl) (pa_cons (pe_ix ix_tup (pv 0) pe_int fun _ _ => rfl) (pa_cons (pe_ix ix_tup (pv 0) pe_int fun _ _ => rfl) (pa_cons (pe_ix ix_tup (pv 0) pe_int fun _ _ => rfl) pa_nil)))))), ?_⟩
    have at4 : ∀ (j : Nat) (i : Int) (v : V), [v1, v2, V.ref a1, V.ref a2][j]? = some v → i = j → atI [v1, v2, V.ref a1, V.ref a2] i = some v := fun j i v h e => by rw [e]; exact at_of (j := j) (by omega) h
    refine ⟨_, rfl, p, _, 0, _, rfl, rfl, SqT.of hp, at4 0 0 _ rfl rfl, _, rfl, p, _, 1, _, rfl, rfl, SqT.of hp, at4 1 1 _ rfl rfl, _, rfl, p, _, 2, _, rfl, rfl, SqT.of hp, at4 2 2 _ rfl rfl, _, rfl, p, _, 3, _, rfl, rfl, SqT.of hp, at4 3 3 _ rfl rfl, fun x dx nx ndx ndxx => ?_⟩
    have s1 : Same H (upd (upd H dx (.own x)) x (.ins C dx [])) := (same_upd ndx).trans (same_upd (by rw [upd_ne (Ne.symm ndxx)]; exact nx))
    refine ⟨x, dx, st, v1, v2, d1, d2, a1, a2, ks, bs, rfl, upd_same, R.same s1, fun H' kp hR => ⟨rfl, k x H' (fun b o e => kp _ _ (s1 _ _ e) (ne_of_none e nx)) hR⟩⟩
theorem wi_step {k N : Nat} {f : Addr} {fd : FuncData} (F : Def K mg "_law_within" sWi f fd) (b : Binds K fd ["_law_tree_here"] []) (T : Blt4 mg) (CW : Cal P w K mg base k "_law_within" (spWi N) []) : Cal P w K mg base (k + 1) "_law_within" (spWi (N + 1)) [] := by
  refine cal0 F b .nil scWi (fun vs H Q E h => ?_) (fun cdv A outer s H vs Q E hr h => ?_)
  · obtain ⟨v, d, rfl, _⟩ := h
    rfl
  · obtain ⟨v, d, rfl, hv, htr, hzN, hz, kk⟩ := h
    have nd := scWi.nd
    refine ⟨_, pss_cons (ps_set (i := 1) nd rfl (Or.inl rfl) (pe_lst (pa_cons (pe_ix ix_tup (pv 0) pe_int fun _ _ => rfl) pa_nil)))
      (pss_cons (ps_for PassesOwn.never rfl (pi_tup (pe_ifExp (pt_cmpR op_ne (pe_ix ix_tup (pv 0) pe_int fun _ _ => rfl) pe_str (nomark _)) (pe_slice sl_tup (pv 0) (po_some pe_int) po_none) (pe_tup pa_nil))) (pg_name (i := 2) nd rfl (Or.inl rfl))
        (pss_one (ps_expr (pe_bm PySem.F.plainAttrs_list PySem.F.slot_list_extend PySem.F.type_list_extend mt_extend (pv 1) (pa_cons (pe_c CW hr (Nat.le_refl _) (by rfl) (pa_cons (pv 2) pa_nil)) pa_nil)))))
      (pss_one (ps_ret (pv 1)))), ?_⟩
    have hsl := sizeLine_eq
    obtain ⟨z, cs, rfl, hcs⟩ := treeD_inv htr
    obtain ⟨a, vs, rfl, qa, _, hvs⟩ := hv
    match vs, hvs with
    | [], hvs => exact hvs.elim
    | v0 :: cvs, ⟨⟨e0, _⟩, hcv⟩ =>
      subst e0
      have qa := qa.elim id fun e => e.1.elim
      have hcl := hcv.len
      have hez : sz (.sq (.fl (.str z) :: cs)) = 2 + szs cs := by rw [sz, szs, sz]; omega
      refine ⟨_, rfl, a, _, 0, _, rfl, rfl, SqT.of qa, at_of (j := 0) (by omega) rfl, (by show 1 ≤ sizeLine; decide), fun fd nfd => ?_⟩
      have s1 : Same H (upd H fd (.lst [.str z])) := same_upd nfd
      have hf1 : (upd H fd (.lst [.str z])) fd = some (.lst [.str z]) := upd_same
      generalize upd H fd (.lst [.str z]) = H1 at s1 hf1 ⊢
      have qa1 := s1 _ _ qa
      refine ⟨_, rfl, a, _, 0, _, rfl, rfl, SqT.of qa1, at_of (j := 0) (by omega) rfl, rfl, _, rfl, ?_⟩
      have hwl := wth_le (.sq (.fl (.str z) :: cs))
      by_cases hk : z = "keep"
      · refine iteBf (by rw [hk, decide_eq_true rfl]; rfl) ⟨(by show 0 ≤ sizeLine; omega), fun r nr => ⟨r, rfl, ⟨[], SqT.of upd_same⟩, ?_⟩⟩
        have sr := same_upd (o := .tup []) nr
        have hr0 : (upd H1 r (.tup [])) r = some (.tup []) := upd_same
        generalize upd H1 r (.tup []) = H2 at sr hr0 ⊢
        refine for_gen (J := Itt K r) 0 (fun i σ H' => ∃ v2, σ = [some (.ref a), some (.ref fd), v2] ∧ H' = H2) ⟨none, rfl, rfl⟩ (fun i σ H' hi _ => by omega) (fun σ H' ⟨_, _, e⟩ => ⟨[], SqT.of (by rw [e]; exact hr0), Nat.le_refl _⟩) (fun i σ H' x H'' hi _ _ => by omega) ?_
        rintro σ H' ⟨v2, rfl, rfl⟩
        refine ⟨_, rfl, kk fd _ nfd (s1.trans sr) ?_⟩
        rw [sr _ _ hf1, wth, if_pos hk]
        rfl
      · refine iteBt (by rw [decide_eq_false (fun e => hk (V.str.inj e))]; rfl) ?_
        refine ⟨_, rfl, 1, rfl, a, _, rfl, SqT.of qa1, not_whole (by decide) (by simp), fun r nr => ?_⟩
        rw [cutFrom (by decide), show (V.str z :: cvs).drop (1 : Int).toNat = cvs from rfl]
        refine ⟨r, rfl, ⟨cvs, SqT.of upd_same⟩, ?_⟩
        have sr := same_upd (o := .tup cvs) nr
        have hr0 : (upd H1 r (.tup cvs)) r = some (.tup cvs) := upd_same
        generalize upd H1 r (.tup cvs) = H2 at sr hr0 ⊢
        have s02 := s1.trans sr
        have hf2 := sr _ _ hf1
        refine for_gen (J := Itt K r) cs.length (fun i σ H' => ∃ v2, σ = [some (.ref a), some (.ref fd), v2] ∧ H' fd = some (.lst ((z :: wths (cs.take i)).map V.str)) ∧ ∀ b o, H2 b = some o → b ≠ fd → H' b = some o) ⟨none, rfl, hf2, fun b o e _ => e⟩
          (fun i σ H' hi ⟨_, _, hf, kp⟩ => ⟨cvs, cvs.getD i .non, SqT.of (kp _ _ hr0 (ne_of hr0 hf2 (by intro z; cases z))), getD_at (by omega)⟩) (fun σ H' ⟨_, _, hf, kp⟩ => ⟨cvs, SqT.of (kp _ _ hr0 (ne_of hr0 hf2 (by intro z; cases z))), by omega⟩) ?_ ?_
        · rintro i σ H' x H'' hi ⟨v2, rfl, hf, kp⟩ ⟨rfl, hx⟩
          have hx := hx _ (SqT.of (kp _ _ hr0 (ne_of hr0 hf2 (by intro z; cases z))))
          obtain ⟨n, hn, hxn⟩ := hcv.get hx
          obtain ⟨hlt, en⟩ := List.getElem?_eq_some_iff.mp hn
          have hm := List.mem_of_getElem? hn
          have smH : Same H H'' := fun b o e => kp _ _ (s02 _ _ e) (ne_of_none e nfd)
          have hzn := sz_mem hm
          have hzw : (wths (cs.take i)).length ≤ 4000 := by
            have h1 := wths_le (cs.take i)
            have h2 : szs (cs.take i) ≤ szs cs := by
              have := congrArg szs (List.take_append_drop i cs)
              rw [szs_app] at this
              omega
            omega
          have hzq := wth_le n
          refine ⟨_, rfl, .inl ⟨rfl, _, SqL.of hf⟩, _, rfl, x, n, rfl, DAt.hold (.same smH) _ hxn, treeDs_mem hcs n hm, by omega, by omega, fun l H5 nl s5 hl => ⟨fd, l, _, _, rfl, rfl, s5 _ _ hf, hl, ?_, some x, rfl, ?_, fun b o e ne => by rw [upd_ne ne]; exact s5 _ _ (kp _ _ e ne)⟩⟩
          · rw [List.length_map, List.length_map, List.length_cons]
            omega
          · rw [upd_same, ← List.map_append, List.cons_append, ← wths_snoc, ← en, ← List.take_succ_eq_append_getElem hlt]
        · rintro σ H' ⟨v2, rfl, hf, kp⟩
          rw [List.take_length] at hf
          refine ⟨_, rfl, kk fd _ nfd (fun b o e => kp _ _ (s02 _ _ e) (ne_of_none e nfd)) ?_⟩
          rw [hf, wth, if_neg hk]
theorem c_wi {f : Addr} {fd : FuncData} (F : Def K mg "_law_within" sWi f fd) (b : Binds K fd ["_law_tree_here"] []) (T : Blt4 mg) : ∀ N : Nat, Cal P w K mg base (1 + N) "_law_within" (spWi N) []
  | 0 => by
    have no : ∀ {vs H Q E}, spWi 0 vs H Q E → False := fun ⟨_, d, _, _, _, h, _⟩ => by have := sz_pos d; omega
    exact cal0 F b .nil scWi (fun vs H Q E h => (no h).elim) (fun cdv A outer s H vs Q E hr h => (no h).elim)
  | N + 1 => wi_step F b T (c_wi F b T N)
end
end KT

namespace KT
open PySem PySem.Spec PyProof.Rows L2 C8 XE XR TX ZL
/-! _law_lies -/
theorem isT_treeN {rs : List Rw} (ok : RowsOk rs) : ∀ (n : Nat) (t : D), sz t ≤ n → isT rs t = true → treeD t = true
  | 0, t, h, _ => by have := sz_pos t; omega
  | n + 1, t, h, ht => by
    obtain ⟨z, cs, m, rfl, hm, hl, hcs⟩ := isT_inv ht
    have hez : sz (.sq (.fl (.str z) :: cs)) = 2 + szs cs := by rw [sz, szs, sz]; omega
    rw [treeD, labs_word ok (many_some hm), Bool.true_and]
    have all : ∀ (ds : List D), szs ds ≤ n → isTs rs ds = true → treeDs ds = true := by
      intro ds
      induction ds with
      | nil => intro _ _; rfl
      | cons c ds ih =>
        intro h1 h2
        rw [szs] at h1
        rw [isTs, Bool.and_eq_true] at h2
        have := sz_pos c
        rw [treeDs, isT_treeN ok n c (by omega) h2.1, ih (by omega) h2.2]
        rfl
    exact all cs (by omega) hcs
theorem isT_tree {rs : List Rw} (ok : RowsOk rs) {t : D} (h : isT rs t = true) : treeD t = true := isT_treeN ok _ t (Nat.le_refl _) h
theorem isTs_mem {rs : List Rw} : ∀ {ds : List D}, isTs rs ds = true → ∀ d ∈ ds, isT rs d = true
  | [], _, d, h => by cases h
  | x :: ds, h, d, hd => by
    rw [isTs, Bool.and_eq_true] at h
    rcases List.mem_cons.mp hd with rfl | hd
    · exact h.1
    · exact isTs_mem h.2 d hd
theorem isThs_mem {rs : List Rw} : ∀ {ds : List D}, isThs rs ds = true → ∀ d ∈ ds, isTh rs d = true
  | [], _, d, h => by cases h
  | x :: ds, h, d, hd => by
    rw [isThs, Bool.and_eq_true] at h
    rcases List.mem_cons.mp hd with rfl | hd
    · exact h.1
    · exact isThs_mem h.2 d hd
theorem isTh_inv {rs : List Rw} {d : D} (h : isTh rs d = true) : (∃ z, d = .fl (.str z) ∧ wordS z = true) ∨ ∃ z cs, d = .sq (.fl (.str z) :: cs) ∧ manyR rs z = some (cs.length : Int) ∧ isThs rs cs = true := by
  unfold isTh at h
  split at h
  · exact .inl ⟨_, rfl, h⟩
  · rw [Bool.and_eq_true] at h
    exact .inr ⟨_, _, rfl, of_decide_eq_true h.1, h.2⟩
  · cases h
theorem manyR_many {rs : List Rw} (ok : RowsOk rs) {z : Str} {m : Int} (h : manyR rs z = some m) : many rs z = some m := by
  obtain ⟨r, hr, rfl, rfl⟩ := manyR_some h
  exact many_mem ok (List.mem_append_left _ hr)
def spLi (N : Nat) : Sp := fun vs H Q _ => ∃ (v1 v2 : V) (d t : D) (rs : List Rw), vs = [v1, v2] ∧ DAt nol H v1 d ∧ isTh rs d = true ∧ sz d ≤ N ∧ sz d ≤ 900 ∧ DAt nol H v2 t ∧ isT rs t = true ∧ RowsOk rs ∧ ∀ H', Same H H' → Q (.bl (layB d t)) H'
section
variable {P : Program} {w : World} {K : PySem.W.Frag} {mg : Str → Option Value} {base : Heap}
theorem li_step {k N : Nat} {f : Addr} {fd : FuncData} (F : Def K mg "_law_lies" sLi f fd) (b : Binds K fd ["_law_shape_here", "_law_tree_here"] []) (T : Blt4 mg) (CL : Cal P w K mg base k "_law_lies" (spLi N) []) : Cal P w K mg base (k + 1) "_law_lies" (spLi (N + 1)) [] := by
  refine cal0 F b .nil scLi (fun vs H Q E h => ?_) (fun cdv A outer s H vs Q E hr h => ?_)
  · obtain ⟨v1, v2, d, t, rs, rfl, _⟩ := h
    rfl
  · obtain ⟨v1, v2, d, t, rs, rfl, hv1, hth, hzN, hz, hv2, hit, ok, kk⟩ := h
    have nd := scLi.nd
    refine ⟨_, pss_cons (ps_if (pt_val (pe_callB call_isi (by rfl) T.isi (by decide +kernel) (pa_cons (pv 0) (pa_cons (pe_bt "str" T.str) pa_nil)))) (pss_one (ps_ret pe_bl)) pss_nil)
      (pss_one (ps_ret (pe_and (pe_cmpR op_eq (pe_ix ix_tup (pv 0) pe_int fun _ _ => rfl) (pe_ix ix_tup (pv 1) pe_int fun _ _ => rfl) (nomark _))
        (pe_one (pe_callB (cr_all rfl) (by rfl) T.all (by decide +kernel) (pa_cons (pe_lc (own := [("_law_x", 2), ("_law_y", 3)]) (g := gTup K 2 (gCons (gName 2) (gCons (gName 3) gNil))) (tt := tYes) rfl nd (RZ.pi_zipA (by rfl) T.zip (pa_cons (pe_slice sl_tup (pv 0) (po_some pe_int) po_none) (pa_cons (pe_slice sl_tup (pv 1) (po_some pe_int) po_none) pa_nil)))
          (blkOk_by (N := NLi) (sc := fnScope sLi) (by decide +kernel)) (fun _ _ _ _ _ => pg_tup rfl (pgs_cons (pg_name (i := 2) nd rfl (Or.inl rfl)) (pgs_cons (pg_name (i := 3) nd rfl (Or.inl rfl)) pgs_nil))) (fun _ _ _ _ _ => pts_nil)
          (fun _ _ _ _ _ => pe_c CL hr (Nat.le_refl _) (by rfl) (pa_cons (pv 2) (pa_cons (pv 3) pa_nil)))) pa_nil)))))), ?_⟩
    have hsl := sizeLine_eq
    rcases isTh_inv hth with ⟨z, rfl, _⟩ | ⟨z, cs, rfl, hmr, hcs⟩
    · obtain ⟨rfl, _⟩ := hv1
      refine ⟨_, rfl, _, .ty "str", _, _, true, rfl, .ty _, .base (.str z), kit_ty (by decide +kernel), true, rfl, iteBt rfl ?_⟩
      have := kk H fun b o e => e
      rw [show layB (.fl (.str z)) t = true from rfl] at this
      exact this
    · obtain ⟨y, us, m, rfl, hm, hul, hus⟩ := isT_inv hit
      obtain ⟨a, vs, rfl, qa, _, hvs⟩ := hv1
      obtain ⟨ab, vs', rfl, qb, _, hvs'⟩ := hv2
      match vs, hvs, vs', hvs' with
      | [], hvs, _, _ => exact hvs.elim
      | _ :: _, _, [], hvs' => exact hvs'.elim
      | v0 :: cvs, ⟨⟨e0, _⟩, hcv⟩, v0' :: uvs, ⟨⟨e0', _⟩, huv⟩ =>
        subst e0 e0'
        have qa := qa.elim id fun e => e.1.elim
        have qb := qb.elim id fun e => e.1.elim
        have hcl := hcv.len
        have hul' := huv.len
        have hez : sz (.sq (.fl (.str z) :: cs)) = 2 + szs cs := by rw [sz, szs, sz]; omega
        have hczl := len_szs cs
        refine ⟨_, rfl, _, .ty "str", _, _, false, rfl, .ty _, .base (.tup qa), kit_ty (by decide +kernel), false, rfl, iteBf rfl ?_⟩
        refine ⟨_, rfl, a, _, 0, _, rfl, rfl, SqT.of qa, at_of (j := 0) (by omega) rfl, _, rfl, ab, _, 0, _, rfl, rfl, SqT.of qb, at_of (j := 0) (by omega) rfl, rfl, _, rfl, ?_⟩
        by_cases hzy : z = y
        · subst hzy
          rw [manyR_many ok hmr] at hm
          have hll : cs.length = us.length := by have := Option.some.inj hm; omega
          refine iteBt (decide_eq_true rfl) ?_
          refine ⟨_, rfl, 1, rfl, a, _, rfl, SqT.of qa, not_whole (by decide) (by simp), fun r1 nr1 => ?_⟩
          rw [cutFrom (by decide), show (V.str z :: cvs).drop (1 : Int).toNat = cvs from rfl]
          have s1 := same_upd (o := .tup cvs) nr1
          have hr1 : (upd H r1 (.tup cvs)) r1 = some (.tup cvs) := upd_same
          generalize upd H r1 (.tup cvs) = H1 at s1 hr1 ⊢
          refine ⟨_, rfl, 1, rfl, ab, _, rfl, SqT.of (s1 _ _ qb), not_whole (by decide) (by simp), fun r2 nr2 => ?_⟩
          rw [cutFrom (by decide), show (V.str z :: uvs).drop (1 : Int).toNat = uvs from rfl]
          have s2 := same_upd (o := .tup uvs) nr2
          have hr2 : (upd H1 r2 (.tup uvs)) r2 = some (.tup uvs) := upd_same
          have hr1' := s2 _ _ hr1
          have s02 := s1.trans s2
          generalize upd H1 r2 (.tup uvs) = H2 at s2 hr2 hr1' s02 ⊢
          refine ⟨r1, r2, cvs, uvs, rfl, .inr ⟨SqT.of hr1', SqT.of hr2, fun Da nDa => ?_⟩⟩
          refine lc_gen (J := RZ.ItzT K r1 r2) cs.length (fun i H' => H' Da = some (.lst ((((cs.zip us).take i).map fun p => layB p.1 p.2).map V.bl)) ∧ Same H2 H') ⟨upd_same, same_upd nDa⟩ (fun i H' hi ⟨_, sm⟩ => ⟨cvs, uvs, cvs.getD i .non, uvs.getD i .non, SqT.of (sm _ _ hr1'), SqT.of (sm _ _ hr2), getD_at (by omega), getD_at (by omega)⟩) (fun H' ⟨_, sm⟩ => ⟨cvs, uvs, SqT.of (sm _ _ hr1'), SqT.of (sm _ _ hr2), .inl (by omega)⟩) (fun i H' x H'' hi ⟨hD, sm⟩ yl => ?_) (fun H' ⟨hD, sm⟩ => ?_)
          · obtain ⟨T', x1, x2, rfl, nT, rfl, hx1, hx2⟩ := yl
            have hx1 := hx1 _ (SqT.of (sm _ _ hr1'))
            have hx2 := hx2 _ (SqT.of (sm _ _ hr2))
            obtain ⟨n1, hn1, hxn1⟩ := hcv.get hx1
            obtain ⟨n2, hn2, hxn2⟩ := huv.get hx2
            have hm1 := List.mem_of_getElem? hn1
            have s3 : Same H' (upd H' T' (.tup [x1, x2])) := same_upd nT
            have hT : (upd H' T' (.tup [x1, x2])) T' = some (.tup [x1, x2]) := upd_same
            have hD3 := s3 _ _ hD
            generalize upd H' T' (.tup [x1, x2]) = H3 at s3 hT hD3 ⊢
            have s03 := s02.trans (sm.trans s3)
            refine ⟨T', [x1, x2], rfl, SqT.of hT, rfl, x1, [x2], rfl, x2, [], rfl, rfl, rfl, ?_⟩
            unfold tYes
            dsimp only
            rw [if_pos rfl]
            have hzn := sz_mem hm1
            refine ⟨_, rfl, _, rfl, x1, x2, n1, n2, rs, rfl, DAt.hold (.same s03) _ hxn1, isThs_mem hcs n1 hm1, by omega, by omega, DAt.hold (.same s03) _ hxn2, isTs_mem hus n2 (List.mem_of_getElem? hn2), ok, fun H4 s4 => ⟨_, s4 _ _ hD3, by rw [List.length_map, List.length_map, List.length_take]; omega, ?_, fun b o q => by rw [upd_ne (ne_of_none q nDa)]; exact s4 _ _ (s3 _ _ (sm _ _ q))⟩⟩
            have hzz : (cs.zip us)[i]? = some (n1, n2) := List.getElem?_zip_eq_some.mpr ⟨hn1, hn2⟩
            obtain ⟨hlt, eq⟩ := List.getElem?_eq_some_iff.mp hzz
            rw [upd_same, List.take_succ_eq_append_getElem hlt, eq, List.map_append, List.map_append]
            rfl
          · rw [List.take_of_length_le (by rw [List.length_zip]; omega)] at hD
            refine ⟨Da, _, rfl, SqL.of hD, ?_⟩
            have := kk H' (s02.trans sm)
            rw [layB, decide_eq_true rfl, decide_eq_true hll, Bool.true_and, Bool.true_and, layBs_zip] at this
            rw [List.all_map]
            exact this
        · refine iteBf (decide_eq_false fun e => hzy (V.str.inj e)) ?_
          have := kk H fun b o e => e
          rw [layB, decide_eq_false hzy, Bool.false_and] at this
          exact this
theorem c_li {f : Addr} {fd : FuncData} (F : Def K mg "_law_lies" sLi f fd) (b : Binds K fd ["_law_shape_here", "_law_tree_here"] []) (T : Blt4 mg) : ∀ N : Nat, Cal P w K mg base (1 + N) "_law_lies" (spLi N) []
  | 0 => by
    have no : ∀ {vs H Q E}, spLi 0 vs H Q E → False := fun ⟨_, _, d, _, _, _, _, _, h, _⟩ => by have := sz_pos d; omega
    exact cal0 F b .nil scLi (fun vs H Q E h => (no h).elim) (fun cdv A outer s H vs Q E hr h => (no h).elim)
  | N + 1 => li_step F b T (c_li F b T N)
end
end KT

namespace KT
open PySem PySem.Spec PyProof.Rows L2 C8 XE XR TX ZL
/-! _law_fits -/
abbrev sFs : Stmt := top 52
abbrev NFs : List Str := ["_law_rule_here", "_law_tree_here", "_law_hole", "_law_place", "_law_content", "_law_label"]
theorem scFs : FnScope NFs ["_law_rule_here", "_law_tree_here"] (fnScope sFs) := fnScope_by (by decide +kernel)
theorem layB_sq {x : D} {cs : List D} {t : D} (h : layB (.sq (x :: cs)) t = true) : ∃ z us, x = .fl (.str z) ∧ t = .sq (.fl (.str z) :: us) ∧ cs.length = us.length ∧ layBs cs us = true := by
  unfold layB at h
  split at h
  · rename_i e; cases e
  · rename_i z cs' y us e
    cases e
    rw [Bool.and_eq_true, Bool.and_eq_true] at h
    have e := of_decide_eq_true h.1
    subst e
    exact ⟨_, _, rfl, rfl, of_decide_eq_true h.2.1, h.2.2⟩
  · cases h
mutual
theorem holes_conts : ∀ (d t : D), layB d t = true → (holesP d).map (fun q => (q.1, subD t q.2)) = conts d t ∧ ∀ q ∈ holesP d, InT t q.2
  | .fl x, t, h => by
    cases x with
    | str z => exact ⟨by rw [holesP, conts, List.map_cons, List.map_nil, subD], fun q hq => by rw [List.mem_singleton.mp hq]; exact trivial⟩
    | _ => cases h
  | .emp, t, h => by cases h
  | .sq [], t, h => by cases h
  | .sq (x :: cs), t, h => by
    obtain ⟨z, us, rfl, rfl, hl, hb⟩ := layB_sq h
    rw [holesP, conts]
    exact holess_conts cs us 0 (.fl (.str z)) [] hl hb rfl
theorem holess_conts : ∀ (cs us : List D) (k : Nat) (hd : D) (pre : List D), cs.length = us.length → layBs cs us = true → pre.length = k → (holesPs k cs).map (fun q => (q.1, subD (.sq (hd :: (pre ++ us))) q.2)) = contss cs us ∧ ∀ q ∈ holesPs k cs, InT (.sq (hd :: (pre ++ us))) q.2
  | [], us, k, hd, pre, _, _, _ => by
    rw [holesPs]
    exact ⟨by cases us <;> rfl, fun q hq => by cases hq⟩
  | c :: cs, [], k, hd, pre, h, _, _ => by cases h
  | c :: cs, u :: us, k, hd, pre, hl, hb, hk => by
    rw [layBs, Bool.and_eq_true] at hb
    obtain ⟨h1, h2⟩ := holes_conts c u hb.1
    obtain ⟨h3, h4⟩ := holess_conts cs us (k + 1) hd (pre ++ [u]) (Nat.succ.inj hl) hb.2 (by rw [List.length_append, hk]; rfl)
    have ea : pre ++ [u] ++ us = pre ++ u :: us := by rw [List.append_assoc]; rfl
    rw [ea] at h3 h4
    have eg : (pre ++ u :: us)[k]? = some u := by rw [List.getElem?_append_right (by omega), hk, Nat.sub_self]; rfl
    have es : ∀ p, subD (.sq (hd :: (pre ++ u :: us))) ((k : Int) :: p) = subD u p := fun p => by
      rw [subD, show ((k : Int)).toNat = k from rfl, List.getD_eq_getElem?_getD, eg]
      rfl
    rw [holesPs, List.map_append, h3, contss, List.map_map]
    refine ⟨?_, fun q hq => ?_⟩
    · congr 1
      rw [← h1]
      exact List.map_congr_left fun q _ => by
        show (q.1, subD _ ((k : Int) :: q.2)) = _
        rw [es]
    · rcases List.mem_append.mp hq with hq | hq
      · obtain ⟨q', hq', rfl⟩ := List.mem_map.mp hq
        exact ⟨by show (0 : Int) ≤ (k : Int); omega, u, by show (hd :: (pre ++ u :: us))[((k : Int)).toNat + 1]? = some u; rw [show ((k : Int)).toNat = k from rfl, List.getElem?_cons_succ]; exact eg, h2 q' hq'⟩
      · exact h4 q hq
end
theorem we_get {st : Addr} {H : Hp} {z : Str} : ∀ {kvs : List (Key × V)} {ks : List (Str × List Str)}, Paired (WE st H) kvs ks → (kwOf ks z = none ∧ valV kvs (.inr z) = none) ∨ ∃ ws l, kwOf ks z = some ws ∧ valV kvs (.inr z) = some (.ref l) ∧ H l = some (.lst (ws.map V.str))
  | _, _, .nil => .inl ⟨rfl, rfl⟩
  | kv :: _, q :: _, .cons ⟨e, l, e2, _, hl⟩ t => by
    by_cases hz : q.1 = z
    · refine .inr ⟨q.2, l, ?_, ?_, hl⟩
      · unfold kwOf
        rw [List.find?_cons_of_pos (by simpa using hz)]
        rfl
      · rw [valV_pos (by rw [e, hz]), e2]
    · have ek : ∀ ks', kwOf (q :: ks') z = kwOf ks' z := fun ks' => by unfold kwOf; rw [List.find?_cons_of_neg (by simpa using hz)]
      rw [ek, valV_neg (fun e' => hz (by rw [e] at e'; exact Sum.inr.inj e'))]
      exact we_get t
def spFs : Sp := fun vs H Q _ => ∃ (p st : Addr) (v1 v2 v : V) (d1 d2 t : D) (a1 a2 : Addr) (ks bs : List (Str × List Str)) (rs : List Rw), vs = [.ref p, v] ∧ H p = some (.tup [v1, v2, .ref a1, .ref a2]) ∧ RA H st v1 v2 d1 d2 a1 a2 ks bs ∧ isTh rs d1 = true ∧ sz d1 ≤ 12 ∧ DAt nol H v t ∧ isT rs t = true ∧ RowsOk rs ∧ sz t ≤ 100 ∧
  ∀ H', Same H H' → Q (.bl (fitB d1 ks bs t)) H'
section
variable {P : Program} {w : World} {K : PySem.W.Frag} {mg : Str → Option Value} {base : Heap}
theorem c_fs {f : Addr} {fd : FuncData} (F : Def K mg "_law_fits" sFs f fd) (b : Binds K fd ["_law_rule_here", "_law_tree_here"] []) (T : Blt4 mg) (hany : mg "any" = none) (CL : Cal P w K mg base 13 "_law_lies" (spLi 12) []) (CH : Cal P w K mg base 13 "_law_holes" (spHoles 12) []) (CA : Cal P w K mg base 14 "_law_at" (spAt 13) []) (CW : Cal P w K mg base 101 "_law_within" (spWi 100) []) : Cal P w K mg base 102 "_law_fits" spFs [] := by
  refine cal0 F b .nil scFs (fun vs H Q E h => ?_) (fun cdv A outer s H vs Q E hr h => ?_)
  · obtain ⟨p, st, v1, v2, v, d1, d2, t, a1, a2, ks, bs, rs, rfl, _⟩ := h
    rfl
  · obtain ⟨p, st, v1, v2, v, d1, d2, t, a1, a2, ks, bs, rs, rfl, hp, R, hth, hz1, hv, hit, ok, hzt, kk⟩ := h
    have nd := scFs.nd
    have hu : (A.deeper (envOfC "_law_fits" (fnScope sFs) s.heap.objs.size f cdv)).units + 1 < cLine := by have := hr.un; omega
    refine ⟨_, pss_cons (ps_if (pt_not (pt_val (pe_c CL hr (by decide) (by rfl) (pa_cons (pe_ix ix_tup (pv 0) pe_int fun _ _ => rfl) (pa_cons (pv 1) pa_nil))))) (pss_one (ps_ret pe_bl)) pss_nil)
      (pss_cons (ps_for PassesOwn.never rfl (pi_list (pe_c CH hr (by decide) (by rfl) (pa_cons (pe_ix ix_tup (pv 0) pe_int fun _ _ => rfl) pa_nil))) (pg_tup rfl (pgs_cons (pg_name (i := 2) nd rfl (by first | exact Or.inl rfl | exact Or.inr rfl)) (pgs_cons (pg_name (i := 3) nd rfl (Or.inl rfl)) pgs_nil)))
        (pss_cons (ps_set (i := 4) nd rfl (Or.inl rfl) (pe_c CA hr (by decide) (by rfl) (pa_cons (pv 1) (pa_cons (pv 3) pa_nil))))
        (pss_cons (ps_if (pw_and (pt_cmp (pc_din hu (pv 2) (pe_ix ix_tup (pv 0) pe_int fun _ _ => rfl))) (pw_and1 (pt_cmpR op_notIn_seq (pe_ix ix_tup (pv 4) pe_int fun _ _ => rfl) (pe_dget hu (pe_ix ix_tup (pv 0) pe_int fun _ _ => rfl) (pv 2) (fun _ _ => rfl)) (by rfl)))).pt (pss_one (ps_ret pe_bl)) pss_nil)
        (pss_one (ps_if (pt_val (pe_callB (cr_any rfl) (by rfl) hany (by decide +kernel) (pa_cons (pe_lc (own := [("_law_label", 5)]) (g := gName 5) (tt := tYes) rfl nd (pi_list (pe_c CW hr (by decide) (by rfl) (pa_cons (pv 4) pa_nil))) (blkOk_by (N := NFs) (sc := fnScope sFs) (by decide +kernel)) (fun _ _ _ _ _ => pg_name (i := 5) nd rfl (Or.inl rfl)) (fun _ _ _ _ _ => pts_nil)
          (fun _ _ _ _ _ => pe_cmpR (show OpR _ (compareOp .In) (rIn K false) from op_in_seq) (pv 5) (pe_dget2 hu (pe_ix (show IxR _ (rIxT K) from ix_tup) (pv 0) pe_int fun _ _ => rfl) (pv 2) (pe_tup pa_nil) ⟨rfl, rfl, rfl, rfl⟩) (by rfl))) pa_nil))) (pss_one (ps_ret pe_bl)) pss_nil)))))
      (pss_one (ps_ret pe_bl))), ?_⟩
    have hsl := sizeLine_eq
    have at4 : ∀ (j : Nat) (i : Int) (v : V), [v1, v2, V.ref a1, V.ref a2][j]? = some v → i = j → atI [v1, v2, V.ref a1, V.ref a2] i = some v := fun j i v h e => by rw [e]; exact at_of (j := j) (by omega) h
    refine ⟨_, rfl, p, _, 0, _, rfl, rfl, SqT.of hp, at4 0 0 _ rfl rfl, _, rfl, v1, v, d1, t, rs, rfl, R.v1, hth, hz1, by omega, hv, hit, ok, fun H1 s1 => ⟨_, rfl, ?_⟩⟩
    cases hl : layB d1 t with
    | false =>
      refine iteBt rfl ?_
      have := kk H1 s1
      unfold fitB at this
      rw [hl, Bool.false_and] at this
      exact this
    | true =>
      refine iteBf rfl ?_
      obtain ⟨hco, hin⟩ := holes_conts d1 t hl
      have hfb : fitB d1 ks bs t = (conts d1 t).all fun q => mayB ks bs q.1 q.2 := by unfold fitB; rw [hl, Bool.true_and]
      have hp1 := s1 _ _ hp
      refine ⟨_, rfl, p, _, 0, _, rfl, rfl, SqT.of hp1, at4 0 0 _ rfl rfl, v1, d1, rfl, DAt.hold (.same s1) _ R.v1, R.h1, hz1, by omega, fun lh us H2 nlh s2 hlh hpu => ⟨lh, rfl, ⟨_, SqL.of hlh⟩, ?_⟩⟩
      have s02 := s1.trans s2
      have hul := Paired.length hpu
      have hhl := (holes_le d1).1
      have hpl := (holes_le d1).2
      rw [hfb, ← hco] at kk
      generalize holesP d1 = qs at hpu hul hhl hpl hin kk
      obtain ⟨kvs1, hA1, hP1⟩ := R.k1
      obtain ⟨kvs2, hA2, hP2⟩ := R.k2
      rw [List.all_map] at kk
      have hl1 := Paired.length hP1
      have kN : ∀ (i : Nat) (hi : i < qs.length) (H' : Hp), Same H H' → mayB ks bs qs[i].1 (subD t qs[i].2) = false → Q (.bl false) H' := fun i hi H' sm hf => by
        have := kk H' sm
        rw [List.all_eq_false.mpr ⟨qs[i], List.getElem_mem hi, by show ¬ mayB ks bs qs[i].1 (subD t qs[i].2) = true; rw [hf]; exact Bool.false_ne_true⟩] at this
        exact this
      refine for_gen (J := Itl K lh) us.length (fun i σ H' => ∃ (o2 o3 o4 : Option V), σ = [some (.ref p), some v, o2, o3, o4, none] ∧ ((qs.take i).all fun q => mayB ks bs q.1 (subD t q.2)) = true ∧ Same H2 H') ⟨none, none, none, rfl, rfl, fun b o e => e⟩ (fun i σ H' hi ⟨_, _, _, _, _, sm⟩ => ⟨us, us.getD i .non, SqL.of (sm _ _ hlh), getD_at hi⟩) (fun σ H' ⟨_, _, _, _, _, sm⟩ => ⟨us, SqL.of (sm _ _ hlh), Nat.le_refl _⟩) ?_ ?_
      · rintro i σ H3 x H4 hi ⟨o2, o3, o4, rfl, hall, sm⟩ ⟨rfl, hx⟩
        have hx := hx _ (SqL.of (sm _ _ hlh))
        obtain ⟨q, hq, tt, pp, rfl, htt, hpp⟩ := paired_get hpu hx
        obtain ⟨hlt, eq⟩ := List.getElem?_eq_some_iff.mp hq
        have hqm := List.mem_of_getElem? hq
        have kN := kN i hlt
        rw [eq] at kN
        have s04 := s02.trans sm
        refine ⟨tt, _, rfl, SqT.of (sm _ _ htt), rfl, .str q.1, [.ref pp], rfl, .ref pp, [], rfl, rfl, ?_⟩
        have hpq := hpl q hqm
        refine ⟨_, rfl, _, rfl, v, .ref pp, t, q.2, rs, rfl, ⟨pp, rfl, sm _ _ hpp⟩, DAt.hold (.same s04) _ hv, hit, hin q hqm, by omega, by omega, fun cv u H5 s5 hcv hiu hzu hue => ?_⟩
        have hut := isT_tree ok hiu
        obtain ⟨y, cs, rfl, _⟩ := treeD_inv hut
        rw [← hue] at kN
        have s05 := s04.trans s5
        have hp5 := s05 _ _ hp
        have hA15 := s05 _ _ hA1
        have hA25 := s05 _ _ hA2
        have g1 := DGet.k (k := .inr q.1) hA15
        -- behind the kinds
        have kind : (kwOf ks q.1 = none ∧ valV kvs1 (.inr q.1) = none) ∨ ∃ ws l, kwOf ks q.1 = some ws ∧ valV kvs1 (.inr q.1) = some (.ref l) ∧ H l = some (.lst (ws.map V.str)) := we_get hP1
        have bars : (kwOf bs q.1 = none ∧ valV kvs2 (.inr q.1) = none) ∨ ∃ ws l, kwOf bs q.1 = some ws ∧ valV kvs2 (.inr q.1) = some (.ref l) ∧ H l = some (.lst (ws.map V.str)) := we_get hP2
        have hcv0 := hcv
        obtain ⟨ac, vs, rfl, qac, _, hvs⟩ := hcv
        match vs, hvs with
        | [], hvs => exact hvs.elim
        | v0 :: cvs, ⟨⟨e0, _⟩, _⟩ =>
          subst e0
          have qac := qac.elim id fun e => e.1.elim
          refine ⟨_, rfl, _, rfl, p, _, 2, _, rfl, rfl, SqT.of hp5, at4 2 2 _ rfl rfl, a1, _, rfl, g1, _, rfl, ?_⟩
          have hzq := wth_le (.sq (.fl (.str y) :: cs))
          rcases kind with ⟨c1, c2⟩ | ⟨ws1, l1, c1, c2, c3⟩
          · rw [c2]
            refine iteBf rfl (iteBf rfl ?_)
            refine ⟨_, rfl, _, _, rfl, hcv0, hut, by omega, by omega, fun lw H6 nlw s6 hlw => ⟨lw, rfl, ⟨_, SqL.of hlw⟩, fun Da nDa => ?_⟩⟩
            have s06 := s05.trans s6
            have hp6 := s06 _ _ hp
            have hA26 := s06 _ _ hA2
            generalize hwe : wth (.sq (.fl (.str y) :: cs)) = wl at hlw hzq
            refine lc_gen (J := Itl K lw) wl.length (fun j H' => H' Da = some (.lst (((wl.take j).map fun z => decide (z ∈ (kwOf bs q.1).getD [])).map V.bl)) ∧ Same H6 H') ⟨upd_same, same_upd nDa⟩ (fun j H' hj ⟨_, sm⟩ => ⟨_, .str wl[j], SqL.of (sm _ _ hlw), by rw [List.getElem?_map, List.getElem?_eq_getElem hj]; rfl⟩) (fun H' ⟨_, sm⟩ => ⟨_, SqL.of (sm _ _ hlw), by rw [List.length_map]; exact Nat.le_refl _⟩) (fun j H7 x H8 hj ⟨hD, sm7⟩ yl => ?_) (fun H7 ⟨hD, sm7⟩ => ?_)
            · obtain ⟨rfl, hx⟩ := yl
              have hx := hx _ (SqL.of (sm7 _ _ hlw))
              rw [List.getElem?_map, List.getElem?_eq_getElem hj] at hx
              obtain rfl := Option.some.inj hx
              refine ⟨rfl, ?_⟩
              unfold tYes
              dsimp only
              rw [if_pos rfl]
              refine ⟨_, rfl, _, rfl, p, _, 3, _, rfl, rfl, SqT.of (sm7 _ _ hp6), at4 3 3 _ rfl rfl, a2, rfl, .inl ⟨kvs2, .of (sm7 _ _ hA26)⟩, _, rfl, (by show 0 ≤ sizeLine; omega), fun et net => ?_⟩
              have se := same_upd (o := .tup []) net
              have het : (upd H8 et (.tup [])) et = some (.tup []) := upd_same
              generalize upd H8 et (.tup []) = H9 at se het ⊢
              have s69 := sm7.trans se
              have g2 := DGet.k (k := .inr q.1) (s69 _ _ hA26)
              rcases bars with ⟨b1, b2⟩ | ⟨ws2, l2, b1, b2, b3⟩
              · rw [b2] at g2
                refine ⟨none, g2, et, [], rfl, .inr (SqT.of het), rfl, rfl, _, se _ _ hD, by rw [List.length_map, List.length_map, List.length_take]; omega, ?_, fun b o e => by rw [upd_ne (ne_of_none e nDa)]; exact se _ _ (sm7 _ _ e)⟩
                rw [upd_same, List.take_succ_eq_append_getElem hj, List.map_append, List.map_append, b1]
                rfl
              · rw [b2] at g2
                refine ⟨some (.ref l2), g2, l2, _, rfl, .inl (SqL.of (s69 _ _ (s06 _ _ b3))), rfl, all_flat _, _, se _ _ hD, by rw [List.length_map, List.length_map, List.length_take]; omega, ?_, fun b o e => by rw [upd_ne (ne_of_none e nDa)]; exact se _ _ (sm7 _ _ e)⟩
                rw [upd_same, List.take_succ_eq_append_getElem hj, List.map_append, List.map_append, b1, if_neg Bool.false_ne_true, inV_str]
                rfl
            · rw [List.take_length] at hD
              refine ⟨Da, _, rfl, SqL.of hD, _, rfl, ?_⟩
              rw [List.any_map]
              have hmay : mayB ks bs q.1 (.sq (.fl (.str y) :: cs)) = !(wl.any fun z => decide (z ∈ (kwOf bs q.1).getD [])) := by
                rw [← hwe, ← has_wth]
                exact mayB_none c1
              cases hany : wl.any (fun z => decide (z ∈ (kwOf bs q.1).getD [])) with
              | true => exact iteBt hany (kN H7 (s06.trans sm7) (by rw [hmay, hany]; rfl))
              | false =>
                refine iteBf hany ⟨_, _, _, rfl, ?_, sm.trans (s5.trans (s6.trans sm7))⟩
                rw [List.take_succ_eq_append_getElem hlt, eq, List.all_append, hall, List.all_cons, List.all_nil, ← hue, hmay, hany]
                rfl
          · rw [c2]
            refine iteBt rfl ?_
            rw [c2] at g1
            refine ⟨_, rfl, ac, _, 0, _, rfl, rfl, SqT.of qac, at_of (j := 0) (by omega) rfl, _, rfl, p, _, 2, _, rfl, rfl, SqT.of hp5, at4 2 2 _ rfl rfl, _, rfl, a1, _, rfl, g1, l1, _, rfl, .inl (SqL.of (s05 _ _ c3)), rfl, all_flat _, _, rfl, ?_⟩
            rw [if_pos rfl, inV_str]
            by_cases hin1 : y ∈ ws1
            · rw [decide_eq_true hin1]
              refine iteBf rfl ?_
              refine ⟨_, rfl, _, _, rfl, hcv0, hut, by omega, by omega, fun lw H6 nlw s6 hlw => ⟨lw, rfl, ⟨_, SqL.of hlw⟩, fun Da nDa => ?_⟩⟩
              have s06 := s05.trans s6
              have hp6 := s06 _ _ hp
              have hA26 := s06 _ _ hA2
              generalize hwe : wth (.sq (.fl (.str y) :: cs)) = wl at hlw hzq
              refine lc_gen (J := Itl K lw) wl.length (fun j H' => H' Da = some (.lst (((wl.take j).map fun z => decide (z ∈ (kwOf bs q.1).getD [])).map V.bl)) ∧ Same H6 H') ⟨upd_same, same_upd nDa⟩ (fun j H' hj ⟨_, sm⟩ => ⟨_, .str wl[j], SqL.of (sm _ _ hlw), by rw [List.getElem?_map, List.getElem?_eq_getElem hj]; rfl⟩) (fun H' ⟨_, sm⟩ => ⟨_, SqL.of (sm _ _ hlw), by rw [List.length_map]; exact Nat.le_refl _⟩) (fun j H7 x H8 hj ⟨hD, sm7⟩ yl => ?_) (fun H7 ⟨hD, sm7⟩ => ?_)
              · obtain ⟨rfl, hx⟩ := yl
                have hx := hx _ (SqL.of (sm7 _ _ hlw))
                rw [List.getElem?_map, List.getElem?_eq_getElem hj] at hx
                obtain rfl := Option.some.inj hx
                refine ⟨rfl, ?_⟩
                unfold tYes
                dsimp only
                rw [if_pos rfl]
                refine ⟨_, rfl, _, rfl, p, _, 3, _, rfl, rfl, SqT.of (sm7 _ _ hp6), at4 3 3 _ rfl rfl, a2, rfl, .inl ⟨kvs2, .of (sm7 _ _ hA26)⟩, _, rfl, (by show 0 ≤ sizeLine; omega), fun et net => ?_⟩
                have se := same_upd (o := .tup []) net
                have het : (upd H8 et (.tup [])) et = some (.tup []) := upd_same
                generalize upd H8 et (.tup []) = H9 at se het ⊢
                have s69 := sm7.trans se
                have g2 := DGet.k (k := .inr q.1) (s69 _ _ hA26)
                rcases bars with ⟨b1, b2⟩ | ⟨ws2, l2, b1, b2, b3⟩
                · rw [b2] at g2
                  refine ⟨none, g2, et, [], rfl, .inr (SqT.of het), rfl, rfl, _, se _ _ hD, by rw [List.length_map, List.length_map, List.length_take]; omega, ?_, fun b o e => by rw [upd_ne (ne_of_none e nDa)]; exact se _ _ (sm7 _ _ e)⟩
                  rw [upd_same, List.take_succ_eq_append_getElem hj, List.map_append, List.map_append, b1]
                  rfl
                · rw [b2] at g2
                  refine ⟨some (.ref l2), g2, l2, _, rfl, .inl (SqL.of (s69 _ _ (s06 _ _ b3))), rfl, all_flat _, _, se _ _ hD, by rw [List.length_map, List.length_map, List.length_take]; omega, ?_, fun b o e => by rw [upd_ne (ne_of_none e nDa)]; exact se _ _ (sm7 _ _ e)⟩
                  rw [upd_same, List.take_succ_eq_append_getElem hj, List.map_append, List.map_append, b1, if_neg Bool.false_ne_true, inV_str]
                  rfl
              · rw [List.take_length] at hD
                refine ⟨Da, _, rfl, SqL.of hD, _, rfl, ?_⟩
                rw [List.any_map]
                have hmay : mayB ks bs q.1 (.sq (.fl (.str y) :: cs)) = !(wl.any fun z => decide (z ∈ (kwOf bs q.1).getD [])) := by
                  rw [← hwe, ← has_wth]
                  rw [mayB_some c1, decide_eq_true (show topL (.sq (.fl (.str y) :: cs)) ∈ ws1 from hin1), Bool.true_and]
                cases hany : wl.any (fun z => decide (z ∈ (kwOf bs q.1).getD [])) with
                | true => exact iteBt hany (kN H7 (s06.trans sm7) (by rw [hmay, hany]; rfl))
                | false =>
                  refine iteBf hany ⟨_, _, _, rfl, ?_, sm.trans (s5.trans (s6.trans sm7))⟩
                  rw [List.take_succ_eq_append_getElem hlt, eq, List.all_append, hall, List.all_cons, List.all_nil, ← hue, hmay, hany]
                  rfl
            · rw [decide_eq_false hin1]
              exact iteBt rfl (kN H5 s05 (by rw [mayB_some c1, decide_eq_false (show ¬ topL (.sq (.fl (.str y) :: cs)) ∈ ws1 from hin1), Bool.false_and]))
      · rintro σ H' ⟨o2, o3, o4, rfl, hall, sm⟩
        rw [hul, List.take_length] at hall
        have := kk H' (s02.trans sm)
        rw [show qs.all ((fun q => mayB ks bs q.1 q.2) ∘ fun q => (q.1, subD t q.2)) = true from hall] at this
        exact this
end
end KT

namespace KT
open PySem PySem.Spec PyProof.Rows L2 C8 XE XR TX ZL
/-! _law_filled -/
abbrev sFl : Stmt := top 53
abbrev NFl : List Str := ["_law_state", "_law_rows_here", "_law_shape_here", "_law_stuff", "_law_found", "_law_child"]
theorem scFl : FnScope NFl ["_law_state", "_law_rows_here", "_law_shape_here", "_law_stuff"] (fnScope sFl) := fnScope_by (by decide +kernel)
theorem RowsAt.butL {B : Nat} {H H' : Hp} {st cl ll l : Addr} {xs : List V} {rs : List Rw} (hs : StAt B H st cl) (hl : H ll = some (.lst xs)) (hb : But2 st ll H H') (hn : l ≠ ll) (h : RowsAt H l rs) : RowsAt H' l rs := by
  have h0 := h
  obtain ⟨vs, e, p⟩ := h
  obtain ⟨ns, i, c, h1, m, e1, e2, _⟩ := hs
  have lst : l ≠ st := by
    intro z
    subst z
    rw [e1] at e
    cases e
    cases p with
    | cons q t =>
      cases t with
      | cons q' t =>
        obtain ⟨_, z, _⟩ := q'
        cases z
  refine ⟨vs, hb _ _ e lst hn, Paired.mono (fun _ _ ⟨t, z, q⟩ => ⟨t, z, hb _ _ q (ne_of q e1 (by intro z; cases z)) (ne_of q hl (by intro z; cases z))⟩) p⟩
theorem isTs_app2 (rs : List Rw) : ∀ a b : List D, isTs rs (a ++ b) = (isTs rs a && isTs rs b)
  | [], b => by rw [List.nil_append, isTs, Bool.true_and]
  | x :: a, b => by rw [List.cons_append, isTs, isTs, isTs_app2 rs a b, Bool.and_assoc]
def spFl (N : Nat) : Sp := fun vs H Q _ => ∃ (st l : Addr) (v vt : V) (d t : D) (rs : List Rw) (B : Nat) (cl : Addr), vs = [.ref st, .ref l, v, vt] ∧ DAt nol H v d ∧ isTh rs d = true ∧ sz d ≤ N ∧ sz d ≤ 12 ∧ DAt nol H vt t ∧ isT rs t = true ∧ sz t ≤ 8 ∧ RowsAt H l rs ∧ RowsOk rs ∧ StAt B H st cl ∧ B + 11 * sz d < 1000000000000000 ∧
  ∀ (v' : V) (t' : D) (H' : Hp), DAt nol H' v' t' → isT rs t' = true → sz t' ≤ 8 * sz d → StAt (B + 11 * sz d) H' st cl → But st H H' → Q v' H'
section
variable {P : Program} {w : World} {K : PySem.W.Frag} {mg : Str → Option Value} {base : Heap}
theorem fl_step {k N : Nat} {f : Addr} {fd : FuncData} (F : Def K mg "_law_filled" sFl f fd) (b : Binds K fd ["_law_state", "_law_rows_here", "_law_shape_here", "_law_stuff"] []) (T : Blt4 mg) (hk1 : 1 ≤ k) {kt : Nat} (hkt : kt ≤ k) (C : Cal P w K mg base 1 "_law_take" spTake []) (CT : Cal P w K mg base kt "_law_tree" (spTree 3) []) (CF : Cal P w K mg base k "_law_filled" (spFl N) []) : Cal P w K mg base (k + 1) "_law_filled" (spFl (N + 1)) [] := by
  refine cal0 F b .nil scFl (fun vs H Q E h => ?_) (fun cdv A outer s H vs Q E hr h => ?_)
  · obtain ⟨st, l, v, vt, d, t, rs, B, cl, rfl, _⟩ := h
    rfl
  · obtain ⟨st, l, v, vt, d, t, rs, B, cl, rfl, hv, hth, hzN, hz, hvt, hit, hzt, hR, ok, hs, hB, kk⟩ := h
    have nd := scFl.nd
    refine ⟨_, pss_cons (ps_if (pt_val (pe_callB call_isi (by rfl) T.isi (by decide +kernel) (pa_cons (pv 2) (pa_cons (pe_bt "str" T.str) pa_nil))))
        (pss_cons (ps_if (pt_cmp (pc_gt (pe_c C hr hk1 (by rfl) (pa_cons (pv 0) (pa_cons pe_int pa_nil))) pe_int))
          (pss_one (ps_set (i := 3) nd rfl (Or.inl rfl) (pe_c CT hr hkt (by rfl) (pa_cons (pv 0) (pa_cons (pv 1) (pa_cons (pe_op op_add pe_int (pe_c C hr hk1 (by rfl) (pa_cons (pv 0) (pa_cons pe_int pa_nil)))) pa_nil)))))) pss_nil)
        (pss_one (ps_ret (pv 3)))) pss_nil)
      (pss_cons (ps_set (i := 4) nd rfl (Or.inl rfl) (pe_lst (pa_cons (pe_ix ix_tup (pv 2) pe_int fun _ _ => rfl) pa_nil)))
      (pss_cons (ps_for PassesOwn.never rfl (pi_tup (pe_slice sl_tup (pv 2) (po_some pe_int) po_none)) (pg_name (i := 5) nd rfl (Or.inl rfl))
        (pss_one (ps_expr (pe_bm PySem.F.plainAttrs_list PySem.F.slot_list_append PySem.F.type_list_append mt_append (pv 4) (pa_cons (pe_c CF hr (Nat.le_refl _) (by rfl) (pa_cons (pv 0) (pa_cons (pv 1) (pa_cons (pv 5) (pa_cons (pv 3) pa_nil))))) pa_nil)))))
      (pss_one (ps_ret (pe_callTy call_tuple_of (by rfl) T.tup (by decide +kernel) (pa_cons (pv 4) pa_nil)))))), ?_⟩
    have hsl := sizeLine_eq
    rcases isTh_inv hth with ⟨z, rfl, _⟩ | ⟨z, cs, rfl, hmr, hcs⟩
    · obtain ⟨rfl, _⟩ := hv
      have hz1 : sz (.fl (.str z)) = 1 := rfl
      refine ⟨_, rfl, _, .ty "str", _, _, true, rfl, .ty _, .base (.str z), kit_ty (by decide +kernel), true, rfl, iteBt rfl ?_⟩
      refine ⟨_, rfl, st, 3, B, cl, rfl, by decide, by decide, hs, by omega, fun n1 H1 a0 a1 hs1 b1 => ⟨n1, 0, rfl, rfl, _, rfl, ?_⟩⟩
      have hR1 := hR.but hs b1
      have hvt1 := DAt.hold (Hold.but hs b1 (fun a f => f.elim)) _ hvt
      refine ite2 (fun hd => ?_) (fun hd => ?_)
      · refine ⟨_, rfl, _, rfl, _, rfl, st, 3, B + 1, cl, rfl, by decide, by decide, hs1, by omega, fun n2 H2 c0 c1 hs2 b2 => ⟨1, n2, rfl, rfl, ?_⟩⟩
        refine ⟨st, l, 1 + n2, rs, B + 2, cl, rfl, by omega, by omega, by omega, hR1.but hs1 b2, ok, hs2, by omega, fun v' t' H3 hv' ht' hz' hs3 b3 => ⟨_, rfl, ?_⟩⟩
        exact kk v' t' H3 hv' ht' (by omega) (hs3.mono (by omega)) (fun b o e n => b3 _ _ (b2 _ _ (b1 _ _ e n) n) n)
      · exact ⟨_, rfl, kk vt t H1 hvt1 hit (by omega) (hs1.mono (by omega)) b1⟩
    · obtain ⟨a, vs, rfl, qa, _, hvs⟩ := hv
      match vs, hvs with
      | [], hvs => exact hvs.elim
      | v0 :: cvs, ⟨⟨e0, _⟩, hcv⟩ =>
        subst e0
        have qa := qa.elim id fun e => e.1.elim
        have hcl := hcv.len
        have hez : sz (.sq (.fl (.str z) :: cs)) = 2 + szs cs := by rw [sz, szs, sz]; omega
        have hczl := len_szs cs
        refine ⟨_, rfl, _, .ty "str", _, _, false, rfl, .ty _, .base (.tup qa), kit_ty (by decide +kernel), false, rfl, iteBf rfl ?_⟩
        refine ⟨_, rfl, a, _, 0, _, rfl, rfl, SqT.of qa, at_of (j := 0) (by omega) rfl, (by show 1 ≤ sizeLine; decide), fun fd nfd => ?_⟩
        obtain ⟨fs, fc⟩ := hs.new nfd
        have s1 : Same H (upd H fd (.lst [.str z])) := same_upd nfd
        have hf1 : (upd H fd (.lst [.str z])) fd = some (.lst [.str z]) := upd_same
        generalize upd H fd (.lst [.str z]) = H1 at s1 hf1 ⊢
        refine ⟨_, rfl, 1, rfl, a, _, rfl, SqT.of (s1 _ _ qa), not_whole (by decide) (by simp), fun r nr => ?_⟩
        rw [cutFrom (by decide), show (V.str z :: cvs).drop (1 : Int).toNat = cvs from rfl]
        refine ⟨r, rfl, ⟨cvs, SqT.of upd_same⟩, ?_⟩
        have sr := same_upd (o := .tup cvs) nr
        have hr0 : (upd H1 r (.tup cvs)) r = some (.tup cvs) := upd_same
        generalize upd H1 r (.tup cvs) = H2 at sr hr0 ⊢
        have s02 := s1.trans sr
        have hf2 := sr _ _ hf1
        have hs2 := hs.same s02
        have hR2 := hR.same s02
        have nlf : l ≠ fd := by
          obtain ⟨us, e, _⟩ := hR
          exact ne_of_none e nfd
        have hvt2 := DAt.hold (.same s02) _ hvt
        have hoff : ∀ {H' : Hp}, But2 st fd H2 H' → Hold nol H2 H' := fun hb => Hold.but2 hs2 hf2 hb fun a f => f.elim
        refine for_gen (J := Itt K r) cs.length (fun i σ H' => ∃ (o5 : Option V) (fv : List V) (ts : List D), σ = [some (.ref st), some (.ref l), some (.ref a), some vt, some (.ref fd), o5] ∧ H' fd = some (.lst (.str z :: fv)) ∧ DAts nol H' fv ts ∧ ts.length = i ∧ isTs rs ts = true ∧ szs ts ≤ 8 * szs (cs.take i) ∧ StAt (B + 11 * szs (cs.take i)) H' st cl ∧ But2 st fd H2 H')
          ⟨none, [], [], rfl, hf2, trivial, rfl, rfl, Nat.le_refl _, hs2, fun b o e _ _ => e⟩
          (fun i σ H' hi ⟨_, _, _, _, _, _, _, _, _, _, kb⟩ => ⟨cvs, cvs.getD i .non, SqT.of ((hoff kb).tup _ _ hr0), getD_at (by omega)⟩) (fun σ H' ⟨_, _, _, _, _, _, _, _, _, _, kb⟩ => ⟨cvs, SqT.of ((hoff kb).tup _ _ hr0), by omega⟩) ?_ ?_
        · rintro i σ H' x H'' hi ⟨o5, fv, ts, rfl, hf, hfs, htl, hts, hsz, hst, kb⟩ ⟨rfl, hx⟩
          have hx := hx _ (SqT.of ((hoff kb).tup _ _ hr0))
          obtain ⟨n, hn, hxn⟩ := hcv.get hx
          obtain ⟨hlt, en⟩ := List.getElem?_eq_some_iff.mp hn
          have hm := List.mem_of_getElem? hn
          have hzn := sz_mem hm
          have htk := szs_take_succ hlt
          rw [en] at htk
          have hts' := szs_take_le cs (i + 1)
          have hfl := hfs.len
          have hxn2 := DAt.hold (hoff kb) _ (DAt.hold (.same s02) _ hxn)
          have hvt3 := DAt.hold (hoff kb) _ hvt2
          have hR3 := RowsAt.butL hs2 hf2 kb nlf hR2
          refine ⟨_, rfl, .inl ⟨rfl, _, SqL.of hf⟩, _, rfl, _, rfl, _, rfl, _, rfl, st, l, x, vt, n, t, rs, B + 11 * szs (cs.take i), cl, rfl, hxn2, isThs_mem hcs n hm, by omega, by omega, hvt3, hit, hzt, hR3, ok, hst, by omega, fun v' t' H5 hv' ht' hz' hs5 b5 => ?_⟩
          have hf5 := b5 _ _ hf fs
          have hh5 : Hold nol H'' H5 := Hold.but hst b5 (fun a f => f.elim)
          have tk5 : TK H5 (upd H5 fd (.lst (.str z :: fv ++ [v']))) := fun a vs e => by rw [upd_ne (ne_of e hf5 (by intro z; cases z))]; exact e
          have hho : Hold nol H5 (upd H5 fd (.lst (.str z :: fv ++ [v']))) := ⟨tk5, fun a e => by rw [upd_ne (ne_of e hf5 (by intro z; cases z))]; exact e, fun a vs f => f.elim⟩
          refine ⟨fd, _, v', rfl, rfl, hf5, by rw [List.length_cons]; omega, some x, fv ++ [v'], ts ++ [t'], rfl, upd_same, DAts.app (DAts.hold hho _ (DAts.hold hh5 _ hfs)) ⟨DAt.hold hho _ hv', trivial⟩, by rw [List.length_append, htl]; rfl, by rw [isTs_app2, hts, isTs, isTs, ht']; rfl, ?_, ?_, fun b o e n1 n2 => by rw [upd_ne n2]; exact b5 _ _ (kb _ _ e n1 n2) n1⟩
          · rw [szs_app, szs, szs]
            omega
          · exact (hs5.mono (by omega)).put fs fc
        · rintro σ H' ⟨o5, fv, ts, rfl, hf, hfs, htl, hts, hsz, hst, kb⟩
          rw [List.take_length] at hsz hst
          refine ⟨_, rfl, fd, _, rfl, .inl ⟨SqL.of hf, fun p np => ?_⟩⟩
          have sp := same_upd (o := .tup (.str z :: fv)) np
          refine kk _ (.sq (.fl (.str z) :: ts)) _ (new_tree np hfs) ?_ ?_ ((hst.same sp).mono (by omega)) (fun b o e n => sp _ _ (kb _ _ (s02 _ _ e) n (ne_of_none e nfd)))
          · rw [isT, manyR_many ok hmr]
            dsimp only
            rw [htl, decide_eq_true rfl, hts]
            rfl
          · rw [hez, sz, szs, sz]
            omega
theorem c_fl {f : Addr} {fd : FuncData} (F : Def K mg "_law_filled" sFl f fd) (b : Binds K fd ["_law_state", "_law_rows_here", "_law_shape_here", "_law_stuff"] []) (T : Blt4 mg) (C : Cal P w K mg base 1 "_law_take" spTake []) (CT : Cal P w K mg base 6 "_law_tree" (spTree 3) []) : ∀ N : Nat, Cal P w K mg base (6 + N) "_law_filled" (spFl N) []
  | 0 => by
    have no : ∀ {vs H Q E}, spFl 0 vs H Q E → False := fun ⟨_, _, _, _, d, _, _, _, _, _, _, _, h, _⟩ => by have := sz_pos d; omega
    exact cal0 F b .nil scFl (fun vs H Q E h => (no h).elim) (fun cdv A outer s H vs Q E hr h => (no h).elim)
  | N + 1 => fl_step F b T (Nat.le_trans (by decide) (Nat.le_add_right 6 N)) (Nat.le_add_right 6 N) C CT (c_fl F b T C CT N)
end
end KT

namespace KT
open PySem PySem.Spec PyProof.Rows L2 C8 XE XR TX ZL
/-! law -/
theorem eq_shN {H : Hp} : ∀ (n : Nat) (d : D), sz d ≤ n → isSh d = true → sz d ≤ 5000 → ∀ v u, DAt nol H v d → DAt nol H u d → EqN H n v u
  | 0, d, h, _, _, _, _, _, _ => by have := sz_pos d; omega
  | n + 1, d, hn, h, h5, v, u, hv, hu => by
    rcases isSh_inv h with ⟨z, rfl, hz⟩ | ⟨z, cs, rfl, hz, hcs⟩
    · obtain ⟨rfl, _⟩ := hv
      obtain ⟨rfl, _⟩ := hu
      exact .inl ⟨rfl, .inl rfl⟩
    · have hsc : sz (.sq (.fl (.str z) :: cs)) = 2 + szs cs := by rw [sz, szs, sz]; omega
      obtain ⟨a, vs, rfl, qa, _, hvs⟩ := hv
      obtain ⟨c, us, rfl, qc, _, hus⟩ := hu
      have qa : H a = some (.tup vs) := qa.elim id fun e => e.1.elim
      have qc : H c = some (.tup us) := qc.elim id fun e => e.1.elim
      have hvl := hvs.len
      have hls := len_szs cs
      refine .inr ⟨true, a, c, vs, us, rfl, rfl, qa, qc, ?_, by rw [hvl, List.length_cons]; omega⟩
      match vs, us, hvs, hus with
      | [], _, k, _ => exact k.elim
      | _ :: _, [], _, k => exact k.elim
      | v0 :: vs, u0 :: us, ⟨⟨e1, _⟩, hvs⟩, ⟨⟨e2, _⟩, hus⟩ =>
        subst e1
        subst e2
        obtain ⟨m, rfl⟩ : ∃ m, n = m + 1 := ⟨n - 1, by omega⟩
        refine .cons (.inl ⟨rfl, .inl rfl⟩) ?_
        have : ∀ (l : List D), (∀ x ∈ l, x ∈ cs) → ∀ {vs us : List V}, DAts nol H vs l → DAts nol H us l → Paired (EqN H (m + 1)) vs us := fun l => by
          induction l with
          | nil =>
            intro _ vs us k1 k2
            cases vs with
            | nil =>
              cases us with
              | nil => exact .nil
              | cons _ _ => exact k2.elim
            | cons _ _ => exact k1.elim
          | cons x xs ih =>
            intro hl vs us k1 k2
            cases vs with
            | nil => exact k1.elim
            | cons v vs =>
              cases us with
              | nil => exact k2.elim
              | cons u us =>
                have hx := hl x List.mem_cons_self
                obtain ⟨i, hi⟩ := List.getElem?_of_mem hx
                have := szs_get hi
                exact .cons (eq_shN (m + 1) x (by omega) (isShs_mem hcs x hx) (by omega) v u k1.1 k2.1) (ih (fun c hc => hl c (List.mem_cons_of_mem _ hc)) k1.2 k2.2)
        exact this cs (fun _ h => h) hvs hus

mutual
theorem lnm_rows {rs : List Rw} : ∀ d : D, isTh rs d = true → ∀ z ∈ lnm d, ∃ r ∈ rs, r.1 = z
  | .fl x, _, z, hz => by cases x <;> cases hz
  | .emp, h, z, hz => by cases h
  | .sq [], h, z, hz => by cases h
  | .sq (x :: cs), h, z, hz => by
    rcases isTh_inv h with ⟨y, e, _⟩ | ⟨y, cs', e, hm, hcs⟩
    · cases e
    · cases e
      rw [lnm] at hz
      rcases List.mem_cons.mp hz with rfl | hz
      · obtain ⟨r, hr, e, _⟩ := manyR_some hm
        exact ⟨r, hr, e⟩
      · exact lnms_rows cs hcs z hz
theorem lnms_rows {rs : List Rw} : ∀ cs : List D, isThs rs cs = true → ∀ z ∈ lnms cs, ∃ r ∈ rs, r.1 = z
  | [], _, z, hz => by cases hz
  | c :: cs, h, z, hz => by
    rw [isThs, Bool.and_eq_true] at h
    rw [lnms] at hz
    rcases List.mem_append.mp hz with hz | hz
    · exact lnm_rows c h.1 z hz
    · exact lnms_rows cs h.2 z hz
end
theorem lnm_keep {rs : List Rw} (ok : RowsOk rs) {d : D} (h : isTh rs d = true) : ("keep" : Str) ∉ lnm d := fun hk => by
  obtain ⟨r, hr, e⟩ := lnm_rows d h _ hk
  have := (ok.mem r hr).1
  rw [e] at this
  exact no_keep this
theorem st_lst {B : Nat} {H : Hp} {st cl : Addr} (hs : StAt B H st cl) : ∃ xs, H st = some (.lst xs) := let ⟨_, _, _, _, _, e, _⟩ := hs; ⟨_, e⟩
theorem RA.but {B : Nat} {H H' : Hp} {st cl : Addr} (hs : StAt B H st cl) (b : But st H H') {v1 v2 : V} {d1 d2 : D} {a1 a2 : Addr} {ks bs : List (Str × List Str)} (R : RA H st v1 v2 d1 d2 a1 a2 ks bs) : RA H' st v1 v2 d1 d2 a1 a2 ks bs := by
  obtain ⟨xs, e⟩ := st_lst hs
  have hk : ∀ a k, H a = some (.dK k) → H' a = some (.dK k) := fun a k q => b _ _ q (ne_of q e (by intro z; cases z))
  exact ⟨DAt.hold (Hold.but hs b fun _ h => h.elim) _ R.v1, R.h1, R.q1, R.k, R.nd, R.s1, DAt.hold (Hold.but hs b fun _ h => h.elim) _ R.v2, R.h2, R.s2, R.sub, R.k1.ls (Ls.but b) hk, R.k2.ls (Ls.but b) hk, R.o1, R.o2⟩
theorem RuleAt.but {B : Nat} {H H' : Hp} {st cl : Addr} (hs : StAt B H st cl) (b : But st H H') {x C : Addr} {d1 d2 : D} {ks bs : List (Str × List Str)} (h : RuleAt H x C d1 d2 ks bs) : RuleAt H' x C d1 d2 ks bs := by
  obtain ⟨xs, e⟩ := st_lst hs
  obtain ⟨dx, v1, v2, ka, ba, kd, bd, e1, e2, e3, e4, e5, e6, e7⟩ := h
  have tk : TK H H' := fun a vs q => b _ _ q (ne_of q e (by intro z; cases z))
  have hh : Hold nol H H' := Hold.but hs b fun _ h => h.elim
  exact ⟨dx, v1, v2, ka, ba, kd, bd, b _ _ e1 (ne_of e1 e (by intro z; cases z)), DAt.hold hh _ e2, DAt.hold hh _ e3, b _ _ e4 (ne_of e4 e (by intro z; cases z)), Paired.mono (fun _ _ ⟨e, g⟩ => ⟨e, g.tk tk⟩) e5, b _ _ e6 (ne_of e6 e (by intro z; cases z)), Paired.mono (fun _ _ ⟨e, g⟩ => ⟨e, g.tk tk⟩) e7⟩
abbrev sLaw : Stmt := top 54
abbrev NL : List Str := ["_law_script", "_law_state", "_law_turn", "_law_rows_here", "_law_rule_here", "_law_some", "_law_tree_here", "_law_told", "_law_due", "_law_hole", "_law_place"]
theorem scLaw : FnScope NL ["_law_script"] (fnScope sLaw) := fnScope_by (by decide +kernel)
def spLaw (K : PySem.W.Frag) : Sp := fun vs H Q _ => ∃ (a : Addr) (ns : List Int), vs = [.ref a] ∧ SqL K H a (ns.map V.int) ∧ ∀ H', Q (.bl true) H'
/-- what is due of a hole -/
def DueV (t : D) (H : Hp) (v : V) (q : Str × List Int) : Prop := ∃ tt v', v = .ref tt ∧ H tt = some (.tup [.str q.1, v']) ∧ DAt nol H v' (subD t q.2) ∧ treeD (subD t q.2) = true
theorem DueV.same {t : D} {H H' : Hp} (s : Same H H') {v : V} {q : Str × List Int} (h : DueV t H v q) : DueV t H' v q := let ⟨tt, v', e, q1, q2, q3⟩ := h; ⟨tt, v', e, s _ _ q1, DAt.hold (.same s) _ q2, q3⟩
theorem eq_due {t : D} {H : Hp} : ∀ {ts : List Addr} {kvs : List (Key × V)} {us : List V} {qs : List (Str × List Int)}, Paired (fun (t : Addr) (q : Key × V) => H t = some (.tup [kV q.1, q.2])) ts kvs → Paired (CE H) kvs (qs.map fun q => (q.1, subD t q.2)) → Paired (DueV t H) us qs → sz t ≤ 100 → (∀ q ∈ qs, sz (subD t q.2) ≤ 100) → Paired (EqN H 105) (ts.map V.ref) us
  | _, _, _, [], .nil, .nil, .nil, _, _ => .nil
  | _, _, _, q :: qs, .cons h1 t1, .cons ⟨e, d1, _⟩ t2, .cons ⟨tt, v', rfl, e2, d2, htr⟩ t3, hz, hs => by
    have hq := hs q List.mem_cons_self
    refine .cons ?_ (eq_due t1 t2 t3 hz fun q hq => hs q (List.mem_cons_of_mem _ hq))
    rw [e] at h1
    exact .inr ⟨true, _, tt, _, _, rfl, rfl, h1, e2, .cons (.inl ⟨rfl, .inl rfl⟩) (.cons (eq_shN 104 _ (by omega) (treeD_sh _ htr) (by omega) _ _ d1 d2) .nil), by simp⟩
section
variable {P : Program} {w : World} {K : PySem.W.Frag} {mg : Str → Option Value} {base : Heap}
theorem c_law {C f : Addr} {fd : FuncData} (F : Def K mg "law" sLaw f fd) (b : Binds K fd ["_law_script"] []) (T : Blt4 mg) (cFresh : Cal P w K mg base 1 "_law_fresh" (spFresh K) []) (cTake : Cal P w K mg base 1 "_law_take" spTake [])
    (cRows : Cal P w K mg base 4 "_law_rows" spRows []) (cRule : Cal P w K mg base 33 "_law_rule" spRule []) (cTree : Cal P w K mg base 15 "_law_tree" (spTree 12) []) (cFl : Cal P w K mg base 18 "_law_filled" (spFl 12) []) (cRO : Cal P w K mg base 8 "_law_rule_of" (spRO C) []) (cLoose : Cal P w K mg base 101 "_law_loose" (spLoose 100) [])
    (cFit : Cal P w K mg base 6 "fit" (spFit C) []) (cFs : Cal P w K mg base 102 "_law_fits" spFs []) (cHoles : Cal P w K mg base 13 "_law_holes" (spHoles 12) []) (cAt : Cal P w K mg base 14 "_law_at" (spAt 13) []) (cSame : Cal P w K mg base 107 "_law_same" (spSameN 106) []) : FnOk P w K mg base C8.CX0 108 f fd ["_law_script"] (spLaw K) := by
  refine fn0 F.fn scLaw (fun vs H Q E h => ?_) (fun cdv A' outer s H vs Q E hr h => ?_)
  · obtain ⟨a, ns, rfl, _⟩ := h
    rfl
  · obtain ⟨a, ns, rfl, hS, k⟩ := h
    have nd := scLaw.nd
    refine ⟨_, pss_cons (ps_set (i := 1) nd rfl (by first | exact Or.inl rfl | exact Or.inr rfl) (pe_c cFresh hr (by decide) (by rfl) (pa_cons (pv 0) pa_nil)))
      (pss_cons (ps_for PassesOwn.never rfl (pi_range1 (by rfl) T.ran (pa_cons pe_int pa_nil)) (pg_name (i := 2) nd rfl (by first | exact Or.inl rfl | exact Or.inr rfl))
        (pss_cons (ps_set (i := 3) nd rfl (by first | exact Or.inl rfl | exact Or.inr rfl) (pe_c cRows hr (by decide) (by rfl) (pa_cons (pv 1) (pa_cons pe_int pa_nil))))
        (pss_cons (ps_set (i := 4) nd rfl (by first | exact Or.inl rfl | exact Or.inr rfl) (pe_c cRule hr (by decide) (by rfl) (pa_cons (pv 1) (pa_cons (pv 3) (pa_cons pe_int pa_nil)))))
        (pss_cons (ps_set (i := 5) nd rfl (by first | exact Or.inl rfl | exact Or.inr rfl) (pe_c cTree hr (by decide) (by rfl) (pa_cons (pv 1) (pa_cons (pv 3) (pa_cons (pe_op op_add pe_int (pe_c cTake hr (by decide) (by rfl) (pa_cons (pv 1) (pa_cons pe_int pa_nil)))) pa_nil)))))
        (pss_cons (ps_set (i := 6) nd rfl (by first | exact Or.inl rfl | exact Or.inr rfl) (pe_c cFl hr (by decide) (by rfl) (pa_cons (pv 1) (pa_cons (pv 3) (pa_cons (pe_ix ix_tup (pv 4) pe_int fun _ _ => rfl) (pa_cons (pv 5) pa_nil))))))
        (pss_cut (ps_if (pt_cmp (pc_eqI (pe_c cTake hr (by decide) (by rfl) (pa_cons (pv 1) (pa_cons pe_int pa_nil))) pe_int))
          (pss_one (ps_set (i := 6) nd rfl (by first | exact Or.inl rfl | exact Or.inr rfl) (pe_c cTree hr (by decide) (by rfl) (pa_cons (pv 1) (pa_cons (pv 3) (pa_cons (pe_op op_add pe_int (pe_c cTake hr (by decide) (by rfl) (pa_cons (pv 1) (pa_cons pe_int pa_nil)))) pa_nil)))))) pss_nil)
        (pss_cons (ps_set (i := 7) nd rfl (by first | exact Or.inl rfl | exact Or.inr rfl) (pe_c cFit hr (by decide) (by rfl) (pa_cons (pe_c cRO hr (by decide) (by rfl) (pa_cons (pv 4) pa_nil)) (pa_cons (pe_c cLoose hr (by decide) (by rfl) (pa_cons (pv 1) (pa_cons (pv 6) pa_nil))) pa_nil))))
        (pss_one (ps_if (pt_not (pt_val (pe_c cFs hr (by decide) (by rfl) (pa_cons (pv 4) (pa_cons (pv 6) pa_nil)))))
          (pss_one (ps_if (pt_cmp (pc_notN (pv 7))) pss_never pss_nil))
          (pss_cons (ps_setLc (i := 8) (own := [("_law_hole", 9), ("_law_place", 10)]) (g := gTup K 2 (gCons (gName 9) (gCons (gName 10) gNil))) (tt := tYes) rfl nd rfl rfl (by rfl) (pi_list (pe_c cHoles hr (by decide) (by rfl) (pa_cons (pe_ix ix_tup (pv 4) pe_int fun _ _ => rfl) pa_nil))) (blkOk_by (N := NL) (sc := fnScope sLaw) (by decide +kernel))
              (fun _ _ _ _ _ => pg_tup rfl (pgs_cons (pg_name (i := 9) nd rfl (Or.inl rfl)) (pgs_cons (pg_name (i := 10) nd rfl (Or.inl rfl)) pgs_nil))) (fun _ _ _ _ _ => pts_nil)
              (fun _ _ _ _ _ => pe_tup (pa_cons (pv 9) (pa_cons (pe_c cAt hr (by decide) (by rfl) (pa_cons (pv 6) (pa_cons (pv 10) pa_nil))) pa_nil))))
          (pss_one (ps_if (pw_or (pt_not (pt_val (pe_callB call_isi (by rfl) T.isi (by decide +kernel) (pa_cons (pv 7) (pa_cons (pe_bt "dict" T.dic) pa_nil))))) (pw_or1 (pt_not (pt_val (pe_c cSame hr (by decide) (by rfl) (pa_cons (LiI.pe_listItems rfl (pv 7) (by rfl) T.list (by decide +kernel)) (pa_cons (pv 8) pa_nil))))))).pt pss_never pss_nil))))))))))))
      (pss_one (ps_ret pe_bl))), ?_⟩
    have hsl := sizeLine_eq
    refine ⟨_, rfl, a, ns, rfl, hS, fun st cl H0 nst ncl s0 hst0 => ?_⟩
    refine ⟨10, rfl, by decide, by decide, for_gen (J := Itr 0 10) 10 (fun i σ H' => ∃ v2 v3 v4 v5 v6 v7 v8 : Option V, σ = [some (.ref a), some (.ref st), v2, v3, v4, v5, v6, v7, v8, none, none] ∧ StAt (1000 * i) H' st cl) ⟨_, _, _, _, _, _, _, rfl, hst0⟩ (fun i σ H' hi _ => hi) (fun σ H' _ => Nat.le_refl _) ?_ (fun σ H' _ => k H')⟩
    rintro i σ H1 v H2 hi ⟨v2, v3, v4, v5, v6, v7, v8, rfl, hst⟩ ⟨rfl, rfl⟩
    refine ⟨_, rfl, st, 4, 1000 * i, cl, rfl, by decide, by decide, hst, by omega, fun l rs H3 nl hR ok hs3 b3 => ?_⟩
    refine ⟨_, rfl, _, rfl, st, l, 3, rs, _, cl, rfl, by decide, by decide, hR, ok, hs3, by omega, fun p kd bd vl vr dl dr kk bb H4 hk hb ok1 ok2 nkb nks nbs hth hnd hsub hp hvl hshl hsq hzl hvr hshr hzr hs4 b4 => ?_⟩
    have R4 : RA H4 st vl vr dl dr kd bd kk bb := ⟨hvl, hshl, hsq, lnm_keep ok hth, hnd, by omega, hvr, hshr, by omega, hsub, hk, hb, ok1, ok2⟩
    have hR4 := hR.but hs3 b4
    refine ⟨_, rfl, _, rfl, _, rfl, st, 4, _, cl, rfl, by decide, by decide, hs4, by omega, fun n1 H5 a0 a1 hs5 b5 => ⟨1, n1, rfl, rfl, ?_⟩⟩
    have hR5 := hR4.but hs4 b5
    refine ⟨st, l, 1 + n1, rs, _, cl, rfl, by omega, by omega, by omega, hR5, ok, hs5, by omega, fun tv t H6 htv hit hzt hs6 b6 => ?_⟩
    have hR6 := hR5.but hs5 b6
    have b46 : But st H4 H6 := fun b o e n => b6 _ _ (b5 _ _ e n) n
    have hp6 : H6 p = some (.tup [vl, vr, .ref kd, .ref bd]) := (Hold.but (F := nol) hs4 b46 fun _ h => h.elim).tup _ _ hp
    have R6 := R4.but hs4 b46
    have at4 : ∀ (j : Nat) (i : Int) (v : V), [vl, vr, V.ref kd, V.ref bd][j]? = some v → i = j → atI [vl, vr, V.ref kd, V.ref bd] i = some v := fun j i v h e => by rw [e]; exact at_of (j := j) (by omega) h
    refine ⟨_, rfl, _, rfl, _, rfl, p, _, 0, _, rfl, rfl, SqT.of hp6, at4 0 0 _ rfl rfl, _, rfl, st, l, vl, tv, dl, t, rs, _, cl, rfl, R6.v1, hth, hzl, hzl, htv, hit, by omega, hR6, ok, hs6, by omega, fun fv ft H7 hfv hfit hfz hs7 b7 => ?_⟩
    have hR7 := hR6.but hs6 b7
    refine ⟨fun σ H' => ∃ (tv2 : V) (t2 : D), σ = [some (.ref a), some (.ref st), some (.int (0 + (i : Nat))), some (.ref l), some (.ref p), some tv, some tv2, v7, v8, none, none] ∧ DAt nol H' tv2 t2 ∧ isT rs t2 = true ∧ sz t2 ≤ 100 ∧ StAt (1000 * i + 700) H' st cl ∧ But st H7 H', ?_, ?_⟩
    · refine ⟨_, rfl, st, 4, _, cl, rfl, by decide, by decide, hs7, by omega, fun n2 H8 c0 c1 hs8 b8 => ⟨n2, 0, rfl, rfl, _, rfl, ite2 (fun hd => ?_) (fun hd => ?_)⟩⟩
      · refine ⟨_, rfl, _, rfl, _, rfl, st, 12, _, cl, rfl, by decide, by decide, hs8, by omega, fun n3 H9 d0 d1 hs9 b9 => ⟨1, n3, rfl, rfl, ?_⟩⟩
        refine ⟨st, l, 1 + n3, rs, _, cl, rfl, by omega, by omega, by omega, (hR7.but hs7 b8).but hs8 b9, ok, hs9, by omega, fun tv2 t2 H10 htv2 hit2 hzt2 hs10 b10 => ⟨tv2, t2, rfl, htv2, hit2, by omega, hs10.mono (by omega), fun b o e n => b10 _ _ (b9 _ _ (b8 _ _ e n) n) n⟩⟩
      · exact ⟨fv, ft, rfl, DAt.hold (Hold.but hs7 b8 fun _ h => h.elim) _ hfv, hfit, by omega, hs8.mono (by omega), b8⟩
    rintro σ H8 ⟨tv2, t2, rfl, htv2, hit2, hzt2, hs8, b78⟩
    have b68 : But st H6 H8 := fun b o e n => b78 _ _ (b7 _ _ e n) n
    have hp8 : H8 p = some (.tup [vl, vr, .ref kd, .ref bd]) := (Hold.but (F := nol) hs6 b68 fun _ h => h.elim).tup _ _ hp6
    have R8 := R6.but hs6 b68
    have htr2 := isT_tree ok hit2
    refine ⟨_, rfl, p, st, vl, vr, dl, dr, kd, bd, kk, bb, rfl, hp8, R8, fun x H9 s9 hRu => ?_⟩
    have hs9 := hs8.same s9
    have htv9 := DAt.hold (.same s9) _ htv2
    refine ⟨_, rfl, _, rfl, st, tv2, t2, _, cl, rfl, DAt.weak (fun _ h => h.elim) _ htv9, hzt2, by omega, hs9, by omega, fun lv H10 hlv hs10 b10 => ?_⟩
    have hp10 : H10 p = some (.tup [vl, vr, .ref kd, .ref bd]) := (Hold.but (F := nol) hs9 b10 fun _ h => h.elim).tup _ _ (s9 _ _ hp8)
    have R10 := (R8.same s9).but hs9 b10
    have htv10 := DAt.hold (Hold.but hs9 b10 fun _ h => h.elim) _ htv9
    refine ⟨x, lv, t2, dl, dr, kk, bb, _, rfl, hRu.but hs9 b10, hshl, by omega, hnd, hlv, htr2, by omega, fun hf H11 s11 => ?_, fun hf c kvs H11 s11 hc hce => ?_⟩
    · refine ⟨_, rfl, _, rfl, p, st, vl, vr, tv2, dl, dr, t2, kd, bd, kk, bb, rs, rfl, s11 _ _ hp10, R10.same s11, hth, hzl, DAt.hold (.same s11) _ htv10, hit2, ok, hzt2, fun H12 s12 => ⟨_, rfl, ?_⟩⟩
      rw [hf]
      refine iteBt rfl ⟨_, rfl, _, rfl, iteBf (by rfl) ?_⟩
      exact ⟨_, _, _, _, _, _, _, rfl, (hs10.same (s11.trans s12)).mono (by omega)⟩
    · refine ⟨_, rfl, _, rfl, p, st, vl, vr, tv2, dl, dr, t2, kd, bd, kk, bb, rs, rfl, s11 _ _ hp10, R10.same s11, hth, hzl, DAt.hold (.same s11) _ htv10, hit2, ok, hzt2, fun H12 s12 => ⟨_, rfl, ?_⟩⟩
      rw [hf]
      refine iteBf rfl ?_
      have s02 := s11.trans s12
      have hlay : layB dl t2 = true := by unfold fitB at hf; rw [Bool.and_eq_true] at hf; exact hf.1
      obtain ⟨hco, hin⟩ := holes_conts dl t2 hlay
      have hsz : ∀ q ∈ holesP dl, sz (subD t2 q.2) ≤ 100 := fun q hq => by
        have := conts_sz dl t2 (q.1, subD t2 q.2) (by rw [← hco]; exact List.mem_map_of_mem hq)
        exact Nat.le_trans this hzt2
      rw [← hco] at hce
      refine ⟨_, rfl, p, _, 0, _, rfl, rfl, SqT.of (s02 _ _ hp10), at4 0 0 _ rfl rfl, vl, dl, rfl, DAt.hold (.same s02) _ R10.v1, hshl, hzl, by omega, fun lh us H13 nlh s13 hlh hpu => ⟨lh, rfl, ⟨_, SqL.of hlh⟩, fun Da nDa => ?_⟩⟩
      have s03 := s02.trans s13
      have hul := Paired.length hpu
      have hhl := (holes_le dl).1
      have hpl := (holes_le dl).2
      generalize holesP dl = qs at hpu hul hhl hpl hin hsz hce
      refine lc_gen (J := Itl K lh) us.length (fun j H' => ∃ ws, H' Da = some (.lst ws) ∧ Paired (DueV t2 H') ws (qs.take j) ∧ Same H13 H') ⟨[], upd_same, .nil, same_upd nDa⟩ (fun j H' hj ⟨_, _, _, sm⟩ => ⟨us, us.getD j .non, SqL.of (sm _ _ hlh), getD_at hj⟩) (fun H' ⟨_, _, _, sm⟩ => ⟨us, SqL.of (sm _ _ hlh), Nat.le_refl _⟩) (fun j H' y H'' hj ⟨ws, hD, hpw, sm⟩ yl => ?_) (fun H' ⟨ws, hD, hpw, sm⟩ => ?_)
      · obtain ⟨rfl, hy⟩ := yl
        have hy := hy _ (SqL.of (sm _ _ hlh))
        obtain ⟨q, hq, tt, pp, rfl, htt, hpp⟩ := paired_get hpu hy
        obtain ⟨hlt, eq⟩ := List.getElem?_eq_some_iff.mp hq
        have hqm := List.mem_of_getElem? hq
        have hpq := hpl q hqm
        have hwl := Paired.length hpw
        rw [List.length_take] at hwl
        refine ⟨tt, _, rfl, SqT.of (sm _ _ htt), rfl, .str q.1, [.ref pp], rfl, .ref pp, [], rfl, rfl, rfl, ?_⟩
        unfold tYes
        dsimp only
        rw [if_pos rfl]
        refine ⟨_, rfl, _, rfl, _, rfl, tv2, .ref pp, t2, q.2, rs, rfl, ⟨pp, rfl, sm _ _ hpp⟩, DAt.hold (.same (s03.trans sm)) _ htv10, hit2, hin q hqm, by omega, by omega, fun cv u H14 s14 hcv hiu hzu hue => ⟨(by show 2 ≤ sizeLine; decide), fun np nnp => ?_⟩⟩
        have sp := same_upd (o := .tup [.str q.1, cv]) nnp
        have hnp : (upd H14 np (.tup [.str q.1, cv])) np = some (.tup [.str q.1, cv]) := upd_same
        have hD4 := sp _ _ (s14 _ _ hD)
        generalize upd H14 np (.tup [.str q.1, cv]) = H15 at sp hnp hD4 ⊢
        have sd : ∀ b o, H15 b = some o → b ≠ Da → (upd H15 Da (.lst (ws ++ [.ref np]))) b = some o := fun b o e n => by rw [upd_ne n]; exact e
        have nD : ∀ {b : Addr} {vs : List V}, H15 b = some (.tup vs) → b ≠ Da := fun e => ne_of e hD4 (by intro z; cases z)
        have tkd : TK H15 (upd H15 Da (.lst (ws ++ [.ref np]))) := fun b vs e => sd _ _ e (nD e)
        refine ⟨ws, hD4, by omega, ws ++ [.ref np], upd_same, ?_, fun b o e => sd _ _ (sp _ _ (s14 _ _ (sm _ _ e))) (ne_of_none e nDa)⟩
        rw [List.take_succ_eq_append_getElem hlt, eq]
        have keepD : ∀ {v : V} {q : Str × List Int}, DueV t2 H15 v q → DueV t2 (upd H15 Da (.lst (ws ++ [.ref np]))) v q := fun ⟨tt, v', e, q1, q2, q3⟩ => ⟨tt, v', e, tkd _ _ q1, sh_tups tkd (treeD_sh _ q3) q2, q3⟩
        exact Paired.snoc (Paired.mono (fun _ _ h => keepD (h.same (s14.trans sp))) hpw) (keepD ⟨np, cv, rfl, hnp, by rw [← hue]; exact DAt.hold (.same sp) _ hcv, by rw [← hue]; exact isT_tree ok hiu⟩)
      · rw [hul, List.take_length] at hpw
        have s04 := s12.trans (s13.trans sm)
        have hc' := s04 _ _ hc
        refine ⟨_, rfl, _, .ty "dict", _, _, true, rfl, .ty _, .base (.dK hc'), kit_ty (by decide +kernel), true, rfl, iteBf rfl ?_⟩
        refine ⟨_, rfl, c, kvs, rfl, hc', fun H16 S ts k1 k2 k3 k4 k5 k6 => ⟨_, rfl, .ref S, .ref Da, rfl, ?_, fun H17 s17 => ⟨true, rfl, iteBf rfl ?_⟩⟩⟩
        · have h6 := Paired.length k6
          have h7 := Paired.length hce
          rw [List.length_map] at h7
          exact .inr ⟨false, S, Da, _, _, rfl, rfl, k5, k1 _ _ hD, eq_due k6 (Paired.mono (fun _ _ h => h.tk (.of (s04.trans k1))) hce) (Paired.mono (fun _ _ h => h.same k1) hpw) hzt2 hsz, by rw [List.length_map]; omega⟩
        · exact ⟨_, _, _, _, _, _, _, rfl, (hs10.same (s03.trans (sm.trans (Same.trans k1 s17)))).mono (by omega)⟩
end
end KT

namespace KT
open PySem PySem.Spec PyProof.Rows L2 C8 XE XR TX ZL
theorem two {A B : Prop} (a : A) (f : A → B) : B := f a
theorem def_mk {K : PySem.W.Frag} {mg : Str → Option Value} {h : Heap} {x : Str} {st : Stmt} {f : Addr} {oc kV doc pm cdv ct : Value} {od an : Option Addr} {osl : Array (Option Value)} (X : K.In h) (G : h.Ns mainGlobals mg)
    (a : PySem.W.nsIn K mainGlobals x = some (some (.ref f))) (l : K.lookup f = some ⟨oc, od, .func (PySem.W.fnOf x x (fnArgs st) (fnBody st) (fnScope st) .none kV doc pm an cdv ct), osl⟩)
    (c : PySem.W.codeIn K cdv x = true) (k : PySem.W.keepIn K (.ref f) = true) : Def K mg x st f (PySem.W.fnOf x x (fnArgs st) (fnBody st) (fnScope st) .none kV doc pm an cdv ct) :=
  ⟨⟨oc, od, .none, kV, doc, pm, an, cdv, ct, osl, rfl, l, c⟩, PySem.W.mg_of X G a, k⟩
theorem fun_mk {K : PySem.W.Frag} {x qual : Str} {st : Stmt} {f : Addr} {oc kV doc pm cdv ct : Value} {od an : Option Addr} {osl : Array (Option Value)}
    (l : K.lookup f = some ⟨oc, od, .func (PySem.W.fnOf x qual (fnArgs st) (fnBody st) (fnScope st) .none kV doc pm an cdv ct), osl⟩) (c : PySem.W.codeIn K cdv qual = true) : C8.Fun K x qual st f (PySem.W.fnOf x qual (fnArgs st) (fnBody st) (fnScope st) .none kV doc pm an cdv ct) :=
  ⟨oc, od, .none, kV, doc, pm, an, cdv, ct, osl, rfl, l, c⟩
theorem ns_mk {K : PySem.W.Frag} {mg : Str → Option Value} {h : Heap} {x : Str} {C : Addr} (X : K.In h) (G : h.Ns mainGlobals mg) (a : PySem.W.nsIn K mainGlobals x = some (some (.ref C))) : mg x = some (.ref C) := PySem.W.mg_of X G a
theorem cn_mk {K : PySem.W.Frag} {mg : Str → Option Value} {h : Heap} {x : Str} {u : Value} (X : K.In h) (G : h.Ns mainGlobals mg) (a : PySem.W.nsIn K mainGlobals x = some (some u)) : mg x = some u := PySem.W.mg_of X G a
theorem mk_mk {K : PySem.W.Frag} {mg : Str → Option Value} {x : Str} {C f : Addr} {h : Heap} (X : K.In h) (hC : mg x = some (.ref C)) (a : PySem.W.makesIn K C = true) (b : PySem.W.findIn K (.ref C) "__init__" = some (some (.ref f))) (c : PySem.W.isFn K (.ref f) = true) (d : PySem.W.keepIn K (.ref C) = true) : Mk K C f := ⟨a, b, c, d⟩
theorem me_mk {K : PySem.W.Frag} {mg : Str → Option Value} {x m : Str} {C f : Addr} {h : Heap} (X : K.In h) (hC : mg x = some (.ref C)) (b : PySem.W.findIn K (.ref C) m = some (some (.ref f))) (c : PySem.W.isFn K (.ref f) = true) (d : PySem.W.keepIn K (.ref f) = true) : Meth K C m f := ⟨b, c, d⟩
theorem fi_mk {K : PySem.W.Frag} {x qual : Str} {st : Stmt} {C f : Addr} {oc kV doc pm cdv ct : Value} {od an : Option Addr} {osl : Array (Option Value)} (M : Mk K C f)
    (l : K.lookup f = some ⟨oc, od, .func (PySem.W.fnOf x qual (fnArgs st) (fnBody st) (fnScope st) .none kV doc pm an cdv ct), osl⟩) (c : PySem.W.codeIn K cdv qual = true) : C8.Fun K x qual st f (PySem.W.fnOf x qual (fnArgs st) (fnBody st) (fnScope st) .none kV doc pm an cdv ct) := fun_mk l c
theorem fm_mk {K : PySem.W.Frag} {x qual : Str} {st : Stmt} {C f : Addr} {oc kV doc pm cdv ct : Value} {od an : Option Addr} {osl : Array (Option Value)} (M : Meth K C x f)
    (l : K.lookup f = some ⟨oc, od, .func (PySem.W.fnOf x qual (fnArgs st) (fnBody st) (fnScope st) .none kV doc pm an cdv ct), osl⟩) (c : PySem.W.codeIn K cdv qual = true) : C8.Fun K x qual st f (PySem.W.fnOf x qual (fnArgs st) (fnBody st) (fnScope st) .none kV doc pm an cdv ct) := fun_mk l c
theorem fact_mk {K : PySem.W.Frag} {mg : Str → Option Value} {x : Str} {C : Addr} {h : Heap} {A : Prop} (X : K.In h) (hC : mg x = some (.ref C)) (a : A) : A := a

theorem lr_mk {K : PySem.W.Frag} {mg : Str → Option Value} {C : Addr} {h : Heap} (X : K.In h) (hC : mg "Rule" = some (.ref C)) (a : PySem.W.plainGet K C Str.empty = true) (b : PySem.W.hasDictIn K C = true) (c : PySem.W.plainOver K C = true) (d : PySem.W.findIn K (.ref C) "__setattr__" = some (some (.builtin "object.__setattr__")))
    (e : PySem.W.findIn K (.ref C) "left" = some none) (f : PySem.W.findIn K (.ref C) "right" = some none) (g : PySem.W.findIn K (.ref C) "kinds" = some none) (i : PySem.W.findIn K (.ref C) "bars" = some none) : LR K mg C := ⟨⟨a, b, c, d⟩, e, f, g, i⟩
/-- Rule.__init__, which has two defaults -/
structure InitD (K : PySem.W.Frag) (f : Addr) (fd : FuncData) : Prop where
  fn : C8.Fun K "__init__" "Rule.__init__" sRI f fd
  bi : Binds K fd ["self", "left", "right", "kinds", "bars"] []
theorem init_mk {K : PySem.W.Frag} {C f Td : Addr} {oc kV doc pm cdv ct : Value} {od an : Option Addr} {osl : Array (Option Value)} {oc' : Value} {od' : Option Addr} {n' : Nat} {osl' : Array (Option Value)} (M : Mk K C f)
    (l : K.lookup f = some ⟨oc, od, .func (PySem.W.fnOf "__init__" "Rule.__init__" (fnArgs sRI) (fnBody sRI) (fnScope sRI) (.ref Td) kV doc pm an cdv ct), osl⟩) (c : PySem.W.codeIn K cdv "Rule.__init__" = true) (k : PySem.W.keepIn K (.ref f) = true) (t : K.lookup Td = some ⟨oc', od', .seq #[.none, .none] n', osl'⟩) : InitD K f (PySem.W.fnOf "__init__" "Rule.__init__" (fnArgs sRI) (fnBody sRI) (fnScope sRI) (.ref Td) kV doc pm an cdv ct) := by
  refine ⟨⟨oc, od, .ref Td, kV, doc, pm, an, cdv, ct, osl, rfl, l, c⟩, ?_⟩
  have F : FunD K "__init__" "Rule.__init__" (fnArgs sRI) (fnBody sRI) (fnScope sRI) [.non, .non] [] f (PySem.W.fnOf "__init__" "Rule.__init__" (fnArgs sRI) (fnBody sRI) (fnScope sRI) (.ref Td) kV doc pm an cdv ct) :=
    ⟨⟨oc, od, .ref Td, kV, doc, pm, an, cdv, ct, osl, rfl, l, c, .inr ⟨by simp, Td, _, [.none, .none], n', rfl, t, rfl, .cons rfl (.cons rfl .nil)⟩, .inl rfl⟩, k⟩
  obtain ⟨ds, v, hb⟩ := F.binds1 (ps := ["self", "left", "right", "kinds", "bars"]) 5 2 (by simp) (by rfl) (fun T kV doc pm an cdv ct us its hu hi => by
    match us, hu, its, hi with
    | [a, b, c, d, e], _, [x, y], _ => exact ⟨_, rfl, rfl⟩)
  cases v
  exact hb
structure Blt7 (mg : Str → Option Value) : Prop extends Blt4 mg where
  any : mg "any" = none
  set : mg "set" = none
  srt : mg "sorted" = none
theorem all_ok {P : Program} {w : World} {K : PySem.W.Frag} {mg : Str → Option Value} {h : Heap} {fa C : Addr} (X : K.In h) (G : h.Ns mainGlobals mg) (hfa : mg "law" = some (.ref fa)) (T : Blt7 mg) (Gk : Gs mg) (L : LR K mg C) (hC : mg "Rule" = some (.ref C))
    {f0 f1 f2 f3 f4 f5 f6 f7 f8 f9 f10 f11 f12 f13 f14 f15 f16 f17 f18 f19 f20 f21 f22 f23 f24 f25 f26 f27 f28 f29 f30 f31 f32 f33 f34 f35 f36 f37 f38 f39 f40 f41 fL g0 g1 g2 g3 : Addr} {d0 d1 d2 d3 d4 d5 d6 d7 d8 d9 d10 d11 d12 d13 d14 d15 d16 d17 d18 d19 d20 d21 d22 d23 d24 d25 d26 d27 d28 d29 d30 d31 d32 d33 d34 d35 d36 d37 d38 d39 d40 d41 h0 h1 h2 h3 : FuncData} {kV8 dc8 pm8 cd8 ct8 : Value} {an8 : Option Addr} (D0 : Def K mg "is_row" sRow f0 d0) (D1 : Def K mg "is_word" sWord f1 d1) (D2 : Def K mg "is_word_list" sWL f2 d2) (D3 : Def K mg "is_hole" sHole f3 d3) (D4 : Def K mg "nodes_in_order" sNodes f4 d4) (D5 : Def K mg "filled" sFilled f5 d5) (D6 : Def K mg "as_tuples" sAsT f6 d6) (D7 : Def K mg "is_shape" sIsSh f7 d7) (D8 : Def K mg "holes_in" sHoI f8 d8) (D9 : Def K mg "labels_in" sLaI f9 d9) (D10 : Def K mg "is_left" sIsL f10 d10) (D11 : Def K mg "is_right" sIsR f11 d11) (D12 : Def K mg "are_labels" sArL f12 d12) (D13 : Def K mg "wrong_argument" sWrA f13 d13) (D14 : Def K mg "contents_of" sCo f14 d14) (D15 : Def K mg "has_label" sHL f15 d15) (D16 : Def K mg "may_stand" sMS f16 d16) (D17 : Def K mg "fit" sFit f17 d17) (D18 : Def K mg "_law_fresh" sFresh f18 d18) (D19 : Def K mg "_law_take" sTake f19 d19) (D20 : Def K mg "_law_one" sOne f20 d20) (D21 : Def K mg "_law_mix" sMix f21 d21) (D22 : Def K mg "_law_same" sSame f22 d22) (D23 : Def K mg "_law_words" sWords f23 d23) (D24 : Def K mg "_law_rows" sRows f24 d24) (D25 : Def K mg "_law_many" sMany f25 d25) (D26 : Def K mg "_law_labels" sLabels f26 d26) (D27 : Def K mg "_law_tree" sTree f27 d27) (D28 : Def K mg "_law_at" sAt f28 d28) (D29 : Def K mg "_law_loose" sLoose f29 d29) (D30 : Def K mg "_law_holes" sHoles f30 d30) (D31 : Def K mg "_law_spots" sSpots f31 d31) (D32 : Def K mg "_law_shape" sShape f32 d32) (D33 : Def K mg "_law_unlike_holes" sUnl f33 d33) (D34 : Def K mg "_law_left" sLeft f34 d34) (D35 : Def K mg "_law_right" sRight f35 d35) (D36 : Def K mg "_law_rule" sRule f36 d36) (D37 : Def K mg "_law_rule_of" sRO f37 d37) (D38 : Def K mg "_law_within" sWi f38 d38) (D39 : Def K mg "_law_lies" sLi f39 d39) (D40 : Def K mg "_law_fits" sFs f40 d40) (D41 : Def K mg "_law_filled" sFl f41 d41)
    (DL : Def K mg "law" sLaw fL (PySem.W.fnOf "law" "law" (fnArgs sLaw) (fnBody sLaw) (fnScope sLaw) .none kV8 dc8 pm8 an8 cd8 ct8)) (Mk0 : Mk K C g0) (Q0 : InitD K g0 h0) (Me1 : Meth K C "holes" g1) (Me2 : Meth K C "kind" g2) (Me3 : Meth K C "bar" g3) (M1 : C8.Fun K "holes" "Rule.holes" sRH g1 h1) (M2 : C8.Fun K "kind" "Rule.kind" sRK g2 h2) (M3 : C8.Fun K "bar" "Rule.bar" sRB g3 h3)
    (e0 : d0.defaults = .none) (e1 : d1.defaults = .none) (e2 : d2.defaults = .none) (e3 : d3.defaults = .none) (e4 : d4.defaults = .none) (e5 : d5.defaults = .none) (e6 : d6.defaults = .none) (e7 : d7.defaults = .none) (e8 : d8.defaults = .none) (e9 : d9.defaults = .none) (e10 : d10.defaults = .none) (e11 : d11.defaults = .none) (e12 : d12.defaults = .none) (e13 : d13.defaults = .none) (e14 : d14.defaults = .none) (e15 : d15.defaults = .none) (e16 : d16.defaults = .none) (e17 : d17.defaults = .none) (e18 : d18.defaults = .none) (e19 : d19.defaults = .none) (e20 : d20.defaults = .none) (e21 : d21.defaults = .none) (e22 : d22.defaults = .none) (e23 : d23.defaults = .none) (e24 : d24.defaults = .none) (e25 : d25.defaults = .none) (e26 : d26.defaults = .none) (e27 : d27.defaults = .none) (e28 : d28.defaults = .none) (e29 : d29.defaults = .none) (e30 : d30.defaults = .none) (e31 : d31.defaults = .none) (e32 : d32.defaults = .none) (e33 : d33.defaults = .none) (e34 : d34.defaults = .none) (e35 : d35.defaults = .none) (e36 : d36.defaults = .none) (e37 : d37.defaults = .none) (e38 : d38.defaults = .none) (e39 : d39.defaults = .none) (e40 : d40.defaults = .none) (e41 : d41.defaults = .none) (y1 : h1.defaults = .none) (y2 : h2.defaults = .none) (y3 : h3.defaults = .none) :
    ∃ fd : FuncData, (∀ (s : Shared) (v : Value), BindsTo s fd ⟨[v], []⟩ [("_law_script", v)]) ∧ ∀ base : Heap, K.In base → base.Ns mainGlobals mg → FnOk P w K mg base L2.CX0 108 fa fd ["_law_script"] (spLaw K) := by
  have e := hfa.symm.trans DL.mgf
  cases e
  refine ⟨PySem.W.fnOf "law" "law" (fnArgs sLaw) (fnBody sLaw) (fnScope sLaw) .none kV8 dc8 pm8 an8 cd8 ct8, fun s v => .of_eq rfl, fun base _ _ => ?_⟩
  have b0 := D0.fn.binds (ps := ["thing"]) e0 fun _ _ _ _ _ _ us hl => match us, hl with | [_], _ => rfl
  have b1 := D1.fn.binds (ps := ["thing"]) e1 fun _ _ _ _ _ _ us hl => match us, hl with | [_], _ => rfl
  have b2 := D2.fn.binds (ps := ["thing"]) e2 fun _ _ _ _ _ _ us hl => match us, hl with | [_], _ => rfl
  have b3 := D3.fn.binds (ps := ["node"]) e3 fun _ _ _ _ _ _ us hl => match us, hl with | [_], _ => rfl
  have b4 := D4.fn.binds (ps := ["shape"]) e4 fun _ _ _ _ _ _ us hl => match us, hl with | [_], _ => rfl
  have b5 := D5.fn.binds (ps := ["shape", "contents"]) e5 fun _ _ _ _ _ _ us hl => match us, hl with | [_, _], _ => rfl
  have b6 := D6.fn.binds (ps := ["shape"]) e6 fun _ _ _ _ _ _ us hl => match us, hl with | [_], _ => rfl
  have b7 := D7.fn.binds (ps := ["thing"]) e7 fun _ _ _ _ _ _ us hl => match us, hl with | [_], _ => rfl
  have b8 := D8.fn.binds (ps := ["shape"]) e8 fun _ _ _ _ _ _ us hl => match us, hl with | [_], _ => rfl
  have b9 := D9.fn.binds (ps := ["shape"]) e9 fun _ _ _ _ _ _ us hl => match us, hl with | [_], _ => rfl
  have b10 := D10.fn.binds (ps := ["thing"]) e10 fun _ _ _ _ _ _ us hl => match us, hl with | [_], _ => rfl
  have b11 := D11.fn.binds (ps := ["thing", "holes"]) e11 fun _ _ _ _ _ _ us hl => match us, hl with | [_, _], _ => rfl
  have b12 := D12.fn.binds (ps := ["thing", "holes"]) e12 fun _ _ _ _ _ _ us hl => match us, hl with | [_, _], _ => rfl
  have b13 := D13.fn.binds (ps := ["left", "right", "kinds", "bars"]) e13 fun _ _ _ _ _ _ us hl => match us, hl with | [_, _, _, _], _ => rfl
  have b14 := D14.fn.binds (ps := ["left", "tree"]) e14 fun _ _ _ _ _ _ us hl => match us, hl with | [_, _], _ => rfl
  have b15 := D15.fn.binds (ps := ["tree", "labels"]) e15 fun _ _ _ _ _ _ us hl => match us, hl with | [_, _], _ => rfl
  have b16 := D16.fn.binds (ps := ["rule", "hole", "content"]) e16 fun _ _ _ _ _ _ us hl => match us, hl with | [_, _, _], _ => rfl
  have b17 := D17.fn.binds (ps := ["rule", "tree"]) e17 fun _ _ _ _ _ _ us hl => match us, hl with | [_, _], _ => rfl
  have b18 := D18.fn.binds (ps := ["_law_script"]) e18 fun _ _ _ _ _ _ us hl => match us, hl with | [_], _ => rfl
  have b19 := D19.fn.binds (ps := ["_law_state", "_law_many_here"]) e19 fun _ _ _ _ _ _ us hl => match us, hl with | [_, _], _ => rfl
  have b20 := D20.fn.binds (ps := ["_law_state", "_law_things"]) e20 fun _ _ _ _ _ _ us hl => match us, hl with | [_, _], _ => rfl
  have b21 := D21.fn.binds (ps := ["_law_state", "_law_things"]) e21 fun _ _ _ _ _ _ us hl => match us, hl with | [_, _], _ => rfl
  have b22 := D22.fn.binds (ps := ["_law_found", "_law_due"]) e22 fun _ _ _ _ _ _ us hl => match us, hl with | [_, _], _ => rfl
  have b23 := D23.fn.binds (ps := ["_law_state", "_law_many_here"]) e23 fun _ _ _ _ _ _ us hl => match us, hl with | [_, _], _ => rfl
  have b24 := D24.fn.binds (ps := ["_law_state", "_law_most"]) e24 fun _ _ _ _ _ _ us hl => match us, hl with | [_, _], _ => rfl
  have b25 := D25.fn.binds (ps := ["_law_rows_here", "_law_label"]) e25 fun _ _ _ _ _ _ us hl => match us, hl with | [_, _], _ => rfl
  have b26 := D26.fn.binds (ps := ["_law_rows_here"]) e26 fun _ _ _ _ _ _ us hl => match us, hl with | [_], _ => rfl
  have b27 := D27.fn.binds (ps := ["_law_state", "_law_rows_here", "_law_nodes"]) e27 fun _ _ _ _ _ _ us hl => match us, hl with | [_, _, _], _ => rfl
  have b28 := D28.fn.binds (ps := ["_law_tree_here", "_law_place"]) e28 fun _ _ _ _ _ _ us hl => match us, hl with | [_, _], _ => rfl
  have b29 := D29.fn.binds (ps := ["_law_state", "_law_thing"]) e29 fun _ _ _ _ _ _ us hl => match us, hl with | [_, _], _ => rfl
  have b30 := D30.fn.binds (ps := ["_law_shape_here"]) e30 fun _ _ _ _ _ _ us hl => match us, hl with | [_], _ => rfl
  have b31 := D31.fn.binds (ps := ["_law_shape_here"]) e31 fun _ _ _ _ _ _ us hl => match us, hl with | [_], _ => rfl
  have b32 := D32.fn.binds (ps := ["_law_state", "_law_rows_here", "_law_left_here", "_law_holes_here"]) e32 fun _ _ _ _ _ _ us hl => match us, hl with | [_, _, _, _], _ => rfl
  have b33 := D33.fn.binds (ps := ["_law_shape_here", "_law_words_here"]) e33 fun _ _ _ _ _ _ us hl => match us, hl with | [_, _], _ => rfl
  have b34 := D34.fn.binds (ps := ["_law_state", "_law_rows_here", "_law_most"]) e34 fun _ _ _ _ _ _ us hl => match us, hl with | [_, _, _], _ => rfl
  have b35 := D35.fn.binds (ps := ["_law_state", "_law_rows_here", "_law_left_here", "_law_most"]) e35 fun _ _ _ _ _ _ us hl => match us, hl with | [_, _, _, _], _ => rfl
  have b36 := D36.fn.binds (ps := ["_law_state", "_law_rows_here", "_law_most"]) e36 fun _ _ _ _ _ _ us hl => match us, hl with | [_, _, _], _ => rfl
  have b37 := D37.fn.binds (ps := ["_law_rule_here"]) e37 fun _ _ _ _ _ _ us hl => match us, hl with | [_], _ => rfl
  have b38 := D38.fn.binds (ps := ["_law_tree_here"]) e38 fun _ _ _ _ _ _ us hl => match us, hl with | [_], _ => rfl
  have b39 := D39.fn.binds (ps := ["_law_shape_here", "_law_tree_here"]) e39 fun _ _ _ _ _ _ us hl => match us, hl with | [_, _], _ => rfl
  have b40 := D40.fn.binds (ps := ["_law_rule_here", "_law_tree_here"]) e40 fun _ _ _ _ _ _ us hl => match us, hl with | [_, _], _ => rfl
  have b41 := D41.fn.binds (ps := ["_law_state", "_law_rows_here", "_law_shape_here", "_law_stuff"]) e41 fun _ _ _ _ _ _ us hl => match us, hl with | [_, _, _, _], _ => rfl
  have z1 := M1.binds (ps := ["self"]) y1 fun _ _ _ _ _ _ us hl => match us, hl with | [_], _ => rfl
  have z2 := M2.binds (ps := ["self", "hole"]) y2 fun _ _ _ _ _ _ us hl => match us, hl with | [_, _], _ => rfl
  have z3 := M3.binds (ps := ["self", "hole"]) y3 fun _ _ _ _ _ _ us hl => match us, hl with | [_, _], _ => rfl
  have qRow := c_row (P := P) (w := w) (base := base) D0 b0 T.toBlt4
  have qWord := c_word (P := P) (w := w) (base := base) D1 b1 T.toBlt4 Gk
  have qWL := c_wl (P := P) (w := w) (base := base) D2 b2 T.toBlt4 qRow qWord
  have qHole := c_hole (P := P) (w := w) (base := base) D3 b3 T.toBlt4
  have qNodes := c_nodes (P := P) (w := w) (base := base) D4 b4 T.toBlt4 qHole
  have qFilled := c_filled (P := P) (w := w) (base := base) D5 b5 T.toBlt4 qNodes qHole
  have qAsT := c_asT (P := P) (w := w) (base := base) D6 b6 T.toBlt4 qFilled
  have qIsSh := c_isSh (P := P) (w := w) (base := base) D7 b7 T.toBlt4 qRow qWord
  have qHoI := c_hoI (P := P) (w := w) (base := base) D8 b8 T.toBlt4 qNodes qHole
  have qLaI := c_laI (P := P) (w := w) (base := base) D9 b9 T.toBlt4 qNodes qHole
  have qIsL := c_isL (P := P) (w := w) (base := base) D10 b10 T.toBlt4 T.set Gk qIsSh qHole qLaI qHoI
  have qIsR := c_isR (P := P) (w := w) (base := base) D11 b11 T.toBlt4 qIsSh qHoI
  have qArL := c_arL (P := P) (w := w) (base := base) D12 b12 T.toBlt4 qWL
  have qWrA := c_wrA (P := P) (w := w) (base := base) D13 b13 qIsL qIsR qHoI qArL
  have qRule := c_rI (P := P) (w := w) (base := base) Mk0 hC Q0.fn Q0.bi T.toBlt4 T.set T.srt L qWrA qAsT qHoI
  have qRH := c_rH (P := P) (w := w) (base := base) Me1 M1 z1 T.toBlt4 L
  have qRK := c_rK (P := P) (w := w) (base := base) Me2 M2 z2 L qRH
  have qRB := c_rB (P := P) (w := w) (base := base) Me3 M3 z3 L qRH
  have qCo := c_co (P := P) (w := w) (base := base) D14 b14 T.toBlt4 qHole qAsT
  have qHL := c_hL (P := P) (w := w) (base := base) D15 b15 T.toBlt4 Gk
  have qMS := c_mS (P := P) (w := w) (base := base) D16 b16 qRK qRB qHL
  have qFit := c_fit (P := P) (w := w) (base := base) D17 b17 T.toBlt4 L qCo qRH qMS
  have qFresh := c_fresh (P := P) (w := w) (base := base) D18 b18 T.toBlt
  have qTake := c_take (P := P) (w := w) (base := base) D19 b19 T.toBlt
  have qOne := c_one (P := P) (w := w) (base := base) D20 b20 T.toBlt qTake
  have qMix := c_mix (P := P) (w := w) (base := base) D21 b21 T.toBlt qTake
  have qSame := c_same (P := P) (w := w) (base := base) D22 b22 T.toBlt2 106
  have qWords := c_words (P := P) (w := w) (base := base) D23 b23 T.toBlt qMix
  have qRows := c_rows (P := P) (w := w) (base := base) D24 b24 T.toBlt4 qTake qMix qWords
  have qMany := c_many (P := P) (w := w) (base := base) D25 b25 T.toBlt4
  have qLabels := c_labels (P := P) (w := w) (base := base) D26 b26 T.toBlt4
  have qTree := c_tree (P := P) (w := w) (base := base) D27 b27 T.toBlt4 qTake qOne qLabels qMany
  have qAt := c_at (P := P) (w := w) (base := base) D28 b28 T.toBlt4 13
  have qLoose := c_loose (P := P) (w := w) (base := base) D29 b29 T.toBlt4 qTake 100
  have qHoles := c_holes (P := P) (w := w) (base := base) D30 b30 T.toBlt4
  have qSpots := c_spots (P := P) (w := w) (base := base) D31 b31 T.toBlt4 30
  have qShape := c_shape (P := P) (w := w) (base := base) D32 b32 T.toBlt4 qTake qOne qMany 5
  have qUnl := c_unl (P := P) (w := w) (base := base) D33 b33 T.toBlt4 12
  have qLeft := c_left (P := P) (w := w) (base := base) D34 b34 T.toBlt4 qTake qOne qMany qWords qShape qUnl
  have qRight := c_right (P := P) (w := w) (base := base) D35 b35 T.toBlt4 T.any qTake (qTree 4) qShape (qHoles 30) qSpots
  have qDRule := c_rule (P := P) (w := w) (base := base) D36 b36 T.toBlt4 qTake qLabels qLeft qRight (qHoles 30)
  have qRO := c_rO (P := P) (w := w) (base := base) D37 b37 qRule
  have qWi := c_wi (P := P) (w := w) (base := base) D38 b38 T.toBlt4 100
  have qLi := c_li (P := P) (w := w) (base := base) D39 b39 T.toBlt4 12
  have qFs := c_fs (P := P) (w := w) (base := base) D40 b40 T.toBlt4 T.any qLi (qHoles 12) qAt qWi
  have qFl := c_fl (P := P) (w := w) (base := base) D41 b41 T.toBlt4 qTake (qTree 3) 12
  exact c_law DL (DL.fn.binds (ps := ["_law_script"]) rfl fun _ _ _ _ _ _ us hl => match us, hl with | [_], _ => rfl) T.toBlt4 qFresh qTake qRows qDRule (qTree 12) qFl qRO qLoose qFit qFs (qHoles 12) qAt qSame
theorem walk {l : PySem.W.OpenLaw} {q : Program} {loose : List Str} {XP : (Str → Option Value) → Heap → Prop} {YP : World → Heap → Prop} {d : DefRec} {K : Params → PySem.W.Frag} (hn : l.most = some 63) (hdf : d.params.defaults = [])
    (hY : ∀ (w : World) (h : Heap), YP w h → (K w.params).In h)
    (F : ∀ (w : World) (mg : Str → Option Value) (fa : Addr) (h : Heap), (K w.params).In h → h.Ns mainGlobals mg → mg d.name = some (.ref fa) →
      ∃ fd : FuncData, (∀ (s : Shared) (u : Value), BindsTo s fd ⟨[u], []⟩ [("_law_script", u)]) ∧ ∀ base : Heap, (K w.params).In base → base.Ns mainGlobals mg → FnOk l.prog w (K w.params) mg base L2.CX0 108 fa fd ["_law_script"] (spLaw (K w.params))) :
    PySem.W.WalkO q loose XP YP l.row.toRowW d [] (fun f vs => PySem.call f vs) :=
  L2.walk_of (n := 63) (k := 108) (x := "_law_script") (CX := fun _ => L2.CX0) (sp := fun w => spLaw (K w.params)) hn (by decide) hdf ⟨rfl, by decide, by decide⟩ hY F (fun _ _ a ns _ _ hS => ⟨a, ns, rfl, hS, fun _ => rfl⟩) fun _ _ _ _ _ z => z
end KT

open PySem PySem.W PyProof.Rows
set_option maxRecDepth 100000 in
set_option maxHeartbeats 0 in
theorem PySem.Challenge.cw_secondruns_k10_fits_holds : PySem.Challenge.rw_secondruns_k10_fits.Holds := by
  w_on
  o_law
  k_head
  (case hw => w_witness2)
  k_fill
  refine KT.walk (l := PySem.Challenge.rw_secondruns_k10_fits) rfl rfl (fun w h Y => PySem.W.kIn_of Y) ?F
  case F =>
    intro w mg fa h KX G hmg
    refine' KT.two (KT.def_mk (x := "is_row") (st := KT.sRow) KX G ?a1 ?l1 ?c1 ?k1) (fun D0 => ?_)
    case a1 => k_is
    case l1 => k_is
    case c1 => k_is
    case k1 => k_is
    refine' KT.two (KT.def_mk (x := "is_word") (st := KT.sWord) KX G ?a2 ?l2 ?c2 ?k2) (fun D1 => ?_)
    case a2 => k_is
    case l2 => k_is
    case c2 => k_is
    case k2 => k_is
    refine' KT.two (KT.def_mk (x := "is_word_list") (st := KT.sWL) KX G ?a3 ?l3 ?c3 ?k3) (fun D2 => ?_)
    case a3 => k_is
    case l3 => k_is
    case c3 => k_is
    case k3 => k_is
    refine' KT.two (KT.def_mk (x := "is_hole") (st := KT.sHole) KX G ?a4 ?l4 ?c4 ?k4) (fun D3 => ?_)
    case a4 => k_is
    case l4 => k_is
    case c4 => k_is
    case k4 => k_is
    refine' KT.two (KT.def_mk (x := "nodes_in_order") (st := KT.sNodes) KX G ?a5 ?l5 ?c5 ?k5) (fun D4 => ?_)
    case a5 => k_is
    case l5 => k_is
    case c5 => k_is
    case k5 => k_is
    refine' KT.two (KT.def_mk (x := "filled") (st := KT.sFilled) KX G ?a6 ?l6 ?c6 ?k6) (fun D5 => ?_)
    case a6 => k_is
    case l6 => k_is
    case c6 => k_is
    case k6 => k_is
    refine' KT.two (KT.def_mk (x := "as_tuples") (st := KT.sAsT) KX G ?a7 ?l7 ?c7 ?k7) (fun D6 => ?_)
    case a7 => k_is
    case l7 => k_is
    case c7 => k_is
    case k7 => k_is
    refine' KT.two (KT.def_mk (x := "is_shape") (st := KT.sIsSh) KX G ?a8 ?l8 ?c8 ?k8) (fun D7 => ?_)
    case a8 => k_is
    case l8 => k_is
    case c8 => k_is
    case k8 => k_is
    refine' KT.two (KT.def_mk (x := "holes_in") (st := KT.sHoI) KX G ?a9 ?l9 ?c9 ?k9) (fun D8 => ?_)
    case a9 => k_is
    case l9 => k_is
    case c9 => k_is
    case k9 => k_is
    refine' KT.two (KT.def_mk (x := "labels_in") (st := KT.sLaI) KX G ?a10 ?l10 ?c10 ?k10) (fun D9 => ?_)
    case a10 => k_is
    case l10 => k_is
    case c10 => k_is
    case k10 => k_is
    refine' KT.two (KT.def_mk (x := "is_left") (st := KT.sIsL) KX G ?a11 ?l11 ?c11 ?k11) (fun D10 => ?_)
    case a11 => k_is
    case l11 => k_is
    case c11 => k_is
    case k11 => k_is
    refine' KT.two (KT.def_mk (x := "is_right") (st := KT.sIsR) KX G ?a12 ?l12 ?c12 ?k12) (fun D11 => ?_)
    case a12 => k_is
    case l12 => k_is
    case c12 => k_is
    case k12 => k_is
    refine' KT.two (KT.def_mk (x := "are_labels") (st := KT.sArL) KX G ?a13 ?l13 ?c13 ?k13) (fun D12 => ?_)
    case a13 => k_is
    case l13 => k_is
    case c13 => k_is
    case k13 => k_is
    refine' KT.two (KT.def_mk (x := "wrong_argument") (st := KT.sWrA) KX G ?a14 ?l14 ?c14 ?k14) (fun D13 => ?_)
    case a14 => k_is
    case l14 => k_is
    case c14 => k_is
    case k14 => k_is
    refine' KT.two (KT.def_mk (x := "contents_of") (st := KT.sCo) KX G ?a15 ?l15 ?c15 ?k15) (fun D14 => ?_)
    case a15 => k_is
    case l15 => k_is
    case c15 => k_is
    case k15 => k_is
    refine' KT.two (KT.def_mk (x := "has_label") (st := KT.sHL) KX G ?a16 ?l16 ?c16 ?k16) (fun D15 => ?_)
    case a16 => k_is
    case l16 => k_is
    case c16 => k_is
    case k16 => k_is
    refine' KT.two (KT.def_mk (x := "may_stand") (st := KT.sMS) KX G ?a17 ?l17 ?c17 ?k17) (fun D16 => ?_)
    case a17 => k_is
    case l17 => k_is
    case c17 => k_is
    case k17 => k_is
    refine' KT.two (KT.def_mk (x := "fit") (st := KT.sFit) KX G ?a18 ?l18 ?c18 ?k18) (fun D17 => ?_)
    case a18 => k_is
    case l18 => k_is
    case c18 => k_is
    case k18 => k_is
    refine' KT.two (KT.def_mk (x := "_law_fresh") (st := KT.sFresh) KX G ?a19 ?l19 ?c19 ?k19) (fun D18 => ?_)
    case a19 => k_is
    case l19 => k_is
    case c19 => k_is
    case k19 => k_is
    refine' KT.two (KT.def_mk (x := "_law_take") (st := KT.sTake) KX G ?a20 ?l20 ?c20 ?k20) (fun D19 => ?_)
    case a20 => k_is
    case l20 => k_is
    case c20 => k_is
    case k20 => k_is
    refine' KT.two (KT.def_mk (x := "_law_one") (st := KT.sOne) KX G ?a21 ?l21 ?c21 ?k21) (fun D20 => ?_)
    case a21 => k_is
    case l21 => k_is
    case c21 => k_is
    case k21 => k_is
    refine' KT.two (KT.def_mk (x := "_law_mix") (st := KT.sMix) KX G ?a22 ?l22 ?c22 ?k22) (fun D21 => ?_)
    case a22 => k_is
    case l22 => k_is
    case c22 => k_is
    case k22 => k_is
    refine' KT.two (KT.def_mk (x := "_law_same") (st := KT.sSame) KX G ?a23 ?l23 ?c23 ?k23) (fun D22 => ?_)
    case a23 => k_is
    case l23 => k_is
    case c23 => k_is
    case k23 => k_is
    refine' KT.two (KT.def_mk (x := "_law_words") (st := KT.sWords) KX G ?a24 ?l24 ?c24 ?k24) (fun D23 => ?_)
    case a24 => k_is
    case l24 => k_is
    case c24 => k_is
    case k24 => k_is
    refine' KT.two (KT.def_mk (x := "_law_rows") (st := KT.sRows) KX G ?a25 ?l25 ?c25 ?k25) (fun D24 => ?_)
    case a25 => k_is
    case l25 => k_is
    case c25 => k_is
    case k25 => k_is
    refine' KT.two (KT.def_mk (x := "_law_many") (st := KT.sMany) KX G ?a26 ?l26 ?c26 ?k26) (fun D25 => ?_)
    case a26 => k_is
    case l26 => k_is
    case c26 => k_is
    case k26 => k_is
    refine' KT.two (KT.def_mk (x := "_law_labels") (st := KT.sLabels) KX G ?a27 ?l27 ?c27 ?k27) (fun D26 => ?_)
    case a27 => k_is
    case l27 => k_is
    case c27 => k_is
    case k27 => k_is
    refine' KT.two (KT.def_mk (x := "_law_tree") (st := KT.sTree) KX G ?a28 ?l28 ?c28 ?k28) (fun D27 => ?_)
    case a28 => k_is
    case l28 => k_is
    case c28 => k_is
    case k28 => k_is
    refine' KT.two (KT.def_mk (x := "_law_at") (st := KT.sAt) KX G ?a29 ?l29 ?c29 ?k29) (fun D28 => ?_)
    case a29 => k_is
    case l29 => k_is
    case c29 => k_is
    case k29 => k_is
    refine' KT.two (KT.def_mk (x := "_law_loose") (st := KT.sLoose) KX G ?a30 ?l30 ?c30 ?k30) (fun D29 => ?_)
    case a30 => k_is
    case l30 => k_is
    case c30 => k_is
    case k30 => k_is
    refine' KT.two (KT.def_mk (x := "_law_holes") (st := KT.sHoles) KX G ?a31 ?l31 ?c31 ?k31) (fun D30 => ?_)
    case a31 => k_is
    case l31 => k_is
    case c31 => k_is
    case k31 => k_is
    refine' KT.two (KT.def_mk (x := "_law_spots") (st := KT.sSpots) KX G ?a32 ?l32 ?c32 ?k32) (fun D31 => ?_)
    case a32 => k_is
    case l32 => k_is
    case c32 => k_is
    case k32 => k_is
    refine' KT.two (KT.def_mk (x := "_law_shape") (st := KT.sShape) KX G ?a33 ?l33 ?c33 ?k33) (fun D32 => ?_)
    case a33 => k_is
    case l33 => k_is
    case c33 => k_is
    case k33 => k_is
    refine' KT.two (KT.def_mk (x := "_law_unlike_holes") (st := KT.sUnl) KX G ?a34 ?l34 ?c34 ?k34) (fun D33 => ?_)
    case a34 => k_is
    case l34 => k_is
    case c34 => k_is
    case k34 => k_is
    refine' KT.two (KT.def_mk (x := "_law_left") (st := KT.sLeft) KX G ?a35 ?l35 ?c35 ?k35) (fun D34 => ?_)
    case a35 => k_is
    case l35 => k_is
    case c35 => k_is
    case k35 => k_is
    refine' KT.two (KT.def_mk (x := "_law_right") (st := KT.sRight) KX G ?a36 ?l36 ?c36 ?k36) (fun D35 => ?_)
    case a36 => k_is
    case l36 => k_is
    case c36 => k_is
    case k36 => k_is
    refine' KT.two (KT.def_mk (x := "_law_rule") (st := KT.sRule) KX G ?a37 ?l37 ?c37 ?k37) (fun D36 => ?_)
    case a37 => k_is
    case l37 => k_is
    case c37 => k_is
    case k37 => k_is
    refine' KT.two (KT.def_mk (x := "_law_rule_of") (st := KT.sRO) KX G ?a38 ?l38 ?c38 ?k38) (fun D37 => ?_)
    case a38 => k_is
    case l38 => k_is
    case c38 => k_is
    case k38 => k_is
    refine' KT.two (KT.def_mk (x := "_law_within") (st := KT.sWi) KX G ?a39 ?l39 ?c39 ?k39) (fun D38 => ?_)
    case a39 => k_is
    case l39 => k_is
    case c39 => k_is
    case k39 => k_is
    refine' KT.two (KT.def_mk (x := "_law_lies") (st := KT.sLi) KX G ?a40 ?l40 ?c40 ?k40) (fun D39 => ?_)
    case a40 => k_is
    case l40 => k_is
    case c40 => k_is
    case k40 => k_is
    refine' KT.two (KT.def_mk (x := "_law_fits") (st := KT.sFs) KX G ?a41 ?l41 ?c41 ?k41) (fun D40 => ?_)
    case a41 => k_is
    case l41 => k_is
    case c41 => k_is
    case k41 => k_is
    refine' KT.two (KT.def_mk (x := "_law_filled") (st := KT.sFl) KX G ?a42 ?l42 ?c42 ?k42) (fun D41 => ?_)
    case a42 => k_is
    case l42 => k_is
    case c42 => k_is
    case k42 => k_is
    refine' KT.two (KT.def_mk (x := "law") (st := KT.sLaw) KX G ?a43 ?l43 ?c43 ?k43) (fun DL => ?_)
    case a43 => k_is
    case l43 => k_is
    case c43 => k_is
    case k43 => k_is
    refine' KT.two (KT.ns_mk (x := "Rule") KX G ?h44) (fun hC => ?_)
    case h44 => k_is
    refine' KT.two (KT.mk_mk KX hC ?m45a ?m45b ?m45c ?m45d) (fun Mk0 => ?_)
    case m45a => k_is
    case m45b => k_is
    case m45c => k_is
    case m45d => k_is
    refine' KT.two (KT.init_mk Mk0 ?n45a ?n45b ?n45c ?n45d) (fun Q0 => ?_)
    case n45a => k_is
    case n45b => k_is
    case n45c => k_is
    case n45d => k_is
    refine' KT.two (KT.me_mk (m := "holes") KX hC ?m46a ?m46b ?m46c) (fun Me1 => ?_)
    case m46a => k_is
    case m46b => k_is
    case m46c => k_is
    refine' KT.two (KT.fm_mk (x := "holes") (qual := "Rule.holes") (st := KT.sRH) Me1 ?n46a ?n46b) (fun M1 => ?_)
    case n46a => k_is
    case n46b => k_is
    refine' KT.two (KT.me_mk (m := "kind") KX hC ?m47a ?m47b ?m47c) (fun Me2 => ?_)
    case m47a => k_is
    case m47b => k_is
    case m47c => k_is
    refine' KT.two (KT.fm_mk (x := "kind") (qual := "Rule.kind") (st := KT.sRK) Me2 ?n47a ?n47b) (fun M2 => ?_)
    case n47a => k_is
    case n47b => k_is
    refine' KT.two (KT.me_mk (m := "bar") KX hC ?m48a ?m48b ?m48c) (fun Me3 => ?_)
    case m48a => k_is
    case m48b => k_is
    case m48c => k_is
    refine' KT.two (KT.fm_mk (x := "bar") (qual := "Rule.bar") (st := KT.sRB) Me3 ?n48a ?n48b) (fun M3 => ?_)
    case n48a => k_is
    case n48b => k_is
    refine' KT.two (KT.lr_mk KX hC ?f49_0 ?f49_1 ?f49_2 ?f49_3 ?f49_4 ?f49_5 ?f49_6 ?f49_7) (fun L => ?_)
    case f49_0 => k_is
    case f49_1 => k_is
    case f49_2 => k_is
    case f49_3 => k_is
    case f49_4 => k_is
    case f49_5 => k_is
    case f49_6 => k_is
    case f49_7 => k_is
    have T : KT.Blt7 mg := { len := PySem.W.mg_none_of KX G (by k_is), abs := PySem.W.mg_none_of KX G (by k_is), int := PySem.W.mg_none_of KX G (by k_is), list := PySem.W.mg_none_of KX G (by k_is), isi := PySem.W.mg_none_of KX G (by k_is), tup := PySem.W.mg_none_of KX G (by k_is), boo := PySem.W.mg_none_of KX G (by k_is), all := PySem.W.mg_none_of KX G (by k_is), zip := PySem.W.mg_none_of KX G (by k_is), ran := PySem.W.mg_none_of KX G (by k_is), enu := PySem.W.mg_none_of KX G (by k_is), str := PySem.W.mg_none_of KX G (by k_is), dic := PySem.W.mg_none_of KX G (by k_is), any := PySem.W.mg_none_of KX G (by k_is), set := PySem.W.mg_none_of KX G (by k_is), srt := PySem.W.mg_none_of KX G (by k_is) }
    refine' KT.two (KT.cn_mk (x := "LETTERS") KX G ?q50) (fun g1 => ?_)
    case q50 => k_is
    refine' KT.two (KT.cn_mk (x := "LONGEST_WORD") KX G ?q51) (fun g2 => ?_)
    case q51 => k_is
    refine' KT.two (KT.cn_mk (x := "KEEP") KX G ?q52) (fun g3 => ?_)
    case q52 => k_is
    exact KT.all_ok KX G hmg T ⟨⟨_, g1, ⟨_, rfl⟩⟩, ⟨_, g2, ⟨_, rfl⟩⟩, ⟨_, g3, ⟨_, rfl⟩⟩⟩ L hC D0 D1 D2 D3 D4 D5 D6 D7 D8 D9 D10 D11 D12 D13 D14 D15 D16 D17 D18 D19 D20 D21 D22 D23 D24 D25 D26 D27 D28 D29 D30 D31 D32 D33 D34 D35 D36 D37 D38 D39 D40 D41 DL Mk0 Q0 Me1 Me2 Me3 M1 M2 M3 rfl rfl rfl rfl rfl rfl rfl rfl rfl rfl rfl rfl rfl rfl rfl rfl rfl rfl rfl rfl rfl rfl rfl rfl rfl rfl rfl rfl rfl rfl rfl rfl rfl rfl rfl rfl rfl rfl rfl rfl rfl rfl rfl rfl rfl
