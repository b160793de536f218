import PyProof.Rows.All
import Wide.All
import OpenK.AllK
import Wide.FinOn
import HandS.ForMost
import HandS.Codes
import HandS.Wide
import HandS.ExcInit
import HandS.ExcField
import KE.KExcSuper
import KE.KExcIs
import HandS.IsInst
import HandS.ExcIs
import HandS.Zip
import HandS.Style
import HandS.DeepEq
import PySem.Challenge.RW_secondruns_k01_errors_made
set_option Elab.async false
set_option linter.all false
set_option maxRecDepth 100000
set_option maxHeartbeats 4000000
namespace KA
open PySem PySem.Spec PyProof.Rows L2 C8
def top (i : Nat) : Stmt := PySem.Challenge.pw_secondruns_k01_errors_made.main.body.getD i (.Pass ⟨0, 0, 0, 0⟩)
abbrev sFresh : Stmt := top 25
abbrev sTake : Stmt := top 26
abbrev sOne : Stmt := top 27
example : (match sFresh with | .FunctionDef (name := n) .. => n | _ => "") = ("_law_fresh" : Str) := by rfl

/-- the state of the draws, at a -/
def StAt (B : Nat) (H : Hp) (a : Addr) : Prop := ∃ (l : Addr) (ns : List Int) (i c h n : Int), H a = some (.lst [.ref l, .int i, .int c, .int h, .int n]) ∧ H l = some (.lst (ns.map V.int)) ∧
  0 ≤ i ∧ 0 ≤ c ∧ 0 ≤ h ∧ h < 2147483647 ∧ 0 ≤ n ∧ n ≤ B ∧ ns.length ≤ 40
/-- all but what stands at a is as it was -/
def But (a : Addr) (H H' : Hp) : Prop := ∀ b o, H b = some o → b ≠ a → H' b = some o
theorem iteBt {c : Bool} {A B : Prop} (hc : c = true) (h : A) : if c = true then A else B := by rw [if_pos hc]; exact h
theorem iteBf {c : Bool} {A B : Prop} (hc : c = false) (h : B) : if c = true then A else B := by rw [if_neg (by rw [hc]; exact Bool.false_ne_true)]; exact h
def spTake : Sp := fun vs H Q _ => ∃ (a : Addr) (m : Int) (B : Nat), vs = [.ref a, .int m] ∧ 0 < m ∧ m < 1073741824 ∧ StAt B H a ∧ B < 1000000000000000 ∧
  ∀ (d : Int) (H' : Hp), 0 ≤ d → d < m → StAt (B + 1) H' a → But a H H' → Q (.int d) H'
theorem scTake : FnScope ["_law_state", "_law_many", "_law_cell", "_law_digit", "_law_one_here", "_law_two"] ["_law_state", "_law_many"] (fnScope sTake) := fnScope_by (by decide +kernel)
section
variable {P : Program} {w : World} {K : PySem.W.Frag} {mg : Str → Option Value} {base : Heap}
structure Blt (mg : Str → Option Value) : Prop where
  len : mg "len" = none
  abs : mg "abs" = none
  int : mg "int" = none
  list : mg "list" = none
theorem c_take {f : Addr} {fd : FuncData} (F : Def K mg "_law_take" sTake f fd) (b : Binds K fd ["_law_state", "_law_many"] []) (T : Blt mg) : Cal P w K mg base 1 "_law_take" spTake [] := by
  refine cal0 F b .nil scTake (fun vs H Q E h => ?_) (fun cdv A outer s H vs Q E hr h => ?_)
  · obtain ⟨a, m, B, rfl, _⟩ := h
    rfl
  · obtain ⟨a, m, B, rfl, m0, m1, ⟨l, ns, i, c, h, n, ha, hl, i0, c0, h0, h1, n0, n1, nl⟩, hB, k⟩ := h
    have nd := scTake.nd
    refine ⟨_, pss_cons (ps_asg (pe_op op_add (pe_ix ix_list (pv 0) pe_int fun _ _ => rfl) pe_int) (pg_sub (pv 0) pe_int set_list))
      (pss_cut (ps_while PassesOwn.never
          (pw_and (pt_cmp (pc_eqI (pe_ix ix_list (pv 0) pe_int fun _ _ => rfl) pe_int))
            (pw_and1 (pt_cmp (pc_lt (pe_ix ix_list (pv 0) pe_int fun _ _ => rfl) (pe_callB call_len_seq (by rfl) T.len PySem.boot_len (pa_cons (pe_ix ix_list (pv 0) pe_int fun _ _ => rfl) pa_nil)))))).pt
          (pss_cons (ps_set (i := 2) nd rfl (Or.inl rfl) (pe_callB call_abs (by rfl) T.abs (by decide +kernel) (pa_cons (pe_ix ix_list (pe_ix ix_list (pv 0) pe_int fun _ _ => rfl) (pe_ix ix_list (pv 0) pe_int fun _ _ => rfl) fun _ _ => rfl) pa_nil)))
          (pss_cons (ps_asg (pe_op op_add (pe_ix ix_list (pv 0) pe_int fun _ _ => rfl) pe_int) (pg_sub (pv 0) pe_int set_list))
          (pss_one (ps_if (pt_cmp (pc_ge (pv 2) (pe_op op_pow pe_int pe_int)))
            (pss_one (ps_asg (pv 2) (pg_sub (pv 0) pe_int set_list)))
            (pss_one (ps_asg (pe_op op_mod (pe_callTy call_int1 (by rfl) T.int (by decide +kernel) (pa_cons (pe_op op_add (pe_op op_add (pe_op op_mul (pe_ix ix_list (pv 0) pe_int fun _ _ => rfl) pe_int) (pv 2)) pe_int) pa_nil)) pe_int) (pg_sub (pv 0) pe_int set_list))))))))
      (pss_cons (ps_if (pt_cmp (pc_gt (pe_ix ix_list (pv 0) pe_int fun _ _ => rfl) pe_int))
          (pss_cons (ps_set (i := 3) nd rfl (Or.inl rfl) (pe_op op_mod (pe_callTy call_int1 (by rfl) T.int (by decide +kernel) (pa_cons (pe_ix ix_list (pv 0) pe_int fun _ _ => rfl) pa_nil)) (pv 1)))
          (pss_cons (ps_asg (pe_op op_fdiv (pe_ix ix_list (pv 0) pe_int fun _ _ => rfl) (pv 1)) (pg_sub (pv 0) pe_int set_list))
          (pss_one (ps_ret (pv 3))))) pss_nil)
      (pss_cons (ps_set (i := 4) nd rfl (Or.inl rfl) (pe_op op_mod (pe_callTy call_int1 (by rfl) T.int (by decide +kernel) (pa_cons (pe_op op_pow (pe_op op_add (pe_op op_add (pe_ix ix_list (pv 0) pe_int fun _ _ => rfl) (pe_op op_mul pe_int (pe_ix ix_list (pv 0) pe_int fun _ _ => rfl))) pe_int) pe_int) pa_nil)) pe_int))
      (pss_cons (ps_set (i := 5) nd rfl (Or.inl rfl) (pe_op op_mod (pe_callTy call_int1 (by rfl) T.int (by decide +kernel) (pa_cons (pe_op op_pow (pe_op op_add (pv 4) (pe_op op_mul pe_int (pe_ix ix_list (pv 0) pe_int fun _ _ => rfl))) pe_int) pa_nil)) pe_int))
      (pss_one (ps_ret (pe_op op_mod (pe_callTy call_int1 (by rfl) T.int (by decide +kernel) (pa_cons (pe_op op_fdiv (pv 5) pe_int) pa_nil)) (pv 1)))))))), ?_⟩
    have gA : ∀ xs : List V, (upd H a (.lst xs)) a = some (.lst xs) := fun _ => upd_same
    have nla : l ≠ a := ne_of hl ha (by intro z; have z' := congrArg (fun o : HO => match o with | .lst xs => xs.head? | _ => none) z; cases ns <;> cases z')
    have gl : ∀ o, (upd H a o) l = some (.lst (ns.map V.int)) := fun o => by rw [upd_ne nla]; exact hl
    have fin : ∀ (d i' c' h' : Int), 0 ≤ d → d < m → 0 ≤ i' → 0 ≤ c' → 0 ≤ h' → h' < 2147483647 → Q (.int d) (upd H a (.lst [.ref l, .int i', .int c', .int h', .int (n + 1)])) := fun d i' c' h' d0 d1 e1 e2 e3 e4 =>
      k d _ d0 d1 ⟨l, ns, i', c', h', n + 1, upd_same, gl _, e1, e2, e3, e4, by omega, by omega, nl⟩ fun b o e hb => by rw [upd_ne hb]; exact e
    -- _law_state[4] = _law_state[4] + 1
    refine ⟨_, rfl, a, _, 4, _, rfl, rfl, SqL.of ha, rfl, n, 1, rfl, rfl, _, rfl, a, _, 4, 4, rfl, rfl, ha, rfl, ?_⟩
    show tSeq _ _ _ _ (upd H a (.lst [.ref l, .int i, .int c, .int h, .int (n + 1)]))
    have rd : ∀ {xs : List V} {σ : L2.St} {z : Int} {v : V} {Q : VK}, σ[0]? = some (some (.ref a)) → atI xs z = some v → Q v (upd H a (.lst xs)) → tOp (rIxL K) (tVar 0) (tC (.int z)) σ (upd H a (.lst xs)) Q :=
      fun h1 h2 q => ⟨_, h1, a, _, _, _, rfl, rfl, SqL.of upd_same, h2, q⟩
    have st : ∀ {xs : List V} {σ : L2.St} {z : Int} {j : Nat} {v : V} {Q : L2.St → Hp → Prop}, σ[0]? = some (some (.ref a)) → ixN xs.length z = some j → Q σ (upd H a (.lst (xs.set j v))) → gSub (tVar 0) (tC (.int z)) rSetL v σ (upd H a (.lst xs)) Q :=
      fun h1 h2 q => ⟨_, h1, a, _, _, _, rfl, rfl, upd_same, h2, by rw [upd_upd]; exact q⟩
    -- while
    refine ⟨fun σ H' => ∃ (i c h : Int) (v2 : Option V), σ = [some (.ref a), some (.int m), v2, none, none, none] ∧ H' = upd H a (.lst [.ref l, .int i, .int c, .int h, .int (n + 1)]) ∧ 0 ≤ i ∧ 0 ≤ c ∧ 0 ≤ h ∧ h < 2147483647, ?_, ?_⟩
    · refine ⟨fun μ σ H' => ∃ (i c h : Int) (v2 : Option V), μ = ns.length - i.toNat ∧ σ = [some (.ref a), some (.int m), v2, none, none, none] ∧ H' = upd H a (.lst [.ref l, .int i, .int c, .int h, .int (n + 1)]) ∧ 0 ≤ i ∧ 0 ≤ c ∧ 0 ≤ h ∧ h < 2147483647,
        ⟨_, i, c, h, none, rfl, rfl, rfl, i0, c0, h0, h1⟩, ?_⟩
      rintro μ σ H' ⟨i, c, h, v2, rfl, rfl, rfl, i0, c0, h0, h1⟩
      refine rd rfl rfl ⟨c, 0, rfl, rfl, _, rfl, ?_⟩
      refine ite2 (fun hc => ?_) (fun hc => ?_)
      · refine rd rfl rfl (rd rfl rfl ⟨l, _, rfl, .inl (SqL.of (gl _)), i, _, rfl, rfl, _, rfl, ?_⟩)
        by_cases hi : i < ns.length
        · have hlt : i.toNat < ns.length := by omega
          have hx : atI (ns.map V.int) i = some (.int ns[i.toNat]) := at_of (j := i.toNat) (by omega) (by simp [hlt])
          refine iteBt (decide_eq_true (by rw [List.length_map]; exact hi)) ?_
          refine ⟨fun σ H' => ∃ (c h : Int) (v2 : Option V), σ = [some (.ref a), some (.int m), v2, none, none, none] ∧ H' = upd H a (.lst [.ref l, .int (i + 1), .int c, .int h, .int (n + 1)]) ∧ 0 ≤ c ∧ 0 ≤ h ∧ h < 2147483647, ?_, ?_⟩
          · rintro σ' H' ⟨c, h, v2, rfl, rfl, c0, h0, h1⟩
            exact ⟨_, by omega, i + 1, c, h, v2, rfl, rfl, rfl, by omega, c0, h0, h1⟩
          -- _law_cell = abs(..)
          refine rd rfl rfl (rd rfl rfl ⟨l, _, i, _, rfl, rfl, SqL.of (gl _), hx, _, rfl, ?_⟩)
          generalize hz : (if ns[i.toNat] < 0 then -ns[i.toNat] else ns[i.toNat]) = z
          have z0 : 0 ≤ z := by rw [← hz]; split <;> omega
          -- _law_state[1] = _law_state[1] + 1
          refine rd rfl rfl ⟨i, 1, rfl, rfl, st rfl rfl ?_⟩
          -- if
          refine ⟨_, rfl, 10, 18, rfl, rfl, ⟨by decide, by decide, by decide⟩, z, _, rfl, rfl, _, rfl, ite2 (fun _ => ?_) (fun _ => ?_)⟩
          · exact ⟨_, rfl, st rfl rfl ⟨z, h, some (.int z), rfl, rfl, z0, h0, h1⟩⟩
          · refine rd rfl rfl ⟨h, 131, rfl, rfl, .inl ⟨by omega, by omega⟩, _, rfl, _, _, rfl, rfl, _, _, rfl, rfl, .inl ⟨_, rfl, _, _, rfl, rfl, (by show (0 : Int) < 2147483647; decide), st rfl rfl ⟨c, _, some (.int z), rfl, rfl, c0, Int.emod_nonneg _ (by decide), Int.emod_lt_of_pos _ (by decide)⟩⟩⟩
        · refine iteBf (decide_eq_false (by rw [List.length_map]; exact hi)) ?_
          exact ⟨i, c, h, v2, rfl, rfl, i0, c0, h0, h1⟩
      · exact iteF ⟨i, c, h, v2, rfl, rfl, i0, c0, h0, h1⟩
    · rintro σ H' ⟨i, c, h, v2, rfl, rfl, i0, c0, h0, h1⟩
      refine rd rfl rfl ⟨c, 0, rfl, rfl, _, rfl, ite2 (fun hc => ?_) (fun hc => ?_)⟩
      · have hc : 0 < c := of_decide_eq_true hc
        refine rd rfl rfl (.inl ⟨c, rfl, _, rfl, c, m, rfl, rfl, m0, ?_⟩)
        refine rd rfl rfl ⟨_, rfl, c, m, rfl, rfl, ⟨m0, m1⟩, st rfl rfl ⟨_, rfl, ?_⟩⟩
        exact fin _ _ _ _ (Int.emod_nonneg _ (by omega)) (Int.emod_lt_of_pos _ m0) i0 (Int.ediv_nonneg c0 (by omega)) h0 h1
      · refine rd rfl rfl (rd rfl rfl ⟨7919, n + 1, rfl, rfl, .inl ⟨by decide, by decide⟩, h, _, rfl, rfl, _, 5, rfl, rfl, _, 3, rfl, rfl, ⟨by decide, by decide, by omega⟩, .inl ⟨_, rfl, _, _, rfl, rfl, (by show (0 : Int) < 1000000007; decide), ?_⟩⟩)
        generalize ho : (h + 7919 * (n + 1) + 5) ^ (3 : Int).toNat % 1000000007 = o
        have o0 : 0 ≤ o := by rw [← ho]; exact Int.emod_nonneg _ (by decide)
        have o1 : o < 1000000007 := by rw [← ho]; exact Int.emod_lt_of_pos _ (by decide)
        refine ⟨.int o, (by subst ho; rfl), rd rfl rfl ⟨31, n + 1, rfl, rfl, .inl ⟨by decide, by decide⟩, o, _, rfl, rfl, _, 3, rfl, rfl, ⟨by decide, by decide, by omega⟩, .inl ⟨_, rfl, _, _, rfl, rfl, (by show (0 : Int) < 998244353; decide), ?_⟩⟩⟩
        refine ⟨_, rfl, _, 3, rfl, rfl, ⟨by decide, by decide⟩, .inl ⟨_, rfl, _, rfl, _, m, rfl, rfl, m0, ?_⟩⟩
        exact fin _ _ _ _ (Int.emod_nonneg _ (by omega)) (Int.emod_lt_of_pos _ m0) i0 c0 h0 h1
end
end KA

/-! Making an own exception whose __init__ says super().__init__(text) and stores its parameters. -/
namespace XI
open PySem PySem.W PySem.Calls PyProof.Rows PySem.HandSPX
section
variable {prog : Program} {w : World} {M : Model} {A : Around} {E : Value → Shared → Prop} {hp : Heap} {g : Array GenState} {d : Drawn} {t : Nat} {os : OsState}
variable {cn cq : Str} {C N : Addr} {bs bm tl : List Value} {sn : List Str} {sub : List Value} {ab : Bool} {col : Option Bool} {dd : Option Addr} {k0 k1 k2 k3 k5 : Option Value} {B n0 n1 : String} {us : List Value} {kw : List (Str × Value)}
theorem chk (FB : ExcBaseFacts B n0 n1 tl) (ht : ∀ Y : String, bm.contains (.type Y) = tl.contains (.type Y)) {Q : Unit → Shared → Prop}
    (oC : hp.get? C = some (excClassObj cn cq C N bs bm true sn sub ab col dd k0 k1 k2 k3 k5 n0)) (q : Q () ⟨hp, g, d, t, os⟩) : wpAny M A (checkBuiltinCall n0 ⟨.ref C :: us, kw⟩) Q E ⟨hp, g, d, t, os⟩ := by
  have inB : (Value.ref C :: bm).contains (.type B) = true := by simp only [List.contains_cons, ht, FB.hasB, Bool.or_true]
  have st := FB.noStar
  simp only [checkBuiltinCall, FB.newKind, FB.newSplit, FB.newRow]
  repeat (first
    | (refine wpAny_isSubtype_exc oC ?_; rw [inB])
    | refine wpAny_loadPart_at oC ?_
    | refine wpAny_madeBy_exc oC ?_
    | refine wpAny_staticBase_exc oC ?_
    | wp_step
    | simp only [bne_self_eq_false, Bool.false_eq_true, if_false])
  exact q
theorem chkT {Q : Unit → Shared → Prop} (oC : hp.get? C = some (excClassObj cn cq C N bs bm true sn sub ab col dd k0 k1 k2 k3 k5 n0)) (q : Q () ⟨hp, g, d, t, os⟩) :
    wpAny M A (checkBuiltinCall "type.__call__" ⟨.ref C :: us, kw⟩) Q E ⟨hp, g, d, t, os⟩ := by
  have z := tc_sub
  have ty : (⟨hp, g, d, t, os⟩ : Shared).TypeIs (.ref C) "type" := ⟨_, oC, rfl⟩
  simp only [checkBuiltinCall, tc_kind, tc_split]
  repeat (any_goals (first
    | assumption
    | with_reducible refine wpAny_onRaise ?_
    | with_reducible refine wpAny_loadPart_at oC ?_
    | with_reducible refine wpAny_map ?_
    | wp_step))
end
section
variable {prog : Program} {w : World} {A : Around} {E : Value → Shared → Prop} {R : Result → Shared → Prop} {hp : Heap} {g : Array GenState} {d : Drawn} {t : Nat} {os : OsState}
variable {cn cq : Str} {C N fI : Addr} {bs bm tl : List Value} {sn : List Str} {sub : List Value} {ab : Bool} {col : Option Bool} {dd : Option Addr} {k0 k1 k2 k3 k5 : Option Value} {B n0 n1 : String} {us : List Value} {kw : List (Str × Value)}
/-- the tuple of the arguments, and the new exception behind it -/
abbrev two (hp : Heap) (C : Addr) (us : List Value) : Heap := (hp.push (kdv_tup us)).push (excO C hp.objs.size)
theorem newE (FB : ExcBaseFacts B n0 n1 tl) (ht : ∀ Y : String, bm.contains (.type Y) = tl.contains (.type Y)) (oC : hp.get? C = some (excClassObj cn cq C N bs bm true sn sub ab col dd k0 k1 k2 k3 k5 n0)) (hl : us.length ≤ sizeLine)
    (q : R (.ok (.ret (.ref (hp.objs.size + 1)))) ⟨two hp C us, g, d, t, os⟩) : codeAny (model prog w) A (.builtin n0 ⟨.ref C :: us, kw⟩) R ⟨hp, g, d, t, os⟩ := by
  have en := FB.ends
  have inB : (Value.ref C :: bm).contains (.type B) = true := by simp only [List.contains_cons, ht, FB.hasB, Bool.or_true]
  have noA : (Value.ref C :: bm).contains (.type "AttributeError") = false := by rw [List.contains_cons, ht, FB.noAttr] <;> rfl
  have noN : (Value.ref C :: bm).contains (.type "NameError") = false := by rw [List.contains_cons, ht, FB.noName] <;> rfl
  refine codeAny_builtinAt FB.entry ?_
  unfold Builtin.«BaseException.__new__»
  refine PySem.wpAt_bind ?_
  show PySem.wpAt _ _ _ (stack >>= _) _ _ _
  refine PySem.wpAt_bind (PySem.wpAt_stack fun p below => PySem.wpAt_of_wpAny ?_)
  wp_walk
  refine PySem.wpAt_of_wpAny ?_
  rw [FB.owner]
  repeat (first
    | (with_reducible refine wpAny_isSubtype_exc oC ?_; first | rw [inB] | rw [noA] | rw [noN])
    | with_reducible refine wpAny_madeHere_exc FB.canon oC ?_
    | with_reducible refine wpAny_loadPart_at oC ?_
    | wp_step)
  show R _ _
  rw [Heap.size_push]
  exact q
theorem tcall (FB : ExcBaseFacts B n0 n1 tl) (ht : ∀ Y : String, bm.contains (.type Y) = tl.contains (.type Y)) {Q : Fin → Shared → Prop}
    (oC : hp.get? C = some (excClassObj cn cq C N bs bm true sn sub ab col dd k0 k1 k2 k3 k5 n0)) (li : Looks (model prog w) hp (typeLookup (.ref C) "__init__") (some (.ref fI)))
    (lb : ∀ self, Looks (model prog w) hp (bindSpecial (.ref fI) self) (.ref fI, [self])) (hl : us.length ≤ sizeLine)
    (q : codeAny (model prog w) A (.call (.ref fI) ⟨.ref (hp.objs.size + 1) :: us, kw⟩) (fun r s' => match r with | .ok (.ret v) => v = .none ∧ Q (.done (.ret (.ref (hp.objs.size + 1)))) s' | .ok _ => False | .error e => E e s') ⟨two hp C us, g, d, t, os⟩) :
    wpAny (model prog w) A (Builtin.«type.__call__» ⟨.ref C :: us, kw⟩) Q E ⟨hp, g, d, t, os⟩ := by
  repeat (first
    | with_reducible refine wpAny_madeBy_exc oC ?_
    | with_reducible refine wpAny_loadPart_at oC ?_
    | wp_step)
  refine codeAny_call_builtin_code (Code.quiet_builtin _ FB.quiet) (chk FB ht oC ?_)
  refine newE FB ht oC hl ?_
  show wpAny _ _ _ _ _ _
  have kp : ∀ b o, hp.get? b = some o → (two hp C us).get? b = some o := fun b o e => Heap.get?_push_of_some _ (Heap.get?_push_of_some _ e)
  have oC1 := kp _ _ oC
  have oX : (two hp C us).get? (hp.objs.size + 1) = some (excO C hp.objs.size) := by heap_get
  have inC : (Value.ref C :: bm).contains (.ref C) = true := by simp
  have li1 := li.keeps kp
  have lb1 := (lb (.ref (hp.objs.size + 1))).keeps kp
  unfold isInstance
  repeat (first
    | (with_reducible refine wpAny_isSubtype_exc oC1 ?_; rw [inC])
    | with_reducible refine wpAny_loadPart_at oX ?_
    | wp_step)
  show wpAny _ _ (typeLookup (.ref C) _) _ _ _
  refine li1.at (wpAny_holding (wpAny_bind (lb1.at ?_)))
  refine wpAny_bind (wpAny_call (codeAny_mono q fun r s' z => ?_))
  rcases r with e | (v | _ | _ | _) <;> first | exact z | exact z.elim | skip
  obtain ⟨rfl, z⟩ := z
  first
    | exact wpAny_pure (wpAny_pure z)
    | (wp_walk; exact z)
/-- C(us, kw): the new exception, then its own __init__ -/
theorem callE (FB : ExcBaseFacts B n0 n1 tl) (ht : ∀ Y : String, bm.contains (.type Y) = tl.contains (.type Y))
    (oC : hp.get? C = some (excClassObj cn cq C N bs bm true sn sub ab col dd k0 k1 k2 k3 k5 n0)) (li : Looks (model prog w) hp (typeLookup (.ref C) "__init__") (some (.ref fI)))
    (lb : ∀ self, Looks (model prog w) hp (bindSpecial (.ref fI) self) (.ref fI, [self])) (hl : us.length ≤ sizeLine)
    (q : codeAny (model prog w) (A.under (.builtin "type.__call__" ⟨.ref C :: us, kw⟩)) (.call (.ref fI) ⟨.ref (hp.objs.size + 1) :: us, kw⟩) (InitBack (hp.objs.size + 1) R) ⟨two hp C us, g, d, t, os⟩) :
    codeAny (model prog w) A (.call (.ref C) ⟨us, kw⟩) R ⟨hp, g, d, t, os⟩ := by
  have z1 := tc_lookup
  have z2 := tc_bind (.ref C)
  have ty : (⟨hp, g, d, t, os⟩ : Shared).TypeIs (.ref C) "type" := ⟨_, oC, rfl⟩
  refine codeAny_of_tree ?_
  show wpAny _ _ (callAny (.ref C) _) _ _ _
  repeat (any_goals (first
    | assumption
    | with_reducible refine wpAny_loadPart_at oC ?_
    | wp_step))
  refine ⟨rfl, codeAny_call_builtin_at (Code.quiet_builtin _ (by decide +kernel)) entry_typeCall (chkT oC (tcall FB ht oC li lb hl (codeAny_mono q fun r s' z => ?_)))⟩
  rcases r with e | (v | _ | _ | _) <;> exact z
end
end XI

namespace XI
open PySem PySem.W PySem.Calls PyProof.Rows PySem.HandSPX
section
variable {prog : Program} {w : World} {A : Around} {E : Value → Shared → Prop} {R : Result → Shared → Prop} {s : Shared} {K : Frag} {mg mb : Str → Option Value} {C fI cc cda x L t0 : Addr} {qual tx : Str} {scope : Scope} {params : Arguments} {body : List Stmt}
/-- behind the wrapper's call the args are laid anew -/
theorem wrapCall {cn cq : Str} {N u : Addr} {bs bm tl : List Value} {sn : List Str} {sub : List Value} {ab : Bool} {col : Option Bool} {dd : Option Addr} {k0 k1 k2 k3 k5 : Option Value} {B n0 n1 : String} {us : List Value} {Q : Value → Shared → Prop}
    (FB : ExcBaseFacts B n0 n1 tl) (oC : s.heap.get? C = some (excClassObj cn cq C N bs bm true sn sub ab col dd k0 k1 k2 k3 k5 n0)) (ox : s.heap.get? x = some (excO C t0)) (ou : s.heap.get? u = some (kxs_mw n1 x)) (hl : us.length ≤ sizeLine)
    (q : ∀ h' t1, (∀ b o, b ≠ x → s.heap.get? b = some o → h'.get? b = some o) → h'.get? x = some (excO C t1) → Q .none { s with heap := h' }) : wpAny (model prog w) A (call (.ref u) us) Q E s := by
  obtain ⟨hp, g, d, tk, os⟩ := s
  refine wpAny_call (codeAny_of_tree ?_)
  show wpAny _ A.in1 (callAny (.ref u) ⟨us, []⟩) _ _ _
  simp only [callAny]
  refine wpAny_bind (wpAny_load ou ?_)
  simp only [show (Value.type "method-wrapper" == Value.type "method" || Value.type "method-wrapper" == Value.type "builtin_function_or_method" || Value.type "method-wrapper" == Value.type "method-wrapper") = true by decide, if_true, kxs_mw]
  refine KFB.if_so (by decide) (wpAny_bind (check_bound_init FB.toExcCallFacts oC ox rfl (wpAny_bind (wpAny_pure (wpAny_pure ⟨plainId_quiet FB.init.plain _, codeAny_builtin FB.initEntry ?_⟩)))))
  exact exc_init_tree (t0 := t0) (cls := .ref C) (dv := none) (c2 := .none) (c3 := .none) (b4 := .bool false) ox hl fun h' kp e _ => q h' _ kp e
theorem superPart {p0 p1 p2 p3 p4 p5 : Pos} {k : Nat} {Q : Flow → Shared → Prop} {oc od doc pm an ct osl dV kV} {cl : Value} {cld : Option Addr} {csl : Array (Option Value)} {ccl : Value} {cdd : Option Addr} {ccs : Array (Option Value)} {vs : Array Value} {file : Str} {tf : Tok} {m : Str → Option Value}
    (X : K.In s.heap) (gl : s.heap.Ns mainGlobals mg) (bl : s.heap.Ns builtinsNs mb) (hbb : ∀ y : Str, y ≠ "__name__" → mb y = bootBuiltins y) (hsu : mg "super" = none)
    (hf : K.lookup fI = some ⟨oc, od, .func (ksFn "__init__" qual params body scope dV kV doc pm an (.ref cda) ct cc), osl⟩) (hp1 : ∃ ar, (params.posonlyargs ++ params.args).head? = some ar ∧ ar.arg = ("self" : Str))
    (hcell : K.lookup cc = some ⟨cl, cld, .cell (some (.ref C)), csl⟩) (hcode : K.lookup cda = some ⟨ccl, cdd, .fields vs, ccs⟩) (hvs : vs[2]? = some (.str file tf)) (hfile : ((prog.main.file : Str) == file) = true)
    (htop : (prog.main.scope.names.lookup ("super" : Str)).isSome = false)
    (T : L2.OexC K C) (hsup : ks_superIn K C C "__init__" = some (some (.builtin "ValueError.__init__"))) (hop : nsIn K cStatics "thirdparty.any" = some none) (hB : subIn K (.ref C) (.type "ValueError") = some true) (hmr : mroIn K C (.ref C) = some true)
    (hks : scope.names.lookup ("super" : Str) = some .globalImplicit) (hkc : scope.names.lookup ("__class__" : Str) = some .free) (hka : scope.names.lookup ("self" : Str) = some .local) (hk : scope.kind = .function)
    (ns : s.heap.Ns L m) (hm : m "self" = some (.ref x)) (ox : s.heap.get? x = some (excO C t0)) (nx : K.lookup x = none)
    (q : ∀ h' t' t1, (∀ b o, b ≠ x → s.heap.get? b = some o → h'.get? b = some o) → h'.get? x = some (excO C t1) → Q .next { s with heap := h', toks := t' })
    {pl : Sem Bool} (he : eval (.Call (.Attribute (.Call (.Name "super" p0) [] [] p1) "__init__" p2) [.Constant (.str tx) k p3] [] p4) (ksEnv qual scope L fI (.ref cda) cc) = (do
      let ov ← attributeBase (.Call (.Name "super" p0) [] [] p1) "__init__" (ksEnv qual scope L fI (.ref cda) cc) (eval (.Call (.Name "super" p0) [] [] p1) (ksEnv qual scope L fI (.ref cda) cc))
      standAt p2.atName
      let (fx, first) ← holding [ov] (getMethod ov "__init__" pl)
      callWith p4 fx first (backTo p4 (starEach [.Constant (.str tx) k p3] (ksEnv qual scope L fI (.ref cda) cc))) [])) (hsw : swapsWith (.Call (.Attribute (.Call (.Name "super" p0) [] [] p1) "__init__" p2) [.Constant (.str tx) k p3] [] p4) none p5.line (ksEnv qual scope L fI (.ref cda) cc) = pure false) :
    PySem.wpAt (model prog w) A (.func body (ksEnv qual scope L fI (.ref cda) cc)) (exec (.Expr (.Call (.Attribute (.Call (.Name "super" p0) [] [] p1) "__init__" p2) [.Constant (.str tx) k p3] [] p4) p5) (ksEnv qual scope L fI (.ref cda) cc)) Q E s := by
  obtain ⟨nm, qq, N, bs, bm, sn, sub, ab, col, dd, k0, k1, k2, k3, k5, hC, hbm⟩ := T.cls
  have hcl : clsIn K C = some { name := nm, bases := bs, mro := .ref C :: bm, ns := N, qualname := qq, hasDict := true, slotNames := sn, subclasses := sub, abstract := ab, collection := col, hasDel := false } := by unfold clsIn; rw [hC] <;> rfl
  obtain ⟨ar, har, hara⟩ := hp1
  have hxC : x ≠ C := fun z => by
    rw [z, hC] at nx
    cases nx
  obtain ⟨hp, g, d, t, os⟩ := s
  have oC : hp.get? C = _ := X _ _ hC
  refine ks_wpAt_Expr_any (ks_wpAt_MethodCall ?_ he) (by simp [interactive, hk]) hsw
  refine ks_wpAt_super_base hks hkc (by decide +kernel) rfl (X _ _ hf) rfl har rfl (X _ _ hcode) rfl hvs hfile htop ?_
  refine ks_loadName_global hk hks (loadGlobal_builtin gl hsu bl ((hbb _ (by decide +kernel)).trans (by decide +kernel)) ⟨rfl, ?_⟩)
  refine wpAny_loadName_free hk hkc rfl ⟨_, X _ _ hcell, rfl⟩ ?_
  rw [hara]
  refine wpAny_loadName_local hk hka ns hm ?_
  refine ks_wpAny_isType_cls oC rfl ⟨rfl, ?_⟩
  refine ks_wpAny_call_super oC rfl ox rfl (fun c e => by cases e) (looks_mroIn X hmr) fun h1 e1 kp1 => ?_
  have X1 : K.In h1 := X.keeps kp1
  have I1 : InstAt h1 x (excO C t0) C none := ⟨kp1 _ _ ox, rfl, rfl, trivial⟩
  have al : alongIn K "__init__" (((Value.ref C :: bm).dropWhile (· != .ref C)).drop 1) = some (some (.builtin "ValueError.__init__")) := by
    have z := hsup
    unfold ks_superIn at z
    rw [hcl] at z
    exact z
  refine kxs_getMethod kxs_ValueError (K := K) e1 (looks_opaque X1 hop) ((looks_clsIn X1 hcl).andThen .now) rfl X1 al (I1.type.andThen (looks_subIn X1 hB)) hxC (by decide +kernel) ?_
  have kp2 : ∀ b o, hp.get? b = some o → (h1.push (kxs_mw "ValueError.__init__" x)).get? b = some o := fun b o e => Heap.get?_push_of_some _ (kp1 _ _ e)
  have ou : (h1.push (kxs_mw "ValueError.__init__" x)).get? h1.objs.size = some (kxs_mw "ValueError.__init__" x) := Heap.get?_push_at rfl rfl
  refine kxs_callWith (i := "ValueError.__init__") (x := x) rfl (evalArgs_plain ?_)
  refine spliced_cons (Constant_str (k := k) (pos := p3) (spliced_nil ⟨ou, ?_⟩))
  exact wrapCall PySem.F.excBase_ValueError (kp2 _ _ oC) (kp2 _ _ ox) ou (by show 1 ≤ sizeLine; decide) fun h' t1 kq ex => q h' _ t1 (fun b o hb e => kq b o hb (kp2 b o e)) ex
/-- the rows self.f = f -/
inductive Stores : List Str → List Stmt → Prop where
  | nil : Stores [] []
  | cons {f : Str} {q1 q2 q3 q4 : Pos} {fs : List Str} {b : List Stmt} (h : Stores fs b) : Stores (f :: fs) (.Assign [.Attribute (.Name "self" q1) f q2] (.Name f q3) q4 :: b)
/-- an exception at x of the class at C, made since h: what its attributes are -/
structure ExAt (h h' : Heap) (L x C : Addr) (fs : List (Str × Value)) : Prop where
  keep : ∀ b o, b ≠ x → h.get? b = some o → h'.get? b = some o
  some0 : fs = [] → ∃ t1, h'.get? x = some (excO C t1)
  some1 : fs ≠ [] → ∃ t1 dx m0, h'.get? x = some { cls := .ref C, dict := some dx, data := .fields #[.ref t1, .none, .none, .none, .bool false, .none] } ∧ L < dx ∧ dx ≠ x ∧ h'.Ns1 dx m0 ∧ (∀ y, m0 y = fs.lookup y) ∧ Within m0 (fs.map (·.1))
theorem lookup_cons2 {α : Type} (y f : Str) (v : α) (fs : List (Str × α)) : ((f, v) :: fs).lookup y = if y = f then some v else fs.lookup y := by
  by_cases e : y = f
  · rw [if_pos e, List.lookup_cons, show (y == f) = true from beq_iff_eq.mpr e]
  · rw [if_neg e, List.lookup_cons, show (y == f) = false from beq_eq_false_iff_ne.mpr e]
theorem storesRun {hb : Heap} {env : Env} {m : Str → Option Value} {Q : Flow → Shared → Prop} (T : L2.OexC K C) (hk : env.scope.kind = .function) (hself : env.kindOf "self" = some .local) (hm : m "self" = some (.ref x)) (nx : K.lookup x = none) (hxL : x ≠ env.locals) (hLs : hb.objs.size ≤ env.locals)
    (hxs : x < hb.objs.size) (hKb : K.In hb) : ∀ (todo : List (Str × Value)) (b : List Stmt) (old : List (Str × Value)) (s : Shared), Stores (todo.map (·.1)) b → old.length + todo.length ≤ 900 → (∀ p ∈ todo, env.kindOf p.1 = some .local ∧ (p.1 == ("__debug__" : Str)) = false ∧ m p.1 = some p.2 ∧ findIn K (.ref C) p.1 = some none) →
      K.In s.heap → s.heap.Ns env.locals m → ExAt hb s.heap env.locals x C old → (∀ h' t', ExAt hb h' env.locals x C (todo.reverse ++ old) → Q .next { s with heap := h', toks := t' }) → wpAny (model prog w) A (execs b env) Q E s
  | [], _, old, s, .nil, _, _, _, _, D, q => wpAny_execs_nil (q s.heap s.toks D)
  | (f, v) :: todo, _, old, s, .cons hS, hl, hp, X, ns, D, q => by
    obtain ⟨nm, qq, N, bs, bm, sn, sub, ab, col, dd, k0, k1, k2, k3, k5, hC, hbm⟩ := T.cls
    have hcl : clsIn K C = some { name := nm, bases := bs, mro := .ref C :: bm, ns := N, qualname := qq, hasDict := true, slotNames := sn, subclasses := sub, abstract := ab, collection := col, hasDel := false } := by unfold clsIn; rw [hC] <;> rfl
    obtain ⟨l1, l2, l3, l4⟩ := hp (f, v) List.mem_cons_self
    have go : ∀ h' t', K.In h' → h'.Ns env.locals m → ExAt hb h' env.locals x C ((f, v) :: old) → wpAny (model prog w) A (execs _ env) Q E { s with heap := h', toks := t' } := fun h' t' X' ns' D' =>
      storesRun T hk hself hm nx hxL hLs hxs hKb todo _ ((f, v) :: old) { s with heap := h', toks := t' } hS (by simp only [List.length_cons] at hl ⊢; omega) (fun p hp' => hp p (List.mem_cons_of_mem _ hp')) X' ns' D' fun h2 t2 D2 => q h2 t2 (by rw [List.reverse_cons, List.append_assoc]; exact D2)
    refine wpAny_execs_cons (plainObj_wpAny_Assign_Attribute ?_)
    refine wpAny_Name (wpAny_loadName_local hk l1 ns l3 ?_) l2
    refine wpAny_Name (wpAny_loadName_local hk hself ns hm ?_) (by decide)
    obtain ⟨h, g, d, t, os⟩ := s
    have keepK : ∀ h' : Heap, (∀ b o, b ≠ x → h.get? b = some o → h'.get? b = some o) → K.In h' := fun h' kp a o e => kp a o (fun z => by rw [z, nx] at e; cases e) (X a o e)
    have hlt := ns.lt
    cases old with
    | nil =>
      obtain ⟨t1, ho⟩ := D.some0 rfl
      refine set_plain X (ox := excO C t1) (od := none) ⟨ho, rfl, rfl, trivial⟩ T.sa ?_
      refine exc_osa X ho hcl (show refsVE (.ref C :: bm) = true from hbm) rfl l4 fun h' tk' dx kp dn dne hx hn => ?_
      obtain ⟨oL, eL, pL, e1, e2⟩ := ns
      have hbd : env.locals < dx := Nat.lt_of_lt_of_le hlt dn
      refine go h' tk' (keepK h' kp) ⟨oL, eL, pL, kp _ _ (Ne.symm hxL) e1, e2⟩ ⟨fun b o hbx e => kp b o hbx (D.keep b o hbx e), (fun z => nomatch z), fun _ => ⟨t1, dx, _, hx, hbd, dne, hn, fun y => ?_, ?_⟩⟩
      · rw [lookup_cons2] <;> rfl
      · exact .cons f v .nil
    | cons p old =>
      obtain ⟨t1, dx, m0, ho, dn, dne, hns, hmap, hw⟩ := D.some1 (by simp)
      obtain ⟨oD, _, _, hoD, _, _⟩ := hns.count hw
      refine set_plain X (ox := { cls := .ref C, dict := some dx, data := .fields #[.ref t1, .none, .none, .none, .bool false, .none] }) (od := some oD) ⟨ho, rfl, rfl, hoD⟩ T.sa ?_
      refine PySem.OEX.osa_old X ho hns hw (by simp only [List.length_map, List.length_cons] at hl ⊢; omega) hcl (show refsVE (.ref C :: bm) = true from hbm) rfl l4 fun h' tk' kp hn => ?_
      obtain ⟨oL, eL, pL, e1, e2⟩ := ns
      refine go h' tk' (fun a o e => ?_) ⟨oL, eL, pL, kp _ _ (Nat.ne_of_lt dn) e1, e2⟩ ⟨fun b o hbx e => kp b o (Nat.ne_of_lt (Nat.lt_of_lt_of_le (Heap.lt_size e) (Nat.le_trans hLs (Nat.le_of_lt dn)))) (D.keep b o hbx e), (fun z => nomatch z), fun _ => ⟨t1, dx, _, kp _ _ (Ne.symm dne) ho, dn, dne, hn, fun y => ?_, ?_⟩⟩
      · refine kp a o (fun z => ?_) (X a o e)
        have y := Heap.lt_size (hKb a o e)
        rw [z] at y
        exact absurd (Nat.lt_of_lt_of_le y (Nat.le_trans hLs (Nat.le_of_lt dn))) (Nat.lt_irrefl _)
      · rw [lookup_cons2, hmap]
      · exact .cons f v hw
/-- what the written part and the text say of C's own __init__ -/
structure IniK (prog : Program) (K : Frag) (C fI : Addr) (qual : Str) (params : Arguments) (body : List Stmt) (scope : Scope) (fs : List Str) : Prop where
  fn : ∃ oc od dV kV doc pm an cda ct osl cc cl cld csl ccl cdd ccs, ∃ (vs : Array Value) (file : Str) (tf : Tok), K.lookup fI = some ⟨oc, od, .func (ksFn "__init__" qual params body scope dV kV doc pm an (.ref cda) ct cc), osl⟩ ∧ codeIn K (.ref cda) qual = true ∧
    K.lookup cc = some ⟨cl, cld, .cell (some (.ref C)), csl⟩ ∧ K.lookup cda = some ⟨ccl, cdd, .fields vs, ccs⟩ ∧ vs[2]? = some (.str file tf) ∧ ((prog.main.file : Str) == file) = true
  sup : ks_superIn K C C "__init__" = some (some (.builtin "ValueError.__init__"))
  ini : findIn K (.ref C) "__init__" = some (some (.ref fI))
  ity : typeIn K (.ref fI) = some (.type "function")
  opa : nsIn K cStatics "thirdparty.any" = some none
  suB : subIn K (.ref C) (.type "ValueError") = some true
  suC : mroIn K C (.ref C) = some true
  par : (params.posonlyargs ++ params.args).head?.map (·.arg) = some "self"
  top : (prog.main.scope.names.lookup ("super" : Str)).isSome = false
  ssu : scope.names.lookup ("super" : Str) = some .globalImplicit
  scl : scope.names.lookup ("__class__" : Str) = some .free
  sse : scope.names.lookup ("self" : Str) = some .local
  kin : scope.kind = .function
  cel : ∀ y ∈ scope.names, y.2 ≠ .cell
  nco : scope.isCoroutine = false
  nge : scope.isGenerator = false
  fie : ∀ f ∈ fs, scope.names.lookup f = some .local ∧ (f == ("__debug__" : Str)) = false ∧ findIn K (.ref C) f = some none ∧ f ≠ "self"
  ndf : fs.Nodup
  bod : ∃ (p0 p1 p2 p3 p4 p5 : Pos) (k : Nat) (tx : Str) (b : List Stmt), body = .Expr (.Call (.Attribute (.Call (.Name "super" p0) [] [] p1) "__init__" p2) [.Constant (.str tx) k p3] [] p4) p5 :: b ∧ Stores fs b ∧
    ∀ (L fI' cda' cc' : Addr), ∃ pl, eval (.Call (.Attribute (.Call (.Name "super" p0) [] [] p1) "__init__" p2) [.Constant (.str tx) k p3] [] p4) (ksEnv qual scope L fI' (.ref cda') cc') = (do
      let ov ← attributeBase (.Call (.Name "super" p0) [] [] p1) "__init__" (ksEnv qual scope L fI' (.ref cda') cc') (eval (.Call (.Name "super" p0) [] [] p1) (ksEnv qual scope L fI' (.ref cda') cc'))
      standAt p2.atName
      let (fx, first) ← holding [ov] (getMethod ov "__init__" pl)
      callWith p4 fx first (backTo p4 (starEach [.Constant (.str tx) k p3] (ksEnv qual scope L fI' (.ref cda') cc'))) []) ∧ swapsWith (.Call (.Attribute (.Call (.Name "super" p0) [] [] p1) "__init__" p2) [.Constant (.str tx) k p3] [] p4) none p5.line (ksEnv qual scope L fI' (.ref cda') cc') = pure false
theorem lookup_nd {α : Type} : ∀ {l : List (Str × α)} {f : Str} {v : α}, (l.map (·.1)).Nodup → (f, v) ∈ l → l.lookup f = some v
  | [], _, _, _, h => nomatch h
  | (f', v') :: l, f, v, nd, h => by
    rw [lookup_cons2]
    rcases List.mem_cons.mp h with e | h
    · cases e
      rw [if_pos rfl]
    · have nd' := List.nodup_cons.mp nd
      by_cases e : f = f'
      · exact absurd (List.mem_map.mpr ⟨(f, v), h, e⟩) nd'.1
      · rw [if_neg e]
        exact lookup_nd nd'.2 h
theorem zip_fst : ∀ {fs : List Str} {us : List Value}, us.length = fs.length → (fs.zip us).map (·.1) = fs
  | [], [], _ => rfl
  | f :: fs, u :: us, h => by
    have z : us.length = fs.length := Nat.succ.inj h
    simp only [List.zip_cons_cons, List.map_cons, zip_fst z]
theorem initE {fs : List Str} {us : List Value} {args : Args} (J : IniK prog K C fI qual params body scope fs) (T : L2.OexC K C) (X : K.In s.heap) (gl : s.heap.Ns mainGlobals mg) (bl : s.heap.Ns builtinsNs mb) (hbb : ∀ y : Str, y ≠ "__name__" → mb y = bootBuiltins y) (hsu : mg "super" = none)
    (hlim : s.heap.NoLimit) (hroom : A.depth < recursionLimit) (hus : us.length = fs.length) (hfl : fs.length ≤ 900)
    (hbind : ∀ fd : FuncData, (∃ oc od osl, K.lookup fI = some ⟨oc, od, .func fd, osl⟩) → BindsTo s fd args (("self", .ref x) :: fs.zip us)) (ox : s.heap.get? x = some (excO C t0)) (nx : K.lookup x = none)
    (q : ∀ h' t', ExAt s.heap h' s.heap.objs.size x C (fs.zip us).reverse → R (.ok (.ret .none)) { s with heap := h', toks := t' }) : codeAny (model prog w) A (.call (.ref fI) args) R s := by
  obtain ⟨oc, od, dV, kV, doc, pm, an, cda, ct, osl, cc, cl, cld, csl, ccl, cdd, ccs, vs, file, tf, hf, hcd, hcell, hcode, hvs, hfile⟩ := J.fn
  obtain ⟨p0, p1, p2, p3, p4, p5, k, tx, b, rfl, hS, hev⟩ := J.bod
  refine ks_codeAny_call_defAt hroom (X _ _ hf) rfl hlim (codeRec_of X hcd) rfl (hbind _ ⟨_, _, _, hf⟩) J.cel (fun y hy => ?_) (fun h1 hn kp => ?_) J.nco J.nge J.kin
  · rcases List.mem_cons.mp hy with rfl | hy
    · exact J.sse
    · exact (J.fie y.1 (List.of_mem_zip hy).1).1
  · obtain ⟨pl, he, hsw⟩ := hev s.heap.objs.size fI cda cc
    have par : ∃ ar, (params.posonlyargs ++ params.args).head? = some ar ∧ ar.arg = ("self" : Str) := by
      cases z : (params.posonlyargs ++ params.args).head? with
      | none => have y := J.par; rw [z] at y; cases y
      | some ar => have y := J.par; rw [z] at y; exact ⟨ar, rfl, Option.some.inj y⟩
    have hxL : x ≠ s.heap.objs.size := Nat.ne_of_lt (Heap.lt_size ox)
    have zf := zip_fst hus
    have nd : (((("self", Value.ref x) :: fs.zip us) : List (Str × Value)).reverse.map (·.1)).Nodup := by
      rw [List.map_reverse, List.map_cons, zf]
      refine (List.reverse_perm _).nodup_iff.mpr ?_
      exact List.nodup_cons.mpr ⟨fun z => (J.fie _ z).2.2.2 rfl, J.ndf⟩
    have mm : ∀ p ∈ ((("self", Value.ref x) :: fs.zip us) : List (Str × Value)), ((("self", Value.ref x) :: fs.zip us) : List (Str × Value)).reverse.lookup p.1 = some p.2 := fun p hp => lookup_nd nd (List.mem_reverse.mpr hp)
    refine ks_wpAt_execs_cons (superPart (X.keeps kp) (gl.keeps kp) (bl.keeps kp) hbb hsu hf par hcell hcode hvs hfile J.top T J.sup J.opa J.suB J.suC J.ssu J.scl J.sse J.kin hn (mm _ List.mem_cons_self) (kp _ _ ox) nx (fun h2 t2 t1 kp2 ex => ?_) he hsw)
    have kp3 : ∀ b o, b ≠ x → s.heap.get? b = some o → h2.get? b = some o := fun b o hb e => kp2 b o hb (kp b o e)
    obtain ⟨oL, eL, pL, e1, e2⟩ := hn
    refine PySem.wpAt_of_wpAny (storesRun (hb := s.heap) (env := ksEnv qual scope s.heap.objs.size fI (.ref cda) cc) T J.kin J.sse (mm _ List.mem_cons_self) nx hxL (Nat.le_refl _) (Heap.lt_size ox) X (fs.zip us) b [] _ (by rw [zf]; exact hS) (by have z := congrArg List.length zf; rw [List.length_map] at z; show 0 + _ ≤ 900; omega) (fun p hp => ?_) (fun a o e => kp3 a o (fun z => by rw [z, nx] at e; cases e) (X a o e)) ⟨oL, eL, pL, kp2 _ _ (Ne.symm hxL) e1, e2⟩ ⟨kp3, fun _ => ⟨t1, ex⟩, fun z => absurd rfl z⟩ fun h' t' D => ?_)
    · have y := J.fie p.1 (List.of_mem_zip hp).1
      exact ⟨y.1, y.2.1, mm p (List.mem_cons_of_mem _ hp), y.2.2.1⟩
    · rw [List.append_nil] at D
      exact q h' t' D
end
end XI

namespace XI
open PySem PySem.Spec PyProof.Rows L2
/-- the abstract heap behind C(..): the new exception at a, its own dict at d -/
def mkH (H : Hp) (a d C : Addr) : List (Str × V) → Hp
  | [] => upd H a (exo a C none)
  | p :: fl => upd (upd H d (exd d (p :: fl))) a (exo a C (some d))
theorem mkH_ne {H : Hp} {a d C b : Addr} : ∀ {fl : List (Str × V)}, b ≠ a → b ≠ d → mkH H a d C fl b = H b
  | [], h, _ => upd_ne h
  | _ :: _, h, h2 => (upd_ne h).trans (upd_ne h2)
theorem same_mk {H : Hp} {a d C : Addr} {fl : List (Str × V)} (ha : H a = none) (hd : H d = none) : Same H (mkH H a d C fl) := fun b o e => by
  rw [mkH_ne (ne_of_none e ha) (ne_of_none e hd)]
  exact e
theorem relO_zip {fs : List Str} : ∀ {vs : List V} {us : List Value}, Vals vs us → ∀ y, RelO ((fs.zip vs).reverse.lookup y) ((fs.zip us).reverse.lookup y) := by
  have key : ∀ (fs : List Str) (vs : List V) (us : List Value) (al : List (Str × V)) (bl : List (Str × Value)), Vals vs us → (∀ y, RelO (al.lookup y) (bl.lookup y)) → ∀ y, RelO (((fs.zip vs).reverse ++ al).lookup y) (((fs.zip us).reverse ++ bl).lookup y) := by
    intro fs
    induction fs with
    | nil => intro vs us al bl _ h y; exact h y
    | cons f fs ih =>
      intro vs us al bl r h y
      cases r with
      | nil => exact h y
      | cons rv rr =>
        simp only [List.zip_cons_cons, List.reverse_cons, List.append_assoc, List.singleton_append]
        refine ih _ _ _ _ rr (fun z => ?_) y
        rw [lookup_cons2, lookup_cons2]
        by_cases e : z = f
        · rw [if_pos e, if_pos e]; exact rv
        · rw [if_neg e, if_neg e]; exact h z
  intro vs us r y
  have z := key fs vs us [] [] r (fun _ => True.intro) y
  rw [List.append_nil, List.append_nil] at z
  exact z
theorem n21 (n : Nat) : n + 2 ≠ n + 1 := by omega
theorem n12 (n : Nat) : n + 1 ≤ n + 2 := by omega
theorem nlt {n m : Nat} (h : n + 2 < m) : n ≤ m := by omega
theorem nlt1 {n m : Nat} (h : n + 2 < m) : n + 1 ≤ m := by omega
section
variable {X : Cx} {pins : List (Addr × Obj)} {σ : L2.St} {H : Hp} {s : Shared} {C fI : Addr} {qual : Str} {params : Arguments} {body : List Stmt} {scope : Scope} {fs : List Str}
/-- C(us, ks = ws): what the parameters but self hold is vals -/
theorem mkE {us ws vals : List Value} {vs : List V} {ks : List Str} {Q : VK} {E : Value → Shared → Prop} (J : IniK X.prog X.K C fI qual params body scope fs) (T : OexC X.K C) (hsu : X.mg "super" = none) (hr : Room 1 X.A) (I : Inv X pins σ H s)
    (hl : us.length ≤ sizeLine) (r : Vals vs vals) (hv : vals.length = fs.length) (hfl : fs.length ≤ 900)
    (hbind : ∀ (s : Shared) (y : Value) (fd : FuncData), (∃ oc od osl, X.K.lookup fI = some ⟨oc, od, .func fd, osl⟩) → BindsTo s fd ⟨y :: us, ks.zip ws⟩ (("self", y) :: fs.zip vals))
    (q : ∀ a d, H a = none → H d = none → d ≠ a → Q (.ref a) (mkH H a d C (fs.zip vs).reverse)) : wpAny (model X.prog X.w) X.A (call (.ref C) us (ks.zip ws)) (EP X pins σ Q) E s := by
  obtain ⟨nm, qq, N, bs, bm, sn, sub, ab, col, dd, k0, k1, k2, k3, k5, hC, hbm⟩ := T.cls
  obtain ⟨hp, g, dr, tk, os⟩ := s
  have X0 := I.kIn
  have kp : ∀ b o, hp.get? b = some o → (two hp C us).get? b = some o := fun b o e => Heap.get?_push_of_some _ (Heap.get?_push_of_some _ e)
  have hsz : (two hp C us).objs.size = hp.objs.size + 2 := by rw [Heap.size_push, Heap.size_push]
  have hget : (two hp C us).get? (hp.objs.size + 1) = some (PySem.HandSPX.excO C hp.objs.size) := by heap_get
  have nx : X.K.lookup (hp.objs.size + 1) = none := by
    cases e : X.K.lookup (hp.objs.size + 1) with
    | none => rfl
    | some o => exact absurd (Nat.lt_of_succ_lt (Heap.lt_size (X0 _ _ e))) (Nat.lt_irrefl _)
  obtain ⟨mb, hb1, hb2⟩ := I.mod.blt
  have hn : H (hp.objs.size + 1) = none := I.hok.fresh (Nat.le_succ _)
  refine wpAny_call (callE PySem.F.excBase_ValueError (fun Y => PySem.HandSPX.refsVE_contains Y bm hbm) (X0 _ _ hC) (PySem.W.looks_findIn X0 J.ini) (fun self => PySem.W.bind_fn X0 self J.ity) hl
    (initE (s := ⟨two hp C us, g, dr, tk, os⟩) J T (X0.keeps kp) ((I.mod.glob.keeps I.bk).keeps kp) ((hb1.keeps I.bk).keeps kp) hb2 hsu (I.nolimit.keeps kp) (by have := hr.dp; show X.A.depth + 1 < _; omega) hv hfl (fun fd hfd => hbind _ _ fd hfd) hget nx fun h' t' D => ⟨rfl, ?_⟩))
  have K2 : ∀ b o, hp.get? b = some o → h'.get? b = some o := fun b o e => D.keep b o (Nat.ne_of_lt (Nat.lt_succ_of_lt (Heap.lt_size e))) (kp b o e)
  have neb : ∀ {b : Addr} {o : Obj}, hp.get? b = some o → b ≠ hp.objs.size + 1 := fun e => Nat.ne_of_lt (Nat.lt_succ_of_lt (Heap.lt_size e))
  have rel := relO_zip (fs := fs) r
  have done : ∀ (d : Addr) (H' : Hp), d ≠ hp.objs.size + 1 → H d = none → hp.objs.size + 1 ≤ d → (∀ b, b ≠ hp.objs.size + 1 → b ≠ d → H' b = H b) → HOk X.prog X.w H' h' → Q (.ref (hp.objs.size + 1)) H' →
      EP X pins σ Q (.ref (hp.objs.size + 1)) ⟨h', g, dr, t', os⟩ := fun d H' _ hd hdl hH hok q' => by
    have ned : ∀ {b : Addr} {o : Obj}, hp.get? b = some o → b ≠ d := fun e => Nat.ne_of_lt (Nat.lt_of_lt_of_le (Nat.lt_succ_of_lt (Heap.lt_size e)) hdl)
    have st : ∀ b o, H b = some o → H' b = some o := fun b o e => by
      rw [hH b (ne_of_none e hn) (ne_of_none e hd)]
      exact e
    refine ⟨.ref (hp.objs.size + 1), H', I.un (t' := t') (h' := h') ⟨fun b o e _ _ _ => K2 b o e, fun b o e _ _ _ => ⟨o.slots, K2 b o e⟩, fun b o e n _ => ?_, fun b o e _ => ⟨o, K2 b o e⟩, fun b xs e => st _ _ e, fun b o u e => st _ _ e, fun b ps e => ⟨#[], by rw [st _ _ e]; simp⟩⟩ hok, rfl, q'⟩
    rw [hH b (neb e) (ned e)]
    exact n
  have old : ∀ (H' : Hp), (∀ b o, H b = some o → H' b = some o) → ∀ b o, H b = some o → ObjOk X.prog X.w H' h' b o := fun H' st b o e =>
    (I.hok b o e).stay (fun c v _ z => K2 c v z) (fun c z => st _ _ z) fun c xs z => st _ _ z
  by_cases hfs : fs = []
  · subst hfs
    obtain ⟨t1, ho⟩ := D.some0 rfl
    have hd : H (hp.objs.size + 2) = none := I.hok.fresh (Nat.le_add_right _ 2)
    have q' := q (hp.objs.size + 1) (hp.objs.size + 2) hn hd (n21 _)
    have e0 : mkH H (hp.objs.size + 1) (hp.objs.size + 2) C (([] : List Str).zip vs).reverse = upd H (hp.objs.size + 1) (exo (hp.objs.size + 1) C none) := rfl
    rw [e0] at q'
    refine done (hp.objs.size + 2) _ (n21 _) hd (n12 _) (fun b h1 _ => upd_ne h1) (fun b o e => ?_) q'
    by_cases hb : b = hp.objs.size + 1
    · subst hb
      rw [upd_same] at e
      cases e
      exact exo_ok ho
    · rw [upd_ne hb] at e
      exact old _ (fun c u z => by rw [upd_ne (ne_of_none z hn)]; exact z) b o e
  · have hne : (fs.zip vals).reverse ≠ [] := fun z => by
      have z2 := congrArg List.length z
      rw [List.length_reverse, List.length_zip, hv, Nat.min_self] at z2
      exact hfs (List.length_eq_zero_iff.mp z2)
    obtain ⟨t1, dx, m0, ho, dn, dne, hns, hmap, hw⟩ := D.some1 hne
    have dn' : hp.objs.size + 2 < dx := by rw [← hsz]; exact dn
    have hd : H dx = none := I.hok.fresh (nlt dn')
    have q' := q (hp.objs.size + 1) dx hn hd dne
    have rel' : ∀ f, RelO ((fs.zip vs).reverse.lookup f) (m0 f) := fun f => by rw [hmap]; exact rel f
    cases hfl2 : (fs.zip vs).reverse with
    | nil =>
      have z2 := congrArg List.length hfl2
      rw [List.length_reverse, List.length_zip, r.length, hv, Nat.min_self] at z2
      exact absurd (List.length_eq_zero_iff.mp z2) hfs
    | cons p fl =>
      rw [hfl2] at q' rel'
      refine done dx _ dne hd (nlt1 dn') (fun b h1 h2 => (upd_ne h1).trans (upd_ne h2)) (fun b o e => ?_) q'
      by_cases hb : b = hp.objs.size + 1
      · subst hb
        have e' := upd_same.symm.trans e
        cases e'
        exact exo_ok ho
      · have e' := (upd_ne hb).symm.trans e
        by_cases hb2 : b = dx
        · subst hb2
          have e2 := upd_same.symm.trans e'
          cases e2
          exact exd_ok hns rel'
        · have e2 := (upd_ne hb2).symm.trans e'
          exact old _ (fun c u z => by
            show upd (upd H dx _) _ _ c = _
            rw [upd_ne (ne_of_none z hn), upd_ne (ne_of_none z hd)]
            exact z) b o e2
end
end XI

namespace XI
open PySem PySem.Spec PyProof.Rows L2
/-- an own exception class under its name, with the parameters fs of its __init__ (all stored) -/
structure EC (prog : Program) (K : PySem.W.Frag) (mg : Str → Option Value) (x : Str) (C : Addr) (fs : List Str) : Prop where
  ini : ∃ fI qual params body scope, IniK prog K C fI qual params body scope fs ∧
    (∀ (s : Shared) (y : Value) (fd : FuncData), (∃ oc od osl, K.lookup fI = some ⟨oc, od, .func fd, osl⟩) → ∀ us : List Value, us.length = fs.length → BindsTo s fd ⟨y :: us, []⟩ (("self", y) :: fs.zip us)) ∧
    ∀ (s : Shared) (y : Value) (fd : FuncData), (∃ oc od osl, K.lookup fI = some ⟨oc, od, .func fd, osl⟩) → ∀ (ks : List Str) (ws us : List Value), ks.length = ws.length → (ks.zip ws).Perm (fs.zip us) → us.length = fs.length → ks.length = fs.length → BindsTo s fd ⟨[y], ks.zip ws⟩ (("self", y) :: fs.zip us)
  oex : OexC K C
  gC : mg x = some (.ref C)
  su : mg "super" = none
  is : ExcC K C
  fl : fs.length ≤ 900
def tMkP (C : Addr) (fs : List Str) (t : TA) : TE := fun σ H Q => t σ H fun vs H1 => vs.length = fs.length ∧ ∀ a d, H1 a = none → H1 d = none → d ≠ a → Q (.ref a) (mkH H1 a d C (fs.zip vs).reverse)
def tMkK (C : Addr) (fs : List Str) (g : List V → List V) (t : TA) : TE := fun σ H Q => t σ H fun ws H1 => ∀ a d, H1 a = none → H1 d = none → d ≠ a → Q (.ref a) (mkH H1 a d C (fs.zip (g ws)).reverse)
section
variable {X : Cx} {x : Str} {C : Addr} {fs : List Str} {e : Expr} {es : List Expr} {kws : List Keyword} {t : TA} {te : TE} {p pos : Pos}
theorem lenOk {vs : List V} {us : List Value} {n : Nat} (r : Vals vs us) (h : vs.length = n) (hn : n ≤ 900) : us.length ≤ sizeLine := by
  rw [← r.length, h, sizeLine_eq]
  omega
theorem pe_excP (c : EC X.prog X.K X.mg x C fs) (hr : Room 1 X.A) (hg : Gl X x) (ha : PA X (e :: es) t) (hdb : (x == ("__debug__" : Str)) = false := by decide)
    (he : starEach (e :: es) X.env = (false, eval e X.env) :: starEach es X.env := by rfl) (hpl : (backTo pos (starEach es X.env)).any (·.1) = false := by rfl) : PE X (.Call (.Name x p) (e :: es) [] pos) (tMkP C fs t) := by
  obtain ⟨fI, qual, params, body, scope, J, b1, _⟩ := c.ini
  refine ⟨fun pins s σ H Q I h => ?_⟩
  refine wpAny_Call_Name_kw (ld_glob I hg c.gC ?_ hdb)
  refine PySem.W.callWith_K (h₀ := X.base) I.ok.mod.kin c.oex.kC (thn (ha.run pos pins s σ H _ I h) fun us s1 ⟨vs, H1, I1, r, hl, q⟩ => ⟨I1.kIn, ?_⟩) he hpl
  exact mkE (ks := []) (ws := []) J c.oex c.su hr I1 (lenOk r hl c.fl) r (r.length.symm.trans hl) c.fl (fun s y fd hf => b1 s y fd hf us (r.length.symm.trans hl)) q
theorem pe_exc0 (c : EC X.prog X.K X.mg x C []) (hr : Room 1 X.A) (hg : Gl X x) (hdb : (x == ("__debug__" : Str)) = false := by decide) : PE X (.Call (.Name x p) [] [] pos) (tMkP C [] tNil) := by
  obtain ⟨fI, qual, params, body, scope, J, b1, _⟩ := c.ini
  refine ⟨fun pins s σ H Q I h => ?_⟩
  refine wpAny_Call_Name_kw (ld_glob I hg c.gC ?_ hdb)
  refine PySem.W.callWith_K0 I.kIn c.oex.kC ?_
  exact mkE (ks := []) (ws := []) (us := []) (vs := []) (vals := []) J c.oex c.su hr I (Nat.zero_le _) .nil rfl (Nat.zero_le _) (fun s y fd hf => b1 s y fd hf [] rfl) h.2
theorem pe_excK {ks : List Str} {g : List V → List V} {gu : List Value → List Value} (c : EC X.prog X.K X.mg x C fs) (hr : Room 1 X.A) (hg : Gl X x) (hk : PK X kws t) (hall : (backToKw pos (keywordEach kws X.env)).all (·.1.isSome) = true := by rfl)
    (hks : (backToKw pos (keywordEach kws X.env)).filterMap (·.1) = ks := by rfl) (hkl : ks.length = fs.length := by rfl)
    (hgu : ∀ (vs : List V) (us : List Value), Vals vs us → us.length = fs.length → Vals (g vs) (gu us) ∧ (gu us).length = fs.length ∧ (ks.zip us).Perm (fs.zip (gu us))) (hdb : (x == ("__debug__" : Str)) = false := by decide)
    (hpl : ((backTo pos (starEach [] X.env)).any (·.1) || (backToKw pos (keywordEach kws X.env)).any (·.1.isNone)) = false := by rfl) :
    PE X (.Call (.Name x p) [] kws pos) (fun σ H Q => t σ H fun ws H1 => ws.length = fs.length ∧ ∀ a d, H1 a = none → H1 d = none → d ≠ a → Q (.ref a) (mkH H1 a d C (fs.zip (g ws)).reverse)) := by
  obtain ⟨fI, qual, params, body, scope, J, _, b2⟩ := c.ini
  refine ⟨fun pins s σ H Q I h => ?_⟩
  refine wpAny_Call_Name_kw (ld_glob I hg c.gC ?_ hdb)
  refine PySem.W.callWith_KW0 (h₀ := X.base) I.ok.mod.kin c.oex.kC hall (thn (hk.run pos pins s σ H _ I h) fun ws s1 ⟨vs, H1, I1, r, hl, q⟩ => ⟨I1.kIn, ?_⟩) hpl
  rw [hks]
  have e1 : ws.length = fs.length := r.length.symm.trans hl
  obtain ⟨r2, l2, pm⟩ := hgu vs ws r e1
  exact mkE (us := []) J c.oex c.su hr I1 (Nat.zero_le _) r2 l2 c.fl (fun s y fd hf => b2 s y fd hf ks ws (gu ws) (hkl.trans e1.symm) pm l2 hkl) q
/-- e.f, e an exception that was made -/
def tExf (K : PySem.W.Frag) (f : Str) (te : TE) : TE := fun σ H Q => te σ H fun y H1 => ∃ a C d fl v, y = .ref a ∧ H1 a = some (exo a C (some d)) ∧ H1 d = some (exd d fl) ∧ ExcC K C ∧ PySem.W.findIn K (.ref C) f = some none ∧ fl.lookup f = some v ∧ Q v H1
theorem inst_exo {pins : List (Addr × Obj)} {σ : L2.St} {H : Hp} {s : Shared} {a d : Addr} {fl : List (Str × V)} (I : Inv X pins σ H s) (ha : H a = some (exo a C (some d))) (hd : H d = some (exd d fl)) :
    ∃ (ox od : Obj) (mA : Str → Option Value), PySem.W.InstAt s.heap a ox C (some od) ∧ (∀ f, PySem.W.lookIn f od = some (mA f)) ∧ ∀ f, RelO (fl.lookup f) (mA f) := by
  obtain ⟨t1, ho⟩ := exo_at I.hok ha
  obtain ⟨mA, hns, rel⟩ := exd_at I.hok hd
  obtain ⟨od, e, hl⟩ := lookIn_ns hns
  exact ⟨_, od, mA, ⟨ho, rfl, rfl, e⟩, hl, rel⟩
theorem pe_exf {f : Str} (he : PE X e te) (hb : attributeBase e f X.env (eval e X.env) = eval e X.env := by rfl) : PE X (.Attribute e f pos) (tExf X.K f te) := by
  refine ⟨fun pins s σ H Q I h => ?_⟩
  refine attr_of hb (thn (he.run pins s σ H _ I h) fun u s1 hh => ?_)
  obtain ⟨y, H1, I1, ry, a, C, d, fl, v, rfl, ea, ed, T, hno, hv, q⟩ := hh
  obtain rfl : u = Value.ref a := ry
  obtain ⟨ox, od, mA, J, hl, rel⟩ := inst_exo I1 ea ed
  obtain ⟨u, hu, ru⟩ := RelO.some_of (v := v) (o := mA f) (by rw [← hv]; exact rel f)
  exact HandSPX.exc_get I1.kIn J T.hg T.hk T.hs (PySem.W.findObj_own T.hd hno rfl (by rw [hl, hu])) (handed_of ru) ⟨v, H1, I1.tok _, ru, q⟩
/-- isinstance(e, c), e an exception that was made -/
def rIsX (K : PySem.W.Frag) : List V → Hp → VK → Prop := fun xs H Q => ∃ (a C : Addr) (c : V) (u : Value) (b : Bool), xs = [.ref a, c] ∧ ClsV c u ∧ (H a = some (exo a C none) ∨ ∃ d fl, H a = some (exo a C (some d)) ∧ H d = some (exd d fl)) ∧ ExcC K C ∧ PySem.W.kitOne K (.ref C) u = some b ∧ Q (.bl b) H
theorem call_isX : CallR X (.builtin "isinstance") (rIsX X.K) := by
  intro pins s σ H xs us Q I r h
  obtain ⟨a, C, c, u, b, rfl, hc, hE, T, hk, q⟩ := h
  obtain ⟨u1, u2, rfl, r1, r2⟩ := vals2 r
  obtain rfl : u1 = Value.ref a := r1
  have e2 := hc.eq r2
  subst e2
  have cl : (PySem.W.clsIn X.K C).isSome = true := by
    obtain ⟨cd, h1, _⟩ := PySem.W.any_some T.hd
    rw [h1] <;> rfl
  have fin : ∀ {ox : Obj} {od : Option Obj}, PySem.W.InstAt s.heap a ox C od → wpAny (model X.prog X.w) X.A (call (.builtin "isinstance") [.ref a, u2]) (EP X pins σ Q) X.xe s := fun J =>
    PySem.W.kia_one (PySem.W.kitx_exc cl T.hg T.hk T.hs T.ha T.hn T.ht T.hm) I.kIn J hk (fun z => nomatch z) fun tk => ⟨.bl b, H, I.tok tk, rfl, q⟩
  rcases hE with ea | ⟨d, fl, ea, ed⟩
  · obtain ⟨t1, ho⟩ := exo_at I.hok ea
    exact fin (od := none) ⟨ho, rfl, rfl, trivial⟩
  · obtain ⟨ox, od, mA, J, _, _⟩ := inst_exo I ea ed
    exact fin J
end
end XI

namespace KA
open PySem PySem.Spec PyProof.Rows L2 C8
theorem cut40 (ns : List Int) : cutV (ns.map V.int) none (some 40) = (ns.take 40).map V.int := by
  unfold cutV HT.sIx
  simp only [show ¬ ((40 : Int) < 0) by decide, if_false, List.drop_zero, Nat.sub_zero, ← List.map_take, List.length_map]
  congr 1
  by_cases h : ns.length ≤ 40
  · rw [List.take_of_length_le h, List.take_of_length_le (by omega)]
  · congr 1
    omega
def spFresh (K : PySem.W.Frag) : Sp := fun vs H Q _ => ∃ (a : Addr) (ns : List Int), vs = [.ref a] ∧ SqL K H a (ns.map V.int) ∧ ∀ (st : Addr) (H' : Hp), H st = none → Same H H' → StAt 0 H' st → Q (.ref st) H'
def spOne : Sp := fun vs H Q _ => ∃ (st th : Addr) (xs : List V) (B : Nat), vs = [.ref st, .ref th] ∧ (H th = some (.lst xs) ∨ H th = some (.tup xs)) ∧ th ≠ st ∧ 0 < xs.length ∧ xs.length < 1000000 ∧ StAt B H st ∧ B < 1000000000000000 ∧
  ∀ (v : V) (H' : Hp), v ∈ xs → StAt (B + 1) H' st → But st H H' → Q v H'
theorem scFresh : FnScope ["_law_script"] ["_law_script"] (fnScope sFresh) := fnScope_by (by decide +kernel)
theorem scOne : FnScope ["_law_state", "_law_things"] ["_law_state", "_law_things"] (fnScope sOne) := fnScope_by (by decide +kernel)
section
variable {P : Program} {w : World} {K : PySem.W.Frag} {mg : Str → Option Value} {base : Heap}
theorem c_fresh {f : Addr} {fd : FuncData} (F : Def K mg "_law_fresh" sFresh f fd) (b : Binds K fd ["_law_script"] []) (T : Blt mg) : Cal P w K mg base 1 "_law_fresh" (spFresh K) [] := by
  refine cal0 F b .nil scFresh (fun vs H Q E h => ?_) (fun cdv A outer s H vs Q E hr h => ?_)
  · obtain ⟨a, ns, rfl, _⟩ := h
    rfl
  · obtain ⟨a, ns, rfl, hS, k⟩ := h
    refine ⟨_, pss_one (ps_ret (pe_lst (pa_cons (pe_callTy call_list_of (by rfl) T.list (by decide +kernel) (pa_cons (pe_slice sl_list (pv 0) po_none (po_some pe_int)) pa_nil))
      (pa_cons pe_int (pa_cons pe_int (pa_cons pe_int (pa_cons pe_int pa_nil))))))), ?_⟩
    refine ⟨_, rfl, 40, rfl, a, _, rfl, hS, fun p np => ⟨p, _, rfl, .inl (SqL.of upd_same), fun l nl => ⟨(by show 5 ≤ sizeLine; decide), fun st nst => ?_⟩⟩⟩
    have nl' := nl
    have npl : p ≠ l := ne_of_none upd_same nl
    rw [upd_ne npl.symm] at nl
    have nst2 : st ≠ l := fun z => by rw [z, upd_same] at nst; cases nst
    rw [upd_ne nst2] at nst
    have nst3 : st ≠ p := fun z => by rw [z, upd_same] at nst; cases nst
    rw [upd_ne nst3] at nst
    refine k st _ nst (fun b o e => ?_) ⟨l, ns.take 40, 0, 0, 0, 0, upd_same, ?_, by decide, by decide, by decide, by decide, by decide, by decide, List.length_take_le _ _⟩
    · rw [upd_ne (ne_of_none e nst), upd_ne (ne_of_none e nl), upd_ne (ne_of_none e np)]
      exact e
    · rw [upd_ne nst2.symm, upd_same, cut40]
theorem c_one {f : Addr} {fd : FuncData} (F : Def K mg "_law_one" sOne f fd) (b : Binds K fd ["_law_state", "_law_things"] []) (T : Blt mg) (C : Cal P w K mg base 1 "_law_take" spTake []) : Cal P w K mg base 2 "_law_one" spOne [] := by
  refine cal0 F b .nil scOne (fun vs H Q E h => ?_) (fun cdv A outer s H vs Q E hr h => ?_)
  · obtain ⟨st, th, xs, B, rfl, _⟩ := h
    rfl
  · obtain ⟨st, th, xs, B, rfl, hx, ne, l0, l1, hst, hB, k⟩ := h
    refine ⟨_, pss_one (ps_ret (pe_ix ix_seq (pv 1) (pe_c C hr (Nat.le_refl _) (by rfl) (pa_cons (pv 0) (pa_cons (pe_callB call_len_seq (by rfl) T.len PySem.boot_len (pa_cons (pv 1) pa_nil)) pa_nil))) fun _ _ => rfl)), ?_⟩
    have hs : SqL K H th xs ∨ SqT K H th xs := hx.elim (fun z => .inl (SqL.of z)) fun z => .inr (SqT.of z)
    refine ⟨_, rfl, _, rfl, _, rfl, th, xs, rfl, hs, st, (xs.length : Int), B, rfl, by omega, by omega, hst, hB, fun d H' d0 d1 hst' but => ?_⟩
    have hd : d.toNat < xs.length := by omega
    have at' : atI xs d = some xs[d.toNat] := at_of (j := d.toNat) (by omega) (by simp [hd])
    have fin := k _ H' (List.getElem_mem hd) hst' but
    rcases hx with hx | hx
    · exact .inl ⟨th, xs, d, _, rfl, rfl, SqL.of (but _ _ hx ne), at', fin⟩
    · exact .inr (.inl ⟨th, xs, d, _, rfl, rfl, SqT.of (but _ _ hx ne), at', fin⟩)
end
end KA

namespace KA
open PySem PySem.Spec PyProof.Rows L2 C8
abbrev sSame : Stmt := top 28
/-- a dict that may be told equal to itself -/
def DicOk (kvs : List (Key × V)) : Prop := ∀ p ∈ kvs, valV kvs p.1 = some p.2 ∧ flatB p.2 = true
/-- what stands for one thing: flat, or a dict -/
def Leaf (H : Hp) (x : V) : Prop := flatV x = true ∨ ∃ a kvs, x = .ref a ∧ H a = some (.dK kvs) ∧ DicOk kvs
def Thing (H : Hp) (x : V) : Prop := Leaf H x ∨ ∃ a xs, x = .ref a ∧ (H a = some (.lst xs) ∨ H a = some (.tup xs)) ∧ (∀ y ∈ xs, flatV y = true) ∧ xs.length ≤ 10
theorem Leaf.same {H H' : Hp} {x : V} (s : Same H H') (h : Leaf H x) : Leaf H' x := h.imp id fun ⟨a, kvs, e, q, d⟩ => ⟨a, kvs, e, s _ _ q, d⟩
theorem Thing.same {H H' : Hp} {x : V} (s : Same H H') (h : Thing H x) : Thing H' x := h.imp (Leaf.same s) fun ⟨a, xs, e, q, r⟩ => ⟨a, xs, e, q.imp (s _ _) (s _ _), r⟩
theorem same_upd {H : Hp} {p : Addr} {o : HO} (np : H p = none) : Same H (upd H p o) := fun b u e => by
  rw [upd_ne (ne_of_none e np)]
  exact e
theorem pe_bt {X : Cx} {x : Str} {pos : Pos} (n : String) (hm : X.mg x = none) (hg : Gl X x := by rfl) (hv : bootBuiltins x = some (.type n) := by decide +kernel) (hn : x ≠ "__name__" := by decide) (hd : (x == ("__debug__" : Str)) = false := by decide) : PE X (.Name x pos) (tC (.ty n)) :=
  pe_bltn hg hm hv rfl hn hd
def spSame0 : Sp := fun vs H Q _ => ∃ x : V, vs = [x, x] ∧ Leaf H x ∧ ∀ H', Same H H' → Q (.bl true) H'
def spSame1 : Sp := fun vs H Q _ => ∃ x : V, vs = [x, x] ∧ Thing H x ∧ ∀ H', Same H H' → Q (.bl true) H'
theorem scSame : FnScope ["_law_found", "_law_due", "_law_x", "_law_y"] ["_law_found", "_law_due"] (fnScope sSame) := fnScope_by (by decide +kernel)
structure Blt2 (mg : Str → Option Value) : Prop extends Blt mg where
  isi : mg "isinstance" = none
  tup : mg "tuple" = none
  boo : mg "bool" = none
  all : mg "all" = none
  zip : mg "zip" = none
/-- the types of leaves -/
def leafTy : List String := ["NoneType", "bool", "int", "str", "dict"]
theorem leaf_ty {K : PySem.W.Frag} {H : Hp} {x : V} (h : Leaf H x) : ∃ T ∈ leafTy, (∀ H', Same H H' → TyX K H' x (.type T)) ∧ (scal x x = true ∨ ((T == "int" || T == "bool") = false ∧ ∃ a kvs, x = .ref a ∧ H a = some (.dK kvs) ∧ DicOk kvs)) := by
  rcases h with h | ⟨a, kvs, rfl, e, dk⟩
  · cases x with
    | non => exact ⟨"NoneType", by decide, fun _ _ => .base .non, .inl rfl⟩
    | bl b => exact ⟨"bool", by decide, fun _ _ => .base (.bl b), .inl rfl⟩
    | int i => exact ⟨"int", by decide, fun _ _ => .base (.int i), .inl rfl⟩
    | str z => exact ⟨"str", by decide, fun _ _ => .base (.str z), .inl rfl⟩
    | _ => cases h
  · exact ⟨"dict", by decide, fun H' s => .base (.dK (s _ _ e)), .inr ⟨by decide, a, kvs, rfl, e, dk⟩⟩
section
variable {P : Program} {w : World} {K : PySem.W.Frag} {mg : Str → Option Value} {base : Heap}
theorem kitLT {T : String} (h : T ∈ leafTy) : PySem.W.kitAny K (.type T) [.type "list", .type "tuple"] = some false ∧ PySem.W.kitAny K (.type T) [.type "int", .type "list", .type "tuple"] = some (T == "int" || T == "bool") ∧
    PySem.W.kitOne K (.type T) (.type "int") = some (T == "int" || T == "bool") ∧ PySem.W.kitOne K (.type T) (.type "bool") = some (T == "bool") := by
  have z : ∀ T ∈ leafTy, kitB T "list" = some false ∧ kitB T "tuple" = some false ∧ kitB T "int" = some (T == "int" || T == "bool") ∧ kitB T "bool" = some (T == "bool") := by decide +kernel
  obtain ⟨h1, h2, h3, h4⟩ := z T h
  have lt : PySem.W.kitAny K (.type T) [.type "list", .type "tuple"] = some false := kitAny_cons (kit_ty h1) (fun _ => kitAny_cons (kit_ty h2) (fun _ => kitAny_nil) fun z => by cases z) fun z => by cases z
  refine ⟨lt, kitAny_cons (kit_ty h3) (fun e => ?_) (fun e => e), kit_ty h3, kit_ty h4⟩
  rw [e]
  exact lt
theorem c_same0 {f : Addr} {fd : FuncData} (F : Def K mg "_law_same" sSame f fd) (b : Binds K fd ["_law_found", "_law_due"] []) (T : Blt2 mg) : Cal P w K mg base 1 "_law_same" spSame0 [] := by
  refine cal0 F b .nil scSame (fun vs H Q E h => ?_) (fun cdv A outer s H vs Q E hr h => ?_)
  · obtain ⟨x, rfl, _⟩ := h
    rfl
  · obtain ⟨x, rfl, hx, k⟩ := h
    have hu : (A.deeper (envOfC "_law_same" (fnScope sSame) s.heap.objs.size f cdv)).units + 64 < cLine := by have := hr.un; omega
    refine ⟨_, pss_cons (ps_if (pt_val (pe_callB call_isiT (by rfl) T.isi (by decide +kernel) (pa_cons (pv 1) (pa_cons (pe_tup (pa_cons (pe_bt "list" T.list) (pa_cons (pe_bt "tuple" T.tup) pa_nil))) pa_nil)))) pss_never pss_nil)
      (pss_cons (ps_if (pt_val (pe_callB call_isi (by rfl) T.isi (by decide +kernel) (pa_cons (pv 1) (pa_cons (pe_bt "int" T.int) pa_nil))))
          (pss_one (ps_ret (pe_and (pe_callB call_isi (by rfl) T.isi (by decide +kernel) (pa_cons (pv 0) (pa_cons (pe_bt "int" T.int) pa_nil)))
            (pe_and (pe_cmpR op_eq (pe_callB call_isi (by rfl) T.isi (by decide +kernel) (pa_cons (pv 0) (pa_cons (pe_bt "bool" T.boo) pa_nil))) (pe_callB call_isi (by rfl) T.isi (by decide +kernel) (pa_cons (pv 1) (pa_cons (pe_bt "bool" T.boo) pa_nil))) (nomark _))
              (pe_one (pe_cmpR op_eq (pv 0) (pv 1) (nomark _))))))) pss_nil)
      (pss_one (ps_ret (pe_and (pe_cmpR op_isBl (pe_callB call_isiT (by rfl) T.isi (by decide +kernel) (pa_cons (pv 0) (pa_cons (pe_tup (pa_cons (pe_bt "int" T.int) (pa_cons (pe_bt "list" T.list) (pa_cons (pe_bt "tuple" T.tup) pa_nil)))) pa_nil))) pe_bl (nomark _))
        (pe_one (pe_cmpR (op_eq.or (op_eqV hu)) (pv 0) (pv 1) (nomark _))))))), ?_⟩
    obtain ⟨Ty, hT, ty, hs⟩ := leaf_ty (K := K) hx
    obtain ⟨k1, k2, k3, k4⟩ := kitLT (K := K) hT
    refine ⟨_, rfl, (by show 2 ≤ sizeLine; decide), fun p np => ⟨x, p, [.ty "list", .ty "tuple"], _, _, false, rfl, upd_same, .cons (.ty _) (.cons (.ty _) .nil), ty _ (same_upd np), k1, false, rfl, iteF ?_⟩⟩
    have s1 : Same H (upd H p (.tup [.ty "list", .ty "tuple"])) := same_upd np
    refine ⟨_, rfl, x, .ty "int", _, _, _, rfl, .ty _, ty _ s1, k3, _, rfl, ite2 (fun hi => ?_) (fun hi => ?_)⟩
    · have hsc : scal x x = true := by
        rcases hs with z | ⟨z, _⟩
        · exact z
        · rw [z] at hi
          cases hi
      refine ⟨_, rfl, x, .ty "int", _, _, _, rfl, .ty _, ty _ s1, k3, _, rfl, iteBt hi ?_⟩
      refine ⟨_, rfl, x, .ty "bool", _, _, _, rfl, .ty _, ty _ s1, k4, _, rfl, x, .ty "bool", _, _, _, rfl, .ty _, ty _ s1, k4, rfl, _, rfl, iteBt (decide_eq_true rfl) ?_⟩
      refine ⟨_, rfl, _, rfl, hsc, ?_⟩
      rw [decide_eq_true rfl]
      exact k _ s1
    · have hi : (Ty == "int" || Ty == "bool") = false := by simpa using hi
      rw [hi] at k2
      refine ⟨_, rfl, (by show 3 ≤ sizeLine; decide), fun p2 np2 => ?_⟩
      have s2 : Same H (upd (upd H p (.tup [.ty "list", .ty "tuple"])) p2 (.tup [.ty "int", .ty "list", .ty "tuple"])) := s1.trans (same_upd np2)
      refine ⟨x, p2, [.ty "int", .ty "list", .ty "tuple"], _, _, false, rfl, upd_same, .cons (.ty _) (.cons (.ty _) (.cons (.ty _) .nil)), ty _ s2, k2, false, false, rfl, rfl, _, rfl, iteBt (decide_eq_true rfl) ?_⟩
      refine ⟨_, rfl, _, rfl, ?_⟩
      rcases hs with hsc | ⟨_, a, kvs, rfl, e, dk⟩
      · refine .inl ⟨hsc, ?_⟩
        rw [decide_eq_true rfl]
        exact k _ s2
      · refine .inr ⟨1, by decide, .inr ⟨a, a, kvs, kvs, rfl, rfl, s2 _ _ e, s2 _ _ e, rfl, fun p hp => ⟨p.2, (dk p hp).1, .inl ⟨rfl, (dk p hp).2⟩⟩⟩, k _ s2⟩
end
end KA

namespace KA
open PySem PySem.Spec PyProof.Rows L2 C8
def tOrE (t u : TE) : TE := fun σ H Q => t σ H Q ∨ u σ H Q
theorem PE.or {X : Cx} {e : Expr} {t u : TE} (h1 : PE X e t) (h2 : PE X e u) : PE X e (tOrE t u) := ⟨fun pins s σ H Q I h => h.elim (h1.run pins s σ H Q I) (h2.run pins s σ H Q I)⟩
/-- a comprehension over anything that yields n things -/
theorem lc_gen {J : It} {g : TG} {tt : TT} {te : TE} {vs : List Nat} {σ : L2.St} {H1 : Hp} {D : Addr} {Qd : Hp → Prop} (n : Nat) (Pv : Nat → Hp → Prop) (h0 : Pv 0 (upd H1 D (.lst []))) (hgo : ∀ i H, i < n → Pv i H → J.go i H) (hst : ∀ H, Pv n H → J.stop n H)
    (hs : ∀ i H x H', i < n → Pv i H → J.yld i H x H' → g x (wipe σ vs) H' fun σ2 H2 => wipe σ2 vs = wipe σ vs ∧ tt σ2 H2 fun b H3 =>
      if b = true then te σ2 H3 fun y H4 => ∃ acc, H4 D = some (.lst acc) ∧ acc.length < sizeLine ∧ Pv (i + 1) (upd H4 D (.lst (acc ++ [y]))) else Pv (i + 1) H3) (hd : ∀ H, Pv n H → Qd H) :
    ∃ W : Nat → Nat → Hp → Prop, (∃ m, W 0 m (upd H1 D (.lst []))) ∧ ∀ i m H, W i m H →
      (J.stop i H ∧ Qd H) ∨ (J.go i H ∧ ∃ Nx : Hp → Prop, (∀ H', Nx H' → ∃ m', m' < m ∧ W (i + 1) m' H') ∧ ∀ x H', J.yld i H x H' → g x (wipe σ vs) H' fun σ2 H2 => wipe σ2 vs = wipe σ vs ∧ tt σ2 H2 fun b H3 =>
        if b = true then te σ2 H3 fun y H4 => ∃ acc, H4 D = some (.lst acc) ∧ acc.length < sizeLine ∧ Nx (upd H4 D (.lst (acc ++ [y]))) else Nx H3) := by
  refine ⟨fun i m H => m + i = n ∧ Pv i H, ⟨n, rfl, h0⟩, ?_⟩
  rintro i m H ⟨hm, p⟩
  by_cases hi : i < n
  · exact .inr ⟨hgo i H hi p, Pv (i + 1), fun H' p' => ⟨m - 1, by omega, by omega, p'⟩, fun x H' y => hs i H x H' hi p y⟩
  · obtain rfl : i = n := by omega
    exact .inl ⟨hst H p, hd H p⟩
def spSameL : Sp := fun vs H Q _ => ∃ (a : Addr) (xs : List V), vs = [.ref a, .ref a] ∧ (H a = some (.lst xs) ∨ H a = some (.tup xs)) ∧ (∀ y ∈ xs, flatV y = true) ∧ xs.length ≤ 1000 ∧ ∀ H', Same H H' → Q (.bl true) H'
section
variable {P : Program} {w : World} {K : PySem.W.Frag} {mg : Str → Option Value} {base : Heap}
theorem c_sameL {f : Addr} {fd : FuncData} (F : Def K mg "_law_same" sSame f fd) (b : Binds K fd ["_law_found", "_law_due"] []) (T : Blt2 mg) (C : Cal P w K mg base 1 "_law_same" spSame0 []) : Cal P w K mg base 2 "_law_same" spSameL [] := by
  refine cal0 F b .nil scSame (fun vs H Q E h => ?_) (fun cdv A outer s H vs Q E hr h => ?_)
  · obtain ⟨a, xs, rfl, _⟩ := h
    rfl
  · obtain ⟨a, xs, rfl, ha, hf, hl, k⟩ := h
    have nd := scSame.nd
    refine ⟨_, pss_cons (ps_if (pt_val (pe_callB call_isiT (by rfl) T.isi (by decide +kernel) (pa_cons (pv 1) (pa_cons (pe_tup (pa_cons (pe_bt "list" T.list) (pa_cons (pe_bt "tuple" T.tup) pa_nil))) pa_nil))))
      (pss_cons (ps_if (pw_or (pt_cmpR op_ne (pe_callB call_isi (by rfl) T.isi (by decide +kernel) (pa_cons (pv 0) (pa_cons (pe_bt "list" T.list) pa_nil))) (pe_callB call_isi (by rfl) T.isi (by decide +kernel) (pa_cons (pv 1) (pa_cons (pe_bt "list" T.list) pa_nil))) (nomark _))
          (pw_or1 (pt_cmpR op_ne (pe_callB call_isi (by rfl) T.isi (by decide +kernel) (pa_cons (pv 0) (pa_cons (pe_bt "tuple" T.tup) pa_nil))) (pe_callB call_isi (by rfl) T.isi (by decide +kernel) (pa_cons (pv 1) (pa_cons (pe_bt "tuple" T.tup) pa_nil))) (nomark _)))).pt pss_never pss_nil)
        (pss_one (ps_ret (pe_and (pe_cmpR op_eq (pe_callB call_len_seq (by rfl) T.len PySem.boot_len (pa_cons (pv 0) pa_nil)) (pe_callB call_len_seq (by rfl) T.len PySem.boot_len (pa_cons (pv 1) pa_nil)) (nomark _))
          (pe_one (pe_callB (cr_all rfl) (by rfl) T.all (by decide +kernel) (pa_cons (pe_lc (own := [("_law_x", 2), ("_law_y", 3)]) (g := gTup K 2 (gCons (gName 2) (gCons (gName 3) gNil))) (tt := tYes) rfl nd (RZ.pi_zipA (by rfl) T.zip (pa_cons (pv 0) (pa_cons (pv 1) pa_nil)))
              (blkOk_by (N := ["_law_found", "_law_due", "_law_x", "_law_y"]) (sc := fnScope sSame) (by decide +kernel)) (fun _ _ _ _ _ => pg_tup rfl (pgs_cons (pg_name (i := 2) nd rfl (Or.inl rfl)) (pgs_cons (pg_name (i := 3) nd rfl (Or.inl rfl)) pgs_nil))) (fun _ _ _ _ _ => pts_nil)
              (fun _ _ _ _ _ => pe_c C hr (Nat.le_refl _) (by rfl) (pa_cons (pv 2) (pa_cons (pv 3) pa_nil)))) pa_nil))))))) pss_nil) pss_never, ?_⟩
    -- its type
    obtain ⟨Ty, hT, ty⟩ : ∃ Ty, (Ty = "list" ∨ Ty = "tuple") ∧ ∀ H', Same H H' → TyX K H' (.ref a) (.type Ty) := by
      rcases ha with e | e
      · exact ⟨"list", .inl rfl, fun H' s => .base (.lst (s _ _ e))⟩
      · exact ⟨"tuple", .inr rfl, fun H' s => .base (.tup (s _ _ e))⟩
    have k1 : PySem.W.kitAny K (.type Ty) [.type "list", .type "tuple"] = some true ∧ PySem.W.kitOne K (.type Ty) (.type "list") = some (Ty == "list") ∧ PySem.W.kitOne K (.type Ty) (.type "tuple") = some (Ty == "tuple") := by
      rcases hT with rfl | rfl
      · exact ⟨kitAny_cons (b := true) (kit_ty (by decide +kernel)) (fun z => by cases z) fun _ => rfl, kit_ty (by decide +kernel), kit_ty (by decide +kernel)⟩
      · exact ⟨kitAny_cons (b := false) (kit_ty (by decide +kernel)) (fun _ => kitAny_cons (b := true) (kit_ty (by decide +kernel)) (fun z => by cases z) fun _ => rfl) fun z => (by cases z), kit_ty (by decide +kernel), kit_ty (by decide +kernel)⟩
    obtain ⟨k1, k2, k3⟩ := k1
    refine ⟨_, rfl, (by show 2 ≤ sizeLine; decide), fun p np => ⟨_, p, [.ty "list", .ty "tuple"], _, _, true, rfl, upd_same, .cons (.ty _) (.cons (.ty _) .nil), ty _ (same_upd np), k1, true, rfl, iteT ?_⟩⟩
    have s1 : Same H (upd H p (.tup [.ty "list", .ty "tuple"])) := same_upd np
    generalize upd H p (.tup [.ty "list", .ty "tuple"]) = H1 at s1
    have hq : ∀ H', Same H H' → SqL K H' a xs ∨ SqT K H' a xs := fun H' s => ha.imp (fun e => SqL.of (s _ _ e)) fun e => SqT.of (s _ _ e)
    refine ⟨_, rfl, _, .ty "list", _, _, _, rfl, .ty _, ty _ s1, k2, _, rfl, _, .ty "list", _, _, _, rfl, .ty _, ty _ s1, k2, rfl, _, rfl, iteBf (by rw [decide_eq_true rfl]; rfl) ?_⟩
    refine ⟨_, rfl, _, .ty "tuple", _, _, _, rfl, .ty _, ty _ s1, k3, _, rfl, _, .ty "tuple", _, _, _, rfl, .ty _, ty _ s1, k3, rfl, _, rfl, iteBf (by rw [decide_eq_true rfl]; rfl) ?_⟩
    refine ⟨_, rfl, a, xs, rfl, hq _ s1, _, rfl, a, xs, rfl, hq _ s1, rfl, _, rfl, iteBt (decide_eq_true rfl) ?_⟩
    -- the comprehension
    have turn : ∀ (D T' : Addr) (i : Nat) (H2 : Hp) (x y : V), H D = none → Same H H2 → H2 D = some (.lst (List.replicate i (.bl true))) → H2 T' = none → xs[i]? = some x → xs[i]? = some y → i < xs.length →
        gTup K 2 (gCons (gName 2) (gCons (gName 3) gNil)) (.ref T') (wipe (start ["_law_found", "_law_due", "_law_x", "_law_y"] [V.ref a, V.ref a]) [2, 3]) (upd H2 T' (.tup [x, y])) fun σ2 H3 =>
          wipe σ2 [2, 3] = wipe (start ["_law_found", "_law_due", "_law_x", "_law_y"] [V.ref a, V.ref a]) [2, 3] ∧ tYes σ2 H3 fun b H4 =>
            if b = true then tCall spSame0 [] C8.E0 (tCons (tVar 2) (tCons (tVar 3) tNil)) σ2 H4 fun y H5 => ∃ acc, H5 D = some (.lst acc) ∧ acc.length < sizeLine ∧ (Same H (upd H5 D (.lst (acc ++ [y]))) ∧ (upd H5 D (.lst (acc ++ [y]))) D = some (.lst (List.replicate (i + 1) (.bl true))))
            else (Same H H4 ∧ H4 D = some (.lst (List.replicate (i + 1) (.bl true)))) := by
      intro D T' i H2 x y nD s hD nT hx hy hi
      rw [hx] at hy
      cases hy
      have fx := hf x (List.mem_of_getElem? hx)
      have neD : D ≠ T' := ne_of_none hD nT
      refine ⟨T', [x, x], rfl, SqT.of upd_same, rfl, x, [x], rfl, x, [], rfl, rfl, rfl, ?_⟩
      unfold tYes
      dsimp only
      rw [if_pos rfl]
      refine ⟨_, rfl, _, rfl, x, rfl, .inl fx, fun H5 s5 => ?_⟩
      have h5 := s5 D _ ((upd_ne neD).trans hD)
      refine ⟨_, h5, by rw [List.length_replicate, sizeLine_eq]; omega, fun b o e => ?_, ?_⟩
      · rw [upd_ne (ne_of_none e nD)]
        exact s5 b o (same_upd nT b o (s b o e))
      · rw [upd_same, ← List.replicate_succ']
    have hall : (List.replicate xs.length true).all id = true := List.all_eq_true.mpr fun b hb => (List.mem_replicate.mp hb).2
    have done : ∀ (D : Addr) (H2 : Hp), Same H H2 → H2 D = some (.lst (List.replicate xs.length (.bl true))) → rAll K [V.ref D] H2 Q := fun D H2 s hD => ⟨D, List.replicate xs.length true, rfl, SqL.of (by rw [hD, List.map_replicate]), by rw [hall]; exact k _ s⟩
    have get : ∀ {i : Nat}, i < xs.length → xs[i]? = some (xs.getD i .non) := fun {i} hi => by rw [List.getD_eq_getElem?_getD, List.getElem?_eq_getElem hi] <;> rfl
    rcases ha with e | e
    · have hs : ∀ H', Same H H' → SqL K H' a xs := fun H' s => SqL.of (s _ _ e)
      refine ⟨_, rfl, _, rfl, a, a, xs, xs, rfl, .inl ⟨hs _ s1, hs _ s1, fun D hD => lc_gen xs.length (fun i H2 => Same H H2 ∧ H2 D = some (.lst (List.replicate i (.bl true)))) ⟨s1.trans (same_upd hD), upd_same⟩
        (fun i H2 hi ⟨s, _⟩ => ⟨xs, xs, _, _, hs _ s, hs _ s, get hi, get hi⟩) (fun H2 ⟨s, _⟩ => ⟨xs, xs, hs _ s, hs _ s, .inl (Nat.le_refl _)⟩) (fun i H2 v H3 hi ⟨s, hD2⟩ yl => ?_) (fun H2 ⟨s, hD2⟩ => done D H2 s hD2)⟩⟩
      obtain ⟨T', x, y, rfl, nT, rfl, hx, hy⟩ := yl
      exact turn D T' i H2 x y (s1.free hD) s hD2 nT (hx _ (hs _ s)) (hy _ (hs _ s)) hi
    · have hs : ∀ H', Same H H' → SqT K H' a xs := fun H' s => SqT.of (s _ _ e)
      refine ⟨_, rfl, _, rfl, a, a, xs, xs, rfl, .inr ⟨hs _ s1, hs _ s1, fun D hD => lc_gen xs.length (fun i H2 => Same H H2 ∧ H2 D = some (.lst (List.replicate i (.bl true)))) ⟨s1.trans (same_upd hD), upd_same⟩
        (fun i H2 hi ⟨s, _⟩ => ⟨xs, xs, _, _, hs _ s, hs _ s, get hi, get hi⟩) (fun H2 ⟨s, _⟩ => ⟨xs, xs, hs _ s, hs _ s, .inl (Nat.le_refl _)⟩) (fun i H2 v H3 hi ⟨s, hD2⟩ yl => ?_) (fun H2 ⟨s, hD2⟩ => done D H2 s hD2)⟩⟩
      obtain ⟨T', x, y, rfl, nT, rfl, hx, hy⟩ := yl
      exact turn D T' i H2 x y (s1.free hD) s hD2 nT (hx _ (hs _ s)) (hy _ (hs _ s)) hi
end
end KA

namespace KA
open PySem PySem.Spec PyProof.Rows L2 C8 XI
/-- all that is no list stays -/
def Up (H H' : Hp) : Prop := ∀ b o, H b = some o → (∀ xs, o ≠ .lst xs) → H' b = some o
theorem Up.of {H H' : Hp} (s : Same H H') : Up H H' := fun b o e _ => s b o e
theorem Up.trans {H H1 H2 : Hp} (a : Up H H1) (b : Up H1 H2) : Up H H2 := fun c o e n => b c o (a c o e n) n
theorem Up.put {H : Hp} {l : Addr} {xs ys : List V} (h : H l = some (.lst xs)) : Up H (upd H l (.lst ys)) := fun b o e n => by
  rw [upd_ne (fun z => n xs (by rw [z, h] at e; exact (Option.some.inj e).symm))]
  exact e
abbrev IP := Hp → V → Prop
def Stab (p : IP) : Prop := ∀ H H' v, Up H H' → p H v → p H' v
abbrev Are (H : Hp) : List IP → List V → Prop := Paired fun p v => p H v
theorem Are.up {H H' : Hp} (u : Up H H') : ∀ {ps : List IP} {vs : List V}, (∀ p ∈ ps, Stab p) → Are H ps vs → Are H' ps vs
  | _, _, _, .nil => .nil
  | _, _, st, .cons h t => .cons (st _ List.mem_cons_self _ _ _ u h) (Are.up u (fun p hp => st p (List.mem_cons_of_mem _ hp)) t)
theorem Are.app {H : Hp} : ∀ {ps qs : List IP} {vs ws : List V}, Are H ps vs → Are H qs ws → Are H (ps ++ qs) (vs ++ ws)
  | _, _, _, _, .nil, h => h
  | _, _, _, _, .cons a t, h => .cons a (Are.app t h)
theorem Are.length {H : Hp} {ps : List IP} {vs : List V} (h : Are H ps vs) : vs.length = ps.length := (Paired.length h).symm
/-- te gives what p says; t gives what ps say -/
def It1 (Bs : Hp → Prop) (σ : L2.St) (te : TE) (p : IP) : Prop := ∀ H Q, Bs H → (∀ v H', Same H H' → p H' v → Q v H') → te σ H Q
def ItA (Bs : Hp → Prop) (σ : L2.St) (t : TA) (ps : List IP) : Prop := (∀ p ∈ ps, Stab p) ∧ ∀ H Q, Bs H → (∀ vs H', Same H H' → Are H' ps vs → Q vs H') → t σ H Q
theorem ita_nil {Bs : Hp → Prop} {σ : L2.St} : ItA Bs σ tNil [] := ⟨(fun _ h => nomatch h), fun H Q _ k => k [] H (Same.refl H) .nil⟩
theorem ita_cons {Bs : Hp → Prop} {σ : L2.St} {te : TE} {p : IP} {t : TA} {ps : List IP} (hB : ∀ H H', Up H H' → Bs H → Bs H') (h1 : It1 Bs σ te p) (hp : Stab p) (h2 : ItA Bs σ t ps) : ItA Bs σ (tCons te t) (p :: ps) := by
  refine ⟨fun q hq => ?_, fun H Q b k => h1 H _ b fun v H1 s1 pv => h2.2 H1 _ (hB _ _ (.of s1) b) fun vs H2 s2 ar => k _ H2 (s1.trans s2) (.cons (hp _ _ _ (.of s2) pv) ar)⟩
  rcases List.mem_cons.mp hq with rfl | hq
  · exact hp
  · exact h2.1 q hq
theorem ita_run {Bs : Hp → Prop} {σ : L2.St} {t : TA} {ps : List IP} {H : Hp} {Q : List V → Hp → Prop} (h : ItA Bs σ t ps) (b : Bs H) (k : ∀ vs H', Same H H' → Are H' ps vs → Q vs H') : t σ H Q := h.2 H Q b k
theorem stab_app {ps qs : List IP} (h1 : ∀ p ∈ ps, Stab p) (h2 : ∀ p ∈ qs, Stab p) : ∀ p ∈ ps ++ qs, Stab p := fun p hp => (List.mem_append.mp hp).elim (h1 p) (h2 p)
section
variable {Bs : Hp → Prop} {σ : L2.St} {H : Hp} {K : PySem.W.Frag} {t : TA} {ps qs : List IP} {D : Ends}
theorem st_first (ht : ItA Bs σ t ps) (b : Bs H) (hl : ps.length ≤ 1000) (k : ∀ l vs H', H l = none → Same H H' → H' l = some (.lst vs) → Are H' ps vs → (∀ p ∈ ps, Stab p) → D.nx (σ.set 1 (some (.ref l))) H') : tAsg (tLst t) (gName 1) D σ H :=
  ht.2 H _ b fun vs H1 s1 ar => ⟨by rw [ar.length, sizeLine_eq]; omega, fun p np => k p vs _ (s1.free np) (s1.trans (same_upd np)) upd_same (ar.up (.of (same_upd np)) ht.1) ht.1⟩
theorem st_ext {l : Addr} {vs : List V} (ht : ItA Bs σ t qs) (b : Bs H) (hp : ∀ p ∈ ps, Stab p) (hl : ps.length + qs.length ≤ 1000) (h1 : σ[1]? = some (some (.ref l))) (hv : H l = some (.lst vs)) (ar : Are H ps vs)
    (k : ∀ ws H', Up H H' → (∀ b o, H b = some o → b ≠ l → H' b = some o) → H' l = some (.lst (vs ++ ws)) → Are H' (ps ++ qs) (vs ++ ws) → (∀ p ∈ ps ++ qs, Stab p) → D.nx σ H') : tDrop (tBM K "list" rExtend (tVar 1) (tCons (tLst t) tNil)) D σ H := by
  refine ⟨_, h1, .inl ⟨rfl, _, SqL.of hv⟩, ht.2 H _ b fun ws H1 s1 ar1 => ⟨by rw [ar1.length, sizeLine_eq]; omega, fun q nq => ?_⟩⟩
  have e1 := s1 _ _ hv
  have nlq : l ≠ q := ne_of_none e1 nq
  have e2 : (upd H1 q (.lst ws)) l = some (.lst vs) := (upd_ne nlq).trans e1
  have u1 : Up H (upd (upd H1 q (.lst ws)) l (.lst (vs ++ ws))) := (Up.of (s1.trans (same_upd nq))).trans (Up.put e2)
  refine ⟨l, q, vs, ws, rfl, rfl, e2, upd_same, by rw [ar.length, ar1.length, sizeLine_eq]; omega, k ws _ u1 (fun b o e hb => by rw [upd_ne hb]; exact same_upd nq b o (s1 b o e)) upd_same ?_ (stab_app hp ht.1)⟩
  exact Are.app (ar.up u1 hp) (ar1.up ((Up.of (same_upd nq)).trans (Up.put e2)) ht.1)
end
/-- an exception of the class at C stands at a, with these attributes -/
def Ex (H : Hp) (a C : Addr) : Prop := H a = some (exo a C none) ∨ ∃ d fl, H a = some (exo a C (some d)) ∧ H d = some (exd d fl)
theorem exo_lst {e C : Addr} {d : Option Addr} {xs : List V} : exo e C d ≠ .lst xs := fun z => by
  unfold exo at z
  cases z
theorem exd_lst {e : Addr} {fs : List (Str × V)} {xs : List V} : exd e fs ≠ .lst xs := fun z => by
  unfold exd at z
  cases z
theorem Ex.up {H H' : Hp} {a C : Addr} (u : Up H H') (h : Ex H a C) : Ex H' a C := by
  rcases h with h | ⟨d, fl, h1, h2⟩
  · exact .inl (u _ _ h fun _ => exo_lst)
  · exact .inr ⟨d, fl, u _ _ h1 fun _ => exo_lst, u _ _ h2 fun _ => exd_lst⟩
/-- is an exception of the class at C; is x -/
def pEx (C : Addr) : IP := fun H v => ∃ a, v = .ref a ∧ Ex H a C
def pIs (x : V) : IP := fun _ v => v = x
theorem stab_ex {C : Addr} : Stab (pEx C) := fun _ _ _ u ⟨a, e, h⟩ => ⟨a, e, h.up u⟩
theorem stab_is {x : V} : Stab (pIs x) := fun _ _ _ _ h => h
section
variable {Bs : Hp → Prop} {σ : L2.St} {H : Hp} {K : PySem.W.Frag} {C : Addr} {f g : Str} {x y : V} {fs : List Str} {t : TA}
theorem ex_mk {H : Hp} {a d : Addr} {fl : List (Str × V)} (hne : d ≠ a) : Ex (mkH H a d C fl) a C := by
  cases fl with
  | nil => exact .inl upd_same
  | cons p fl => exact .inr ⟨d, _, upd_same, (upd_ne hne).trans upd_same⟩
theorem it_mk {vs : List V} (ht : ∀ H Q, Q vs H → t σ H Q) (hl : vs.length = fs.length) : It1 Bs σ (tMkP C fs t) (pEx C) := fun H Q _ k =>
  ht H _ ⟨hl, fun a d na nd ne => k _ _ (same_mk na nd) ⟨a, rfl, ex_mk ne⟩⟩
theorem it_exf {fl : List (Str × V)} {te : TE} (hte : ∀ H Q, (∀ a d, H a = none → H d = none → d ≠ a → Q (.ref a) (mkH H a d C fl)) → te σ H Q) (hn : fl ≠ []) (hx : fl.lookup f = some x) (T : ExcC K C) (hf : PySem.W.findIn K (.ref C) f = some none) : It1 Bs σ (tExf K f te) (pIs x) := fun H Q _ k =>
  hte H _ fun a d na nd ne => by
    cases fl with
    | nil => exact absurd rfl hn
    | cons p fl => exact ⟨a, C, d, p :: fl, x, rfl, upd_same, (upd_ne ne).trans upd_same, T, hf, hx, k _ _ (same_mk na nd) rfl⟩
theorem it_is {a : Addr} {u : Value} {c : V} {b : Bool} (hB : ∀ H, Bs H → Ex H a C) (h0 : σ[0]? = some (some (.ref a))) (hc : ClsV c u) (T : ExcC K C) (hk : PySem.W.kitOne K (.ref C) u = some b) : It1 Bs σ (tCB (rIsX K) (tCons (tVar 0) (tCons (tC c) tNil))) (pIs (.bl b)) := fun H Q hb k =>
  ⟨_, h0, a, C, c, u, b, rfl, hc, hB H hb, T, hk, k _ H (Same.refl H) rfl⟩
end
end KA

namespace KA
open PySem PySem.Spec PyProof.Rows L2 C8 XI
def nm : Nat → Str
  | 0 => "BadLanguage"
  | 1 => "UnknownLabel"
  | 2 => "NoPlace"
  | 3 => "BadText"
  | 4 => "BadLine"
  | 5 => "BadRule"
  | 6 => "UnknownHole"
  | 7 => "BadBook"
  | 8 => "BadFlag"
  | 9 => "UnlikeLanguages"
  | 10 => "UnlikeWays"
  | 11 => "BadTree"
  | 12 => "BadRow"
  | 13 => "NoBook"
  | 14 => "NoRule"
  | 15 => "BadCount"
  | 16 => "NoRest"
  | 17 => "BadBar"
  | 18 => "BadName"
  | 19 => "NoMark"
  | 20 => "NothingBack"
  | 21 => "NothingAgain"
  | _ => ""
def fsOf : Nat → List Str
  | 0 => ["index"]
  | 1 => ["label"]
  | 2 => ["place"]
  | 3 => ["at"]
  | 4 => ["line"]
  | 5 => ["word"]
  | 6 => ["hole"]
  | 7 => ["index", "word"]
  | 8 => ["below"]
  | 9 => []
  | 10 => []
  | 11 => ["tree"]
  | 12 => ["index"]
  | 13 => ["at"]
  | 14 => ["index"]
  | 15 => ["count"]
  | 16 => ["tree"]
  | 17 => ["at"]
  | 18 => ["name"]
  | 19 => ["name"]
  | 20 => []
  | 21 => []
  | _ => []
structure AllC (P : Program) (K : PySem.W.Frag) (mg : Str → Option Value) (c : Nat → Addr) : Prop where
  ec : ∀ j, j < 22 → EC P K mg (nm j) (c j) (fsOf j)
  nf : ∀ j, j < 22 → ∀ f ∈ fsOf j, PySem.W.findIn K (.ref (c j)) f = some none
  kit : ∀ i j, i < 22 → j < 22 → PySem.W.kitOne K (.ref (c i)) (.ref (c j)) = some (decide (i = j))
  run : ∃ CR, mg "RunError" = some (.ref CR) ∧ ∀ i, i < 22 → PySem.W.kitOne K (.ref (c i)) (.ref CR) = some true
  val : ∀ i, i < 22 → PySem.W.kitOne K (.ref (c i)) (.type "ValueError") = some true
theorem rev2 {fs ks : List Str} (h : fs = (["index", "word"] : List Str) := by rfl) (hk : ks = (["word", "index"] : List Str) := by rfl) (vs : List V) (us : List Value) (r : Vals vs us) (hl : us.length = fs.length) : Vals vs.reverse us.reverse ∧ us.reverse.length = fs.length ∧ (ks.zip us).Perm (fs.zip us.reverse) := by
  subst h hk
  match us, hl with
  | [a, b], _ => exact ⟨r.reverse, rfl, .swap _ _ _⟩
theorem are_is {H : Hp} : ∀ {xs vs : List V}, Are H (xs.map pIs) vs → vs = xs
  | [], _, .nil => rfl
  | x :: xs, _, .cons h t => by
    obtain rfl : _ = x := h
    rw [are_is t]
theorem are_ex {H : Hp} : ∀ {cs : List Addr} {vs : List V}, Are H (cs.map pEx) vs → ∃ as : List Addr, vs = as.map V.ref ∧ as.length = cs.length ∧ ∀ (j : Nat) (C : Addr), cs[j]? = some C → ∃ a, as[j]? = some a ∧ Ex H a C
  | [], _, .nil => ⟨[], rfl, rfl, fun j C h => by simp at h⟩
  | C0 :: cs, _, .cons h t => by
    obtain ⟨a, rfl, hE⟩ := h
    obtain ⟨as, rfl, hl, hj⟩ := are_ex t
    refine ⟨a :: as, rfl, by simp [hl], fun j C hC => ?_⟩
    cases j with
    | zero => exact ⟨a, rfl, by simp at hC; subst hC; exact hE⟩
    | succ j => exact hj j C (by simpa using hC)
/-- the one list that is made, then lengthened -/
theorem same_but {H H1 H2 : Hp} {l : Addr} (nl : H l = none) (s : Same H H1) (b : ∀ q o, H1 q = some o → q ≠ l → H2 q = some o) : Same H H2 := fun q o e => b q o (s q o e) (ne_of_none e nl)
def spKinds (c : Nat → Addr) : Sp := fun vs H Q _ => ∃ (e : Addr) (i : Nat), vs = [.ref e] ∧ i < 22 ∧ Ex H e (c i) ∧ ∀ l H', Same H H' → H' l = some (.lst ((List.range 22).map fun j => .bl (decide (i = j)))) → Q (.ref l) H'
def spPlace (c : Nat → Addr) : Sp := fun vs H Q _ => ∃ x : V, vs = [x] ∧ ∀ l (as : List Addr) H', Same H H' → H' l = some (.lst (as.map V.ref)) → as.length = 22 → (∀ j, j < 22 → ∃ a, as[j]? = some a ∧ Ex H' a (c j)) → Q (.ref l) H'
def spHeld : Sp := fun vs H Q _ => ∃ x : V, vs = [x] ∧ ∀ l H', Same H H' → H' l = some (.lst (List.replicate 37 x)) → Q (.ref l) H'
abbrev sKinds : Stmt := top 29
abbrev sPlace : Stmt := top 30
abbrev sHeld : Stmt := top 31
theorem scKinds : FnScope ["_law_e", "_law_found"] ["_law_e"] (fnScope sKinds) := fnScope_by (by decide +kernel)
theorem scPlace : FnScope ["_law_x", "_law_found"] ["_law_x"] (fnScope sPlace) := fnScope_by (by decide +kernel)
theorem scHeld : FnScope ["_law_x", "_law_found"] ["_law_x"] (fnScope sHeld) := fnScope_by (by decide +kernel)
section
variable {P : Program} {w : World} {K : PySem.W.Frag} {mg : Str → Option Value} {base : Heap} {c : Nat → Addr}
theorem c_kinds {f : Addr} {fd : FuncData} (F : Def K mg "_law_kinds" sKinds f fd) (b : Binds K fd ["_law_e"] []) (T : Blt2 mg) (A : AllC P K mg c) : Cal P w K mg base 1 "_law_kinds" (spKinds c) [] := by
  refine cal0 F b .nil scKinds (fun vs H Q E h => ?_) (fun cdv A' outer s H vs Q E hr h => ?_)
  · obtain ⟨e, i, rfl, _⟩ := h
    rfl
  · obtain ⟨e, i, rfl, hi, hE, k⟩ := h
    have nd := scKinds.nd
    have hB : ∀ H H', Up H H' → Ex H e (c i) → Ex H' e (c i) := fun _ _ u h => h.up u
    refine ⟨_, (pss_cons (ps_set (i := 1) nd rfl (Or.inl rfl) (pe_lst (pa_cons (pe_callB call_isX (by rfl) T.isi (by decide +kernel) (pa_cons (pv 0) (pa_cons (pe_glob (v := .ref (c 0)) (by rfl) (A.ec 0 (by decide)).gC rfl) pa_nil))) (pa_cons (pe_callB call_isX (by rfl) T.isi (by decide +kernel) (pa_cons (pv 0) (pa_cons (pe_glob (v := .ref (c 1)) (by rfl) (A.ec 1 (by decide)).gC rfl) pa_nil))) (pa_cons (pe_callB call_isX (by rfl) T.isi (by decide +kernel) (pa_cons (pv 0) (pa_cons (pe_glob (v := .ref (c 2)) (by rfl) (A.ec 2 (by decide)).gC rfl) pa_nil))) pa_nil)))))
      (pss_cons (ps_expr (pe_bm PySem.F.plainAttrs_list PySem.F.slot_list_extend PySem.F.type_list_extend mt_extend (pv 1) (pa_cons (pe_lst (pa_cons (pe_callB call_isX (by rfl) T.isi (by decide +kernel) (pa_cons (pv 0) (pa_cons (pe_glob (v := .ref (c 3)) (by rfl) (A.ec 3 (by decide)).gC rfl) pa_nil))) (pa_cons (pe_callB call_isX (by rfl) T.isi (by decide +kernel) (pa_cons (pv 0) (pa_cons (pe_glob (v := .ref (c 4)) (by rfl) (A.ec 4 (by decide)).gC rfl) pa_nil))) (pa_cons (pe_callB call_isX (by rfl) T.isi (by decide +kernel) (pa_cons (pv 0) (pa_cons (pe_glob (v := .ref (c 5)) (by rfl) (A.ec 5 (by decide)).gC rfl) pa_nil))) pa_nil)))) pa_nil)))
      (pss_cons (ps_expr (pe_bm PySem.F.plainAttrs_list PySem.F.slot_list_extend PySem.F.type_list_extend mt_extend (pv 1) (pa_cons (pe_lst (pa_cons (pe_callB call_isX (by rfl) T.isi (by decide +kernel) (pa_cons (pv 0) (pa_cons (pe_glob (v := .ref (c 6)) (by rfl) (A.ec 6 (by decide)).gC rfl) pa_nil))) (pa_cons (pe_callB call_isX (by rfl) T.isi (by decide +kernel) (pa_cons (pv 0) (pa_cons (pe_glob (v := .ref (c 7)) (by rfl) (A.ec 7 (by decide)).gC rfl) pa_nil))) (pa_cons (pe_callB call_isX (by rfl) T.isi (by decide +kernel) (pa_cons (pv 0) (pa_cons (pe_glob (v := .ref (c 8)) (by rfl) (A.ec 8 (by decide)).gC rfl) pa_nil))) pa_nil)))) pa_nil)))
      (pss_cons (ps_expr (pe_bm PySem.F.plainAttrs_list PySem.F.slot_list_extend PySem.F.type_list_extend mt_extend (pv 1) (pa_cons (pe_lst (pa_cons (pe_callB call_isX (by rfl) T.isi (by decide +kernel) (pa_cons (pv 0) (pa_cons (pe_glob (v := .ref (c 9)) (by rfl) (A.ec 9 (by decide)).gC rfl) pa_nil))) (pa_cons (pe_callB call_isX (by rfl) T.isi (by decide +kernel) (pa_cons (pv 0) (pa_cons (pe_glob (v := .ref (c 10)) (by rfl) (A.ec 10 (by decide)).gC rfl) pa_nil))) pa_nil))) pa_nil)))
      (pss_cons (ps_expr (pe_bm PySem.F.plainAttrs_list PySem.F.slot_list_extend PySem.F.type_list_extend mt_extend (pv 1) (pa_cons (pe_lst (pa_cons (pe_callB call_isX (by rfl) T.isi (by decide +kernel) (pa_cons (pv 0) (pa_cons (pe_glob (v := .ref (c 11)) (by rfl) (A.ec 11 (by decide)).gC rfl) pa_nil))) (pa_cons (pe_callB call_isX (by rfl) T.isi (by decide +kernel) (pa_cons (pv 0) (pa_cons (pe_glob (v := .ref (c 12)) (by rfl) (A.ec 12 (by decide)).gC rfl) pa_nil))) (pa_cons (pe_callB call_isX (by rfl) T.isi (by decide +kernel) (pa_cons (pv 0) (pa_cons (pe_glob (v := .ref (c 13)) (by rfl) (A.ec 13 (by decide)).gC rfl) pa_nil))) pa_nil)))) pa_nil)))
      (pss_cons (ps_expr (pe_bm PySem.F.plainAttrs_list PySem.F.slot_list_extend PySem.F.type_list_extend mt_extend (pv 1) (pa_cons (pe_lst (pa_cons (pe_callB call_isX (by rfl) T.isi (by decide +kernel) (pa_cons (pv 0) (pa_cons (pe_glob (v := .ref (c 14)) (by rfl) (A.ec 14 (by decide)).gC rfl) pa_nil))) (pa_cons (pe_callB call_isX (by rfl) T.isi (by decide +kernel) (pa_cons (pv 0) (pa_cons (pe_glob (v := .ref (c 15)) (by rfl) (A.ec 15 (by decide)).gC rfl) pa_nil))) (pa_cons (pe_callB call_isX (by rfl) T.isi (by decide +kernel) (pa_cons (pv 0) (pa_cons (pe_glob (v := .ref (c 16)) (by rfl) (A.ec 16 (by decide)).gC rfl) pa_nil))) pa_nil)))) pa_nil)))
      (pss_cons (ps_expr (pe_bm PySem.F.plainAttrs_list PySem.F.slot_list_extend PySem.F.type_list_extend mt_extend (pv 1) (pa_cons (pe_lst (pa_cons (pe_callB call_isX (by rfl) T.isi (by decide +kernel) (pa_cons (pv 0) (pa_cons (pe_glob (v := .ref (c 17)) (by rfl) (A.ec 17 (by decide)).gC rfl) pa_nil))) (pa_cons (pe_callB call_isX (by rfl) T.isi (by decide +kernel) (pa_cons (pv 0) (pa_cons (pe_glob (v := .ref (c 18)) (by rfl) (A.ec 18 (by decide)).gC rfl) pa_nil))) (pa_cons (pe_callB call_isX (by rfl) T.isi (by decide +kernel) (pa_cons (pv 0) (pa_cons (pe_glob (v := .ref (c 19)) (by rfl) (A.ec 19 (by decide)).gC rfl) pa_nil))) pa_nil)))) pa_nil)))
      (pss_cons (ps_expr (pe_bm PySem.F.plainAttrs_list PySem.F.slot_list_extend PySem.F.type_list_extend mt_extend (pv 1) (pa_cons (pe_lst (pa_cons (pe_callB call_isX (by rfl) T.isi (by decide +kernel) (pa_cons (pv 0) (pa_cons (pe_glob (v := .ref (c 20)) (by rfl) (A.ec 20 (by decide)).gC rfl) pa_nil))) (pa_cons (pe_callB call_isX (by rfl) T.isi (by decide +kernel) (pa_cons (pv 0) (pa_cons (pe_glob (v := .ref (c 21)) (by rfl) (A.ec 21 (by decide)).gC rfl) pa_nil))) pa_nil))) pa_nil)))
      (pss_one (ps_ret (pv 1))))))))))), ?_⟩
    refine st_first (Bs := fun H => Ex H e (c i)) (ita_cons hB (it_is (fun _ h => h) rfl (.own _) (A.ec i hi).is (A.kit i 0 hi (by decide))) stab_is (ita_cons hB (it_is (fun _ h => h) rfl (.own _) (A.ec i hi).is (A.kit i 1 hi (by decide))) stab_is (ita_cons hB (it_is (fun _ h => h) rfl (.own _) (A.ec i hi).is (A.kit i 2 hi (by decide))) stab_is ita_nil))) hE (by simp) (fun l vs0 H1 nl s1 e1 ar1 st1 => ?_)
    have b1 : ∀ q o, H1 q = some o → q ≠ l → H1 q = some o := fun _ _ e _ => e
    have x1 := hB _ _ (Up.of s1) hE
    refine st_ext (l := l) (Bs := fun H => Ex H e (c i)) (ita_cons hB (it_is (fun _ h => h) rfl (.own _) (A.ec i hi).is (A.kit i 3 hi (by decide))) stab_is (ita_cons hB (it_is (fun _ h => h) rfl (.own _) (A.ec i hi).is (A.kit i 4 hi (by decide))) stab_is (ita_cons hB (it_is (fun _ h => h) rfl (.own _) (A.ec i hi).is (A.kit i 5 hi (by decide))) stab_is ita_nil))) x1 st1 (by simp) rfl e1 ar1 (fun ws2 H2 u2 c2 e2 ar2 st2 => ?_)
    have x2 := hB _ _ u2 x1
    have b2 : ∀ q o, H1 q = some o → q ≠ l → H2 q = some o := fun q o e n => c2 q o (b1 q o e n) n
    refine st_ext (l := l) (Bs := fun H => Ex H e (c i)) (ita_cons hB (it_is (fun _ h => h) rfl (.own _) (A.ec i hi).is (A.kit i 6 hi (by decide))) stab_is (ita_cons hB (it_is (fun _ h => h) rfl (.own _) (A.ec i hi).is (A.kit i 7 hi (by decide))) stab_is (ita_cons hB (it_is (fun _ h => h) rfl (.own _) (A.ec i hi).is (A.kit i 8 hi (by decide))) stab_is ita_nil))) x2 st2 (by simp) rfl e2 ar2 (fun ws3 H3 u3 c3 e3 ar3 st3 => ?_)
    have x3 := hB _ _ u3 x2
    have b3 : ∀ q o, H1 q = some o → q ≠ l → H3 q = some o := fun q o e n => c3 q o (b2 q o e n) n
    refine st_ext (l := l) (Bs := fun H => Ex H e (c i)) (ita_cons hB (it_is (fun _ h => h) rfl (.own _) (A.ec i hi).is (A.kit i 9 hi (by decide))) stab_is (ita_cons hB (it_is (fun _ h => h) rfl (.own _) (A.ec i hi).is (A.kit i 10 hi (by decide))) stab_is ita_nil)) x3 st3 (by simp) rfl e3 ar3 (fun ws4 H4 u4 c4 e4 ar4 st4 => ?_)
    have x4 := hB _ _ u4 x3
    have b4 : ∀ q o, H1 q = some o → q ≠ l → H4 q = some o := fun q o e n => c4 q o (b3 q o e n) n
    refine st_ext (l := l) (Bs := fun H => Ex H e (c i)) (ita_cons hB (it_is (fun _ h => h) rfl (.own _) (A.ec i hi).is (A.kit i 11 hi (by decide))) stab_is (ita_cons hB (it_is (fun _ h => h) rfl (.own _) (A.ec i hi).is (A.kit i 12 hi (by decide))) stab_is (ita_cons hB (it_is (fun _ h => h) rfl (.own _) (A.ec i hi).is (A.kit i 13 hi (by decide))) stab_is ita_nil))) x4 st4 (by simp) rfl e4 ar4 (fun ws5 H5 u5 c5 e5 ar5 st5 => ?_)
    have x5 := hB _ _ u5 x4
    have b5 : ∀ q o, H1 q = some o → q ≠ l → H5 q = some o := fun q o e n => c5 q o (b4 q o e n) n
    refine st_ext (l := l) (Bs := fun H => Ex H e (c i)) (ita_cons hB (it_is (fun _ h => h) rfl (.own _) (A.ec i hi).is (A.kit i 14 hi (by decide))) stab_is (ita_cons hB (it_is (fun _ h => h) rfl (.own _) (A.ec i hi).is (A.kit i 15 hi (by decide))) stab_is (ita_cons hB (it_is (fun _ h => h) rfl (.own _) (A.ec i hi).is (A.kit i 16 hi (by decide))) stab_is ita_nil))) x5 st5 (by simp) rfl e5 ar5 (fun ws6 H6 u6 c6 e6 ar6 st6 => ?_)
    have x6 := hB _ _ u6 x5
    have b6 : ∀ q o, H1 q = some o → q ≠ l → H6 q = some o := fun q o e n => c6 q o (b5 q o e n) n
    refine st_ext (l := l) (Bs := fun H => Ex H e (c i)) (ita_cons hB (it_is (fun _ h => h) rfl (.own _) (A.ec i hi).is (A.kit i 17 hi (by decide))) stab_is (ita_cons hB (it_is (fun _ h => h) rfl (.own _) (A.ec i hi).is (A.kit i 18 hi (by decide))) stab_is (ita_cons hB (it_is (fun _ h => h) rfl (.own _) (A.ec i hi).is (A.kit i 19 hi (by decide))) stab_is ita_nil))) x6 st6 (by simp) rfl e6 ar6 (fun ws7 H7 u7 c7 e7 ar7 st7 => ?_)
    have x7 := hB _ _ u7 x6
    have b7 : ∀ q o, H1 q = some o → q ≠ l → H7 q = some o := fun q o e n => c7 q o (b6 q o e n) n
    refine st_ext (l := l) (Bs := fun H => Ex H e (c i)) (ita_cons hB (it_is (fun _ h => h) rfl (.own _) (A.ec i hi).is (A.kit i 20 hi (by decide))) stab_is (ita_cons hB (it_is (fun _ h => h) rfl (.own _) (A.ec i hi).is (A.kit i 21 hi (by decide))) stab_is ita_nil)) x7 st7 (by simp) rfl e7 ar7 (fun ws8 H8 u8 c8 e8 ar8 st8 => ?_)
    have x8 := hB _ _ u8 x7
    have b8 : ∀ q o, H1 q = some o → q ≠ l → H8 q = some o := fun q o e n => c8 q o (b7 q o e n) n
    refine ⟨_, rfl, k l _ (same_but nl s1 b8) (e8.trans ?_)⟩
    have z := are_is (xs := (List.range 22).map fun j => .bl (decide (i = j))) ar8
    rw [z]
theorem c_place {f : Addr} {fd : FuncData} (F : Def K mg "_law_by_place" sPlace f fd) (b : Binds K fd ["_law_x"] []) (A : AllC P K mg c) : Cal P w K mg base 2 "_law_by_place" (spPlace c) [] := by
  refine cal0 F b .nil scPlace (fun vs H Q E h => ?_) (fun cdv A' outer s H vs Q E hr h => ?_)
  · obtain ⟨x, rfl, _⟩ := h
    rfl
  · obtain ⟨x, rfl, k⟩ := h
    have nd := scPlace.nd
    have hB : ∀ H H' : Hp, Up H H' → True → True := fun _ _ _ h => h
    refine ⟨_, (pss_cons (ps_set (i := 1) nd rfl (Or.inl rfl) (pe_lst (pa_cons (pe_excP (A.ec 0 (by decide)) hr (by rfl) (pa_cons (pv 0) pa_nil)) (pa_cons (pe_excP (A.ec 1 (by decide)) hr (by rfl) (pa_cons (pv 0) pa_nil)) (pa_cons (pe_excP (A.ec 2 (by decide)) hr (by rfl) (pa_cons (pv 0) pa_nil)) (pa_cons (pe_excP (A.ec 3 (by decide)) hr (by rfl) (pa_cons (pv 0) pa_nil)) (pa_cons (pe_excP (A.ec 4 (by decide)) hr (by rfl) (pa_cons (pv 0) pa_nil)) (pa_cons (pe_excP (A.ec 5 (by decide)) hr (by rfl) (pa_cons (pv 0) pa_nil)) pa_nil))))))))
      (pss_cons (ps_expr (pe_bm PySem.F.plainAttrs_list PySem.F.slot_list_extend PySem.F.type_list_extend mt_extend (pv 1) (pa_cons (pe_lst (pa_cons (pe_excP (A.ec 6 (by decide)) hr (by rfl) (pa_cons (pv 0) pa_nil)) (pa_cons (pe_excP (A.ec 7 (by decide)) hr (by rfl) (pa_cons (pv 0) (pa_cons pe_str pa_nil))) (pa_cons (pe_excP (A.ec 8 (by decide)) hr (by rfl) (pa_cons (pv 0) pa_nil)) (pa_cons (pe_exc0 (A.ec 9 (by decide)) hr (by rfl)) (pa_cons (pe_exc0 (A.ec 10 (by decide)) hr (by rfl)) pa_nil)))))) pa_nil)))
      (pss_cons (ps_expr (pe_bm PySem.F.plainAttrs_list PySem.F.slot_list_extend PySem.F.type_list_extend mt_extend (pv 1) (pa_cons (pe_lst (pa_cons (pe_excP (A.ec 11 (by decide)) hr (by rfl) (pa_cons (pv 0) pa_nil)) (pa_cons (pe_excP (A.ec 12 (by decide)) hr (by rfl) (pa_cons (pv 0) pa_nil)) (pa_cons (pe_excP (A.ec 13 (by decide)) hr (by rfl) (pa_cons (pv 0) pa_nil)) (pa_cons (pe_excP (A.ec 14 (by decide)) hr (by rfl) (pa_cons (pv 0) pa_nil)) (pa_cons (pe_excP (A.ec 15 (by decide)) hr (by rfl) (pa_cons (pv 0) pa_nil)) (pa_cons (pe_excP (A.ec 16 (by decide)) hr (by rfl) (pa_cons (pv 0) pa_nil)) (pa_cons (pe_excP (A.ec 17 (by decide)) hr (by rfl) (pa_cons (pv 0) pa_nil)) pa_nil)))))))) pa_nil)))
      (pss_cons (ps_expr (pe_bm PySem.F.plainAttrs_list PySem.F.slot_list_extend PySem.F.type_list_extend mt_extend (pv 1) (pa_cons (pe_lst (pa_cons (pe_excP (A.ec 18 (by decide)) hr (by rfl) (pa_cons (pv 0) pa_nil)) (pa_cons (pe_excP (A.ec 19 (by decide)) hr (by rfl) (pa_cons (pv 0) pa_nil)) (pa_cons (pe_exc0 (A.ec 20 (by decide)) hr (by rfl)) (pa_cons (pe_exc0 (A.ec 21 (by decide)) hr (by rfl)) pa_nil))))) pa_nil)))
      (pss_one (ps_ret (pv 1))))))), ?_⟩
    refine st_first (Bs := fun _ => True) (ita_cons hB (it_mk (vs := [x]) (fun H Q q => ⟨_, rfl, q⟩) rfl) stab_ex (ita_cons hB (it_mk (vs := [x]) (fun H Q q => ⟨_, rfl, q⟩) rfl) stab_ex (ita_cons hB (it_mk (vs := [x]) (fun H Q q => ⟨_, rfl, q⟩) rfl) stab_ex (ita_cons hB (it_mk (vs := [x]) (fun H Q q => ⟨_, rfl, q⟩) rfl) stab_ex (ita_cons hB (it_mk (vs := [x]) (fun H Q q => ⟨_, rfl, q⟩) rfl) stab_ex (ita_cons hB (it_mk (vs := [x]) (fun H Q q => ⟨_, rfl, q⟩) rfl) stab_ex ita_nil)))))) True.intro (by simp) (fun l vs0 H1 nl s1 e1 ar1 st1 => ?_)
    have b1 : ∀ q o, H1 q = some o → q ≠ l → H1 q = some o := fun _ _ e _ => e
    have x1 := hB _ _ (Up.of s1) True.intro
    refine st_ext (l := l) (Bs := fun _ => True) (ita_cons hB (it_mk (vs := [x]) (fun H Q q => ⟨_, rfl, q⟩) rfl) stab_ex (ita_cons hB (it_mk (vs := [x, .str "a"]) (fun H Q q => ⟨_, rfl, q⟩) rfl) stab_ex (ita_cons hB (it_mk (vs := [x]) (fun H Q q => ⟨_, rfl, q⟩) rfl) stab_ex (ita_cons hB (it_mk (fs := []) (vs := []) (fun H Q q => q) rfl) stab_ex (ita_cons hB (it_mk (fs := []) (vs := []) (fun H Q q => q) rfl) stab_ex ita_nil))))) x1 st1 (by simp) rfl e1 ar1 (fun ws2 H2 u2 c2 e2 ar2 st2 => ?_)
    have x2 := hB _ _ u2 x1
    have b2 : ∀ q o, H1 q = some o → q ≠ l → H2 q = some o := fun q o e n => c2 q o (b1 q o e n) n
    refine st_ext (l := l) (Bs := fun _ => True) (ita_cons hB (it_mk (vs := [x]) (fun H Q q => ⟨_, rfl, q⟩) rfl) stab_ex (ita_cons hB (it_mk (vs := [x]) (fun H Q q => ⟨_, rfl, q⟩) rfl) stab_ex (ita_cons hB (it_mk (vs := [x]) (fun H Q q => ⟨_, rfl, q⟩) rfl) stab_ex (ita_cons hB (it_mk (vs := [x]) (fun H Q q => ⟨_, rfl, q⟩) rfl) stab_ex (ita_cons hB (it_mk (vs := [x]) (fun H Q q => ⟨_, rfl, q⟩) rfl) stab_ex (ita_cons hB (it_mk (vs := [x]) (fun H Q q => ⟨_, rfl, q⟩) rfl) stab_ex (ita_cons hB (it_mk (vs := [x]) (fun H Q q => ⟨_, rfl, q⟩) rfl) stab_ex ita_nil))))))) x2 st2 (by simp) rfl e2 ar2 (fun ws3 H3 u3 c3 e3 ar3 st3 => ?_)
    have x3 := hB _ _ u3 x2
    have b3 : ∀ q o, H1 q = some o → q ≠ l → H3 q = some o := fun q o e n => c3 q o (b2 q o e n) n
    refine st_ext (l := l) (Bs := fun _ => True) (ita_cons hB (it_mk (vs := [x]) (fun H Q q => ⟨_, rfl, q⟩) rfl) stab_ex (ita_cons hB (it_mk (vs := [x]) (fun H Q q => ⟨_, rfl, q⟩) rfl) stab_ex (ita_cons hB (it_mk (fs := []) (vs := []) (fun H Q q => q) rfl) stab_ex (ita_cons hB (it_mk (fs := []) (vs := []) (fun H Q q => q) rfl) stab_ex ita_nil)))) x3 st3 (by simp) rfl e3 ar3 (fun ws4 H4 u4 c4 e4 ar4 st4 => ?_)
    have x4 := hB _ _ u4 x3
    have b4 : ∀ q o, H1 q = some o → q ≠ l → H4 q = some o := fun q o e n => c4 q o (b3 q o e n) n
    obtain ⟨as, z, hl, hj⟩ := are_ex (cs := (List.range 22).map c) ar4
    refine ⟨_, rfl, k l as _ (same_but nl s1 b4) (e4.trans (by rw [z])) (hl.trans (by simp)) fun j hj2 => hj j (c j) (by simp [hj2])⟩
theorem c_held {f : Addr} {fd : FuncData} (F : Def K mg "_law_held" sHeld f fd) (b : Binds K fd ["_law_x"] []) (A : AllC P K mg c) : Cal P w K mg base 2 "_law_held" spHeld [] := by
  refine cal0 F b .nil scHeld (fun vs H Q E h => ?_) (fun cdv A' outer s H vs Q E hr h => ?_)
  · obtain ⟨x, rfl, _⟩ := h
    rfl
  · obtain ⟨x, rfl, k⟩ := h
    have nd := scHeld.nd
    have hB : ∀ H H' : Hp, Up H H' → True → True := fun _ _ _ h => h
    refine ⟨_, (pss_cons (ps_set (i := 1) nd rfl (Or.inl rfl) (pe_lst (pa_cons (pe_exf (pe_excK (A.ec 0 (by decide)) (g := id) (gu := id) hr (by rfl) (pk_cons (pv 0) pk_nil) (hgu := fun _ _ r h => ⟨r, h, .refl _⟩))) (pa_cons (pe_exf (pe_excK (A.ec 1 (by decide)) (g := id) (gu := id) hr (by rfl) (pk_cons (pv 0) pk_nil) (hgu := fun _ _ r h => ⟨r, h, .refl _⟩))) (pa_cons (pe_exf (pe_excK (A.ec 2 (by decide)) (g := id) (gu := id) hr (by rfl) (pk_cons (pv 0) pk_nil) (hgu := fun _ _ r h => ⟨r, h, .refl _⟩))) pa_nil)))))
      (pss_cons (ps_expr (pe_bm PySem.F.plainAttrs_list PySem.F.slot_list_extend PySem.F.type_list_extend mt_extend (pv 1) (pa_cons (pe_lst (pa_cons (pe_exf (pe_excK (A.ec 3 (by decide)) (g := id) (gu := id) hr (by rfl) (pk_cons (pv 0) pk_nil) (hgu := fun _ _ r h => ⟨r, h, .refl _⟩))) (pa_cons (pe_exf (pe_excK (A.ec 4 (by decide)) (g := id) (gu := id) hr (by rfl) (pk_cons (pv 0) pk_nil) (hgu := fun _ _ r h => ⟨r, h, .refl _⟩))) (pa_cons (pe_exf (pe_excK (A.ec 5 (by decide)) (g := id) (gu := id) hr (by rfl) (pk_cons (pv 0) pk_nil) (hgu := fun _ _ r h => ⟨r, h, .refl _⟩))) pa_nil)))) pa_nil)))
      (pss_cons (ps_expr (pe_bm PySem.F.plainAttrs_list PySem.F.slot_list_extend PySem.F.type_list_extend mt_extend (pv 1) (pa_cons (pe_lst (pa_cons (pe_exf (pe_excK (A.ec 6 (by decide)) (g := id) (gu := id) hr (by rfl) (pk_cons (pv 0) pk_nil) (hgu := fun _ _ r h => ⟨r, h, .refl _⟩))) (pa_cons (pe_exf (pe_excK (A.ec 8 (by decide)) (g := id) (gu := id) hr (by rfl) (pk_cons (pv 0) pk_nil) (hgu := fun _ _ r h => ⟨r, h, .refl _⟩))) (pa_cons (pe_exf (pe_excK (A.ec 11 (by decide)) (g := id) (gu := id) hr (by rfl) (pk_cons (pv 0) pk_nil) (hgu := fun _ _ r h => ⟨r, h, .refl _⟩))) pa_nil)))) pa_nil)))
      (pss_cons (ps_expr (pe_bm PySem.F.plainAttrs_list PySem.F.slot_list_extend PySem.F.type_list_extend mt_extend (pv 1) (pa_cons (pe_lst (pa_cons (pe_exf (pe_excK (A.ec 12 (by decide)) (g := id) (gu := id) hr (by rfl) (pk_cons (pv 0) pk_nil) (hgu := fun _ _ r h => ⟨r, h, .refl _⟩))) (pa_cons (pe_exf (pe_excK (A.ec 13 (by decide)) (g := id) (gu := id) hr (by rfl) (pk_cons (pv 0) pk_nil) (hgu := fun _ _ r h => ⟨r, h, .refl _⟩))) (pa_cons (pe_exf (pe_excK (A.ec 14 (by decide)) (g := id) (gu := id) hr (by rfl) (pk_cons (pv 0) pk_nil) (hgu := fun _ _ r h => ⟨r, h, .refl _⟩))) pa_nil)))) pa_nil)))
      (pss_cons (ps_expr (pe_bm PySem.F.plainAttrs_list PySem.F.slot_list_extend PySem.F.type_list_extend mt_extend (pv 1) (pa_cons (pe_lst (pa_cons (pe_exf (pe_excK (A.ec 15 (by decide)) (g := id) (gu := id) hr (by rfl) (pk_cons (pv 0) pk_nil) (hgu := fun _ _ r h => ⟨r, h, .refl _⟩))) (pa_cons (pe_exf (pe_excK (A.ec 16 (by decide)) (g := id) (gu := id) hr (by rfl) (pk_cons (pv 0) pk_nil) (hgu := fun _ _ r h => ⟨r, h, .refl _⟩))) (pa_cons (pe_exf (pe_excK (A.ec 17 (by decide)) (g := id) (gu := id) hr (by rfl) (pk_cons (pv 0) pk_nil) (hgu := fun _ _ r h => ⟨r, h, .refl _⟩))) pa_nil)))) pa_nil)))
      (pss_cons (ps_expr (pe_bm PySem.F.plainAttrs_list PySem.F.slot_list_extend PySem.F.type_list_extend mt_extend (pv 1) (pa_cons (pe_lst (pa_cons (pe_exf (pe_excK (A.ec 18 (by decide)) (g := id) (gu := id) hr (by rfl) (pk_cons (pv 0) pk_nil) (hgu := fun _ _ r h => ⟨r, h, .refl _⟩))) (pa_cons (pe_exf (pe_excK (A.ec 19 (by decide)) (g := id) (gu := id) hr (by rfl) (pk_cons (pv 0) pk_nil) (hgu := fun _ _ r h => ⟨r, h, .refl _⟩))) pa_nil))) pa_nil)))
      (pss_cons (ps_expr (pe_bm PySem.F.plainAttrs_list PySem.F.slot_list_extend PySem.F.type_list_extend mt_extend (pv 1) (pa_cons (pe_lst (pa_cons (pe_exf (pe_excP (A.ec 0 (by decide)) hr (by rfl) (pa_cons (pv 0) pa_nil))) (pa_cons (pe_exf (pe_excP (A.ec 1 (by decide)) hr (by rfl) (pa_cons (pv 0) pa_nil))) (pa_cons (pe_exf (pe_excP (A.ec 2 (by decide)) hr (by rfl) (pa_cons (pv 0) pa_nil))) (pa_cons (pe_exf (pe_excP (A.ec 3 (by decide)) hr (by rfl) (pa_cons (pv 0) pa_nil))) pa_nil))))) pa_nil)))
      (pss_cons (ps_expr (pe_bm PySem.F.plainAttrs_list PySem.F.slot_list_extend PySem.F.type_list_extend mt_extend (pv 1) (pa_cons (pe_lst (pa_cons (pe_exf (pe_excP (A.ec 4 (by decide)) hr (by rfl) (pa_cons (pv 0) pa_nil))) (pa_cons (pe_exf (pe_excP (A.ec 5 (by decide)) hr (by rfl) (pa_cons (pv 0) pa_nil))) (pa_cons (pe_exf (pe_excP (A.ec 6 (by decide)) hr (by rfl) (pa_cons (pv 0) pa_nil))) (pa_cons (pe_exf (pe_excP (A.ec 8 (by decide)) hr (by rfl) (pa_cons (pv 0) pa_nil))) pa_nil))))) pa_nil)))
      (pss_cons (ps_expr (pe_bm PySem.F.plainAttrs_list PySem.F.slot_list_extend PySem.F.type_list_extend mt_extend (pv 1) (pa_cons (pe_lst (pa_cons (pe_exf (pe_excP (A.ec 11 (by decide)) hr (by rfl) (pa_cons (pv 0) pa_nil))) (pa_cons (pe_exf (pe_excP (A.ec 12 (by decide)) hr (by rfl) (pa_cons (pv 0) pa_nil))) (pa_cons (pe_exf (pe_excP (A.ec 13 (by decide)) hr (by rfl) (pa_cons (pv 0) pa_nil))) (pa_cons (pe_exf (pe_excP (A.ec 14 (by decide)) hr (by rfl) (pa_cons (pv 0) pa_nil))) pa_nil))))) pa_nil)))
      (pss_cons (ps_expr (pe_bm PySem.F.plainAttrs_list PySem.F.slot_list_extend PySem.F.type_list_extend mt_extend (pv 1) (pa_cons (pe_lst (pa_cons (pe_exf (pe_excP (A.ec 15 (by decide)) hr (by rfl) (pa_cons (pv 0) pa_nil))) (pa_cons (pe_exf (pe_excP (A.ec 16 (by decide)) hr (by rfl) (pa_cons (pv 0) pa_nil))) (pa_cons (pe_exf (pe_excP (A.ec 17 (by decide)) hr (by rfl) (pa_cons (pv 0) pa_nil))) (pa_cons (pe_exf (pe_excP (A.ec 18 (by decide)) hr (by rfl) (pa_cons (pv 0) pa_nil))) (pa_cons (pe_exf (pe_excP (A.ec 19 (by decide)) hr (by rfl) (pa_cons (pv 0) pa_nil))) pa_nil)))))) pa_nil)))
      (pss_one (ps_ret (pe_op op_cat (pv 1) (pe_lst (pa_cons (pe_exf (pe_excK (A.ec 7 (by decide)) (g := List.reverse) (gu := List.reverse) hr (by rfl) (pk_cons pe_str (pk_cons (pv 0) pk_nil)) (hgu := rev2))) (pa_cons (pe_exf (pe_excK (A.ec 7 (by decide)) (g := id) (gu := id) hr (by rfl) (pk_cons pe_str (pk_cons (pv 0) pk_nil)) (hgu := fun _ _ r h => ⟨r, h, .refl _⟩))) (pa_cons (pe_exf (pe_excP (A.ec 7 (by decide)) hr (by rfl) (pa_cons pe_str (pa_cons (pv 0) pa_nil)))) pa_nil))))))))))))))))), ?_⟩
    refine st_first (Bs := fun _ => True) (ita_cons hB (it_exf (fl := (["index"] : List Str).zip [x]) (fun H Q q => ⟨_, rfl, rfl, q⟩) (by simp) (by rfl) ((A.ec 0 (by decide)).is) (A.nf 0 (by decide) _ (by decide))) stab_is (ita_cons hB (it_exf (fl := (["label"] : List Str).zip [x]) (fun H Q q => ⟨_, rfl, rfl, q⟩) (by simp) (by rfl) ((A.ec 1 (by decide)).is) (A.nf 1 (by decide) _ (by decide))) stab_is (ita_cons hB (it_exf (fl := (["place"] : List Str).zip [x]) (fun H Q q => ⟨_, rfl, rfl, q⟩) (by simp) (by rfl) ((A.ec 2 (by decide)).is) (A.nf 2 (by decide) _ (by decide))) stab_is ita_nil))) True.intro (by simp) (fun l vs0 H1 nl s1 e1 ar1 st1 => ?_)
    have b1 : ∀ q o, H1 q = some o → q ≠ l → H1 q = some o := fun _ _ e _ => e
    have x1 := hB _ _ (Up.of s1) True.intro
    refine st_ext (l := l) (Bs := fun _ => True) (ita_cons hB (it_exf (fl := (["at"] : List Str).zip [x]) (fun H Q q => ⟨_, rfl, rfl, q⟩) (by simp) (by rfl) ((A.ec 3 (by decide)).is) (A.nf 3 (by decide) _ (by decide))) stab_is (ita_cons hB (it_exf (fl := (["line"] : List Str).zip [x]) (fun H Q q => ⟨_, rfl, rfl, q⟩) (by simp) (by rfl) ((A.ec 4 (by decide)).is) (A.nf 4 (by decide) _ (by decide))) stab_is (ita_cons hB (it_exf (fl := (["word"] : List Str).zip [x]) (fun H Q q => ⟨_, rfl, rfl, q⟩) (by simp) (by rfl) ((A.ec 5 (by decide)).is) (A.nf 5 (by decide) _ (by decide))) stab_is ita_nil))) x1 st1 (by simp) rfl e1 ar1 (fun ws2 H2 u2 c2 e2 ar2 st2 => ?_)
    have x2 := hB _ _ u2 x1
    have b2 : ∀ q o, H1 q = some o → q ≠ l → H2 q = some o := fun q o e n => c2 q o (b1 q o e n) n
    refine st_ext (l := l) (Bs := fun _ => True) (ita_cons hB (it_exf (fl := (["hole"] : List Str).zip [x]) (fun H Q q => ⟨_, rfl, rfl, q⟩) (by simp) (by rfl) ((A.ec 6 (by decide)).is) (A.nf 6 (by decide) _ (by decide))) stab_is (ita_cons hB (it_exf (fl := (["below"] : List Str).zip [x]) (fun H Q q => ⟨_, rfl, rfl, q⟩) (by simp) (by rfl) ((A.ec 8 (by decide)).is) (A.nf 8 (by decide) _ (by decide))) stab_is (ita_cons hB (it_exf (fl := (["tree"] : List Str).zip [x]) (fun H Q q => ⟨_, rfl, rfl, q⟩) (by simp) (by rfl) ((A.ec 11 (by decide)).is) (A.nf 11 (by decide) _ (by decide))) stab_is ita_nil))) x2 st2 (by simp) rfl e2 ar2 (fun ws3 H3 u3 c3 e3 ar3 st3 => ?_)
    have x3 := hB _ _ u3 x2
    have b3 : ∀ q o, H1 q = some o → q ≠ l → H3 q = some o := fun q o e n => c3 q o (b2 q o e n) n
    refine st_ext (l := l) (Bs := fun _ => True) (ita_cons hB (it_exf (fl := (["index"] : List Str).zip [x]) (fun H Q q => ⟨_, rfl, rfl, q⟩) (by simp) (by rfl) ((A.ec 12 (by decide)).is) (A.nf 12 (by decide) _ (by decide))) stab_is (ita_cons hB (it_exf (fl := (["at"] : List Str).zip [x]) (fun H Q q => ⟨_, rfl, rfl, q⟩) (by simp) (by rfl) ((A.ec 13 (by decide)).is) (A.nf 13 (by decide) _ (by decide))) stab_is (ita_cons hB (it_exf (fl := (["index"] : List Str).zip [x]) (fun H Q q => ⟨_, rfl, rfl, q⟩) (by simp) (by rfl) ((A.ec 14 (by decide)).is) (A.nf 14 (by decide) _ (by decide))) stab_is ita_nil))) x3 st3 (by simp) rfl e3 ar3 (fun ws4 H4 u4 c4 e4 ar4 st4 => ?_)
    have x4 := hB _ _ u4 x3
    have b4 : ∀ q o, H1 q = some o → q ≠ l → H4 q = some o := fun q o e n => c4 q o (b3 q o e n) n
    refine st_ext (l := l) (Bs := fun _ => True) (ita_cons hB (it_exf (fl := (["count"] : List Str).zip [x]) (fun H Q q => ⟨_, rfl, rfl, q⟩) (by simp) (by rfl) ((A.ec 15 (by decide)).is) (A.nf 15 (by decide) _ (by decide))) stab_is (ita_cons hB (it_exf (fl := (["tree"] : List Str).zip [x]) (fun H Q q => ⟨_, rfl, rfl, q⟩) (by simp) (by rfl) ((A.ec 16 (by decide)).is) (A.nf 16 (by decide) _ (by decide))) stab_is (ita_cons hB (it_exf (fl := (["at"] : List Str).zip [x]) (fun H Q q => ⟨_, rfl, rfl, q⟩) (by simp) (by rfl) ((A.ec 17 (by decide)).is) (A.nf 17 (by decide) _ (by decide))) stab_is ita_nil))) x4 st4 (by simp) rfl e4 ar4 (fun ws5 H5 u5 c5 e5 ar5 st5 => ?_)
    have x5 := hB _ _ u5 x4
    have b5 : ∀ q o, H1 q = some o → q ≠ l → H5 q = some o := fun q o e n => c5 q o (b4 q o e n) n
    refine st_ext (l := l) (Bs := fun _ => True) (ita_cons hB (it_exf (fl := (["name"] : List Str).zip [x]) (fun H Q q => ⟨_, rfl, rfl, q⟩) (by simp) (by rfl) ((A.ec 18 (by decide)).is) (A.nf 18 (by decide) _ (by decide))) stab_is (ita_cons hB (it_exf (fl := (["name"] : List Str).zip [x]) (fun H Q q => ⟨_, rfl, rfl, q⟩) (by simp) (by rfl) ((A.ec 19 (by decide)).is) (A.nf 19 (by decide) _ (by decide))) stab_is ita_nil)) x5 st5 (by simp) rfl e5 ar5 (fun ws6 H6 u6 c6 e6 ar6 st6 => ?_)
    have x6 := hB _ _ u6 x5
    have b6 : ∀ q o, H1 q = some o → q ≠ l → H6 q = some o := fun q o e n => c6 q o (b5 q o e n) n
    refine st_ext (l := l) (Bs := fun _ => True) (ita_cons hB (it_exf (fl := (["index"] : List Str).zip [x]) (fun H Q q => ⟨_, rfl, rfl, q⟩) (by simp) (by rfl) ((A.ec 0 (by decide)).is) (A.nf 0 (by decide) _ (by decide))) stab_is (ita_cons hB (it_exf (fl := (["label"] : List Str).zip [x]) (fun H Q q => ⟨_, rfl, rfl, q⟩) (by simp) (by rfl) ((A.ec 1 (by decide)).is) (A.nf 1 (by decide) _ (by decide))) stab_is (ita_cons hB (it_exf (fl := (["place"] : List Str).zip [x]) (fun H Q q => ⟨_, rfl, rfl, q⟩) (by simp) (by rfl) ((A.ec 2 (by decide)).is) (A.nf 2 (by decide) _ (by decide))) stab_is (ita_cons hB (it_exf (fl := (["at"] : List Str).zip [x]) (fun H Q q => ⟨_, rfl, rfl, q⟩) (by simp) (by rfl) ((A.ec 3 (by decide)).is) (A.nf 3 (by decide) _ (by decide))) stab_is ita_nil)))) x6 st6 (by simp) rfl e6 ar6 (fun ws7 H7 u7 c7 e7 ar7 st7 => ?_)
    have x7 := hB _ _ u7 x6
    have b7 : ∀ q o, H1 q = some o → q ≠ l → H7 q = some o := fun q o e n => c7 q o (b6 q o e n) n
    refine st_ext (l := l) (Bs := fun _ => True) (ita_cons hB (it_exf (fl := (["line"] : List Str).zip [x]) (fun H Q q => ⟨_, rfl, rfl, q⟩) (by simp) (by rfl) ((A.ec 4 (by decide)).is) (A.nf 4 (by decide) _ (by decide))) stab_is (ita_cons hB (it_exf (fl := (["word"] : List Str).zip [x]) (fun H Q q => ⟨_, rfl, rfl, q⟩) (by simp) (by rfl) ((A.ec 5 (by decide)).is) (A.nf 5 (by decide) _ (by decide))) stab_is (ita_cons hB (it_exf (fl := (["hole"] : List Str).zip [x]) (fun H Q q => ⟨_, rfl, rfl, q⟩) (by simp) (by rfl) ((A.ec 6 (by decide)).is) (A.nf 6 (by decide) _ (by decide))) stab_is (ita_cons hB (it_exf (fl := (["below"] : List Str).zip [x]) (fun H Q q => ⟨_, rfl, rfl, q⟩) (by simp) (by rfl) ((A.ec 8 (by decide)).is) (A.nf 8 (by decide) _ (by decide))) stab_is ita_nil)))) x7 st7 (by simp) rfl e7 ar7 (fun ws8 H8 u8 c8 e8 ar8 st8 => ?_)
    have x8 := hB _ _ u8 x7
    have b8 : ∀ q o, H1 q = some o → q ≠ l → H8 q = some o := fun q o e n => c8 q o (b7 q o e n) n
    refine st_ext (l := l) (Bs := fun _ => True) (ita_cons hB (it_exf (fl := (["tree"] : List Str).zip [x]) (fun H Q q => ⟨_, rfl, rfl, q⟩) (by simp) (by rfl) ((A.ec 11 (by decide)).is) (A.nf 11 (by decide) _ (by decide))) stab_is (ita_cons hB (it_exf (fl := (["index"] : List Str).zip [x]) (fun H Q q => ⟨_, rfl, rfl, q⟩) (by simp) (by rfl) ((A.ec 12 (by decide)).is) (A.nf 12 (by decide) _ (by decide))) stab_is (ita_cons hB (it_exf (fl := (["at"] : List Str).zip [x]) (fun H Q q => ⟨_, rfl, rfl, q⟩) (by simp) (by rfl) ((A.ec 13 (by decide)).is) (A.nf 13 (by decide) _ (by decide))) stab_is (ita_cons hB (it_exf (fl := (["index"] : List Str).zip [x]) (fun H Q q => ⟨_, rfl, rfl, q⟩) (by simp) (by rfl) ((A.ec 14 (by decide)).is) (A.nf 14 (by decide) _ (by decide))) stab_is ita_nil)))) x8 st8 (by simp) rfl e8 ar8 (fun ws9 H9 u9 c9 e9 ar9 st9 => ?_)
    have x9 := hB _ _ u9 x8
    have b9 : ∀ q o, H1 q = some o → q ≠ l → H9 q = some o := fun q o e n => c9 q o (b8 q o e n) n
    refine st_ext (l := l) (Bs := fun _ => True) (ita_cons hB (it_exf (fl := (["count"] : List Str).zip [x]) (fun H Q q => ⟨_, rfl, rfl, q⟩) (by simp) (by rfl) ((A.ec 15 (by decide)).is) (A.nf 15 (by decide) _ (by decide))) stab_is (ita_cons hB (it_exf (fl := (["tree"] : List Str).zip [x]) (fun H Q q => ⟨_, rfl, rfl, q⟩) (by simp) (by rfl) ((A.ec 16 (by decide)).is) (A.nf 16 (by decide) _ (by decide))) stab_is (ita_cons hB (it_exf (fl := (["at"] : List Str).zip [x]) (fun H Q q => ⟨_, rfl, rfl, q⟩) (by simp) (by rfl) ((A.ec 17 (by decide)).is) (A.nf 17 (by decide) _ (by decide))) stab_is (ita_cons hB (it_exf (fl := (["name"] : List Str).zip [x]) (fun H Q q => ⟨_, rfl, rfl, q⟩) (by simp) (by rfl) ((A.ec 18 (by decide)).is) (A.nf 18 (by decide) _ (by decide))) stab_is (ita_cons hB (it_exf (fl := (["name"] : List Str).zip [x]) (fun H Q q => ⟨_, rfl, rfl, q⟩) (by simp) (by rfl) ((A.ec 19 (by decide)).is) (A.nf 19 (by decide) _ (by decide))) stab_is ita_nil))))) x9 st9 (by simp) rfl e9 ar9 (fun ws10 H10 u10 c10 e10 ar10 st10 => ?_)
    have x10 := hB _ _ u10 x9
    have b10 : ∀ q o, H1 q = some o → q ≠ l → H10 q = some o := fun q o e n => c10 q o (b9 q o e n) n
    refine ⟨_, rfl, ita_run (Bs := fun _ => True) (ita_cons hB (it_exf (fl := [("word", .str "a"), ("index", x)]) (fun H Q q => ⟨_, rfl, rfl, q⟩) (by simp) (by rfl) ((A.ec 7 (by decide)).is) (A.nf 7 (by decide) _ (by decide))) stab_is (ita_cons hB (it_exf (fl := [("word", x), ("index", .str "a")]) (fun H Q q => ⟨_, rfl, rfl, q⟩) (by simp) (by rfl) ((A.ec 7 (by decide)).is) (A.nf 7 (by decide) _ (by decide))) stab_is (ita_cons hB (it_exf (fl := [("word", x), ("index", .str "a")]) (fun H Q q => ⟨_, rfl, rfl, q⟩) (by simp) (by rfl) ((A.ec 7 (by decide)).is) (A.nf 7 (by decide) _ (by decide))) stab_is ita_nil))) True.intro fun ws H' s' ar' =>
      ⟨by rw [ar'.length, sizeLine_eq]; show 3 ≤ _; omega, fun q nq => ?_⟩⟩
    have e' := same_upd (o := .lst ws) nq _ _ (s' _ _ e10)
    refine ⟨l, q, _, ws, rfl, rfl, e', upd_same, ?_, fun p np => k p _ (((same_but nl s1 b10).trans s').trans ((same_upd nq).trans (same_upd np))) (upd_same.trans ?_)⟩
    · have z1 := ar10.length
      have z2 := ar'.length
      rw [z1, z2, sizeLine_eq]
      show _ ≤ 16777216
      simp
    · have z := are_is (xs := List.replicate 37 x) (Are.app (ar10.up (.of s') st10) ar')
      rw [z]
end
end KA

namespace KA
open PySem PySem.Spec PyProof.Rows L2 C8 XI
abbrev sLaw : Stmt := top 32
theorem for_gen {J : It} {g : TG} {tb : TS} {D : Ends} {σ : L2.St} {H : Hp} (n : Nat) (Pv : Nat → L2.St → Hp → Prop) (h0 : Pv 0 σ H) (hgo : ∀ i σ H, i < n → Pv i σ H → J.go i H) (hst : ∀ σ H, Pv n σ H → J.stop n H)
    (hs : ∀ i σ H x H', i < n → Pv i σ H → J.yld i H x H' → g x σ H' fun σ2 H2 => tb { D with nx := Pv (i + 1), ct := Pv (i + 1), bk := D.nx } σ2 H2) (hd : ∀ σ H, Pv n σ H → D.nx σ H) :
    ∃ W : Nat → Nat → L2.St → Hp → Prop, (∃ m, W 0 m σ H) ∧ ∀ i m σ H, W i m σ H →
      (J.stop i H ∧ D.nx σ H) ∨ (J.go i H ∧ ∃ N : L2.St → Hp → Prop, (∀ σ' H', N σ' H' → ∃ m', m' < m ∧ W (i + 1) m' σ' H') ∧ ∀ x H', J.yld i H x H' → g x σ H' fun σ2 H2 => tb { D with nx := N, ct := N, bk := D.nx } σ2 H2) := by
  refine ⟨fun i m σ H => m + i = n ∧ Pv i σ H, ⟨n, rfl, h0⟩, ?_⟩
  rintro i m σ H ⟨hm, p⟩
  by_cases hi : i < n
  · exact .inr ⟨hgo i σ H hi p, Pv (i + 1), fun σ' H' p' => ⟨m - 1, by omega, by omega, p'⟩, fun x H' y => hs i σ H x H' hi p y⟩
  · obtain rfl : i = n := by omega
    exact .inl ⟨hst σ H p, hd σ H p⟩
theorem StAt.same {B : Nat} {H H' : Hp} {a : Addr} (s : Same H H') (h : StAt B H a) : StAt B H' a := by
  obtain ⟨l, ns, i, c, h0, n, e1, e2, r⟩ := h
  exact ⟨l, ns, i, c, h0, n, s _ _ e1, s _ _ e2, r⟩
/-- things of a menu -/
def Th1 (σ : L2.St) (te : TE) : Prop := ∀ H Q, (∀ v H', Same H H' → Thing H' v → Q v H') → te σ H Q
def ThA (σ : L2.St) (t : TA) (n : Nat) : Prop := ∀ H (Q : List V → Hp → Prop), (∀ vs H', Same H H' → vs.length = n → (∀ v ∈ vs, Thing H' v) → Q vs H') → t σ H Q
theorem tha_nil {σ : L2.St} : ThA σ tNil 0 := fun H Q k => k [] H (Same.refl H) rfl fun _ h => nomatch h
theorem tha_cons {σ : L2.St} {te : TE} {t : TA} {n : Nat} (h1 : Th1 σ te) (h2 : ThA σ t n) : ThA σ (tCons te t) (n + 1) := fun H Q k =>
  h1 H _ fun v H1 s1 p1 => h2 H1 _ fun vs H2 s2 hl ps => k (v :: vs) H2 (s1.trans s2) (by rw [List.length_cons, hl]) fun u hu => by
    rcases List.mem_cons.mp hu with rfl | hu
    · exact p1.same s2
    · exact ps u hu
theorem th_c {σ : L2.St} {v : V} (h : flatV v = true) : Th1 σ (tC v) := fun H Q k => k v H (Same.refl H) (.inl (.inl h))
theorem th_v {σ : L2.St} {te : TE} {v : V} (ht : ∀ H Q, Q v H → te σ H Q) (h : flatV v = true) : Th1 σ te := fun H Q k => ht H _ (k v H (Same.refl H) (.inl (.inl h)))
theorem th_tup {σ : L2.St} {t : TA} {vs : List V} (ht : ∀ H Q, Q vs H → t σ H Q) (hf : ∀ y ∈ vs, flatV y = true) (hl : vs.length ≤ 10) : Th1 σ (tTup t) := fun H Q k =>
  ht H _ ⟨by rw [sizeLine_eq]; omega, fun p np => k _ _ (same_upd np) (.inr ⟨p, vs, rfl, .inr upd_same, hf, hl⟩)⟩
theorem th_lst {σ : L2.St} {t : TA} {vs : List V} (ht : ∀ H Q, Q vs H → t σ H Q) (hf : ∀ y ∈ vs, flatV y = true) (hl : vs.length ≤ 10) : Th1 σ (tLst t) := fun H Q k =>
  ht H _ ⟨by rw [sizeLine_eq]; omega, fun p np => k _ _ (same_upd np) (.inr ⟨p, vs, rfl, .inl upd_same, hf, hl⟩)⟩
theorem th_dic {σ : L2.St} {x : Str} {i : Int} : Th1 σ (tDisp [(tC (.str x), tC (.int i))]) := fun H Q k p np => by
  refine ⟨upd_same, [(Sum.inr x, .int i)], rfl, (by show 1 ≤ 15; decide), ?_⟩
  refine k _ _ (fun b o e => ?_) (.inl (.inr ⟨p, _, rfl, upd_same, ?_⟩))
  · rw [upd_ne (ne_of_none e np), upd_ne (ne_of_none e np)]
    exact e
  · intro q hq
    have e : mergeK [] [((Sum.inr x : Key), V.int i)] = [(Sum.inr x, .int i)] := rfl
    rw [e] at hq ⊢
    obtain rfl : q = _ := List.mem_singleton.mp hq
    refine ⟨?_, rfl⟩
    show valV [((Sum.inr x : Key), V.int i)] (Sum.inr x) = some (.int i)
    simp [valV]
def spLaw (K : PySem.W.Frag) : Sp := fun vs H Q _ => ∃ (a : Addr) (ns : List Int), vs = [.ref a] ∧ SqL K H a (ns.map V.int) ∧ ∀ H', Q (.bl true) H'
theorem tha_lst1 {σ : L2.St} {t : TA} {n : Nat} {H : Hp} {Q : List V → Hp → Prop} (h : ThA σ t n) (hn : n ≤ 1000) (k : ∀ p vs H1, H p = none → Same H H1 → H1 p = some (.lst vs) → vs.length = n → (∀ v ∈ vs, Thing H1 v) → Q [.ref p] H1) : tCons (tLst t) tNil σ H Q :=
  h H _ fun vs H1 s1 hl hth => ⟨by rw [hl, sizeLine_eq]; omega, fun p np => k p vs _ (s1.free np) (s1.trans (same_upd np)) upd_same hl fun v hv => (hth v hv).same (same_upd np)⟩
theorem Thing.but {B : Nat} {H H' : Hp} {st : Addr} {x : V} (hst : StAt B H st) (bt : But st H H') (h : Thing H x) : Thing H' x := by
  obtain ⟨l, ns, i, c, h0, n, e1, _⟩ := hst
  rcases h with (h | ⟨a, kvs, rfl, e, d⟩) | ⟨a, xs, rfl, e, hf, hl⟩
  · exact .inl (.inl h)
  · exact .inl (.inr ⟨a, kvs, rfl, bt _ _ e (ne_of e e1 (by intro z; cases z)), d⟩)
  · refine .inr ⟨a, xs, rfl, ?_, hf, hl⟩
    rcases e with e | e
    · refine .inl (bt _ _ e fun z => ?_)
      rw [z, e1] at e
      injection e with e
      injection e with e
      have y := hf (.ref l) (by rw [← e]; exact List.mem_cons_self)
      cases y
    · exact .inr (bt _ _ e (ne_of e e1 (by intro z; cases z)))
structure Blt3 (mg : Str → Option Value) : Prop extends Blt2 mg where
  ran : mg "range" = none
  enu : mg "enumerate" = none
  val : mg "ValueError" = none
abbrev NL : List Str := ["_law_script", "_law_state", "_law_turn", "_law_x", "_law_k", "_law_e", "_law_j", "_law_held_here"]
theorem scLaw : FnScope NL ["_law_script"] (fnScope sLaw) := fnScope_by (by decide +kernel)
theorem dp_bools {K : PySem.W.Frag} {H : Hp} : ∀ bs : List Bool, DpAll K H (bs.map V.bl) (bs.map PyData.bool)
  | [] => .nil
  | b :: bs => .cons (.bl b) (dp_bools bs)
theorem lay_bools : ∀ bs : List Bool, PyData.canLayAll0 (bs.map PyData.bool) = true
  | [] => by simp [PyData.canLayAll0]
  | b :: bs => by simp [PyData.canLayAll0, PyData.canLay0, lay_bools bs]
theorem dep_bools : ∀ bs : List Bool, PyData.depthAll (bs.map PyData.bool) ≤ 1
  | [] => by simp [PyData.depthAll]
  | b :: bs => by
    have h := dep_bools bs
    simp only [List.map_cons, PyData.depthAll, PyData.depth]
    omega
theorem shaped_bools (bs : List Bool) : SeqAt.shaped (.list (bs.map PyData.bool)) = true := by
  have h := dep_bools bs
  show (PyData.canLay0 (.list (bs.map PyData.bool)) && decide (PyData.depth (.list (bs.map PyData.bool)) ≤ 64)) = true
  rw [Bool.and_eq_true]
  refine ⟨by simp only [PyData.canLay0]; exact lay_bools bs, decide_eq_true ?_⟩
  simp only [PyData.depth]
  omega
section
variable {P : Program} {w : World} {K : PySem.W.Frag} {mg : Str → Option Value} {base : Heap} {c : Nat → Addr}
theorem c_law {f : Addr} {fd : FuncData} (F : Def K mg "law" sLaw f fd) (b : Binds K fd ["_law_script"] []) (T : Blt3 mg) (A : AllC P K mg c) (cFresh : Cal P w K mg base 1 "_law_fresh" (spFresh K) []) (cOne : Cal P w K mg base 2 "_law_one" spOne [])
    (cS0 : Cal P w K mg base 1 "_law_same" spSame0 []) (cSL : Cal P w K mg base 2 "_law_same" spSameL []) (cK : Cal P w K mg base 1 "_law_kinds" (spKinds c) []) (cP : Cal P w K mg base 2 "_law_by_place" (spPlace c) []) (cH : Cal P w K mg base 2 "_law_held" spHeld []) :
    FnOk P w K mg base C8.CX0 3 f fd ["_law_script"] (spLaw K) := by
  refine fn0 F.fn scLaw (fun vs H Q E h => ?_) (fun cdv A' outer s H vs Q E hr h => ?_)
  · obtain ⟨a, ns, rfl, _⟩ := h
    rfl
  · obtain ⟨a, ns, rfl, hS, k⟩ := h
    have nd := scLaw.nd
    obtain ⟨CR, gR, kR⟩ := A.run
    have hu : (A'.deeper (envOfC "law" (fnScope sLaw) s.heap.objs.size f cdv)).units + 64 < cLine := by have := hr.un; omega
    refine ⟨_, pss_cons (ps_set (i := 1) nd rfl (Or.inl rfl) (pe_c cFresh hr (by decide) (by rfl) (pa_cons (pv 0) pa_nil)))
      (pss_cons (ps_for PassesOwn.never rfl (pi_range1 (by rfl) T.ran (pa_cons pe_int pa_nil)) (pg_name (i := 2) nd rfl (Or.inl rfl))
        (pss_cons (ps_set (i := 3) nd rfl (Or.inr rfl) (pe_c cOne hr (by decide) (by rfl) (pa_cons (pv 1) (pa_cons (pe_lst (pa_cons (pe_tup (pa_cons pe_int (pa_cons pe_int pa_nil))) (pa_cons (pe_tup pa_nil) (pa_cons pe_int (pa_cons pe_non (pa_cons pe_str
            (pa_cons (pe_lst (pa_cons pe_int pa_nil)) (pa_cons (pe_disp (pps_cons pe_str pe_int pps_nil) rfl rfl (by simp) (by decide)) (pa_cons (pe_tup (pa_cons pe_bl (pa_cons pe_str pa_nil))) (pa_cons (pe_op op_pow pe_int pe_int) (pa_cons (pe_un un_neg pe_int) (pa_cons (pe_lst pa_nil) (pa_cons pe_str (pa_cons pe_int pa_nil)))))))))))))) pa_nil))))
        (pss_cons (ps_for PassesOwn.never rfl (pi_enum (by rfl) T.enu (pa_cons (pe_c cP hr (by decide) (by rfl) (pa_cons (pv 3) pa_nil)) pa_nil)) (pg_tup rfl (pgs_cons (pg_name (i := 4) nd rfl (Or.inr rfl)) (pgs_cons (pg_name (i := 5) nd rfl (Or.inl rfl)) pgs_nil)))
          (pss_cons (ps_if (pw_or (pt_cmpR (op_neD hu) (pe_c cK hr (by decide) (by rfl) (pa_cons (pv 5) pa_nil))
                (pe_lc (own := [("_law_j", 6)]) (g := gName 6) (tt := tYes) rfl nd (pi_range1 (by rfl) T.ran (pa_cons pe_int pa_nil)) (blkOk_by (N := NL) (sc := fnScope sLaw) (by decide +kernel)) (fun _ _ _ _ _ => pg_name (i := 6) nd rfl (Or.inl rfl)) (fun _ _ _ _ _ => pts_nil)
                  (fun _ _ _ _ _ => pe_cmpR op_eq (pv 6) (pv 4) (nomark _))) (nomark _))
              (pw_or1 (pt_not (pt_val (pe_callB call_isX (by rfl) T.isi (by decide +kernel) (pa_cons (pv 5) (pa_cons (pe_glob (v := .ref CR) (by rfl) gR rfl) pa_nil))))))).pt pss_never pss_nil)
          (pss_one (ps_if (pt_not (pt_val (pe_callB call_isX (by rfl) T.isi (by decide +kernel) (pa_cons (pv 5) (pa_cons (pe_bt "ValueError" T.val) pa_nil))))) pss_never pss_nil))))
        (pss_one (ps_if (pt_not (pt_val (pe_callB (cr_all rfl) (by rfl) T.all (by decide +kernel) (pa_cons (pe_lc (own := [("_law_held_here", 7)]) (g := gName 7) (tt := tYes) rfl nd (pi_list (pe_c cH hr (by decide) (by rfl) (pa_cons (pv 3) pa_nil)))
              (blkOk_by (N := NL) (sc := fnScope sLaw) (by decide +kernel)) (fun _ _ _ _ _ => pg_name (i := 7) nd rfl (Or.inl rfl)) (fun _ _ _ _ _ => pts_nil)
              (fun _ _ _ _ _ => PE.or (pe_c cS0 hr (by decide) (by rfl) (pa_cons (pv 7) (pa_cons (pv 3) pa_nil))) (pe_c cSL hr (by decide) (by rfl) (pa_cons (pv 7) (pa_cons (pv 3) pa_nil))))) pa_nil)))) pss_never pss_nil)))))
      (pss_one (ps_ret pe_bl))), ?_⟩
    refine ⟨_, rfl, a, ns, rfl, hS, fun st H1 nst s1 hst => ?_⟩
    refine ⟨3, rfl, by decide, by decide, for_gen 3 (fun i σ H => ∃ v2 v3 v4 v5 v6 v7, σ = [some (.ref a), some (.ref st), v2, v3, v4, v5, v6, v7] ∧ StAt i H st) ⟨none, none, none, none, none, none, rfl, hst⟩ (fun i σ H hi _ => hi) (fun σ H _ => Nat.le_refl _) ?_ (fun σ H _ => k H)⟩
    rintro i σ H2 v H2' hi ⟨v2, v3, v4, v5, v6, v7, rfl, hst2⟩ ⟨rfl, rfl⟩
    -- the thing
    refine ⟨_, rfl, tha_lst1 (tha_cons (th_tup (vs := [.int 0, .int 1]) (fun H Q q => q) (by decide) (by decide)) (tha_cons (th_tup (vs := []) (fun H Q q => q) (by decide) (by decide)) (tha_cons (th_c rfl) (tha_cons (th_c rfl) (tha_cons (th_c rfl)
      (tha_cons (th_lst (vs := [.int 3]) (fun H Q q => q) (by decide) (by decide)) (tha_cons th_dic (tha_cons (th_tup (vs := [.bl true, .str "b"]) (fun H Q q => q) (by decide) (by decide)) (tha_cons (th_v (v := .int (10 ^ 30)) (fun H Q q => ⟨10, 30, rfl, rfl, ⟨by decide, by decide, by decide⟩, q⟩) rfl)
      (tha_cons (th_v (v := .int (-1)) (fun H Q q => ⟨1, rfl, q⟩) rfl) (tha_cons (th_lst (vs := []) (fun H Q q => q) (by decide) (by decide)) (tha_cons (th_c rfl) (tha_cons (th_c rfl) tha_nil))))))))))))) (by decide) fun p vs H3 np s3 ep hl hth => ?_⟩
    have hst3 := hst2.same s3
    have nps : p ≠ st := fun z => by
      obtain ⟨_, _, _, _, _, _, e, _⟩ := hst2
      rw [z, e] at np
      cases np
    refine ⟨st, p, vs, i, rfl, .inl ep, nps, by rw [hl]; decide, by rw [hl]; decide, hst3, by omega, fun x H4 hx hst4 bt => ?_⟩
    have hT : Thing H4 x := Thing.but hst3 bt (hth x hx)
    -- each exception
    refine ⟨_, rfl, x, rfl, fun l as H5 s5 el hla hex => ⟨l, as.map V.ref, rfl, SqL.of el, ?_⟩⟩
    refine for_gen 22 (fun j σ H => ∃ u4 u5, σ = [some (.ref a), some (.ref st), some (.int (0 + (i : Nat))), some x, u4, u5, v6, v7] ∧ Same H5 H) ⟨v4, v5, rfl, Same.refl _⟩ (fun j σ H hj ⟨_, _, _, s⟩ => ?_) (fun σ H ⟨_, _, _, s⟩ => ⟨_, SqL.of (s _ _ el), by rw [List.length_map, hla]; exact Nat.le_refl _⟩) ?_ ?_
    · obtain ⟨e, he, _⟩ := hex j hj
      exact ⟨_, .ref e, SqL.of (s _ _ el), by rw [List.getElem?_map, he]; rfl⟩
    · rintro j σ H6 v H6' hj ⟨u4, u5, rfl, s6⟩ ⟨T6, y, rfl, nT6, rfl, hy⟩
      obtain ⟨e, he, hE⟩ := hex j hj
      obtain rfl : y = .ref e := by
        have z := hy _ (SqL.of (s6 _ _ el))
        rw [List.getElem?_map, he] at z
        exact (Option.some.inj z).symm
      have nl6 : Same H6 (upd H6 T6 (.tup [.int (j : Nat), .ref e])) := same_upd nT6
      refine ⟨T6, [.int (j : Nat), .ref e], rfl, SqT.of upd_same, rfl, .int (j : Nat), [.ref e], rfl, .ref e, [], rfl, rfl, ?_⟩
      have s7 := s6.trans nl6
      have hE7 : Ex _ e (c j) := hE.up (Up.of s7)
      generalize upd H6 T6 (.tup [.int (j : Nat), .ref e]) = H7 at s7 hE7
      -- the kinds
      refine ⟨_, rfl, e, j, rfl, hj, hE7, fun l2 H8 s8 e8 => ?_⟩
      have hE8 : Ex H8 e (c j) := hE7.up (Up.of s8)
      refine ⟨22, rfl, by decide, by decide, fun D nD => lc_gen 22 (fun m H => Same H8 H ∧ H D = some (.lst ((List.range m).map fun q => V.bl (decide (j = q))))) ⟨same_upd nD, upd_same⟩ (fun m H hm _ => hm) (fun H _ => Nat.le_refl _) (fun m H v H' hm ⟨s, hD⟩ yl => ?_) (fun H ⟨s, hD⟩ => ?_)⟩
      · obtain ⟨rfl, rfl⟩ := yl
        refine ⟨rfl, ?_⟩
        unfold tYes
        dsimp only
        rw [if_pos rfl]
        refine ⟨_, rfl, _, rfl, rfl, _, hD, by rw [List.length_map, List.length_range, sizeLine_eq]; omega, fun b o e => ?_, ?_⟩
        · rw [upd_ne (ne_of_none e nD)]
          exact s b o e
        · rw [upd_same, List.range_succ, List.map_append]
          congr 3
          show [V.bl (decide (V.int (0 + (m : Int)) = V.int (j : Nat)))] = [V.bl (decide (j = m))]
          by_cases z : j = m
          · subst z
            rw [decide_eq_true rfl, decide_eq_true (by rw [Int.zero_add])]
          · rw [decide_eq_false z, decide_eq_false (fun q => z (by injection q with q; omega))]
      · have eb : ((List.range 22).map fun q => V.bl (decide (j = q))) = (((List.range 22).map fun q => decide (j = q)).map V.bl) := by rw [List.map_map] <;> rfl
        rw [eb] at hD e8
        generalize ((List.range 22).map fun q => decide (j = q)) = bs at hD e8
        refine ⟨.list (bs.map PyData.bool), .list (bs.map PyData.bool), .lst (SqL.of (s _ _ e8)) (dp_bools bs), .lst (SqL.of hD) (dp_bools bs), shaped_bools bs, shaped_bools bs, _, rfl, ?_⟩
        rw [PySem.SeqAt.eqv_refl _ (by simp only [PyData.canLay0]; exact lay_bools bs)]
        refine iteF ?_
        have hE9 : Ex H e (c j) := hE8.up (Up.of s)
        refine ⟨_, rfl, e, c j, .ref CR, _, true, rfl, .own _, hE9, (A.ec j hj).is, kR j hj, _, rfl, iteF ?_⟩
        refine ⟨_, rfl, e, c j, .ty "ValueError", _, true, rfl, .ty _, hE9, (A.ec j hj).is, A.val j hj, _, rfl, iteF ?_⟩
        exact ⟨_, _, rfl, (s7.trans s8).trans s⟩
    · rintro σ H6 ⟨u4, u5, rfl, s6⟩
      refine ⟨_, rfl, x, rfl, fun l3 H7 s7 e7 => ⟨l3, rfl, ⟨_, SqL.of e7⟩, fun D nD => lc_gen (J := Itl K l3) 37 (fun m H => Same H7 H ∧ H D = some (.lst (List.replicate m (.bl true)))) ⟨same_upd nD, upd_same⟩ (fun m H hm ⟨s, _⟩ => ⟨_, x, SqL.of (s _ _ e7), by rw [List.getElem?_replicate, if_pos hm]⟩)
        (fun H ⟨s, _⟩ => ⟨_, SqL.of (s _ _ e7), by rw [List.length_replicate]; exact Nat.le_refl _⟩) (fun m H v H' hm ⟨s, hD⟩ yl => ?_) (fun H ⟨s, hD⟩ => ?_)⟩⟩
      · obtain ⟨rfl, hy⟩ := yl
        have z := hy _ (SqL.of (s _ _ e7))
        rw [List.getElem?_replicate, if_pos hm] at z
        obtain rfl := Option.some.inj z
        refine ⟨rfl, ?_⟩
        unfold tYes
        dsimp only
        rw [if_pos rfl]
        have hx8 : Thing _ x := hT.same (((s5.trans s6).trans s7).trans s)
        have fin : ∀ H9, Same H' H9 → ∃ acc, H9 D = some (.lst acc) ∧ acc.length < sizeLine ∧ (Same H7 (upd H9 D (.lst (acc ++ [.bl true]))) ∧ (upd H9 D (.lst (acc ++ [.bl true]))) D = some (.lst (List.replicate (m + 1) (.bl true)))) := fun H9 s9 => by
          refine ⟨_, s9 _ _ hD, by rw [List.length_replicate, sizeLine_eq]; omega, fun b o e => ?_, by rw [upd_same, ← List.replicate_succ']⟩
          rw [upd_ne (ne_of_none e nD)]
          exact s9 b o (s b o e)
        rcases hx8 with lf | ⟨a', xs, rfl, e, hf, hl'⟩
        · exact .inl ⟨_, rfl, _, rfl, x, rfl, lf, fun H9 s9 => fin H9 s9⟩
        · exact .inr ⟨_, rfl, _, rfl, a', xs, rfl, e, hf, by omega, fun H9 s9 => fin H9 s9⟩
      · refine ⟨D, List.replicate 37 true, rfl, SqL.of (by rw [hD, List.map_replicate]), _, rfl, ?_⟩
        have hall : (List.replicate 37 true).all id = true := rfl
        rw [hall]
        refine iteF ⟨_, _, _, _, _, _, rfl, hst4.same (((s5.trans s6).trans s7).trans s)⟩
end
end KA

namespace KA
open PySem PySem.Spec PyProof.Rows L2 C8 XI
/-- what the text says of an __init__ whose parameters are all stored -/
structure TxtI (st : Stmt) (qual : Str) (fs : List Str) : Prop where
  par : ((fnArgs st).posonlyargs ++ (fnArgs st).args).head?.map (·.arg) = some "self"
  ssu : (fnScope st).names.lookup ("super" : Str) = some .globalImplicit
  scl : (fnScope st).names.lookup ("__class__" : Str) = some .free
  sse : (fnScope st).names.lookup ("self" : Str) = some .local
  kin : (fnScope st).kind = .function
  cel : ∀ y ∈ (fnScope st).names, y.2 ≠ .cell
  nco : (fnScope st).isCoroutine = false
  nge : (fnScope st).isGenerator = false
  fie : ∀ f ∈ fs, (fnScope st).names.lookup f = some .local ∧ (f == ("__debug__" : Str)) = false ∧ f ≠ "self"
  ndf : fs.Nodup
  len : fs.length ≤ 900
  bod : ∃ (p0 p1 p2 p3 p4 p5 : Pos) (k : Nat) (tx : Str) (b : List Stmt), fnBody st = .Expr (.Call (.Attribute (.Call (.Name "super" p0) [] [] p1) "__init__" p2) [.Constant (.str tx) k p3] [] p4) p5 :: b ∧ Stores fs b ∧
    ∀ (L fI' cda' cc' : Addr), ∃ pl, eval (.Call (.Attribute (.Call (.Name "super" p0) [] [] p1) "__init__" p2) [.Constant (.str tx) k p3] [] p4) (PySem.W.ksEnv qual (fnScope st) L fI' (.ref cda') cc') = (do
      let ov ← attributeBase (.Call (.Name "super" p0) [] [] p1) "__init__" (PySem.W.ksEnv qual (fnScope st) L fI' (.ref cda') cc') (eval (.Call (.Name "super" p0) [] [] p1) (PySem.W.ksEnv qual (fnScope st) L fI' (.ref cda') cc'))
      standAt p2.atName
      let (fx, first) ← holding [ov] (getMethod ov "__init__" pl)
      callWith p4 fx first (backTo p4 (starEach [.Constant (.str tx) k p3] (PySem.W.ksEnv qual (fnScope st) L fI' (.ref cda') cc'))) []) ∧ swapsWith (.Call (.Attribute (.Call (.Name "super" p0) [] [] p1) "__init__" p2) [.Constant (.str tx) k p3] [] p4) none p5.line (PySem.W.ksEnv qual (fnScope st) L fI' (.ref cda') cc') = pure false
  bP : ∀ (kV doc pm : Value) (an : Option Addr) (cdv ct : Value) (cc : Addr) (y : Value) (us : List Value), us.length = fs.length → bindArgs (PySem.W.ksFn "__init__" qual (fnArgs st) (fnBody st) (fnScope st) .none kV doc pm an cdv ct cc) ⟨y :: us, []⟩ = pure ((("self" : Str), y) :: fs.zip us)
  bK : ∀ (kV doc pm : Value) (an : Option Addr) (cdv ct : Value) (cc : Addr) (y : Value) (ks : List Str) (ws us : List Value), ks.length = ws.length → (ks.zip ws).Perm (fs.zip us) → us.length = fs.length → ks.length = fs.length → bindArgs (PySem.W.ksFn "__init__" qual (fnArgs st) (fnBody st) (fnScope st) .none kV doc pm an cdv ct cc) ⟨[y], ks.zip ws⟩ = pure ((("self" : Str), y) :: fs.zip us)
def inCls (i : Nat) : Stmt := (clsBody (top i)).getD 0 (.Pass ⟨0, 0, 0, 0⟩)

theorem perm2 {k1 k2 f g : Str} {w1 w2 u1 u2 : Value} (h : ([(k1, w1), (k2, w2)] : List (Str × Value)).Perm [(f, u1), (g, u2)]) : (k1 = f ∧ w1 = u1 ∧ k2 = g ∧ w2 = u2) ∨ (k1 = g ∧ w1 = u2 ∧ k2 = f ∧ w2 = u1) := by
  have m : (k1, w1) ∈ [(f, u1), (g, u2)] := h.subset List.mem_cons_self
  rcases List.mem_cons.mp m with e | m
  · have e' := Prod.mk.inj e
    rw [e] at h
    have z := List.perm_singleton.mp h.cons_inv
    have z' := Prod.mk.inj (List.cons.inj z).1
    exact .inl ⟨e'.1, e'.2, z'.1, z'.2⟩
  · have e := List.mem_singleton.mp m
    have e' := Prod.mk.inj e
    rw [e] at h
    have z := List.perm_singleton.mp (h.trans (.swap _ _ _)).cons_inv
    have z' := Prod.mk.inj (List.cons.inj z).1
    exact .inr ⟨e'.1, e'.2, z'.1, z'.2⟩

theorem txt_BadLanguage : TxtI (inCls 2) "BadLanguage.__init__" ["index"] where
  par := by decide +kernel
  ssu := by rfl
  scl := by rfl
  sse := by rfl
  kin := by rfl
  cel := by decide +kernel
  nco := by rfl
  nge := by rfl
  fie := by decide +kernel
  ndf := by decide +kernel
  len := by decide
  bod := ⟨_, _, _, _, _, _, _, _, _, by rfl, (.cons .nil), fun L fI' cda' cc' => ⟨_, by rfl, by rfl⟩⟩
  bP := fun _ _ _ _ _ _ _ y us hl => match us, hl with | [_], _ => rfl
  bK := fun _ _ _ _ _ _ _ y ks ws us h1 hp h2 h3 => match ks, ws, us, h1, h2, h3 with
    | [k], [w], [u], _, _, _ => by
      have e := List.perm_singleton.mp hp
      obtain ⟨e1, e2⟩ := Prod.mk.inj (List.cons.inj e).1
      subst e1 e2
      rfl
theorem txt_UnknownLabel : TxtI (inCls 3) "UnknownLabel.__init__" ["label"] where
  par := by decide +kernel
  ssu := by rfl
  scl := by rfl
  sse := by rfl
  kin := by rfl
  cel := by decide +kernel
  nco := by rfl
  nge := by rfl
  fie := by decide +kernel
  ndf := by decide +kernel
  len := by decide
  bod := ⟨_, _, _, _, _, _, _, _, _, by rfl, (.cons .nil), fun L fI' cda' cc' => ⟨_, by rfl, by rfl⟩⟩
  bP := fun _ _ _ _ _ _ _ y us hl => match us, hl with | [_], _ => rfl
  bK := fun _ _ _ _ _ _ _ y ks ws us h1 hp h2 h3 => match ks, ws, us, h1, h2, h3 with
    | [k], [w], [u], _, _, _ => by
      have e := List.perm_singleton.mp hp
      obtain ⟨e1, e2⟩ := Prod.mk.inj (List.cons.inj e).1
      subst e1 e2
      rfl
theorem txt_NoPlace : TxtI (inCls 4) "NoPlace.__init__" ["place"] where
  par := by decide +kernel
  ssu := by rfl
  scl := by rfl
  sse := by rfl
  kin := by rfl
  cel := by decide +kernel
  nco := by rfl
  nge := by rfl
  fie := by decide +kernel
  ndf := by decide +kernel
  len := by decide
  bod := ⟨_, _, _, _, _, _, _, _, _, by rfl, (.cons .nil), fun L fI' cda' cc' => ⟨_, by rfl, by rfl⟩⟩
  bP := fun _ _ _ _ _ _ _ y us hl => match us, hl with | [_], _ => rfl
  bK := fun _ _ _ _ _ _ _ y ks ws us h1 hp h2 h3 => match ks, ws, us, h1, h2, h3 with
    | [k], [w], [u], _, _, _ => by
      have e := List.perm_singleton.mp hp
      obtain ⟨e1, e2⟩ := Prod.mk.inj (List.cons.inj e).1
      subst e1 e2
      rfl
theorem txt_BadText : TxtI (inCls 5) "BadText.__init__" ["at"] where
  par := by decide +kernel
  ssu := by rfl
  scl := by rfl
  sse := by rfl
  kin := by rfl
  cel := by decide +kernel
  nco := by rfl
  nge := by rfl
  fie := by decide +kernel
  ndf := by decide +kernel
  len := by decide
  bod := ⟨_, _, _, _, _, _, _, _, _, by rfl, (.cons .nil), fun L fI' cda' cc' => ⟨_, by rfl, by rfl⟩⟩
  bP := fun _ _ _ _ _ _ _ y us hl => match us, hl with | [_], _ => rfl
  bK := fun _ _ _ _ _ _ _ y ks ws us h1 hp h2 h3 => match ks, ws, us, h1, h2, h3 with
    | [k], [w], [u], _, _, _ => by
      have e := List.perm_singleton.mp hp
      obtain ⟨e1, e2⟩ := Prod.mk.inj (List.cons.inj e).1
      subst e1 e2
      rfl
theorem txt_BadLine : TxtI (inCls 6) "BadLine.__init__" ["line"] where
  par := by decide +kernel
  ssu := by rfl
  scl := by rfl
  sse := by rfl
  kin := by rfl
  cel := by decide +kernel
  nco := by rfl
  nge := by rfl
  fie := by decide +kernel
  ndf := by decide +kernel
  len := by decide
  bod := ⟨_, _, _, _, _, _, _, _, _, by rfl, (.cons .nil), fun L fI' cda' cc' => ⟨_, by rfl, by rfl⟩⟩
  bP := fun _ _ _ _ _ _ _ y us hl => match us, hl with | [_], _ => rfl
  bK := fun _ _ _ _ _ _ _ y ks ws us h1 hp h2 h3 => match ks, ws, us, h1, h2, h3 with
    | [k], [w], [u], _, _, _ => by
      have e := List.perm_singleton.mp hp
      obtain ⟨e1, e2⟩ := Prod.mk.inj (List.cons.inj e).1
      subst e1 e2
      rfl
theorem txt_BadRule : TxtI (inCls 7) "BadRule.__init__" ["word"] where
  par := by decide +kernel
  ssu := by rfl
  scl := by rfl
  sse := by rfl
  kin := by rfl
  cel := by decide +kernel
  nco := by rfl
  nge := by rfl
  fie := by decide +kernel
  ndf := by decide +kernel
  len := by decide
  bod := ⟨_, _, _, _, _, _, _, _, _, by rfl, (.cons .nil), fun L fI' cda' cc' => ⟨_, by rfl, by rfl⟩⟩
  bP := fun _ _ _ _ _ _ _ y us hl => match us, hl with | [_], _ => rfl
  bK := fun _ _ _ _ _ _ _ y ks ws us h1 hp h2 h3 => match ks, ws, us, h1, h2, h3 with
    | [k], [w], [u], _, _, _ => by
      have e := List.perm_singleton.mp hp
      obtain ⟨e1, e2⟩ := Prod.mk.inj (List.cons.inj e).1
      subst e1 e2
      rfl
theorem txt_UnknownHole : TxtI (inCls 8) "UnknownHole.__init__" ["hole"] where
  par := by decide +kernel
  ssu := by rfl
  scl := by rfl
  sse := by rfl
  kin := by rfl
  cel := by decide +kernel
  nco := by rfl
  nge := by rfl
  fie := by decide +kernel
  ndf := by decide +kernel
  len := by decide
  bod := ⟨_, _, _, _, _, _, _, _, _, by rfl, (.cons .nil), fun L fI' cda' cc' => ⟨_, by rfl, by rfl⟩⟩
  bP := fun _ _ _ _ _ _ _ y us hl => match us, hl with | [_], _ => rfl
  bK := fun _ _ _ _ _ _ _ y ks ws us h1 hp h2 h3 => match ks, ws, us, h1, h2, h3 with
    | [k], [w], [u], _, _, _ => by
      have e := List.perm_singleton.mp hp
      obtain ⟨e1, e2⟩ := Prod.mk.inj (List.cons.inj e).1
      subst e1 e2
      rfl
theorem txt_BadBook : TxtI (inCls 9) "BadBook.__init__" ["index", "word"] where
  par := by decide +kernel
  ssu := by rfl
  scl := by rfl
  sse := by rfl
  kin := by rfl
  cel := by decide +kernel
  nco := by rfl
  nge := by rfl
  fie := by decide +kernel
  ndf := by decide +kernel
  len := by decide
  bod := ⟨_, _, _, _, _, _, _, _, _, by rfl, (.cons (.cons .nil)), fun L fI' cda' cc' => ⟨_, by rfl, by rfl⟩⟩
  bP := fun _ _ _ _ _ _ _ y us hl => match us, hl with | [_, _], _ => rfl
  bK := fun _ _ _ _ _ _ _ y ks ws us h1 hp h2 h3 => match ks, ws, us, h1, h2, h3 with
    | [k1, k2], [w1, w2], [u1, u2], _, _, _ => by
      rcases perm2 hp with ⟨rfl, rfl, rfl, rfl⟩ | ⟨rfl, rfl, rfl, rfl⟩
      · rfl
      · rfl
theorem txt_BadFlag : TxtI (inCls 10) "BadFlag.__init__" ["below"] where
  par := by decide +kernel
  ssu := by rfl
  scl := by rfl
  sse := by rfl
  kin := by rfl
  cel := by decide +kernel
  nco := by rfl
  nge := by rfl
  fie := by decide +kernel
  ndf := by decide +kernel
  len := by decide
  bod := ⟨_, _, _, _, _, _, _, _, _, by rfl, (.cons .nil), fun L fI' cda' cc' => ⟨_, by rfl, by rfl⟩⟩
  bP := fun _ _ _ _ _ _ _ y us hl => match us, hl with | [_], _ => rfl
  bK := fun _ _ _ _ _ _ _ y ks ws us h1 hp h2 h3 => match ks, ws, us, h1, h2, h3 with
    | [k], [w], [u], _, _, _ => by
      have e := List.perm_singleton.mp hp
      obtain ⟨e1, e2⟩ := Prod.mk.inj (List.cons.inj e).1
      subst e1 e2
      rfl
theorem txt_UnlikeLanguages : TxtI (inCls 11) "UnlikeLanguages.__init__" [] where
  par := by decide +kernel
  ssu := by rfl
  scl := by rfl
  sse := by rfl
  kin := by rfl
  cel := by decide +kernel
  nco := by rfl
  nge := by rfl
  fie := fun _ h => nomatch h
  ndf := by decide +kernel
  len := by decide
  bod := ⟨_, _, _, _, _, _, _, _, _, by rfl, .nil, fun L fI' cda' cc' => ⟨_, by rfl, by rfl⟩⟩
  bP := fun _ _ _ _ _ _ _ y us hl => match us, hl with | [], _ => rfl
  bK := fun _ _ _ _ _ _ _ y ks ws us h1 hp h2 h3 => match ks, ws, us, h1, h2, h3 with
    | [], [], [], _, _, _ => rfl
theorem txt_UnlikeWays : TxtI (inCls 12) "UnlikeWays.__init__" [] where
  par := by decide +kernel
  ssu := by rfl
  scl := by rfl
  sse := by rfl
  kin := by rfl
  cel := by decide +kernel
  nco := by rfl
  nge := by rfl
  fie := fun _ h => nomatch h
  ndf := by decide +kernel
  len := by decide
  bod := ⟨_, _, _, _, _, _, _, _, _, by rfl, .nil, fun L fI' cda' cc' => ⟨_, by rfl, by rfl⟩⟩
  bP := fun _ _ _ _ _ _ _ y us hl => match us, hl with | [], _ => rfl
  bK := fun _ _ _ _ _ _ _ y ks ws us h1 hp h2 h3 => match ks, ws, us, h1, h2, h3 with
    | [], [], [], _, _, _ => rfl
theorem txt_BadTree : TxtI (inCls 13) "BadTree.__init__" ["tree"] where
  par := by decide +kernel
  ssu := by rfl
  scl := by rfl
  sse := by rfl
  kin := by rfl
  cel := by decide +kernel
  nco := by rfl
  nge := by rfl
  fie := by decide +kernel
  ndf := by decide +kernel
  len := by decide
  bod := ⟨_, _, _, _, _, _, _, _, _, by rfl, (.cons .nil), fun L fI' cda' cc' => ⟨_, by rfl, by rfl⟩⟩
  bP := fun _ _ _ _ _ _ _ y us hl => match us, hl with | [_], _ => rfl
  bK := fun _ _ _ _ _ _ _ y ks ws us h1 hp h2 h3 => match ks, ws, us, h1, h2, h3 with
    | [k], [w], [u], _, _, _ => by
      have e := List.perm_singleton.mp hp
      obtain ⟨e1, e2⟩ := Prod.mk.inj (List.cons.inj e).1
      subst e1 e2
      rfl
theorem txt_BadRow : TxtI (inCls 14) "BadRow.__init__" ["index"] where
  par := by decide +kernel
  ssu := by rfl
  scl := by rfl
  sse := by rfl
  kin := by rfl
  cel := by decide +kernel
  nco := by rfl
  nge := by rfl
  fie := by decide +kernel
  ndf := by decide +kernel
  len := by decide
  bod := ⟨_, _, _, _, _, _, _, _, _, by rfl, (.cons .nil), fun L fI' cda' cc' => ⟨_, by rfl, by rfl⟩⟩
  bP := fun _ _ _ _ _ _ _ y us hl => match us, hl with | [_], _ => rfl
  bK := fun _ _ _ _ _ _ _ y ks ws us h1 hp h2 h3 => match ks, ws, us, h1, h2, h3 with
    | [k], [w], [u], _, _, _ => by
      have e := List.perm_singleton.mp hp
      obtain ⟨e1, e2⟩ := Prod.mk.inj (List.cons.inj e).1
      subst e1 e2
      rfl
theorem txt_NoBook : TxtI (inCls 15) "NoBook.__init__" ["at"] where
  par := by decide +kernel
  ssu := by rfl
  scl := by rfl
  sse := by rfl
  kin := by rfl
  cel := by decide +kernel
  nco := by rfl
  nge := by rfl
  fie := by decide +kernel
  ndf := by decide +kernel
  len := by decide
  bod := ⟨_, _, _, _, _, _, _, _, _, by rfl, (.cons .nil), fun L fI' cda' cc' => ⟨_, by rfl, by rfl⟩⟩
  bP := fun _ _ _ _ _ _ _ y us hl => match us, hl with | [_], _ => rfl
  bK := fun _ _ _ _ _ _ _ y ks ws us h1 hp h2 h3 => match ks, ws, us, h1, h2, h3 with
    | [k], [w], [u], _, _, _ => by
      have e := List.perm_singleton.mp hp
      obtain ⟨e1, e2⟩ := Prod.mk.inj (List.cons.inj e).1
      subst e1 e2
      rfl
theorem txt_NoRule : TxtI (inCls 16) "NoRule.__init__" ["index"] where
  par := by decide +kernel
  ssu := by rfl
  scl := by rfl
  sse := by rfl
  kin := by rfl
  cel := by decide +kernel
  nco := by rfl
  nge := by rfl
  fie := by decide +kernel
  ndf := by decide +kernel
  len := by decide
  bod := ⟨_, _, _, _, _, _, _, _, _, by rfl, (.cons .nil), fun L fI' cda' cc' => ⟨_, by rfl, by rfl⟩⟩
  bP := fun _ _ _ _ _ _ _ y us hl => match us, hl with | [_], _ => rfl
  bK := fun _ _ _ _ _ _ _ y ks ws us h1 hp h2 h3 => match ks, ws, us, h1, h2, h3 with
    | [k], [w], [u], _, _, _ => by
      have e := List.perm_singleton.mp hp
      obtain ⟨e1, e2⟩ := Prod.mk.inj (List.cons.inj e).1
      subst e1 e2
      rfl
theorem txt_BadCount : TxtI (inCls 17) "BadCount.__init__" ["count"] where
  par := by decide +kernel
  ssu := by rfl
  scl := by rfl
  sse := by rfl
  kin := by rfl
  cel := by decide +kernel
  nco := by rfl
  nge := by rfl
  fie := by decide +kernel
  ndf := by decide +kernel
  len := by decide
  bod := ⟨_, _, _, _, _, _, _, _, _, by rfl, (.cons .nil), fun L fI' cda' cc' => ⟨_, by rfl, by rfl⟩⟩
  bP := fun _ _ _ _ _ _ _ y us hl => match us, hl with | [_], _ => rfl
  bK := fun _ _ _ _ _ _ _ y ks ws us h1 hp h2 h3 => match ks, ws, us, h1, h2, h3 with
    | [k], [w], [u], _, _, _ => by
      have e := List.perm_singleton.mp hp
      obtain ⟨e1, e2⟩ := Prod.mk.inj (List.cons.inj e).1
      subst e1 e2
      rfl
theorem txt_NoRest : TxtI (inCls 18) "NoRest.__init__" ["tree"] where
  par := by decide +kernel
  ssu := by rfl
  scl := by rfl
  sse := by rfl
  kin := by rfl
  cel := by decide +kernel
  nco := by rfl
  nge := by rfl
  fie := by decide +kernel
  ndf := by decide +kernel
  len := by decide
  bod := ⟨_, _, _, _, _, _, _, _, _, by rfl, (.cons .nil), fun L fI' cda' cc' => ⟨_, by rfl, by rfl⟩⟩
  bP := fun _ _ _ _ _ _ _ y us hl => match us, hl with | [_], _ => rfl
  bK := fun _ _ _ _ _ _ _ y ks ws us h1 hp h2 h3 => match ks, ws, us, h1, h2, h3 with
    | [k], [w], [u], _, _, _ => by
      have e := List.perm_singleton.mp hp
      obtain ⟨e1, e2⟩ := Prod.mk.inj (List.cons.inj e).1
      subst e1 e2
      rfl
theorem txt_BadBar : TxtI (inCls 19) "BadBar.__init__" ["at"] where
  par := by decide +kernel
  ssu := by rfl
  scl := by rfl
  sse := by rfl
  kin := by rfl
  cel := by decide +kernel
  nco := by rfl
  nge := by rfl
  fie := by decide +kernel
  ndf := by decide +kernel
  len := by decide
  bod := ⟨_, _, _, _, _, _, _, _, _, by rfl, (.cons .nil), fun L fI' cda' cc' => ⟨_, by rfl, by rfl⟩⟩
  bP := fun _ _ _ _ _ _ _ y us hl => match us, hl with | [_], _ => rfl
  bK := fun _ _ _ _ _ _ _ y ks ws us h1 hp h2 h3 => match ks, ws, us, h1, h2, h3 with
    | [k], [w], [u], _, _, _ => by
      have e := List.perm_singleton.mp hp
      obtain ⟨e1, e2⟩ := Prod.mk.inj (List.cons.inj e).1
      subst e1 e2
      rfl
theorem txt_BadName : TxtI (inCls 20) "BadName.__init__" ["name"] where
  par := by decide +kernel
  ssu := by rfl
  scl := by rfl
  sse := by rfl
  kin := by rfl
  cel := by decide +kernel
  nco := by rfl
  nge := by rfl
  fie := by decide +kernel
  ndf := by decide +kernel
  len := by decide
  bod := ⟨_, _, _, _, _, _, _, _, _, by rfl, (.cons .nil), fun L fI' cda' cc' => ⟨_, by rfl, by rfl⟩⟩
  bP := fun _ _ _ _ _ _ _ y us hl => match us, hl with | [_], _ => rfl
  bK := fun _ _ _ _ _ _ _ y ks ws us h1 hp h2 h3 => match ks, ws, us, h1, h2, h3 with
    | [k], [w], [u], _, _, _ => by
      have e := List.perm_singleton.mp hp
      obtain ⟨e1, e2⟩ := Prod.mk.inj (List.cons.inj e).1
      subst e1 e2
      rfl
theorem txt_NoMark : TxtI (inCls 21) "NoMark.__init__" ["name"] where
  par := by decide +kernel
  ssu := by rfl
  scl := by rfl
  sse := by rfl
  kin := by rfl
  cel := by decide +kernel
  nco := by rfl
  nge := by rfl
  fie := by decide +kernel
  ndf := by decide +kernel
  len := by decide
  bod := ⟨_, _, _, _, _, _, _, _, _, by rfl, (.cons .nil), fun L fI' cda' cc' => ⟨_, by rfl, by rfl⟩⟩
  bP := fun _ _ _ _ _ _ _ y us hl => match us, hl with | [_], _ => rfl
  bK := fun _ _ _ _ _ _ _ y ks ws us h1 hp h2 h3 => match ks, ws, us, h1, h2, h3 with
    | [k], [w], [u], _, _, _ => by
      have e := List.perm_singleton.mp hp
      obtain ⟨e1, e2⟩ := Prod.mk.inj (List.cons.inj e).1
      subst e1 e2
      rfl
theorem txt_NothingBack : TxtI (inCls 22) "NothingBack.__init__" [] where
  par := by decide +kernel
  ssu := by rfl
  scl := by rfl
  sse := by rfl
  kin := by rfl
  cel := by decide +kernel
  nco := by rfl
  nge := by rfl
  fie := fun _ h => nomatch h
  ndf := by decide +kernel
  len := by decide
  bod := ⟨_, _, _, _, _, _, _, _, _, by rfl, .nil, fun L fI' cda' cc' => ⟨_, by rfl, by rfl⟩⟩
  bP := fun _ _ _ _ _ _ _ y us hl => match us, hl with | [], _ => rfl
  bK := fun _ _ _ _ _ _ _ y ks ws us h1 hp h2 h3 => match ks, ws, us, h1, h2, h3 with
    | [], [], [], _, _, _ => rfl
theorem txt_NothingAgain : TxtI (inCls 23) "NothingAgain.__init__" [] where
  par := by decide +kernel
  ssu := by rfl
  scl := by rfl
  sse := by rfl
  kin := by rfl
  cel := by decide +kernel
  nco := by rfl
  nge := by rfl
  fie := fun _ h => nomatch h
  ndf := by decide +kernel
  len := by decide
  bod := ⟨_, _, _, _, _, _, _, _, _, by rfl, .nil, fun L fI' cda' cc' => ⟨_, by rfl, by rfl⟩⟩
  bP := fun _ _ _ _ _ _ _ y us hl => match us, hl with | [], _ => rfl
  bK := fun _ _ _ _ _ _ _ y ks ws us h1 hp h2 h3 => match ks, ws, us, h1, h2, h3 with
    | [], [], [], _, _, _ => rfl
theorem ec_mk {prog : Program} {K : PySem.W.Frag} {mg : Str → Option Value} {h : Heap} {x qual : Str} {st : Stmt} {C fI cc cda : Addr} {fs : List Str} (T : TxtI st qual fs) (X : K.In h) (G : h.Ns mainGlobals mg)
    {nm q : Str} {N : Addr} {bs bm : List Value} {sn : List Str} {sub : List Value} {ab : Bool} {col : Option Bool} {dd : Option Addr} {k0 k1 k2 k3 k5 : Option Value} {oc kV doc pm ct cl ccl : Value} {od an cld cdd : Option Addr} {osl csl ccs : Array (Option Value)} {vs : Array Value} {file : Str} {tf : Tok}
    (aC : PySem.W.nsIn K mainGlobals x = some (some (.ref C))) (lC : K.lookup C = some (excClassObj nm q C N bs bm true sn sub ab col dd k0 k1 k2 k3 k5 "ValueError.__new__")) (ini : PySem.W.findIn K (.ref C) "__init__" = some (some (.ref fI)))
    (lI : K.lookup fI = some ⟨oc, od, .func (PySem.W.ksFn "__init__" qual (fnArgs st) (fnBody st) (fnScope st) .none kV doc pm an (.ref cda) ct cc), osl⟩) (lc : K.lookup cc = some ⟨cl, cld, .cell (some (.ref C)), csl⟩) (ld : K.lookup cda = some ⟨ccl, cdd, .fields vs, ccs⟩)
    (hbm : PySem.HandSPX.refsVE bm = true) (hv : vs[2]? = some (.str file tf)) (hfile : ((prog.main.file : Str) == file) = true) (htop : (prog.main.scope.names.lookup ("super" : Str)).isSome = false) (su : PySem.W.nsIn K mainGlobals "super" = some none)
    (cI : PySem.W.codeIn K (.ref cda) qual = true) (sa : PySem.W.findIn K (.ref C) "__setattr__" = some (some (.builtin "object.__setattr__"))) (exC : PySem.W.subIn K (.ref C) (.type "BaseException") = some true) (tyC : PySem.W.typeIn K (.ref C) = some (.type "type")) (kC : PySem.W.keepIn K (.ref C) = true)
    (hg : PySem.W.findIn K (.ref C) "__getattribute__" = some (some (.builtin "BaseException.__getattribute__"))) (hk : PySem.W.findIn K (.ref C) "__getattr__" = some none) (hd : PySem.W.hasDictIn K C = true) (ha : PySem.W.findIn K (.ref C) "__class__" = some (some (.builtin "object.__class__")))
    (hn : PySem.W.specialIn K (.builtin "object.__class__") "__get__" = some (some (.builtin "getset_descriptor.__get__"))) (ht : PySem.W.takesIn K (.builtin "object.__class__") = some true) (hm : PySem.W.mroIn K C (.type "object") = some true)
    (sup : PySem.W.ks_superIn K C C "__init__" = some (some (.builtin "ValueError.__init__"))) (ity : PySem.W.typeIn K (.ref fI) = some (.type "function")) (opa : PySem.W.nsIn K cStatics "thirdparty.any" = some none) (suB : PySem.W.subIn K (.ref C) (.type "ValueError") = some true)
    (suC : PySem.W.mroIn K C (.ref C) = some true) (nf : ∀ f ∈ fs, PySem.W.findIn K (.ref C) f = some none) : EC prog K mg x C fs where
  ini := by
    have lk : ∀ {fd : FuncData}, (∃ oc od osl, K.lookup fI = some ⟨oc, od, .func fd, osl⟩) → fd = PySem.W.ksFn "__init__" qual (fnArgs st) (fnBody st) (fnScope st) .none kV doc pm an (.ref cda) ct cc := fun {fd} ⟨oc', od', osl', e⟩ => by
      rw [lI] at e
      cases e
      rfl
    refine ⟨fI, qual, fnArgs st, fnBody st, fnScope st, ⟨⟨oc, od, .none, kV, doc, pm, an, cda, ct, osl, cc, cl, cld, csl, ccl, cdd, ccs, vs, file, tf, lI, cI, lc, ld, hv, hfile⟩, sup, ini, ity, opa, suB, suC, T.par, htop, T.ssu, T.scl, T.sse, T.kin, T.cel, T.nco, T.nge,
      fun f hf => ⟨(T.fie f hf).1, (T.fie f hf).2.1, nf f hf, (T.fie f hf).2.2⟩, T.ndf, T.bod⟩, fun s y fd hfd us hl => ?_, fun s y fd hfd ks ws us h1 h2 h3 h4 => ?_⟩
    · rw [lk hfd]
      exact .of_eq (T.bP _ _ _ _ _ _ _ y us hl)
    · rw [lk hfd]
      exact .of_eq (T.bK _ _ _ _ _ _ _ y ks ws us h1 h2 h3 h4)
  oex := ⟨⟨nm, q, N, bs, bm, sn, sub, ab, col, dd, k0, k1, k2, k3, k5, lC, hbm⟩, sa, exC, tyC, kC⟩
  gC := PySem.W.mg_of X G aC
  su := PySem.W.mg_none_of X G su
  is := ⟨hg, hk, exC, hd, ha, hn, ht, hm⟩
  fl := T.len
theorem def_mk {K : PySem.W.Frag} {mg : Str → Option Value} {h : Heap} {x : Str} {st : Stmt} {f : Addr} {oc kV doc pm cdv ct : Value} {od an : Option Addr} {osl : Array (Option Value)} (X : K.In h) (G : h.Ns mainGlobals mg) (a : PySem.W.nsIn K mainGlobals x = some (some (.ref f)))
    (l : K.lookup f = some ⟨oc, od, .func (PySem.W.fnOf x x (fnArgs st) (fnBody st) (fnScope st) .none kV doc pm an cdv ct), osl⟩) (c : PySem.W.codeIn K cdv x = true) (k : PySem.W.keepIn K (.ref f) = true) :
    Def K mg x st f (PySem.W.fnOf x x (fnArgs st) (fnBody st) (fnScope st) .none kV doc pm an cdv ct) := ⟨⟨oc, od, .none, kV, doc, pm, an, cdv, ct, osl, rfl, l, c⟩, PySem.W.mg_of X G a, k⟩
/-- the law keeps its promise, from what the top has left -/
theorem all_ok {P : Program} {w : World} {K : PySem.W.Frag} {mg : Str → Option Value} {h : Heap} {c : Nat → Addr} {fa : Addr} (X : K.In h) (G : h.Ns mainGlobals mg) (hfa : mg "law" = some (.ref fa)) (A : AllC P K mg c) (T : Blt3 mg)
    {f1 f2 f3 f4 f5 f6 f7 f8 : Addr} {d1 d2 d3 d4 d5 d6 d7 : FuncData} {kV8 dc8 pm8 cd8 ct8 : Value} {an8 : Option Addr} (D1 : Def K mg "_law_fresh" sFresh f1 d1) (D2 : Def K mg "_law_take" sTake f2 d2) (D3 : Def K mg "_law_one" sOne f3 d3) (D4 : Def K mg "_law_same" sSame f4 d4) (D5 : Def K mg "_law_kinds" sKinds f5 d5) (D6 : Def K mg "_law_by_place" sPlace f6 d6) (D7 : Def K mg "_law_held" sHeld f7 d7)
    (D8 : Def K mg "law" sLaw f8 (PySem.W.fnOf "law" "law" (fnArgs sLaw) (fnBody sLaw) (fnScope sLaw) .none kV8 dc8 pm8 an8 cd8 ct8))
    (e1 : d1.defaults = .none) (e2 : d2.defaults = .none) (e3 : d3.defaults = .none) (e4 : d4.defaults = .none) (e5 : d5.defaults = .none) (e6 : d6.defaults = .none) (e7 : d7.defaults = .none) :
    ∃ fd : FuncData, (∀ (s : Shared) (v : Value), BindsTo s fd ⟨[v], []⟩ [("_law_script", v)]) ∧ ∀ base : Heap, K.In base → base.Ns mainGlobals mg → FnOk P w K mg base L2.CX0 3 fa fd ["_law_script"] (spLaw K) := by
  have e := hfa.symm.trans D8.mgf
  cases e
  refine ⟨PySem.W.fnOf "law" "law" (fnArgs sLaw) (fnBody sLaw) (fnScope sLaw) .none kV8 dc8 pm8 an8 cd8 ct8, fun s v => .of_eq rfl, fun base _ _ => ?_⟩
  have b1 := D1.fn.binds (ps := ["_law_script"]) e1 fun _ _ _ _ _ _ us hl => match us, hl with | [_], _ => rfl
  have b2 := D2.fn.binds (ps := ["_law_state", "_law_many"]) e2 fun _ _ _ _ _ _ us hl => match us, hl with | [_, _], _ => rfl
  have b3 := D3.fn.binds (ps := ["_law_state", "_law_things"]) e3 fun _ _ _ _ _ _ us hl => match us, hl with | [_, _], _ => rfl
  have b4 := D4.fn.binds (ps := ["_law_found", "_law_due"]) e4 fun _ _ _ _ _ _ us hl => match us, hl with | [_, _], _ => rfl
  have b5 := D5.fn.binds (ps := ["_law_e"]) e5 fun _ _ _ _ _ _ us hl => match us, hl with | [_], _ => rfl
  have b6 := D6.fn.binds (ps := ["_law_x"]) e6 fun _ _ _ _ _ _ us hl => match us, hl with | [_], _ => rfl
  have b7 := D7.fn.binds (ps := ["_law_x"]) e7 fun _ _ _ _ _ _ us hl => match us, hl with | [_], _ => rfl
  have b8 := D8.fn.binds (ps := ["_law_script"]) rfl fun _ _ _ _ _ _ us hl => match us, hl with | [_], _ => rfl
  have c2 : Cal P w K mg base 1 "_law_take" spTake [] := c_take D2 b2 T.toBlt
  have c4 : Cal P w K mg base 1 "_law_same" spSame0 [] := c_same0 D4 b4 T.toBlt2
  exact c_law D8 b8 T A (c_fresh D1 b1 T.toBlt) (c_one D3 b3 T.toBlt c2) c4 (c_sameL D4 b4 T.toBlt2 c4) (c_kinds D5 b5 T.toBlt2 A) (c_place D6 b6 A) (c_held D7 b7 A)
theorem walk {l : PySem.W.OpenLaw} {q : Program} {loose : List Str} {XP : (Str → Option Value) → Heap → Prop} {YP : World → Heap → Prop} {d : DefRec} {K : Params → PySem.W.Frag} (hn : l.most = some 63) (hdf : d.params.defaults = [])
    (hY : ∀ (w : World) (h : Heap), YP w h → (K w.params).In h)
    (F : ∀ (w : World) (mg : Str → Option Value) (fa : Addr) (h : Heap), (K w.params).In h → h.Ns mainGlobals mg → mg d.name = some (.ref fa) →
      ∃ fd : FuncData, (∀ (s : Shared) (u : Value), BindsTo s fd ⟨[u], []⟩ [("_law_script", u)]) ∧ ∀ base : Heap, (K w.params).In base → base.Ns mainGlobals mg → FnOk l.prog w (K w.params) mg base L2.CX0 3 fa fd ["_law_script"] (spLaw (K w.params))) :
    PySem.W.WalkO q loose XP YP l.row.toRowW d [] (fun f vs => PySem.call f vs) :=
  L2.walk_of (n := 63) (k := 3) (x := "_law_script") (CX := fun _ => L2.CX0) (sp := fun w => spLaw (K w.params)) hn (by decide) hdf ⟨rfl, by decide, by decide⟩ hY F (fun _ _ a ns _ _ hS => ⟨a, ns, rfl, hS, fun _ => rfl⟩) fun _ _ _ _ _ z => z

theorem two {A B : Prop} (a : A) (f : A → B) : B := f a
def kitAll (K : PySem.W.Frag) (cs : List Addr) (CR : Addr) : Bool := (List.range 22).all fun i => ((List.range 22).all fun j => PySem.W.kitOne K (.ref (cs.getD i 0)) (.ref (cs.getD j 0)) == some (decide (i = j))) && PySem.W.kitOne K (.ref (cs.getD i 0)) (.ref CR) == some true && PySem.W.kitOne K (.ref (cs.getD i 0)) (.type "ValueError") == some true && (fsOf i).all fun f => match PySem.W.findIn K (.ref (cs.getD i 0)) f with
  | some none => true
  | _ => false
theorem kitAll_at {K : PySem.W.Frag} {cs : List Addr} {CR : Addr} (h : kitAll K cs CR = true) (i : Nat) (hi : i < 22) : (∀ j, j < 22 → PySem.W.kitOne K (.ref (cs.getD i 0)) (.ref (cs.getD j 0)) = some (decide (i = j))) ∧ PySem.W.kitOne K (.ref (cs.getD i 0)) (.ref CR) = some true ∧ PySem.W.kitOne K (.ref (cs.getD i 0)) (.type "ValueError") = some true ∧ ∀ f ∈ fsOf i, PySem.W.findIn K (.ref (cs.getD i 0)) f = some none := by
  have z := List.all_eq_true.mp h i (List.mem_range.mpr hi)
  rw [Bool.and_eq_true, Bool.and_eq_true, Bool.and_eq_true] at z
  obtain ⟨⟨⟨z1, z2⟩, z3⟩, z4⟩ := z
  refine ⟨fun j hj => eq_of_beq (List.all_eq_true.mp z1 j (List.mem_range.mpr hj)), eq_of_beq z2, eq_of_beq z3, fun f hf => ?_⟩
  have y := List.all_eq_true.mp z4 f hf
  split at y
  · assumption
  · cases y
theorem allC_mk {P : Program} {K : PySem.W.Frag} {mg : Str → Option Value} {C0 C1 C2 C3 C4 C5 C6 C7 C8 C9 C10 C11 C12 C13 C14 C15 C16 C17 C18 C19 C20 C21 CR : Addr} (e0 : EC P K mg "BadLanguage" C0 ["index"]) (e1 : EC P K mg "UnknownLabel" C1 ["label"]) (e2 : EC P K mg "NoPlace" C2 ["place"]) (e3 : EC P K mg "BadText" C3 ["at"]) (e4 : EC P K mg "BadLine" C4 ["line"]) (e5 : EC P K mg "BadRule" C5 ["word"]) (e6 : EC P K mg "UnknownHole" C6 ["hole"]) (e7 : EC P K mg "BadBook" C7 ["index", "word"]) (e8 : EC P K mg "BadFlag" C8 ["below"]) (e9 : EC P K mg "UnlikeLanguages" C9 []) (e10 : EC P K mg "UnlikeWays" C10 []) (e11 : EC P K mg "BadTree" C11 ["tree"]) (e12 : EC P K mg "BadRow" C12 ["index"]) (e13 : EC P K mg "NoBook" C13 ["at"]) (e14 : EC P K mg "NoRule" C14 ["index"]) (e15 : EC P K mg "BadCount" C15 ["count"]) (e16 : EC P K mg "NoRest" C16 ["tree"]) (e17 : EC P K mg "BadBar" C17 ["at"]) (e18 : EC P K mg "BadName" C18 ["name"]) (e19 : EC P K mg "NoMark" C19 ["name"]) (e20 : EC P K mg "NothingBack" C20 []) (e21 : EC P K mg "NothingAgain" C21 []) (hr : mg "RunError" = some (.ref CR)) (hk : kitAll K [C0, C1, C2, C3, C4, C5, C6, C7, C8, C9, C10, C11, C12, C13, C14, C15, C16, C17, C18, C19, C20, C21] CR = true) : AllC P K mg (fun j => ([C0, C1, C2, C3, C4, C5, C6, C7, C8, C9, C10, C11, C12, C13, C14, C15, C16, C17, C18, C19, C20, C21] : List Addr).getD j 0) where
  ec := fun j hj => match j, hj with
    | 0, _ => e0
    | 1, _ => e1
    | 2, _ => e2
    | 3, _ => e3
    | 4, _ => e4
    | 5, _ => e5
    | 6, _ => e6
    | 7, _ => e7
    | 8, _ => e8
    | 9, _ => e9
    | 10, _ => e10
    | 11, _ => e11
    | 12, _ => e12
    | 13, _ => e13
    | 14, _ => e14
    | 15, _ => e15
    | 16, _ => e16
    | 17, _ => e17
    | 18, _ => e18
    | 19, _ => e19
    | 20, _ => e20
    | 21, _ => e21
    | n + 22, h => absurd h (by omega)
  nf := fun j hj => (kitAll_at hk j hj).2.2.2
  kit := fun i j hi hj => (kitAll_at hk i hi).1 j hj
  run := ⟨CR, hr, fun i hi => (kitAll_at hk i hi).2.1⟩
  val := fun i hi => (kitAll_at hk i hi).2.2.1
end KA

open PySem PySem.W PyProof.Rows
set_option maxRecDepth 100000 in
set_option maxHeartbeats 0 in
theorem PySem.Challenge.cw_secondruns_k01_errors_made_holds : PySem.Challenge.rw_secondruns_k01_errors_made.Holds := by
  w_on
  o_law
  k_head
  (case hw => w_witness2)
  k_fill
  refine KA.walk (l := PySem.Challenge.rw_secondruns_k01_errors_made) rfl rfl (fun w h Y => PySem.W.kIn_of Y) ?F
  case F =>
    intro w mg fa h KX G hmg
    refine' KA.two (A := XI.EC PySem.Challenge.rw_secondruns_k01_errors_made.prog _ mg "BadLanguage" ?C0 ["index"]) ?e0 (fun ec0 => ?_)
    case e0 =>
      refine' KA.ec_mk KA.txt_BadLanguage KX G ?aC ?lC ?ini ?lI ?lc ?ld ?hbm ?hv ?hfile ?htop ?su ?cI ?sa ?exC ?tyC ?kC ?hg ?hk ?hd ?ha ?hn ?ht ?hm ?sup ?ity ?opa ?suB ?suC ?nf
      (case aC => k_is); (case lC => k_is); (case ini => k_is); (case lI => k_is); (case lc => k_is); (case ld => k_is); (case hbm => decide +kernel); (case hv => rfl); (case hfile => decide +kernel); (case htop => decide +kernel)
      (case su => k_is); (case cI => k_is); (case sa => k_is); (case exC => k_is); (case tyC => k_is); (case kC => k_is); (case hg => k_is); (case hk => k_is); (case hd => k_is); (case ha => k_is); (case hn => k_is); (case ht => k_is); (case hm => k_is); (case sup => ks_is); (case ity => k_is); (case opa => k_is); (case suB => k_is); (case suC => k_is)
      case nf => (intro f hf; obtain rfl := List.mem_singleton.mp hf; k_is)
    refine' KA.two (A := XI.EC PySem.Challenge.rw_secondruns_k01_errors_made.prog _ mg "UnknownLabel" ?C1 ["label"]) ?e1 (fun ec1 => ?_)
    case e1 =>
      refine' KA.ec_mk KA.txt_UnknownLabel KX G ?aC ?lC ?ini ?lI ?lc ?ld ?hbm ?hv ?hfile ?htop ?su ?cI ?sa ?exC ?tyC ?kC ?hg ?hk ?hd ?ha ?hn ?ht ?hm ?sup ?ity ?opa ?suB ?suC ?nf
      (case aC => k_is); (case lC => k_is); (case ini => k_is); (case lI => k_is); (case lc => k_is); (case ld => k_is); (case hbm => decide +kernel); (case hv => rfl); (case hfile => decide +kernel); (case htop => decide +kernel)
      (case su => k_is); (case cI => k_is); (case sa => k_is); (case exC => k_is); (case tyC => k_is); (case kC => k_is); (case hg => k_is); (case hk => k_is); (case hd => k_is); (case ha => k_is); (case hn => k_is); (case ht => k_is); (case hm => k_is); (case sup => ks_is); (case ity => k_is); (case opa => k_is); (case suB => k_is); (case suC => k_is)
      case nf => (intro f hf; obtain rfl := List.mem_singleton.mp hf; k_is)
    refine' KA.two (A := XI.EC PySem.Challenge.rw_secondruns_k01_errors_made.prog _ mg "NoPlace" ?C2 ["place"]) ?e2 (fun ec2 => ?_)
    case e2 =>
      refine' KA.ec_mk KA.txt_NoPlace KX G ?aC ?lC ?ini ?lI ?lc ?ld ?hbm ?hv ?hfile ?htop ?su ?cI ?sa ?exC ?tyC ?kC ?hg ?hk ?hd ?ha ?hn ?ht ?hm ?sup ?ity ?opa ?suB ?suC ?nf
      (case aC => k_is); (case lC => k_is); (case ini => k_is); (case lI => k_is); (case lc => k_is); (case ld => k_is); (case hbm => decide +kernel); (case hv => rfl); (case hfile => decide +kernel); (case htop => decide +kernel)
      (case su => k_is); (case cI => k_is); (case sa => k_is); (case exC => k_is); (case tyC => k_is); (case kC => k_is); (case hg => k_is); (case hk => k_is); (case hd => k_is); (case ha => k_is); (case hn => k_is); (case ht => k_is); (case hm => k_is); (case sup => ks_is); (case ity => k_is); (case opa => k_is); (case suB => k_is); (case suC => k_is)
      case nf => (intro f hf; obtain rfl := List.mem_singleton.mp hf; k_is)
    refine' KA.two (A := XI.EC PySem.Challenge.rw_secondruns_k01_errors_made.prog _ mg "BadText" ?C3 ["at"]) ?e3 (fun ec3 => ?_)
    case e3 =>
      refine' KA.ec_mk KA.txt_BadText KX G ?aC ?lC ?ini ?lI ?lc ?ld ?hbm ?hv ?hfile ?htop ?su ?cI ?sa ?exC ?tyC ?kC ?hg ?hk ?hd ?ha ?hn ?ht ?hm ?sup ?ity ?opa ?suB ?suC ?nf
      (case aC => k_is); (case lC => k_is); (case ini => k_is); (case lI => k_is); (case lc => k_is); (case ld => k_is); (case hbm => decide +kernel); (case hv => rfl); (case hfile => decide +kernel); (case htop => decide +kernel)
      (case su => k_is); (case cI => k_is); (case sa => k_is); (case exC => k_is); (case tyC => k_is); (case kC => k_is); (case hg => k_is); (case hk => k_is); (case hd => k_is); (case ha => k_is); (case hn => k_is); (case ht => k_is); (case hm => k_is); (case sup => ks_is); (case ity => k_is); (case opa => k_is); (case suB => k_is); (case suC => k_is)
      case nf => (intro f hf; obtain rfl := List.mem_singleton.mp hf; k_is)
    refine' KA.two (A := XI.EC PySem.Challenge.rw_secondruns_k01_errors_made.prog _ mg "BadLine" ?C4 ["line"]) ?e4 (fun ec4 => ?_)
    case e4 =>
      refine' KA.ec_mk KA.txt_BadLine KX G ?aC ?lC ?ini ?lI ?lc ?ld ?hbm ?hv ?hfile ?htop ?su ?cI ?sa ?exC ?tyC ?kC ?hg ?hk ?hd ?ha ?hn ?ht ?hm ?sup ?ity ?opa ?suB ?suC ?nf
      (case aC => k_is); (case lC => k_is); (case ini => k_is); (case lI => k_is); (case lc => k_is); (case ld => k_is); (case hbm => decide +kernel); (case hv => rfl); (case hfile => decide +kernel); (case htop => decide +kernel)
      (case su => k_is); (case cI => k_is); (case sa => k_is); (case exC => k_is); (case tyC => k_is); (case kC => k_is); (case hg => k_is); (case hk => k_is); (case hd => k_is); (case ha => k_is); (case hn => k_is); (case ht => k_is); (case hm => k_is); (case sup => ks_is); (case ity => k_is); (case opa => k_is); (case suB => k_is); (case suC => k_is)
      case nf => (intro f hf; obtain rfl := List.mem_singleton.mp hf; k_is)
    refine' KA.two (A := XI.EC PySem.Challenge.rw_secondruns_k01_errors_made.prog _ mg "BadRule" ?C5 ["word"]) ?e5 (fun ec5 => ?_)
    case e5 =>
      refine' KA.ec_mk KA.txt_BadRule KX G ?aC ?lC ?ini ?lI ?lc ?ld ?hbm ?hv ?hfile ?htop ?su ?cI ?sa ?exC ?tyC ?kC ?hg ?hk ?hd ?ha ?hn ?ht ?hm ?sup ?ity ?opa ?suB ?suC ?nf
      (case aC => k_is); (case lC => k_is); (case ini => k_is); (case lI => k_is); (case lc => k_is); (case ld => k_is); (case hbm => decide +kernel); (case hv => rfl); (case hfile => decide +kernel); (case htop => decide +kernel)
      (case su => k_is); (case cI => k_is); (case sa => k_is); (case exC => k_is); (case tyC => k_is); (case kC => k_is); (case hg => k_is); (case hk => k_is); (case hd => k_is); (case ha => k_is); (case hn => k_is); (case ht => k_is); (case hm => k_is); (case sup => ks_is); (case ity => k_is); (case opa => k_is); (case suB => k_is); (case suC => k_is)
      case nf => (intro f hf; obtain rfl := List.mem_singleton.mp hf; k_is)
    refine' KA.two (A := XI.EC PySem.Challenge.rw_secondruns_k01_errors_made.prog _ mg "UnknownHole" ?C6 ["hole"]) ?e6 (fun ec6 => ?_)
    case e6 =>
      refine' KA.ec_mk KA.txt_UnknownHole KX G ?aC ?lC ?ini ?lI ?lc ?ld ?hbm ?hv ?hfile ?htop ?su ?cI ?sa ?exC ?tyC ?kC ?hg ?hk ?hd ?ha ?hn ?ht ?hm ?sup ?ity ?opa ?suB ?suC ?nf
      (case aC => k_is); (case lC => k_is); (case ini => k_is); (case lI => k_is); (case lc => k_is); (case ld => k_is); (case hbm => decide +kernel); (case hv => rfl); (case hfile => decide +kernel); (case htop => decide +kernel)
      (case su => k_is); (case cI => k_is); (case sa => k_is); (case exC => k_is); (case tyC => k_is); (case kC => k_is); (case hg => k_is); (case hk => k_is); (case hd => k_is); (case ha => k_is); (case hn => k_is); (case ht => k_is); (case hm => k_is); (case sup => ks_is); (case ity => k_is); (case opa => k_is); (case suB => k_is); (case suC => k_is)
      case nf => (intro f hf; obtain rfl := List.mem_singleton.mp hf; k_is)
    refine' KA.two (A := XI.EC PySem.Challenge.rw_secondruns_k01_errors_made.prog _ mg "BadBook" ?C7 ["index", "word"]) ?e7 (fun ec7 => ?_)
    case e7 =>
      refine' KA.ec_mk KA.txt_BadBook KX G ?aC ?lC ?ini ?lI ?lc ?ld ?hbm ?hv ?hfile ?htop ?su ?cI ?sa ?exC ?tyC ?kC ?hg ?hk ?hd ?ha ?hn ?ht ?hm ?sup ?ity ?opa ?suB ?suC ?nf
      (case aC => k_is); (case lC => k_is); (case ini => k_is); (case lI => k_is); (case lc => k_is); (case ld => k_is); (case hbm => decide +kernel); (case hv => rfl); (case hfile => decide +kernel); (case htop => decide +kernel)
      (case su => k_is); (case cI => k_is); (case sa => k_is); (case exC => k_is); (case tyC => k_is); (case kC => k_is); (case hg => k_is); (case hk => k_is); (case hd => k_is); (case ha => k_is); (case hn => k_is); (case ht => k_is); (case hm => k_is); (case sup => ks_is); (case ity => k_is); (case opa => k_is); (case suB => k_is); (case suC => k_is)
      case nf => (intro f hf; rcases List.mem_cons.mp hf with rfl | hf; k_is; obtain rfl := List.mem_singleton.mp hf; k_is)
    refine' KA.two (A := XI.EC PySem.Challenge.rw_secondruns_k01_errors_made.prog _ mg "BadFlag" ?C8 ["below"]) ?e8 (fun ec8 => ?_)
    case e8 =>
      refine' KA.ec_mk KA.txt_BadFlag KX G ?aC ?lC ?ini ?lI ?lc ?ld ?hbm ?hv ?hfile ?htop ?su ?cI ?sa ?exC ?tyC ?kC ?hg ?hk ?hd ?ha ?hn ?ht ?hm ?sup ?ity ?opa ?suB ?suC ?nf
      (case aC => k_is); (case lC => k_is); (case ini => k_is); (case lI => k_is); (case lc => k_is); (case ld => k_is); (case hbm => decide +kernel); (case hv => rfl); (case hfile => decide +kernel); (case htop => decide +kernel)
      (case su => k_is); (case cI => k_is); (case sa => k_is); (case exC => k_is); (case tyC => k_is); (case kC => k_is); (case hg => k_is); (case hk => k_is); (case hd => k_is); (case ha => k_is); (case hn => k_is); (case ht => k_is); (case hm => k_is); (case sup => ks_is); (case ity => k_is); (case opa => k_is); (case suB => k_is); (case suC => k_is)
      case nf => (intro f hf; obtain rfl := List.mem_singleton.mp hf; k_is)
    refine' KA.two (A := XI.EC PySem.Challenge.rw_secondruns_k01_errors_made.prog _ mg "UnlikeLanguages" ?C9 []) ?e9 (fun ec9 => ?_)
    case e9 =>
      refine' KA.ec_mk KA.txt_UnlikeLanguages KX G ?aC ?lC ?ini ?lI ?lc ?ld ?hbm ?hv ?hfile ?htop ?su ?cI ?sa ?exC ?tyC ?kC ?hg ?hk ?hd ?ha ?hn ?ht ?hm ?sup ?ity ?opa ?suB ?suC ?nf
      (case aC => k_is); (case lC => k_is); (case ini => k_is); (case lI => k_is); (case lc => k_is); (case ld => k_is); (case hbm => decide +kernel); (case hv => rfl); (case hfile => decide +kernel); (case htop => decide +kernel)
      (case su => k_is); (case cI => k_is); (case sa => k_is); (case exC => k_is); (case tyC => k_is); (case kC => k_is); (case hg => k_is); (case hk => k_is); (case hd => k_is); (case ha => k_is); (case hn => k_is); (case ht => k_is); (case hm => k_is); (case sup => ks_is); (case ity => k_is); (case opa => k_is); (case suB => k_is); (case suC => k_is)
      case nf => exact fun _ h => nomatch h
    refine' KA.two (A := XI.EC PySem.Challenge.rw_secondruns_k01_errors_made.prog _ mg "UnlikeWays" ?C10 []) ?e10 (fun ec10 => ?_)
    case e10 =>
      refine' KA.ec_mk KA.txt_UnlikeWays KX G ?aC ?lC ?ini ?lI ?lc ?ld ?hbm ?hv ?hfile ?htop ?su ?cI ?sa ?exC ?tyC ?kC ?hg ?hk ?hd ?ha ?hn ?ht ?hm ?sup ?ity ?opa ?suB ?suC ?nf
      (case aC => k_is); (case lC => k_is); (case ini => k_is); (case lI => k_is); (case lc => k_is); (case ld => k_is); (case hbm => decide +kernel); (case hv => rfl); (case hfile => decide +kernel); (case htop => decide +kernel)
      (case su => k_is); (case cI => k_is); (case sa => k_is); (case exC => k_is); (case tyC => k_is); (case kC => k_is); (case hg => k_is); (case hk => k_is); (case hd => k_is); (case ha => k_is); (case hn => k_is); (case ht => k_is); (case hm => k_is); (case sup => ks_is); (case ity => k_is); (case opa => k_is); (case suB => k_is); (case suC => k_is)
      case nf => exact fun _ h => nomatch h
    refine' KA.two (A := XI.EC PySem.Challenge.rw_secondruns_k01_errors_made.prog _ mg "BadTree" ?C11 ["tree"]) ?e11 (fun ec11 => ?_)
    case e11 =>
      refine' KA.ec_mk KA.txt_BadTree KX G ?aC ?lC ?ini ?lI ?lc ?ld ?hbm ?hv ?hfile ?htop ?su ?cI ?sa ?exC ?tyC ?kC ?hg ?hk ?hd ?ha ?hn ?ht ?hm ?sup ?ity ?opa ?suB ?suC ?nf
      (case aC => k_is); (case lC => k_is); (case ini => k_is); (case lI => k_is); (case lc => k_is); (case ld => k_is); (case hbm => decide +kernel); (case hv => rfl); (case hfile => decide +kernel); (case htop => decide +kernel)
      (case su => k_is); (case cI => k_is); (case sa => k_is); (case exC => k_is); (case tyC => k_is); (case kC => k_is); (case hg => k_is); (case hk => k_is); (case hd => k_is); (case ha => k_is); (case hn => k_is); (case ht => k_is); (case hm => k_is); (case sup => ks_is); (case ity => k_is); (case opa => k_is); (case suB => k_is); (case suC => k_is)
      case nf => (intro f hf; obtain rfl := List.mem_singleton.mp hf; k_is)
    refine' KA.two (A := XI.EC PySem.Challenge.rw_secondruns_k01_errors_made.prog _ mg "BadRow" ?C12 ["index"]) ?e12 (fun ec12 => ?_)
    case e12 =>
      refine' KA.ec_mk KA.txt_BadRow KX G ?aC ?lC ?ini ?lI ?lc ?ld ?hbm ?hv ?hfile ?htop ?su ?cI ?sa ?exC ?tyC ?kC ?hg ?hk ?hd ?ha ?hn ?ht ?hm ?sup ?ity ?opa ?suB ?suC ?nf
      (case aC => k_is); (case lC => k_is); (case ini => k_is); (case lI => k_is); (case lc => k_is); (case ld => k_is); (case hbm => decide +kernel); (case hv => rfl); (case hfile => decide +kernel); (case htop => decide +kernel)
      (case su => k_is); (case cI => k_is); (case sa => k_is); (case exC => k_is); (case tyC => k_is); (case kC => k_is); (case hg => k_is); (case hk => k_is); (case hd => k_is); (case ha => k_is); (case hn => k_is); (case ht => k_is); (case hm => k_is); (case sup => ks_is); (case ity => k_is); (case opa => k_is); (case suB => k_is); (case suC => k_is)
      case nf => (intro f hf; obtain rfl := List.mem_singleton.mp hf; k_is)
    refine' KA.two (A := XI.EC PySem.Challenge.rw_secondruns_k01_errors_made.prog _ mg "NoBook" ?C13 ["at"]) ?e13 (fun ec13 => ?_)
    case e13 =>
      refine' KA.ec_mk KA.txt_NoBook KX G ?aC ?lC ?ini ?lI ?lc ?ld ?hbm ?hv ?hfile ?htop ?su ?cI ?sa ?exC ?tyC ?kC ?hg ?hk ?hd ?ha ?hn ?ht ?hm ?sup ?ity ?opa ?suB ?suC ?nf
      (case aC => k_is); (case lC => k_is); (case ini => k_is); (case lI => k_is); (case lc => k_is); (case ld => k_is); (case hbm => decide +kernel); (case hv => rfl); (case hfile => decide +kernel); (case htop => decide +kernel)
      (case su => k_is); (case cI => k_is); (case sa => k_is); (case exC => k_is); (case tyC => k_is); (case kC => k_is); (case hg => k_is); (case hk => k_is); (case hd => k_is); (case ha => k_is); (case hn => k_is); (case ht => k_is); (case hm => k_is); (case sup => ks_is); (case ity => k_is); (case opa => k_is); (case suB => k_is); (case suC => k_is)
      case nf => (intro f hf; obtain rfl := List.mem_singleton.mp hf; k_is)
    refine' KA.two (A := XI.EC PySem.Challenge.rw_secondruns_k01_errors_made.prog _ mg "NoRule" ?C14 ["index"]) ?e14 (fun ec14 => ?_)
    case e14 =>
      refine' KA.ec_mk KA.txt_NoRule KX G ?aC ?lC ?ini ?lI ?lc ?ld ?hbm ?hv ?hfile ?htop ?su ?cI ?sa ?exC ?tyC ?kC ?hg ?hk ?hd ?ha ?hn ?ht ?hm ?sup ?ity ?opa ?suB ?suC ?nf
      (case aC => k_is); (case lC => k_is); (case ini => k_is); (case lI => k_is); (case lc => k_is); (case ld => k_is); (case hbm => decide +kernel); (case hv => rfl); (case hfile => decide +kernel); (case htop => decide +kernel)
      (case su => k_is); (case cI => k_is); (case sa => k_is); (case exC => k_is); (case tyC => k_is); (case kC => k_is); (case hg => k_is); (case hk => k_is); (case hd => k_is); (case ha => k_is); (case hn => k_is); (case ht => k_is); (case hm => k_is); (case sup => ks_is); (case ity => k_is); (case opa => k_is); (case suB => k_is); (case suC => k_is)
      case nf => (intro f hf; obtain rfl := List.mem_singleton.mp hf; k_is)
    refine' KA.two (A := XI.EC PySem.Challenge.rw_secondruns_k01_errors_made.prog _ mg "BadCount" ?C15 ["count"]) ?e15 (fun ec15 => ?_)
    case e15 =>
      refine' KA.ec_mk KA.txt_BadCount KX G ?aC ?lC ?ini ?lI ?lc ?ld ?hbm ?hv ?hfile ?htop ?su ?cI ?sa ?exC ?tyC ?kC ?hg ?hk ?hd ?ha ?hn ?ht ?hm ?sup ?ity ?opa ?suB ?suC ?nf
      (case aC => k_is); (case lC => k_is); (case ini => k_is); (case lI => k_is); (case lc => k_is); (case ld => k_is); (case hbm => decide +kernel); (case hv => rfl); (case hfile => decide +kernel); (case htop => decide +kernel)
      (case su => k_is); (case cI => k_is); (case sa => k_is); (case exC => k_is); (case tyC => k_is); (case kC => k_is); (case hg => k_is); (case hk => k_is); (case hd => k_is); (case ha => k_is); (case hn => k_is); (case ht => k_is); (case hm => k_is); (case sup => ks_is); (case ity => k_is); (case opa => k_is); (case suB => k_is); (case suC => k_is)
      case nf => (intro f hf; obtain rfl := List.mem_singleton.mp hf; k_is)
    refine' KA.two (A := XI.EC PySem.Challenge.rw_secondruns_k01_errors_made.prog _ mg "NoRest" ?C16 ["tree"]) ?e16 (fun ec16 => ?_)
    case e16 =>
      refine' KA.ec_mk KA.txt_NoRest KX G ?aC ?lC ?ini ?lI ?lc ?ld ?hbm ?hv ?hfile ?htop ?su ?cI ?sa ?exC ?tyC ?kC ?hg ?hk ?hd ?ha ?hn ?ht ?hm ?sup ?ity ?opa ?suB ?suC ?nf
      (case aC => k_is); (case lC => k_is); (case ini => k_is); (case lI => k_is); (case lc => k_is); (case ld => k_is); (case hbm => decide +kernel); (case hv => rfl); (case hfile => decide +kernel); (case htop => decide +kernel)
      (case su => k_is); (case cI => k_is); (case sa => k_is); (case exC => k_is); (case tyC => k_is); (case kC => k_is); (case hg => k_is); (case hk => k_is); (case hd => k_is); (case ha => k_is); (case hn => k_is); (case ht => k_is); (case hm => k_is); (case sup => ks_is); (case ity => k_is); (case opa => k_is); (case suB => k_is); (case suC => k_is)
      case nf => (intro f hf; obtain rfl := List.mem_singleton.mp hf; k_is)
    refine' KA.two (A := XI.EC PySem.Challenge.rw_secondruns_k01_errors_made.prog _ mg "BadBar" ?C17 ["at"]) ?e17 (fun ec17 => ?_)
    case e17 =>
      refine' KA.ec_mk KA.txt_BadBar KX G ?aC ?lC ?ini ?lI ?lc ?ld ?hbm ?hv ?hfile ?htop ?su ?cI ?sa ?exC ?tyC ?kC ?hg ?hk ?hd ?ha ?hn ?ht ?hm ?sup ?ity ?opa ?suB ?suC ?nf
      (case aC => k_is); (case lC => k_is); (case ini => k_is); (case lI => k_is); (case lc => k_is); (case ld => k_is); (case hbm => decide +kernel); (case hv => rfl); (case hfile => decide +kernel); (case htop => decide +kernel)
      (case su => k_is); (case cI => k_is); (case sa => k_is); (case exC => k_is); (case tyC => k_is); (case kC => k_is); (case hg => k_is); (case hk => k_is); (case hd => k_is); (case ha => k_is); (case hn => k_is); (case ht => k_is); (case hm => k_is); (case sup => ks_is); (case ity => k_is); (case opa => k_is); (case suB => k_is); (case suC => k_is)
      case nf => (intro f hf; obtain rfl := List.mem_singleton.mp hf; k_is)
    refine' KA.two (A := XI.EC PySem.Challenge.rw_secondruns_k01_errors_made.prog _ mg "BadName" ?C18 ["name"]) ?e18 (fun ec18 => ?_)
    case e18 =>
      refine' KA.ec_mk KA.txt_BadName KX G ?aC ?lC ?ini ?lI ?lc ?ld ?hbm ?hv ?hfile ?htop ?su ?cI ?sa ?exC ?tyC ?kC ?hg ?hk ?hd ?ha ?hn ?ht ?hm ?sup ?ity ?opa ?suB ?suC ?nf
      (case aC => k_is); (case lC => k_is); (case ini => k_is); (case lI => k_is); (case lc => k_is); (case ld => k_is); (case hbm => decide +kernel); (case hv => rfl); (case hfile => decide +kernel); (case htop => decide +kernel)
      (case su => k_is); (case cI => k_is); (case sa => k_is); (case exC => k_is); (case tyC => k_is); (case kC => k_is); (case hg => k_is); (case hk => k_is); (case hd => k_is); (case ha => k_is); (case hn => k_is); (case ht => k_is); (case hm => k_is); (case sup => ks_is); (case ity => k_is); (case opa => k_is); (case suB => k_is); (case suC => k_is)
      case nf => (intro f hf; obtain rfl := List.mem_singleton.mp hf; k_is)
    refine' KA.two (A := XI.EC PySem.Challenge.rw_secondruns_k01_errors_made.prog _ mg "NoMark" ?C19 ["name"]) ?e19 (fun ec19 => ?_)
    case e19 =>
      refine' KA.ec_mk KA.txt_NoMark KX G ?aC ?lC ?ini ?lI ?lc ?ld ?hbm ?hv ?hfile ?htop ?su ?cI ?sa ?exC ?tyC ?kC ?hg ?hk ?hd ?ha ?hn ?ht ?hm ?sup ?ity ?opa ?suB ?suC ?nf
      (case aC => k_is); (case lC => k_is); (case ini => k_is); (case lI => k_is); (case lc => k_is); (case ld => k_is); (case hbm => decide +kernel); (case hv => rfl); (case hfile => decide +kernel); (case htop => decide +kernel)
      (case su => k_is); (case cI => k_is); (case sa => k_is); (case exC => k_is); (case tyC => k_is); (case kC => k_is); (case hg => k_is); (case hk => k_is); (case hd => k_is); (case ha => k_is); (case hn => k_is); (case ht => k_is); (case hm => k_is); (case sup => ks_is); (case ity => k_is); (case opa => k_is); (case suB => k_is); (case suC => k_is)
      case nf => (intro f hf; obtain rfl := List.mem_singleton.mp hf; k_is)
    refine' KA.two (A := XI.EC PySem.Challenge.rw_secondruns_k01_errors_made.prog _ mg "NothingBack" ?C20 []) ?e20 (fun ec20 => ?_)
    case e20 =>
      refine' KA.ec_mk KA.txt_NothingBack KX G ?aC ?lC ?ini ?lI ?lc ?ld ?hbm ?hv ?hfile ?htop ?su ?cI ?sa ?exC ?tyC ?kC ?hg ?hk ?hd ?ha ?hn ?ht ?hm ?sup ?ity ?opa ?suB ?suC ?nf
      (case aC => k_is); (case lC => k_is); (case ini => k_is); (case lI => k_is); (case lc => k_is); (case ld => k_is); (case hbm => decide +kernel); (case hv => rfl); (case hfile => decide +kernel); (case htop => decide +kernel)
      (case su => k_is); (case cI => k_is); (case sa => k_is); (case exC => k_is); (case tyC => k_is); (case kC => k_is); (case hg => k_is); (case hk => k_is); (case hd => k_is); (case ha => k_is); (case hn => k_is); (case ht => k_is); (case hm => k_is); (case sup => ks_is); (case ity => k_is); (case opa => k_is); (case suB => k_is); (case suC => k_is)
      case nf => exact fun _ h => nomatch h
    refine' KA.two (A := XI.EC PySem.Challenge.rw_secondruns_k01_errors_made.prog _ mg "NothingAgain" ?C21 []) ?e21 (fun ec21 => ?_)
    case e21 =>
      refine' KA.ec_mk KA.txt_NothingAgain KX G ?aC ?lC ?ini ?lI ?lc ?ld ?hbm ?hv ?hfile ?htop ?su ?cI ?sa ?exC ?tyC ?kC ?hg ?hk ?hd ?ha ?hn ?ht ?hm ?sup ?ity ?opa ?suB ?suC ?nf
      (case aC => k_is); (case lC => k_is); (case ini => k_is); (case lI => k_is); (case lc => k_is); (case ld => k_is); (case hbm => decide +kernel); (case hv => rfl); (case hfile => decide +kernel); (case htop => decide +kernel)
      (case su => k_is); (case cI => k_is); (case sa => k_is); (case exC => k_is); (case tyC => k_is); (case kC => k_is); (case hg => k_is); (case hk => k_is); (case hd => k_is); (case ha => k_is); (case hn => k_is); (case ht => k_is); (case hm => k_is); (case sup => ks_is); (case ity => k_is); (case opa => k_is); (case suB => k_is); (case suC => k_is)
      case nf => exact fun _ h => nomatch h
    refine' KA.two (KA.allC_mk ec0 ec1 ec2 ec3 ec4 ec5 ec6 ec7 ec8 ec9 ec10 ec11 ec12 ec13 ec14 ec15 ec16 ec17 ec18 ec19 ec20 ec21 ?hr ?hk) (fun A => ?_)
    case hr => (refine' PySem.W.mg_of KX G ?hn; (case hn => k_is))
    case hk => kernel_rfl
    have T : KA.Blt3 mg := { len := PySem.W.mg_none_of KX G (by k_is), abs := PySem.W.mg_none_of KX G (by k_is), int := PySem.W.mg_none_of KX G (by k_is), list := PySem.W.mg_none_of KX G (by k_is), isi := PySem.W.mg_none_of KX G (by k_is), tup := PySem.W.mg_none_of KX G (by k_is), boo := PySem.W.mg_none_of KX G (by k_is), all := PySem.W.mg_none_of KX G (by k_is), zip := PySem.W.mg_none_of KX G (by k_is), ran := PySem.W.mg_none_of KX G (by k_is), enu := PySem.W.mg_none_of KX G (by k_is), val := PySem.W.mg_none_of KX G (by k_is) }
    refine' KA.two (KA.def_mk (x := "_law_fresh") (st := KA.sFresh) KX G ?a0 ?l0 ?c0 ?k0) (fun D1 => ?_)
    case a0 => k_is
    case l0 => k_is
    case c0 => k_is
    case k0 => k_is
    refine' KA.two (KA.def_mk (x := "_law_take") (st := KA.sTake) KX G ?a1 ?l1 ?c1 ?k1) (fun D2 => ?_)
    case a1 => k_is
    case l1 => k_is
    case c1 => k_is
    case k1 => k_is
    refine' KA.two (KA.def_mk (x := "_law_one") (st := KA.sOne) KX G ?a2 ?l2 ?c2 ?k2) (fun D3 => ?_)
    case a2 => k_is
    case l2 => k_is
    case c2 => k_is
    case k2 => k_is
    refine' KA.two (KA.def_mk (x := "_law_same") (st := KA.sSame) KX G ?a3 ?l3 ?c3 ?k3) (fun D4 => ?_)
    case a3 => k_is
    case l3 => k_is
    case c3 => k_is
    case k3 => k_is
    refine' KA.two (KA.def_mk (x := "_law_kinds") (st := KA.sKinds) KX G ?a4 ?l4 ?c4 ?k4) (fun D5 => ?_)
    case a4 => k_is
    case l4 => k_is
    case c4 => k_is
    case k4 => k_is
    refine' KA.two (KA.def_mk (x := "_law_by_place") (st := KA.sPlace) KX G ?a5 ?l5 ?c5 ?k5) (fun D6 => ?_)
    case a5 => k_is
    case l5 => k_is
    case c5 => k_is
    case k5 => k_is
    refine' KA.two (KA.def_mk (x := "_law_held") (st := KA.sHeld) KX G ?a6 ?l6 ?c6 ?k6) (fun D7 => ?_)
    case a6 => k_is
    case l6 => k_is
    case c6 => k_is
    case k6 => k_is
    refine' KA.two (KA.def_mk (x := "law") (st := KA.sLaw) KX G ?a7 ?l7 ?c7 ?k7) (fun D8 => ?_)
    case a7 => k_is
    case l7 => k_is
    case c7 => k_is
    case k7 => k_is
    exact KA.all_ok KX G hmg A T D1 D2 D3 D4 D5 D6 D7 D8 rfl rfl rfl rfl rfl rfl rfl
