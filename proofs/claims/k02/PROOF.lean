import PyProof.Rows.All
import Wide.All
import OpenK.AllK
import Wide.FinOn
import HandS.ForMost
import HandS.Codes
import KE.GoesMore
import KE.GoesEnum
import HandS.Zip
import HandS.Wide
import HandS.IsInst
import HandS.ExcIs
import HandS.Style
import HandS.DeepEq
import PyProof.NeKinds
import HandS.TryOnly
import HandS.ExcInit
import HandS.ExcField
import KE.KExcSuper
import KE.KExcIs
import HandS.ExcOwn
import HandS.ExcCtx
import HandS.WordsExc
import HandS.Conv
import HandS.More
import KE.KDictList
import HandS.DictComp
import HandS.Star
import HandS.Dict
import PyProof.EqKinds
import KE.KEqDict
import HandS.OwnEq
import HandS.SlotsOwn
import HandS.Exc
import OpenK.KOps
import HandS.RaiseMore
import HandS.NoneIn
import PySem.Challenge.RW_secondruns_k02_languages_made
set_option Elab.async false
set_option linter.all false
set_option maxRecDepth 100000
set_option maxHeartbeats 4000000
/-! for i, x in enumerate(a tuple); a walk over a list or a tuple -/
namespace XE
open PySem PySem.Spec PySem.W PyProof.Rows L2
theorem enum_new {v : Value} {o : Obj} {B0 : Heap → Prop} (B : Begins v o B0) :
    Meets (Builtin.«enumerate.__new__» ⟨[.type "enumerate", v], []⟩) (fun _ R s => B0 s.heap ∧ R (.ok (.ret (.ref (s.heap.push o).objs.size)))
      { s with heap := (s.heap.push o).push { cls := .type "enumerate", data := .fields #[.none, .bool false, .ref s.heap.objs.size, rawInt 0, .none, .none] } }) :=
  .of_wp fun prog w A R s hh => by
    obtain ⟨hp, ge, dr, tk, os⟩ := s
    obtain ⟨hb, hh⟩ := hh
    have hsb := sub_enumerate
    have go : ∀ {A' : Around} {E Q : Value → Shared → Prop}, Q (.ref hp.objs.size) ⟨hp.push o, ge, dr, tk, os⟩ → wpAny (model prog w) A' (pyIter v) Q E ⟨hp, ge, dr, tk, os⟩ := fun q => B.iter prog w _ _ ⟨hp, ge, dr, tk, os⟩ _ hb q
    wp_walk using go
    refine wpAny_stack_any fun st => wpAny_pure ?_
    split
    · rename_i cc _ _ _ _ _
      cases (cc == Value.type "enumerate") <;> (wp_walk using go; exact ⟨_, rfl, hh⟩)
    · wp_walk using go
      exact ⟨_, rfl, hh⟩
section
variable {prog : Program} {w : World} {A : Around} {E : Value → Shared → Prop} {s : Shared}
theorem enum_call {v : Value} {o : Obj} {B0 : Heap → Prop} {Q : Value → Shared → Prop} (B : Begins v o B0) (hb : B0 s.heap)
    (hq : ∀ h', IsEnum h' (s.heap.objs.size + 1) s.heap.objs.size 0 .none → h'.get? s.heap.objs.size = some o → (∀ b ob, s.heap.get? b = some ob → h'.get? b = some ob) → Q (.ref (s.heap.objs.size + 1)) { s with heap := h' }) :
    wpAny (model prog w) A (call (.type "enumerate") [v]) Q E s := by
  refine callType_new F.called_enumerate (by decide) (F.typeCall_enumerate_1 _) (F.newCall_enumerate_1 _) (fun obj => F.args_object_init_2 obj _) F.entry_enumerate_new (enum_new B) ⟨hb, ?_⟩
  have z1 : (s.heap.push o).objs.size = s.heap.objs.size + 1 := Heap.size_push ..
  show _ ∧ _
  rw [z1]
  have z2 := Heap.get?_push_size (s.heap.push o) (o := { cls := .type "enumerate", data := .fields #[.none, .bool false, .ref s.heap.objs.size, rawInt 0, .none, .none] }) rfl
  rw [z1] at z2
  exact ⟨⟨_, z2, rfl⟩, hq _ z2 (Heap.get?_push_of_some _ (Heap.get?_push_size _ B.free)) fun b ob x => Heap.get?_push_of_some _ (Heap.get?_push_of_some _ x)⟩
theorem enum_endT {e it t : Addr} {i : Nat} {c : Int} {items : Array Value} {old : Value} {Q : Option Value → Shared → Prop} (h0 : A.in1.handled = none) (k1 : IsEnum s.heap e it c old) (k2 : s.heap.IsTupleIter it t i) (pt : s.heap.IsTuple t items) (hx : items[i]? = none)
    (hq : ∀ h', Heap.ExtBut it s.heap h' → Q none { s with heap := h' }) : wpAny (model prog w) A (pyNext (.ref e)) Q E s := by
  have ty : s.TypeIs (.ref e) "enumerate" := ⟨_, k1, rfl⟩
  unfold pyNext
  refine wpAny_bind (wpAny_attempt (wpAny_callSpecial?_slot (name := Str.ofString "__next__") ty F.slot_enumerate_next (wpAny_call_entry F.slot_enumerate_next ty F.entry_enumerate_next ?_ (F.args_enumerate_next_1 _))))
  show wpAny _ _ (field (.ref e) 2 >>= _) _ _ _
  refine wpAny_bind (wpAny_field k1 rfl (x := .ref it) rfl ?_)
  refine wpAny_bind (wpAny_nextOf_tuple_end h0 k2 pt hx fun h' y he' hx' => ?_)
  obtain ⟨o, ho, hc⟩ := hx'
  exact wpAny_bind (wpAny_isInstance (T := "StopIteration") (b := true) ⟨o, ho, hc⟩ isSubtype_stop (wpAny_pure (hq _ he')))
end
/-- the tuple at a, each item in a new pair with its number -/
def IteT (K : PySem.W.Frag) (a : Addr) : It :=
  ⟨fun i H => ∃ (xs : List V) (x : V), SqT K H a xs ∧ xs[i]? = some x,
    fun i H v H' => ∃ T x, v = .ref T ∧ H T = none ∧ H' = upd H T (.tup [.int (i : Nat), x]) ∧ ∀ xs, SqT K H a xs → xs[i]? = some x,
    fun i H => ∃ xs : List V, SqT K H a xs ∧ xs.length ≤ i⟩
theorem turn_enumT {P : Program} {w : World} {K : PySem.W.Frag} {elts : List Expr} {kk : Nat} {tpos : Pos} (a e it : Addr) :
    Turn P w K (.Tuple elts kk tpos) (IteT K a) [e, it] e (fun i h => (∃ old, IsEnum h e it ((i : Nat) : Int) old) ∧ h.IsTupleIter it a i ∧ e ≠ it ∧ a ≠ it ∧ e ≠ a) where
  mem := by simp
  obj := fun i h st b hb => by
    obtain ⟨⟨old, k1⟩, ⟨o, ho, hc, hd⟩, _⟩ := st
    rcases List.mem_cons.mp hb with rfl | hb
    · exact ⟨_, k1, fun v q => nomatch q⟩
    · obtain rfl := List.mem_singleton.mp hb
      exact ⟨o, ho, fun v q => by rw [hd] at q; cases q⟩
  keep := fun i h h' st k => by
    obtain ⟨⟨old, k1⟩, k2, k3⟩ := st
    exact ⟨⟨old, k e (by simp) _ k1⟩, k2.at fun o q => k it (by simp) o q, k3⟩
  item := by
    intro X hP hw hK hc i pins s σ H E I hf st hg
    subst hP hw hK
    obtain ⟨⟨old, k1⟩, k2, k3, k4, k5⟩ := st
    obtain ⟨xs, x, hq, hx⟩ := hg
    obtain ⟨its, rv, pt, hz⟩ := I.tuple hq
    obtain ⟨u, hu, ru⟩ := rv.get hx
    have l1 : e < s.heap.objs.size := Heap.lt_size k1
    have l2 : it < s.heap.objs.size := by obtain ⟨_, q, _⟩ := k2; exact Heap.lt_size q
    have lu : i < its.toArray.size := by rw [List.size_toArray]; exact (List.getElem?_eq_some_iff.mp hu).1
    refine wpAny_pyNext_enum_itemD (Draws.tuple (A := X.A.in1) (show X.A.in1.handled = none from I.ok.hd hc) it a k4 its.toArray) k1 ⟨k2, pt⟩ lu k3 (by simp [k3, k5]) fun y h' tk hy ho st' hT hsz hk => ?_
    obtain rfl : u = y := by
      have : its.toArray[i]? = some u := by simpa using hu
      rw [this] at hy
      exact Option.some.inj hy
    refine ⟨_, rfl, wpAny_letOwnedTupleGo_enum (s := { s with heap := h', toks := tk + 1 }) ho fun h'' he' sb => ?_⟩
    have hT2 : h''.get? s.heap.objs.size = some { cls := .type "tuple", data := .seq #[.int i tk, u] } := (sb.2 _ (Nat.ne_of_gt l1)).trans hT
    have nw : ObjOk X.prog X.w (upd H s.heap.objs.size (.tup [.int (i : Nat), x])) h'' s.heap.objs.size (.tup [.int (i : Nat), x]) :=
      ⟨by show 2 ≤ sizeLine; decide, [.int i tk, u], .cons ⟨_, rfl⟩ (.cons ru .nil), ⟨_, hT2, rfl, _, rfl⟩⟩
    have I1 : Inv X pins σ (upd H s.heap.objs.size (.tup [.int (i : Nat), x])) { s with heap := h'', toks := tk + 1 } :=
      I.turnedNew (ch := [e, it]) (fun b ob hb q => (sb.2 b (fun z => hb (by simp [z]))).trans (hk b ob (fun z => hb (by simp [z])) (fun z => hb (by simp [z])) q)) hf (Nat.le_refl _) nw
    refine ⟨.ref s.heap.objs.size, _, I1, rfl, ⟨_, x, rfl, I.hok.fresh (Nat.le_refl _), rfl, fun ys hy => by rw [I.tuple_inj hy hq]; exact hx⟩, ⟨⟨u, ?_⟩, st'.1.at fun o q => (sb.2 it (Ne.symm k3)).trans q, k3, k4, k5⟩, fun b hb => ?_⟩
    · rw [show ((i + 1 : Nat) : Int) = (i : Int) + 1 by omega]
      exact he'
    · have hb' : b < s.heap.objs.size := by
        rcases List.mem_cons.mp hb with rfl | hb
        · exact l1
        · obtain rfl := List.mem_singleton.mp hb
          exact l2
      rw [upd_ne (Nat.ne_of_lt hb')]
      exact (hf b hb).1
  done := by
    intro X hP hw hK hc i pins s σ H E I hf st hg
    subst hP hw hK
    obtain ⟨⟨old, k1⟩, k2, k3, k4, k5⟩ := st
    obtain ⟨xs, hq, hx⟩ := hg
    obtain ⟨its, rv, pt, hz⟩ := I.tuple hq
    obtain ⟨f0, f1, f2, f3, f4, f5⟩ := hf it (by simp)
    have hl := rv.length
    exact enum_endT (show X.A.in1.handled = none from I.ok.hd hc) k1 k2 pt (by simp; omega) fun h' eb => ⟨rfl, I.turned (t' := s.toks) (fun b o hb q => eb b o hb q) f0 f1 f3 f4 f5⟩
  self := fun A i s Q E st h => by
    obtain ⟨⟨_, k1⟩, _⟩ := st
    exact wpAny_pyIter_enum k1 h
def iEnumT (K : PySem.W.Frag) (ta : TA) : TI := fun σ H R => ta σ H fun vs H1 => ∃ a xs, vs = [.ref a] ∧ SqT K H1 a xs ∧ R (IteT K a) H1
theorem pi_enumT {X : Cx} {e : Expr} {ta : TA} {p pos tpos : Pos} {elts : List Expr} {kk : Nat} (hg : Gl X "enumerate") (hm : X.mg "enumerate" = none) (ha : PA X [e] ta) (hs : starEach [e] X.env = [(false, eval e X.env)] := by rfl) :
    PI X (.Tuple elts kk tpos) (.Call (.Name "enumerate" p) [e] [] pos) (iEnumT X.K ta) := by
  refine ⟨fun pins s σ H R I h => ?_⟩
  refine Call_ (ld_blt I hg hm boot_enumerate (PyProof.Rows.callWith_type1 (thn (ha.run pos pins s σ H _ I h) fun us s1 ⟨vs, H1, I1, r1, q1⟩ => ?_) hs rfl))
  obtain ⟨a, xs, rfl, hq, q⟩ := q1
  cases r1 with
  | cons r rr =>
    cases rr
    cases r
    obtain ⟨its, rv, pt, hz⟩ := I1.tuple hq
    refine enum_call (begins_tuple a its.toArray) pt fun h' he hit hk => wpAny_pyIter_enum he ?_
    have I2 : Inv X pins σ H1 { s1 with heap := h' } := I1.kept (t' := s1.toks) hk
    have al : a < s1.heap.objs.size := by obtain ⟨_, q, _⟩ := pt; exact Heap.lt_size q
    refine ⟨s1.heap.objs.size + 1, [s1.heap.objs.size + 1, s1.heap.objs.size], _, _, H1, rfl, I2, turn_enumT a (s1.heap.objs.size + 1) s1.heap.objs.size, ⟨⟨.none, he⟩, ⟨_, hit, rfl, rfl⟩, Nat.succ_ne_self _, Nat.ne_of_lt al, Ne.symm (Nat.ne_of_lt (Nat.lt_succ_of_lt al))⟩, fun b hb => ?_, q⟩
    have hle : s1.heap.objs.size ≤ b := by
      rcases List.mem_cons.mp hb with rfl | hb
      · exact Nat.le_add_right _ _
      · obtain rfl := List.mem_singleton.mp hb
        exact Nat.le_refl _
    exact I1.fpOk hle (I1.hok.fresh hle)
theorem PI.or {X : Cx} {tg e : Expr} {wi wi' : TI} (h : PI X tg e wi) (h' : PI X tg e wi') : PI X tg e (fun σ H R => wi σ H R ∨ wi' σ H R) := ⟨fun pins s σ H R I q => q.elim (h.run pins s σ H R I) (h'.run pins s σ H R I)⟩
end XE

namespace KB
open PySem PySem.Spec PyProof.Rows L2 C8
def top (i : Nat) : Stmt := PySem.Challenge.pw_secondruns_k02_languages_made.main.body.getD i (.Pass ⟨0, 0, 0, 0⟩)
abbrev sFresh : Stmt := top 19
abbrev sTake : Stmt := top 20
abbrev sOne : Stmt := top 21
example : (match sFresh with | .FunctionDef (name := n) .. => n | _ => "") = ("_law_fresh" : Str) := by rfl

/-- the state of the draws, at a -/
def StAt (B : Nat) (H : Hp) (a l : Addr) : Prop := ∃ (ns : List Int) (i c h n : Int), H a = some (.lst [.ref l, .int i, .int c, .int h, .int n]) ∧ H l = some (.lst (ns.map V.int)) ∧
  0 ≤ i ∧ 0 ≤ c ∧ 0 ≤ h ∧ h < 2147483647 ∧ 0 ≤ n ∧ n ≤ B ∧ ns.length ≤ 40
/-- all but what stands at a is as it was -/
def But (a : Addr) (H H' : Hp) : Prop := ∀ b o, H b = some o → b ≠ a → H' b = some o
theorem iteBt {c : Bool} {A B : Prop} (hc : c = true) (h : A) : if c = true then A else B := by rw [if_pos hc]; exact h
theorem iteBf {c : Bool} {A B : Prop} (hc : c = false) (h : B) : if c = true then A else B := by rw [if_neg (by rw [hc]; exact Bool.false_ne_true)]; exact h
def spTake : Sp := fun vs H Q _ => ∃ (a : Addr) (m : Int) (B : Nat) (l : Addr), vs = [.ref a, .int m] ∧ 0 < m ∧ m < 1073741824 ∧ StAt B H a l ∧ B < 1000000000000000 ∧
  ∀ (d : Int) (H' : Hp), 0 ≤ d → d < m → StAt (B + 1) H' a l → But a H H' → Q (.int d) H'
theorem scTake : FnScope ["_law_state", "_law_many", "_law_cell", "_law_digit", "_law_one_here", "_law_two"] ["_law_state", "_law_many"] (fnScope sTake) := fnScope_by (by decide +kernel)
section
variable {P : Program} {w : World} {K : PySem.W.Frag} {mg : Str → Option Value} {base : Heap}
structure Blt (mg : Str → Option Value) : Prop where
  len : mg "len" = none
  abs : mg "abs" = none
  int : mg "int" = none
  list : mg "list" = none
theorem c_take {f : Addr} {fd : FuncData} (F : Def K mg "_law_take" sTake f fd) (b : Binds K fd ["_law_state", "_law_many"] []) (T : Blt mg) : Cal P w K mg base 1 "_law_take" spTake [] := by
  refine cal0 F b .nil scTake (fun vs H Q E h => ?_) (fun cdv A outer s H vs Q E hr h => ?_)
  · obtain ⟨a, m, B, l, rfl, _⟩ := h
    rfl
  · obtain ⟨a, m, B, l, rfl, m0, m1, ⟨ns, i, c, h, n, ha, hl, i0, c0, h0, h1, n0, n1, nl⟩, hB, k⟩ := h
    have nd := scTake.nd
    refine ⟨_, pss_cons (ps_asg (pe_op op_add (pe_ix ix_list (pv 0) pe_int fun _ _ => rfl) pe_int) (pg_sub (pv 0) pe_int set_list))
      (pss_cut (ps_while PassesOwn.never
          (pw_and (pt_cmp (pc_eqI (pe_ix ix_list (pv 0) pe_int fun _ _ => rfl) pe_int))
            (pw_and1 (pt_cmp (pc_lt (pe_ix ix_list (pv 0) pe_int fun _ _ => rfl) (pe_callB call_len_seq (by rfl) T.len PySem.boot_len (pa_cons (pe_ix ix_list (pv 0) pe_int fun _ _ => rfl) pa_nil)))))).pt
          (pss_cons (ps_set (i := 2) nd rfl (Or.inl rfl) (pe_callB call_abs (by rfl) T.abs (by decide +kernel) (pa_cons (pe_ix ix_list (pe_ix ix_list (pv 0) pe_int fun _ _ => rfl) (pe_ix ix_list (pv 0) pe_int fun _ _ => rfl) fun _ _ => rfl) pa_nil)))
          (pss_cons (ps_asg (pe_op op_add (pe_ix ix_list (pv 0) pe_int fun _ _ => rfl) pe_int) (pg_sub (pv 0) pe_int set_list))
          (pss_one (ps_if (pt_cmp (pc_ge (pv 2) (pe_op op_pow pe_int pe_int)))
            (pss_one (ps_asg (pv 2) (pg_sub (pv 0) pe_int set_list)))
            (pss_one (ps_asg (pe_op op_mod (pe_callTy call_int1 (by rfl) T.int (by decide +kernel) (pa_cons (pe_op op_add (pe_op op_add (pe_op op_mul (pe_ix ix_list (pv 0) pe_int fun _ _ => rfl) pe_int) (pv 2)) pe_int) pa_nil)) pe_int) (pg_sub (pv 0) pe_int set_list))))))))
      (pss_cons (ps_if (pt_cmp (pc_gt (pe_ix ix_list (pv 0) pe_int fun _ _ => rfl) pe_int))
          (pss_cons (ps_set (i := 3) nd rfl (Or.inl rfl) (pe_op op_mod (pe_callTy call_int1 (by rfl) T.int (by decide +kernel) (pa_cons (pe_ix ix_list (pv 0) pe_int fun _ _ => rfl) pa_nil)) (pv 1)))
          (pss_cons (ps_asg (pe_op op_fdiv (pe_ix ix_list (pv 0) pe_int fun _ _ => rfl) (pv 1)) (pg_sub (pv 0) pe_int set_list))
          (pss_one (ps_ret (pv 3))))) pss_nil)
      (pss_cons (ps_set (i := 4) nd rfl (Or.inl rfl) (pe_op op_mod (pe_callTy call_int1 (by rfl) T.int (by decide +kernel) (pa_cons (pe_op op_pow (pe_op op_add (pe_op op_add (pe_ix ix_list (pv 0) pe_int fun _ _ => rfl) (pe_op op_mul pe_int (pe_ix ix_list (pv 0) pe_int fun _ _ => rfl))) pe_int) pe_int) pa_nil)) pe_int))
      (pss_cons (ps_set (i := 5) nd rfl (Or.inl rfl) (pe_op op_mod (pe_callTy call_int1 (by rfl) T.int (by decide +kernel) (pa_cons (pe_op op_pow (pe_op op_add (pv 4) (pe_op op_mul pe_int (pe_ix ix_list (pv 0) pe_int fun _ _ => rfl))) pe_int) pa_nil)) pe_int))
      (pss_one (ps_ret (pe_op op_mod (pe_callTy call_int1 (by rfl) T.int (by decide +kernel) (pa_cons (pe_op op_fdiv (pv 5) pe_int) pa_nil)) (pv 1)))))))), ?_⟩
    have gA : ∀ xs : List V, (upd H a (.lst xs)) a = some (.lst xs) := fun _ => upd_same
    have nla : l ≠ a := ne_of hl ha (by intro z; have z' := congrArg (fun o : HO => match o with | .lst xs => xs.head? | _ => none) z; cases ns <;> cases z')
    have gl : ∀ o, (upd H a o) l = some (.lst (ns.map V.int)) := fun o => by rw [upd_ne nla]; exact hl
    have fin : ∀ (d i' c' h' : Int), 0 ≤ d → d < m → 0 ≤ i' → 0 ≤ c' → 0 ≤ h' → h' < 2147483647 → Q (.int d) (upd H a (.lst [.ref l, .int i', .int c', .int h', .int (n + 1)])) := fun d i' c' h' d0 d1 e1 e2 e3 e4 =>
      k d _ d0 d1 ⟨ns, i', c', h', n + 1, upd_same, gl _, e1, e2, e3, e4, by omega, by omega, nl⟩ fun b o e hb => by rw [upd_ne hb]; exact e
    -- _law_state[4] = _law_state[4] + 1
    refine ⟨_, rfl, a, _, 4, _, rfl, rfl, SqL.of ha, rfl, n, 1, rfl, rfl, _, rfl, a, _, 4, 4, rfl, rfl, ha, rfl, ?_⟩
    show tSeq _ _ _ _ (upd H a (.lst [.ref l, .int i, .int c, .int h, .int (n + 1)]))
    have rd : ∀ {xs : List V} {σ : L2.St} {z : Int} {v : V} {Q : VK}, σ[0]? = some (some (.ref a)) → atI xs z = some v → Q v (upd H a (.lst xs)) → tOp (rIxL K) (tVar 0) (tC (.int z)) σ (upd H a (.lst xs)) Q :=
      fun h1 h2 q => ⟨_, h1, a, _, _, _, rfl, rfl, SqL.of upd_same, h2, q⟩
    have st : ∀ {xs : List V} {σ : L2.St} {z : Int} {j : Nat} {v : V} {Q : L2.St → Hp → Prop}, σ[0]? = some (some (.ref a)) → ixN xs.length z = some j → Q σ (upd H a (.lst (xs.set j v))) → gSub (tVar 0) (tC (.int z)) rSetL v σ (upd H a (.lst xs)) Q :=
      fun h1 h2 q => ⟨_, h1, a, _, _, _, rfl, rfl, upd_same, h2, by rw [upd_upd]; exact q⟩
    -- while
    refine ⟨fun σ H' => ∃ (i c h : Int) (v2 : Option V), σ = [some (.ref a), some (.int m), v2, none, none, none] ∧ H' = upd H a (.lst [.ref l, .int i, .int c, .int h, .int (n + 1)]) ∧ 0 ≤ i ∧ 0 ≤ c ∧ 0 ≤ h ∧ h < 2147483647, ?_, ?_⟩
    · refine ⟨fun μ σ H' => ∃ (i c h : Int) (v2 : Option V), μ = ns.length - i.toNat ∧ σ = [some (.ref a), some (.int m), v2, none, none, none] ∧ H' = upd H a (.lst [.ref l, .int i, .int c, .int h, .int (n + 1)]) ∧ 0 ≤ i ∧ 0 ≤ c ∧ 0 ≤ h ∧ h < 2147483647,
        ⟨_, i, c, h, none, rfl, rfl, rfl, i0, c0, h0, h1⟩, ?_⟩
      rintro μ σ H' ⟨i, c, h, v2, rfl, rfl, rfl, i0, c0, h0, h1⟩
      refine rd rfl rfl ⟨c, 0, rfl, rfl, _, rfl, ?_⟩
      refine ite2 (fun hc => ?_) (fun hc => ?_)
      · refine rd rfl rfl (rd rfl rfl ⟨l, _, rfl, .inl (SqL.of (gl _)), i, _, rfl, rfl, _, rfl, ?_⟩)
        by_cases hi : i < ns.length
        · have hlt : i.toNat < ns.length := by omega
          have hx : atI (ns.map V.int) i = some (.int ns[i.toNat]) := at_of (j := i.toNat) (by omega) (by simp [hlt])
          refine iteBt (decide_eq_true (by rw [List.length_map]; exact hi)) ?_
          refine ⟨fun σ H' => ∃ (c h : Int) (v2 : Option V), σ = [some (.ref a), some (.int m), v2, none, none, none] ∧ H' = upd H a (.lst [.ref l, .int (i + 1), .int c, .int h, .int (n + 1)]) ∧ 0 ≤ c ∧ 0 ≤ h ∧ h < 2147483647, ?_, ?_⟩
          · rintro σ' H' ⟨c, h, v2, rfl, rfl, c0, h0, h1⟩
            exact ⟨_, by omega, i + 1, c, h, v2, rfl, rfl, rfl, by omega, c0, h0, h1⟩
          -- _law_cell = abs(..)
          refine rd rfl rfl (rd rfl rfl ⟨l, _, i, _, rfl, rfl, SqL.of (gl _), hx, _, rfl, ?_⟩)
          generalize hz : (if ns[i.toNat] < 0 then -ns[i.toNat] else ns[i.toNat]) = z
          have z0 : 0 ≤ z := by rw [← hz]; split <;> omega
          -- _law_state[1] = _law_state[1] + 1
          refine rd rfl rfl ⟨i, 1, rfl, rfl, st rfl rfl ?_⟩
          -- if
          refine ⟨_, rfl, 10, 18, rfl, rfl, ⟨by decide, by decide, by decide⟩, z, _, rfl, rfl, _, rfl, ite2 (fun _ => ?_) (fun _ => ?_)⟩
          · exact ⟨_, rfl, st rfl rfl ⟨z, h, some (.int z), rfl, rfl, z0, h0, h1⟩⟩
          · refine rd rfl rfl ⟨h, 131, rfl, rfl, .inl ⟨by omega, by omega⟩, _, rfl, _, _, rfl, rfl, _, _, rfl, rfl, .inl ⟨_, rfl, _, _, rfl, rfl, (by show (0 : Int) < 2147483647; decide), st rfl rfl ⟨c, _, some (.int z), rfl, rfl, c0, Int.emod_nonneg _ (by decide), Int.emod_lt_of_pos _ (by decide)⟩⟩⟩
        · refine iteBf (decide_eq_false (by rw [List.length_map]; exact hi)) ?_
          exact ⟨i, c, h, v2, rfl, rfl, i0, c0, h0, h1⟩
      · exact iteF ⟨i, c, h, v2, rfl, rfl, i0, c0, h0, h1⟩
    · rintro σ H' ⟨i, c, h, v2, rfl, rfl, i0, c0, h0, h1⟩
      refine rd rfl rfl ⟨c, 0, rfl, rfl, _, rfl, ite2 (fun hc => ?_) (fun hc => ?_)⟩
      · have hc : 0 < c := of_decide_eq_true hc
        refine rd rfl rfl (.inl ⟨c, rfl, _, rfl, c, m, rfl, rfl, m0, ?_⟩)
        refine rd rfl rfl ⟨_, rfl, c, m, rfl, rfl, ⟨m0, m1⟩, st rfl rfl ⟨_, rfl, ?_⟩⟩
        exact fin _ _ _ _ (Int.emod_nonneg _ (by omega)) (Int.emod_lt_of_pos _ m0) i0 (Int.ediv_nonneg c0 (by omega)) h0 h1
      · refine rd rfl rfl (rd rfl rfl ⟨7919, n + 1, rfl, rfl, .inl ⟨by decide, by decide⟩, h, _, rfl, rfl, _, 5, rfl, rfl, _, 3, rfl, rfl, ⟨by decide, by decide, by omega⟩, .inl ⟨_, rfl, _, _, rfl, rfl, (by show (0 : Int) < 1000000007; decide), ?_⟩⟩)
        generalize ho : (h + 7919 * (n + 1) + 5) ^ (3 : Int).toNat % 1000000007 = o
        have o0 : 0 ≤ o := by rw [← ho]; exact Int.emod_nonneg _ (by decide)
        have o1 : o < 1000000007 := by rw [← ho]; exact Int.emod_lt_of_pos _ (by decide)
        refine ⟨.int o, (by subst ho; rfl), rd rfl rfl ⟨31, n + 1, rfl, rfl, .inl ⟨by decide, by decide⟩, o, _, rfl, rfl, _, 3, rfl, rfl, ⟨by decide, by decide, by omega⟩, .inl ⟨_, rfl, _, _, rfl, rfl, (by show (0 : Int) < 998244353; decide), ?_⟩⟩⟩
        refine ⟨_, rfl, _, 3, rfl, rfl, ⟨by decide, by decide⟩, .inl ⟨_, rfl, _, rfl, _, m, rfl, rfl, m0, ?_⟩⟩
        exact fin _ _ _ _ (Int.emod_nonneg _ (by omega)) (Int.emod_lt_of_pos _ m0) i0 c0 h0 h1
end
end KB


namespace KB
open PySem PySem.Spec PyProof.Rows L2 C8
theorem cut40 (ns : List Int) : cutV (ns.map V.int) none (some 40) = (ns.take 40).map V.int := by
  unfold cutV HT.sIx
  simp only [show ¬ ((40 : Int) < 0) by decide, if_false, List.drop_zero, Nat.sub_zero, ← List.map_take, List.length_map]
  congr 1
  by_cases h : ns.length ≤ 40
  · rw [List.take_of_length_le h, List.take_of_length_le (by omega)]
  · congr 1
    omega
def spFresh (K : PySem.W.Frag) : Sp := fun vs H Q _ => ∃ (a : Addr) (ns : List Int), vs = [.ref a] ∧ SqL K H a (ns.map V.int) ∧ ∀ (st l : Addr) (H' : Hp), H st = none → H l = none → Same H H' → StAt 0 H' st l → Q (.ref st) H'
def spOne : Sp := fun vs H Q _ => ∃ (st th : Addr) (xs : List V) (B : Nat) (l : Addr), vs = [.ref st, .ref th] ∧ (H th = some (.lst xs) ∨ H th = some (.tup xs)) ∧ th ≠ st ∧ 0 < xs.length ∧ xs.length < 1000000 ∧ StAt B H st l ∧ B < 1000000000000000 ∧
  ∀ (v : V) (H' : Hp), v ∈ xs → StAt (B + 1) H' st l → But st H H' → Q v H'
theorem scFresh : FnScope ["_law_script"] ["_law_script"] (fnScope sFresh) := fnScope_by (by decide +kernel)
theorem scOne : FnScope ["_law_state", "_law_things"] ["_law_state", "_law_things"] (fnScope sOne) := fnScope_by (by decide +kernel)
section
variable {P : Program} {w : World} {K : PySem.W.Frag} {mg : Str → Option Value} {base : Heap}
theorem c_fresh {f : Addr} {fd : FuncData} (F : Def K mg "_law_fresh" sFresh f fd) (b : Binds K fd ["_law_script"] []) (T : Blt mg) : Cal P w K mg base 1 "_law_fresh" (spFresh K) [] := by
  refine cal0 F b .nil scFresh (fun vs H Q E h => ?_) (fun cdv A outer s H vs Q E hr h => ?_)
  · obtain ⟨a, ns, rfl, _⟩ := h
    rfl
  · obtain ⟨a, ns, rfl, hS, k⟩ := h
    refine ⟨_, pss_one (ps_ret (pe_lst (pa_cons (pe_callTy call_list_of (by rfl) T.list (by decide +kernel) (pa_cons (pe_slice sl_list (pv 0) po_none (po_some pe_int)) pa_nil))
      (pa_cons pe_int (pa_cons pe_int (pa_cons pe_int (pa_cons pe_int pa_nil))))))), ?_⟩
    refine ⟨_, rfl, 40, rfl, a, _, rfl, hS, fun p np => ⟨p, _, rfl, .inl (SqL.of upd_same), fun l nl => ⟨(by show 5 ≤ sizeLine; decide), fun st nst => ?_⟩⟩⟩
    have nl' := nl
    have npl : p ≠ l := ne_of_none upd_same nl
    rw [upd_ne npl.symm] at nl
    have nst2 : st ≠ l := fun z => by rw [z, upd_same] at nst; cases nst
    rw [upd_ne nst2] at nst
    have nst3 : st ≠ p := fun z => by rw [z, upd_same] at nst; cases nst
    rw [upd_ne nst3] at nst
    refine k st l _ nst nl (fun b o e => ?_) ⟨ns.take 40, 0, 0, 0, 0, upd_same, ?_, by decide, by decide, by decide, by decide, by decide, by decide, List.length_take_le _ _⟩
    · rw [upd_ne (ne_of_none e nst), upd_ne (ne_of_none e nl), upd_ne (ne_of_none e np)]
      exact e
    · rw [upd_ne nst2.symm, upd_same, cut40]
theorem c_one {f : Addr} {fd : FuncData} (F : Def K mg "_law_one" sOne f fd) (b : Binds K fd ["_law_state", "_law_things"] []) (T : Blt mg) (C : Cal P w K mg base 1 "_law_take" spTake []) : Cal P w K mg base 2 "_law_one" spOne [] := by
  refine cal0 F b .nil scOne (fun vs H Q E h => ?_) (fun cdv A outer s H vs Q E hr h => ?_)
  · obtain ⟨st, th, xs, B, l, rfl, _⟩ := h
    rfl
  · obtain ⟨st, th, xs, B, l, rfl, hx, ne, l0, l1, hst, hB, k⟩ := h
    refine ⟨_, pss_one (ps_ret (pe_ix ix_seq (pv 1) (pe_c C hr (Nat.le_refl _) (by rfl) (pa_cons (pv 0) (pa_cons (pe_callB call_len_seq (by rfl) T.len PySem.boot_len (pa_cons (pv 1) pa_nil)) pa_nil))) fun _ _ => rfl)), ?_⟩
    have hs : SqL K H th xs ∨ SqT K H th xs := hx.elim (fun z => .inl (SqL.of z)) fun z => .inr (SqT.of z)
    refine ⟨_, rfl, _, rfl, _, rfl, th, xs, rfl, hs, st, (xs.length : Int), B, l, rfl, by omega, by omega, hst, hB, fun d H' d0 d1 hst' but => ?_⟩
    have hd : d.toNat < xs.length := by omega
    have at' : atI xs d = some xs[d.toNat] := at_of (j := d.toNat) (by omega) (by simp [hd])
    have fin := k _ H' (List.getElem_mem hd) hst' but
    rcases hx with hx | hx
    · exact .inl ⟨th, xs, d, _, rfl, rfl, SqL.of (but _ _ hx ne), at', fin⟩
    · exact .inr (.inl ⟨th, xs, d, _, rfl, rfl, SqT.of (but _ _ hx ne), at', fin⟩)
end
end KB

namespace KB
open PySem PySem.Spec PyProof.Rows L2 C8
abbrev sSame : Stmt := top 23
/-- a dict that may be told equal to itself -/
def DicOk (kvs : List (Key × V)) : Prop := ∀ p ∈ kvs, valV kvs p.1 = some p.2 ∧ flatB p.2 = true
/-- what stands for one thing: flat, or a dict -/
def Leaf (H : Hp) (x : V) : Prop := flatV x = true ∨ ∃ a kvs, x = .ref a ∧ H a = some (.dK kvs) ∧ DicOk kvs
def Thing (H : Hp) (x : V) : Prop := Leaf H x ∨ ∃ a xs, x = .ref a ∧ (H a = some (.lst xs) ∨ H a = some (.tup xs)) ∧ (∀ y ∈ xs, flatV y = true) ∧ xs.length ≤ 10
theorem Leaf.same {H H' : Hp} {x : V} (s : Same H H') (h : Leaf H x) : Leaf H' x := h.imp id fun ⟨a, kvs, e, q, d⟩ => ⟨a, kvs, e, s _ _ q, d⟩
theorem Thing.same {H H' : Hp} {x : V} (s : Same H H') (h : Thing H x) : Thing H' x := h.imp (Leaf.same s) fun ⟨a, xs, e, q, r⟩ => ⟨a, xs, e, q.imp (s _ _) (s _ _), r⟩
theorem same_upd {H : Hp} {p : Addr} {o : HO} (np : H p = none) : Same H (upd H p o) := fun b u e => by
  rw [upd_ne (ne_of_none e np)]
  exact e
theorem pe_bt {X : Cx} {x : Str} {pos : Pos} (n : String) (hm : X.mg x = none) (hg : Gl X x := by rfl) (hv : bootBuiltins x = some (.type n) := by decide +kernel) (hn : x ≠ "__name__" := by decide) (hd : (x == ("__debug__" : Str)) = false := by decide) : PE X (.Name x pos) (tC (.ty n)) :=
  pe_bltn hg hm hv rfl hn hd
def spSame0 : Sp := fun vs H Q _ => ∃ x : V, vs = [x, x] ∧ Leaf H x ∧ ∀ H', Same H H' → Q (.bl true) H'
def spSame1 : Sp := fun vs H Q _ => ∃ x : V, vs = [x, x] ∧ Thing H x ∧ ∀ H', Same H H' → Q (.bl true) H'
theorem scSame : FnScope ["_law_found", "_law_due", "_law_x", "_law_y"] ["_law_found", "_law_due"] (fnScope sSame) := fnScope_by (by decide +kernel)
structure Blt2 (mg : Str → Option Value) : Prop extends Blt mg where
  isi : mg "isinstance" = none
  tup : mg "tuple" = none
  boo : mg "bool" = none
  all : mg "all" = none
  zip : mg "zip" = none
/-- the types of leaves -/
def leafTy : List String := ["NoneType", "bool", "int", "str", "dict"]
theorem leaf_ty {K : PySem.W.Frag} {H : Hp} {x : V} (h : Leaf H x) : ∃ T ∈ leafTy, (∀ H', Same H H' → TyX K H' x (.type T)) ∧ (scal x x = true ∨ ((T == "int" || T == "bool") = false ∧ ∃ a kvs, x = .ref a ∧ H a = some (.dK kvs) ∧ DicOk kvs)) := by
  rcases h with h | ⟨a, kvs, rfl, e, dk⟩
  · cases x with
    | non => exact ⟨"NoneType", by decide, fun _ _ => .base .non, .inl rfl⟩
    | bl b => exact ⟨"bool", by decide, fun _ _ => .base (.bl b), .inl rfl⟩
    | int i => exact ⟨"int", by decide, fun _ _ => .base (.int i), .inl rfl⟩
    | str z => exact ⟨"str", by decide, fun _ _ => .base (.str z), .inl rfl⟩
    | _ => cases h
  · exact ⟨"dict", by decide, fun H' s => .base (.dK (s _ _ e)), .inr ⟨by decide, a, kvs, rfl, e, dk⟩⟩
section
variable {P : Program} {w : World} {K : PySem.W.Frag} {mg : Str → Option Value} {base : Heap}
theorem kitLT {T : String} (h : T ∈ leafTy) : PySem.W.kitAny K (.type T) [.type "list", .type "tuple"] = some false ∧ PySem.W.kitAny K (.type T) [.type "int", .type "list", .type "tuple"] = some (T == "int" || T == "bool") ∧
    PySem.W.kitOne K (.type T) (.type "int") = some (T == "int" || T == "bool") ∧ PySem.W.kitOne K (.type T) (.type "bool") = some (T == "bool") := by
  have z : ∀ T ∈ leafTy, kitB T "list" = some false ∧ kitB T "tuple" = some false ∧ kitB T "int" = some (T == "int" || T == "bool") ∧ kitB T "bool" = some (T == "bool") := by decide +kernel
  obtain ⟨h1, h2, h3, h4⟩ := z T h
  have lt : PySem.W.kitAny K (.type T) [.type "list", .type "tuple"] = some false := kitAny_cons (kit_ty h1) (fun _ => kitAny_cons (kit_ty h2) (fun _ => kitAny_nil) fun z => by cases z) fun z => by cases z
  refine ⟨lt, kitAny_cons (kit_ty h3) (fun e => ?_) (fun e => e), kit_ty h3, kit_ty h4⟩
  rw [e]
  exact lt
theorem c_same0 {f : Addr} {fd : FuncData} (F : Def K mg "_law_same" sSame f fd) (b : Binds K fd ["_law_found", "_law_due"] []) (T : Blt2 mg) : Cal P w K mg base 1 "_law_same" spSame0 [] := by
  refine cal0 F b .nil scSame (fun vs H Q E h => ?_) (fun cdv A outer s H vs Q E hr h => ?_)
  · obtain ⟨x, rfl, _⟩ := h
    rfl
  · obtain ⟨x, rfl, hx, k⟩ := h
    have hu : (A.deeper (envOfC "_law_same" (fnScope sSame) s.heap.objs.size f cdv)).units + 64 < cLine := by have := hr.un; omega
    refine ⟨_, pss_cons (ps_if (pt_val (pe_callB call_isiT (by rfl) T.isi (by decide +kernel) (pa_cons (pv 1) (pa_cons (pe_tup (pa_cons (pe_bt "list" T.list) (pa_cons (pe_bt "tuple" T.tup) pa_nil))) pa_nil)))) pss_never pss_nil)
      (pss_cons (ps_if (pt_val (pe_callB call_isi (by rfl) T.isi (by decide +kernel) (pa_cons (pv 1) (pa_cons (pe_bt "int" T.int) pa_nil))))
          (pss_one (ps_ret (pe_and (pe_callB call_isi (by rfl) T.isi (by decide +kernel) (pa_cons (pv 0) (pa_cons (pe_bt "int" T.int) pa_nil)))
            (pe_and (pe_cmpR op_eq (pe_callB call_isi (by rfl) T.isi (by decide +kernel) (pa_cons (pv 0) (pa_cons (pe_bt "bool" T.boo) pa_nil))) (pe_callB call_isi (by rfl) T.isi (by decide +kernel) (pa_cons (pv 1) (pa_cons (pe_bt "bool" T.boo) pa_nil))) (nomark _))
              (pe_one (pe_cmpR op_eq (pv 0) (pv 1) (nomark _))))))) pss_nil)
      (pss_one (ps_ret (pe_and (pe_cmpR op_isBl (pe_callB call_isiT (by rfl) T.isi (by decide +kernel) (pa_cons (pv 0) (pa_cons (pe_tup (pa_cons (pe_bt "int" T.int) (pa_cons (pe_bt "list" T.list) (pa_cons (pe_bt "tuple" T.tup) pa_nil)))) pa_nil))) pe_bl (nomark _))
        (pe_one (pe_cmpR (op_eq.or (op_eqV hu)) (pv 0) (pv 1) (nomark _))))))), ?_⟩
    obtain ⟨Ty, hT, ty, hs⟩ := leaf_ty (K := K) hx
    obtain ⟨k1, k2, k3, k4⟩ := kitLT (K := K) hT
    refine ⟨_, rfl, (by show 2 ≤ sizeLine; decide), fun p np => ⟨x, p, [.ty "list", .ty "tuple"], _, _, false, rfl, upd_same, .cons (.ty _) (.cons (.ty _) .nil), ty _ (same_upd np), k1, false, rfl, iteF ?_⟩⟩
    have s1 : Same H (upd H p (.tup [.ty "list", .ty "tuple"])) := same_upd np
    refine ⟨_, rfl, x, .ty "int", _, _, _, rfl, .ty _, ty _ s1, k3, _, rfl, ite2 (fun hi => ?_) (fun hi => ?_)⟩
    · have hsc : scal x x = true := by
        rcases hs with z | ⟨z, _⟩
        · exact z
        · rw [z] at hi
          cases hi
      refine ⟨_, rfl, x, .ty "int", _, _, _, rfl, .ty _, ty _ s1, k3, _, rfl, iteBt hi ?_⟩
      refine ⟨_, rfl, x, .ty "bool", _, _, _, rfl, .ty _, ty _ s1, k4, _, rfl, x, .ty "bool", _, _, _, rfl, .ty _, ty _ s1, k4, rfl, _, rfl, iteBt (decide_eq_true rfl) ?_⟩
      refine ⟨_, rfl, _, rfl, hsc, ?_⟩
      rw [decide_eq_true rfl]
      exact k _ s1
    · have hi : (Ty == "int" || Ty == "bool") = false := by simpa using hi
      rw [hi] at k2
      refine ⟨_, rfl, (by show 3 ≤ sizeLine; decide), fun p2 np2 => ?_⟩
      have s2 : Same H (upd (upd H p (.tup [.ty "list", .ty "tuple"])) p2 (.tup [.ty "int", .ty "list", .ty "tuple"])) := s1.trans (same_upd np2)
      refine ⟨x, p2, [.ty "int", .ty "list", .ty "tuple"], _, _, false, rfl, upd_same, .cons (.ty _) (.cons (.ty _) (.cons (.ty _) .nil)), ty _ s2, k2, false, false, rfl, rfl, _, rfl, iteBt (decide_eq_true rfl) ?_⟩
      refine ⟨_, rfl, _, rfl, ?_⟩
      rcases hs with hsc | ⟨_, a, kvs, rfl, e, dk⟩
      · refine .inl ⟨hsc, ?_⟩
        rw [decide_eq_true rfl]
        exact k _ s2
      · refine .inr ⟨1, by decide, .inr ⟨a, a, kvs, kvs, rfl, rfl, s2 _ _ e, s2 _ _ e, rfl, fun p hp => ⟨p.2, (dk p hp).1, .inl ⟨rfl, (dk p hp).2⟩⟩⟩, k _ s2⟩
end
end KB

namespace KB
open PySem PySem.Spec PyProof.Rows L2 C8
/-! rules of my own: a list beside [], a tuple beside (), xs.extend(tuple), x not in names -/
section
variable {X : Cx}
def rNeNil (K : PySem.W.Frag) : R2 := fun x y H Q => ∃ a b xs, x = .ref a ∧ y = .ref b ∧ SqL K H a xs ∧ SqL K H b [] ∧ Q (.bl (!xs.isEmpty)) H
theorem op_neNil (hu : X.A.units + 64 < cLine) : OpR X (compareOp .NotEq) (rNeNil X.K) := by
  intro pins s σ H x y v u Q I rx ry h
  obtain ⟨a, b, xs, rfl, rfl, ha, hb, q⟩ := h
  cases rx
  cases ry
  obtain ⟨us, r1, p1, _⟩ := I.list ha
  obtain ⟨ws, r2, p2, _⟩ := I.list hb
  cases r2
  have fin : ∀ b : Bool, b = !xs.isEmpty → (EP X pins σ Q) (.bool b) s := fun b e => ⟨.bl b, H, I, rfl, by rw [e]; exact q⟩
  cases r1 with
  | nil => exact SeqAt.RcNeAt.lists (e := fun _ => true) p1.isList p2.isList rfl (by omega) (fun j h1 h2 => absurd h1 (by simp)) _ _ _ _ (fin false rfl)
  | cons r t => exact SeqAt.RcNeAt.lists_lengths p1.isList p2.isList (by simp) (by omega) _ _ _ _ (fin true rfl)
def rEqNilT (K : PySem.W.Frag) : R2 := fun x y H Q => ∃ a b xs, x = .ref a ∧ y = .ref b ∧ SqT K H a xs ∧ SqT K H b [] ∧ Q (.bl xs.isEmpty) H
theorem op_eqNilT (hu : X.A.units + 64 < cLine) : OpR X (compareOp .Eq) (rEqNilT X.K) := by
  intro pins s σ H x y v u Q I rx ry h
  obtain ⟨a, b, xs, rfl, rfl, ha, hb, q⟩ := h
  cases rx
  cases ry
  obtain ⟨us, r1, p1, _⟩ := I.tuple ha
  obtain ⟨ws, r2, p2, _⟩ := I.tuple hb
  cases r2
  have fin : ∀ b : Bool, b = xs.isEmpty → (EP X pins σ Q) (.bool b) s := fun b e => ⟨.bl b, H, I, rfl, by rw [e]; exact q⟩
  refine SeqAt.RcAt.tuples (e := fun _ => true) p1 p2 (by omega) (fun j h1 h2 => absurd h2 (by simp)) _ _ _ _ (fin _ ?_)
  cases r1 with
  | nil => rfl
  | cons r t => simp
theorem extT (l : Addr) (xs : Array Value) (n : Nat) (b : Addr) (ys : Array Value) (m : Nat) (dd : Option Addr) (sl : Array (Option Value)) (h0 : ¬(!xs.isEmpty && Builtin.List.listTooLong (xs.size + ys.size)) = true) (h1 : xs.size ≤ sizeLine) (h2 : xs.size + ys.size ≤ sizeLine + 1) :
    Meets (Builtin.«list.extend» ⟨[.ref l, .ref b], []⟩) (fun _ R s =>
      s.heap.get? l = some { cls := .type "list", dict := none, data := .seq xs n, slots := #[] } ∧
        s.heap.get? b = some { cls := .type "tuple", dict := dd, data := .seq ys m, slots := sl } ∧
          R (.ok (.ret Value.none)) { s with heap := s.heap.update l (Obj.mapSeq fun x => x ++ ys), toks := s.toks }) :=
  .of_wp fun prog w A R s h => by
    obtain ⟨hp, g0, d0, t0, o0⟩ := s
    obtain ⟨kl, kb, h⟩ := h
    have z1 := AutoSeq1.sub_tuple_tuple
    have z2 := AutoSeq1.sub_list_list
    have z3 := AutoSeq1.sub_tuple_list
    have z4 := AutoSeq1.sub_list_tuple
    have z5 : (xs ++ ys).size ≤ sizeLine + 1 := by rw [Array.size_append]; exact h2
    wp_walk using (wpAny_updateSeq kl rfl (hz := h1) (_hz' := z5)), AutoSeq1.wpAny_loadPart' kl, AutoSeq1.wpAny_loadPart' kb
    exact ⟨_, rfl, h⟩
def rExtendT (K : PySem.W.Frag) : V → List V → Hp → VK → Prop := fun x vs H Q => ∃ l b xs zs, x = .ref l ∧ vs = [.ref b] ∧ H l = some (.lst xs) ∧ SqT K H b zs ∧ xs.length + zs.length ≤ sizeLine ∧ Q .non (upd H l (.lst (xs ++ zs)))
theorem mt_extendT : MtM X "list.extend" (rExtendT X.K) := by
  intro pins s σ H x vs v us Q I rx rv h
  obtain ⟨l, b, xs, zs, rfl, rfl, hH, hB, hz, q⟩ := h
  cases rx
  obtain ⟨u, rfl, ru⟩ := rv.one
  cases ru
  obtain ⟨z, its, n, r, hl, e⟩ := I.lstM hH
  obtain ⟨its2, r2, ⟨⟨cls, dd, data, sl⟩, e2, hc, m, hd⟩, _⟩ := I.tuple hB
  simp only at hc hd
  subst hc hd
  have n1 := r.length
  have n2 := r2.length
  have hsz : its.toArray.size + its2.toArray.size ≤ sizeLine := by rw [List.size_toArray, List.size_toArray]; omega
  have hlong : ¬ (!its.toArray.isEmpty && Builtin.List.listTooLong (its.toArray.size + its2.toArray.size)) = true := by
    rw [notLongL hsz, Bool.and_false]
    exact Bool.false_ne_true
  refine call_meets F.slot_list_extend ⟨_, e, rfl⟩ F.entry_list_extend (F.args_list_extend_2 _ _)
    (extT l its.toArray n b its2.toArray m dd sl hlong (by rw [List.size_toArray]; omega) (by omega)) ⟨e, e2, ?_⟩
  refine ⟨.non, _, I.lset (its' := its ++ its2) hH e (by simp) (r.append r2) ?_, rfl, q⟩
  rw [List.length_append]
  omega
/-- x is one of these texts; x flat, a list or a tuple -/
def isOf (x : V) (ls : List Str) : Bool := match x with
  | .str z => ls.any fun y => y == z
  | _ => false
def SeqOf (K : PySem.W.Frag) (H : Hp) (x : V) : Prop := ∃ a xs, x = .ref a ∧ (SqL K H a xs ∨ SqT K H a xs)
def rNotOf (K : PySem.W.Frag) : R2 := fun x y H Q => ∃ p ls, y = .ref p ∧ (SqL K H p (ls.map V.str) ∨ SqT K H p (ls.map V.str)) ∧ (flatV x = true ∨ SeqOf K H x) ∧ Q (.bl (!isOf x ls)) H
theorem isOf_flat {x : V} (h : flatV x = true) (ls : List Str) : inV x (ls.map V.str) = isOf x ls := by
  unfold inV
  rw [List.any_map]
  cases x with
  | str z =>
    show ls.any _ = ls.any _
    congr 1
  | non => exact List.any_eq_false.mpr fun y _ => by simp [eqV]
  | bl b => exact List.any_eq_false.mpr fun y _ => by simp [eqV]
  | int b => exact List.any_eq_false.mpr fun y _ => by simp [eqV]
  | _ => cases h
theorem op_notOf (hu : X.A.units + 64 < cLine) : OpR X (compareOp .NotIn) (rNotOf X.K) := by
  intro pins s σ H x y v u Q I rx ry h
  obtain ⟨p, ls, rfl, hq, hx | ⟨a, xs, rfl, hx⟩, q⟩ := h
  · refine op_notIn_seq pins s σ H x (.ref p) v u Q I rx ry ⟨p, _, rfl, hq, hx, List.all_eq_true.mpr fun y hy => ?_, ?_⟩
    · obtain ⟨z, _, rfl⟩ := List.mem_map.mp hy
      rfl
    · rw [isOf_flat hx]
      exact q
  · cases rx
    cases ry
    have he : ∀ {us : List Value}, Vals (ls.map V.str) us → ∀ w ∈ us, SeqAt.EqAt X.A.in1 s w (.ref a) false := by
      intro us r w hw
      obtain ⟨z, t, rfl⟩ : ∃ z t, w = .str z t := by
        clear hq hx q
        induction ls generalizing us with
        | nil => cases r; cases hw
        | cons z ls ih =>
          cases r with
          | cons r t =>
            rcases List.mem_cons.mp hw with rfl | hw
            · obtain ⟨t, rfl⟩ := r
              exact ⟨z, t, rfl⟩
            · exact ih t hw
      have hu' : X.A.in1.units < cLine := by show X.A.units + 1 < cLine; omega
      rcases hx with hx | hx
      · obtain ⟨_, _, pl, _⟩ := I.list hx
        exact SeqAt.EqAt.str_list z t pl.isList hu'
      · obtain ⟨_, _, pl, _⟩ := I.tuple hx
        exact SeqAt.EqAt.str_tuple z t pl hu'
    have no : ∀ us : List Value, (us.toArray.any fun _ => false) = false := fun us => by simp
    rcases hq with hq | hq
    · obtain ⟨its, r, pl, hz⟩ := I.list hq
      refine SeqAt.notIn_listAt (fun _ => false) pl.isList (fun w hw => he r w (by simpa using hw)) ⟨.bl _, H, I, rfl, ?_⟩
      rw [no]
      exact q
    · obtain ⟨its, r, pl, hz⟩ := I.tuple hq
      refine SeqAt.notIn_tupleAt (fun _ => false) pl (fun w hw => he r w (by simpa using hw)) ⟨.bl _, H, I, rfl, ?_⟩
      rw [no]
      exact q
end
end KB

namespace KB
open PySem PySem.Spec PyProof.Rows L2 C8
abbrev sMix : Stmt := top 22
abbrev sWords : Stmt := top 24
theorem StAt.mono {B B' : Nat} {H : Hp} {a l : Addr} (h : B ≤ B') (s : StAt B H a l) : StAt B' H a l := by
  obtain ⟨ns, i, c, h0, n, e1, e2, r1, r2, r3, r4, r5, r6, r7⟩ := s
  exact ⟨ns, i, c, h0, n, e1, e2, r1, r2, r3, r4, r5, by omega, r7⟩
theorem StAt.keeps {B : Nat} {H H' : Hp} {a l : Addr} (h : StAt B H a l) (s : ∀ o, H a = some o → H' a = some o) (s' : ∀ o, H l = some o → H' l = some o) : StAt B H' a l := by
  obtain ⟨ns, i, c, h0, n, e1, e2, r⟩ := h
  exact ⟨ns, i, c, h0, n, s _ e1, s' _ e2, r⟩
theorem StAt.same {B : Nat} {H H' : Hp} {a l : Addr} (s : Same H H') (h : StAt B H a l) : StAt B H' a l := h.keeps (s _) (s _)
theorem StAt.put {B : Nat} {H : Hp} {a l p : Addr} {o : HO} (h : StAt B H a l) (h1 : p ≠ a) (h2 : p ≠ l) : StAt B (upd H p o) a l := h.keeps (fun _ e => by rw [upd_ne h1.symm]; exact e) fun _ e => by rw [upd_ne h2.symm]; exact e
theorem StAt.st {B : Nat} {H : Hp} {a l : Addr} (h : StAt B H a l) : ∃ o, H a = some o := by
  obtain ⟨ns, i, c, h0, n, e1, _⟩ := h
  exact ⟨_, e1⟩
theorem StAt.cl {B : Nat} {H : Hp} {a l : Addr} (h : StAt B H a l) : ∃ o, H l = some o := by
  obtain ⟨ns, i, c, h0, n, e1, e2, _⟩ := h
  exact ⟨_, e2⟩
theorem StAt.new {B : Nat} {H : Hp} {a l p : Addr} (h : StAt B H a l) (n : H p = none) : p ≠ a ∧ p ≠ l := by
  obtain ⟨o, e1⟩ := h.st
  obtain ⟨o', e2⟩ := h.cl
  exact ⟨(ne_of_none e1 n).symm, (ne_of_none e2 n).symm⟩
theorem But.refl {a : Addr} {H : Hp} : But a H H := fun _ _ e _ => e
theorem But.trans {a : Addr} {H H' H'' : Hp} (h : But a H H') (h' : But a H' H'') : But a H H'' := fun b o e n => h' b o (h b o e n) n
theorem Same.but {a : Addr} {H H' : Hp} (h : Same H H') : But a H H' := fun b o e _ => h b o e
theorem But.upd {a p : Addr} {o : HO} {H H' : Hp} (h : But a H H') (hp : H p = none) : But a H (upd H' p o) := fun b u e n => by
  rw [upd_ne (ne_of_none e hp)]
  exact h b u e n
theorem perm_erase : ∀ {xs : List V} {k : Nat} (h : k < xs.length), (xs[k] :: xs.eraseIdx k).Perm xs
  | x :: xs, 0, _ => List.Perm.refl _
  | x :: xs, k + 1, h => (List.Perm.swap _ _ _).trans ((perm_erase (xs := xs) (k := k) (Nat.lt_of_succ_lt_succ h)).cons x)
def spMix : Sp := fun vs H Q _ => ∃ (st th : Addr) (xs : List V) (B : Nat) (cl : Addr), vs = [.ref st, .ref th] ∧ H th = some (.lst xs) ∧ xs.length ≤ 1000 ∧ StAt B H st cl ∧ B + xs.length < 1000000000000000 ∧
  ∀ (l : Addr) (ys : List V) (H' : Hp), H l = none → ys.Perm xs → H' l = some (.lst ys) → StAt (B + xs.length) H' st cl → But st H H' → Q (.ref l) H'
abbrev NMix : List Str := ["_law_state", "_law_things", "_law_left", "_law_found"]
theorem scMix : FnScope NMix ["_law_state", "_law_things"] (fnScope sMix) := fnScope_by (by decide +kernel)
section
variable {P : Program} {w : World} {K : PySem.W.Frag} {mg : Str → Option Value} {base : Heap}
theorem c_mix {f : Addr} {fd : FuncData} (F : Def K mg "_law_mix" sMix f fd) (b : Binds K fd ["_law_state", "_law_things"] []) (T : Blt mg) (C : Cal P w K mg base 1 "_law_take" spTake []) : Cal P w K mg base 2 "_law_mix" spMix [] := by
  refine cal0 F b .nil scMix (fun vs H Q E h => ?_) (fun cdv A outer s H vs Q E hr h => ?_)
  · obtain ⟨st, th, xs, B, cl, rfl, _⟩ := h
    rfl
  · obtain ⟨st, th, xs, B, cl, rfl, hx, l1, hst, hB, k⟩ := h
    have nd := scMix.nd
    have hu : (A.deeper (envOfC "_law_mix" (fnScope sMix) s.heap.objs.size f cdv)).units + 64 < cLine := by have := hr.un; omega
    refine ⟨_, pss_cons (ps_par (i := 2) (j := 3) rfl nd rfl rfl (by decide) rfl rfl (pa_cons (pe_callTy call_list_of (by rfl) T.list (by decide +kernel) (pa_cons (pv 1) pa_nil)) (pa_cons (pe_lst pa_nil) pa_nil)) (by rfl))
      (pss_cons (ps_while PassesOwn.never (pt_cmpR (op_neNil hu) (pv 2) (pe_lst pa_nil) (nomark _))
        (pss_one (ps_expr (pe_bm PySem.F.plainAttrs_list PySem.F.slot_list_append PySem.F.type_list_append mt_append (pv 3) (pa_cons
          (pe_bm PySem.F.plainAttrs_list PySem.F.slot_list_pop PySem.F.type_list_pop mt_popAt (pv 2) (pa_cons (pe_c C hr (Nat.le_refl _) (by rfl) (pa_cons (pv 0) (pa_cons (pe_callB call_len_seq (by rfl) T.len PySem.boot_len (pa_cons (pv 2) pa_nil)) pa_nil))) pa_nil)) pa_nil)))))
      (pss_one (ps_ret (pv 3)))), ?_⟩
    refine ⟨_, rfl, th, xs, rfl, .inl (SqL.of hx), fun L nL => ⟨(by show 0 ≤ sizeLine; decide), fun Fd nF => ⟨_, _, rfl, ?_⟩⟩⟩
    have nLF : L ≠ Fd := ne_of_none upd_same nF
    have nF : H Fd = none := by rw [upd_ne nLF.symm] at nF; exact nF
    obtain ⟨La, Lc⟩ := hst.new nL
    obtain ⟨Fa, Fc⟩ := hst.new nF
    let Iv : Nat → L2.St → Hp → Prop := fun m σ H' => ∃ xl yf : List V, xl.length = m ∧ σ = [some (.ref st), some (.ref th), some (.ref L), some (.ref Fd)] ∧ H' L = some (.lst xl) ∧ H' Fd = some (.lst yf) ∧ (xl ++ yf).Perm xs ∧ StAt (B + yf.length) H' st cl ∧ But st H H'
    refine ⟨Iv, ⟨xs.length, xs, [], rfl, rfl, by rw [upd_ne nLF, upd_same], upd_same, by simp, (hst.put La Lc).put Fa Fc, (Same.but fun b o e => ?_)⟩, ?_⟩
    · rw [upd_ne (ne_of_none e nF), upd_ne (ne_of_none e nL)]
      exact e
    rintro m σ H1 ⟨xl, yf, rfl, rfl, hL, hF, hp, hs1, hb1⟩
    have hlen := hp.length_eq
    rw [List.length_append] at hlen
    refine ⟨_, rfl, (by show 0 ≤ sizeLine; decide), fun p np => ⟨L, p, xl, rfl, rfl, SqL.of (by rw [upd_ne (ne_of_none hL np)]; exact hL), SqL.of upd_same, _, rfl, ?_⟩⟩
    have pL := ne_of_none hL np
    have pF := ne_of_none hF np
    obtain ⟨pa, pc⟩ := hs1.new np
    have hs2 : StAt (B + yf.length) (upd H1 p (.lst [])) st cl := hs1.put pa pc
    have hb2 : But st H (upd H1 p (.lst [])) := hb1.trans (Same.but fun b o e => by rw [upd_ne (ne_of_none e np)]; exact e)
    have hL2 : (upd H1 p (.lst [])) L = some (.lst xl) := by rw [upd_ne pL]; exact hL
    have hF2 : (upd H1 p (.lst [])) Fd = some (.lst yf) := by rw [upd_ne pF]; exact hF
    generalize upd H1 p (.lst []) = H2 at hs2 hb2 hL2 hF2
    cases hxl : xl with
    | nil =>
      subst hxl
      refine iteBf rfl ⟨_, rfl, ?_⟩
      exact k Fd yf H2 nF hp hF2 (hs2.mono (by simp at hlen; omega)) hb2
    | cons x0 xt =>
      rw [← hxl]
      have hpos : 0 < xl.length := by rw [hxl]; exact Nat.succ_pos _
      refine iteBt (by rw [hxl]; rfl) ?_
      refine ⟨Iv (xl.length - 1), fun σ' H' hI => ⟨_, by omega, hI⟩, ?_⟩
      refine ⟨_, rfl, .inl ⟨rfl, _, SqL.of hF2⟩, _, rfl, .inl ⟨rfl, _, SqL.of hL2⟩, _, rfl, _, rfl, L, xl, rfl, .inl (SqL.of hL2), ?_⟩
      refine ⟨st, xl.length, B + yf.length, cl, rfl, by omega, by omega, hs2, by omega, fun d H3 d0 d1 hs3 hb3 => ?_⟩
      have hL3 := hb3 _ _ hL2 La
      have hF3 := hb3 _ _ hF2 Fa
      have hd : d.toNat < xl.length := by omega
      refine ⟨L, xl, d, d.toNat, xl[d.toNat], rfl, rfl, hL3, by omega, by omega, seqIndex_of d0 d1, by simp [hd], ?_⟩
      have hF4 : (upd H3 L (.lst (xl.eraseIdx d.toNat))) Fd = some (.lst yf) := by rw [upd_ne nLF.symm]; exact hF3
      refine ⟨Fd, yf, _, rfl, rfl, hF4, by rw [sizeLine_eq]; omega, ?_⟩
      refine ⟨_, _, ?_, rfl, by rw [upd_ne nLF, upd_same], upd_same, ?_, ?_, ?_⟩
      · rw [List.length_eraseIdx, if_pos hd]
      · refine List.Perm.trans ?_ hp
        rw [← List.append_assoc]
        refine (List.perm_append_comm).trans ?_
        rw [← List.append_assoc]
        refine List.Perm.append_right _ ?_
        exact perm_erase hd
      · rw [List.length_append]
        exact ((hs3.put La Lc).put Fa Fc)
      · exact ((hb2.trans hb3).upd nL).upd nF
end
end KB

namespace KB
open PySem PySem.Spec PyProof.Rows L2 C8
abbrev sRows : Stmt := top 25
def menu : List Str := ["a", "b", "f", "g", "one", "neg", "add", "x", "y", "zz", "abcdefgh", "above", "bar", "kind"]
def spWords : Sp := fun vs H Q _ => ∃ (st : Addr) (n : Int) (B : Nat) (cl : Addr), vs = [.ref st, .int n] ∧ 0 ≤ n ∧ n ≤ 14 ∧ StAt B H st cl ∧ B + 14 < 1000000000000000 ∧
  ∀ (l : Addr) (ws : List Str) (H' : Hp), H l = none → H' l = some (.lst (ws.map V.str)) → ws.length = n.toNat → ws.Nodup → (∀ z ∈ ws, z ∈ menu) → StAt (B + 14) H' st cl → But st H H' → Q (.ref l) H'
theorem scWords : FnScope ["_law_state", "_law_many", "_law_some"] ["_law_state", "_law_many"] (fnScope sWords) := fnScope_by (by decide +kernel)
theorem cutTo {xs : List V} {n : Int} (h : 0 ≤ n) : cutV xs none (some n) = xs.take n.toNat := by
  unfold cutV HT.sIx
  dsimp only
  rw [if_neg (by omega), List.drop_zero, Nat.sub_zero]
  by_cases hl : n.toNat ≤ xs.length
  · rw [Nat.min_eq_left hl]
  · rw [Nat.min_eq_right (by omega), List.take_of_length_le (Nat.le_refl _), List.take_of_length_le (by omega)]
theorem cutFrom {xs : List V} {n : Int} (h : 0 ≤ n) : cutV xs (some n) none = xs.drop n.toNat := by
  unfold cutV HT.sIx
  dsimp only
  rw [if_neg (by omega)]
  by_cases hl : n.toNat ≤ xs.length
  · rw [Nat.min_eq_left hl, List.take_of_length_le (by rw [List.length_drop]; omega)]
  · rw [Nat.min_eq_right (by omega), List.drop_eq_nil_of_le (Nat.le_refl _), List.drop_eq_nil_of_le (by omega), List.take_nil]
theorem unmap {α : Type} {f : α → V} {g : V → α} (hg : ∀ a, g (f a) = a) {ys : List V} {xs : List α} (h : ys.Perm (xs.map f)) : ∃ zs : List α, ys = zs.map f ∧ zs.Perm xs := by
  have back : ∀ l : List α, (l.map f).map g = l := fun l => by
    rw [List.map_map]
    induction l with
    | nil => rfl
    | cons a l ih => rw [List.map_cons, ih]; exact congrArg (· :: l) (hg a)
  refine ⟨ys.map g, ?_, by have := h.map g; rw [back] at this; exact this⟩
  rw [List.map_map]
  have m : ∀ y ∈ ys, f (g y) = y := fun y hy => by
    obtain ⟨z, _, e⟩ := List.mem_map.mp (h.subset hy)
    rw [← e, hg]
  clear h
  induction ys with
  | nil => rfl
  | cons y ys ih =>
    rw [List.map_cons, ← ih fun y' hy' => m y' (List.mem_cons_of_mem _ hy')]
    exact congrArg (· :: ys) (m y List.mem_cons_self).symm
def strOf : V → Str
  | .str z => z
  | _ => ""
/-- what was not there isn't there: at an address that is free behind -/
theorem But.free {H H' : Hp} {st p : Addr} (h : But st H H') (n : H' p = none) (ne : p ≠ st) : H p = none := by
  cases e : H p with
  | none => rfl
  | some o =>
    have := h p o e ne
    rw [n] at this
    cases this
theorem same_free {H H' : Hp} {p : Addr} (h : Same H H') (n : H' p = none) : H p = none := by
  cases e : H p with
  | none => rfl
  | some o =>
    have := h p o e
    rw [n] at this
    cases this
section
variable {P : Program} {w : World} {K : PySem.W.Frag} {mg : Str → Option Value} {base : Heap}
theorem c_words {f : Addr} {fd : FuncData} (F : Def K mg "_law_words" sWords f fd) (b : Binds K fd ["_law_state", "_law_many"] []) (T : Blt mg) (C : Cal P w K mg base 2 "_law_mix" spMix []) : Cal P w K mg base 3 "_law_words" spWords [] := by
  refine cal0 F b .nil scWords (fun vs H Q E h => ?_) (fun cdv A outer s H vs Q E hr h => ?_)
  · obtain ⟨st, n, B, cl, rfl, _⟩ := h
    rfl
  · obtain ⟨st, n, B, cl, rfl, n0, n1, hst, hB, k⟩ := h
    have nd := scWords.nd
    refine ⟨_, pss_cons (ps_set (i := 2) nd rfl (Or.inl rfl) (pe_lst (pa_cons pe_str (pa_cons pe_str (pa_cons pe_str (pa_cons pe_str (pa_cons pe_str (pa_cons pe_str (pa_cons pe_str (pa_cons pe_str (pa_cons pe_str (pa_cons pe_str (pa_cons pe_str (pa_cons pe_str (pa_cons pe_str (pa_cons pe_str pa_nil))))))))))))))))
      (pss_one (ps_ret (pe_slice sl_list (pe_c C hr (Nat.le_refl _) (by rfl) (pa_cons (pv 0) (pa_cons (pv 2) pa_nil))) po_none (po_some (pv 1))))), ?_⟩
    refine ⟨(by show 14 ≤ sizeLine; decide), fun m nm => ?_⟩
    obtain ⟨ma, mc⟩ := hst.new nm
    refine ⟨_, rfl, _, rfl, st, m, menu.map V.str, B, cl, rfl, upd_same, by decide, hst.put ma mc, hB, fun L ys H1 nL hp hL hs hb => ?_⟩
    obtain ⟨zs, rfl, hz⟩ := unmap (g := strOf) (fun _ => rfl) hp
    refine ⟨_, rfl, n, rfl, L, _, rfl, SqL.of hL, fun p np => ?_⟩
    rw [cutTo n0, ← List.map_take]
    obtain ⟨pa, pc⟩ := hs.new np
    have npH : H p = none := same_free (same_upd nm) (hb.free np pa)
    refine k p _ _ npH upd_same ?_ ((hz.symm.nodup (by decide +kernel)).sublist (List.take_sublist _ _)) (fun z hm => hz.subset (List.mem_of_mem_take hm)) (hs.put pa pc) ?_
    · rw [List.length_take, hz.length_eq]
      show min n.toNat 14 = n.toNat
      omega
    · exact (Same.but (same_upd nm)).trans (hb.trans (Same.but (same_upd np)))
end
end KB

namespace KB
open PySem PySem.Spec PyProof.Rows L2 C8
theorem lc_gen {J : It} {g : TG} {tt : TT} {te : TE} {vs : List Nat} {σ : L2.St} {H1 : Hp} {D : Addr} {Qd : Hp → Prop} (n : Nat) (Pv : Nat → Hp → Prop) (h0 : Pv 0 (upd H1 D (.lst []))) (hgo : ∀ i H, i < n → Pv i H → J.go i H) (hst : ∀ H, Pv n H → J.stop n H)
    (hs : ∀ i H x H', i < n → Pv i H → J.yld i H x H' → g x (wipe σ vs) H' fun σ2 H2 => wipe σ2 vs = wipe σ vs ∧ tt σ2 H2 fun b H3 =>
      if b = true then te σ2 H3 fun y H4 => ∃ acc, H4 D = some (.lst acc) ∧ acc.length < sizeLine ∧ Pv (i + 1) (upd H4 D (.lst (acc ++ [y]))) else Pv (i + 1) H3) (hd : ∀ H, Pv n H → Qd H) :
    ∃ W : Nat → Nat → Hp → Prop, (∃ m, W 0 m (upd H1 D (.lst []))) ∧ ∀ i m H, W i m H →
      (J.stop i H ∧ Qd H) ∨ (J.go i H ∧ ∃ Nx : Hp → Prop, (∀ H', Nx H' → ∃ m', m' < m ∧ W (i + 1) m' H') ∧ ∀ x H', J.yld i H x H' → g x (wipe σ vs) H' fun σ2 H2 => wipe σ2 vs = wipe σ vs ∧ tt σ2 H2 fun b H3 =>
        if b = true then te σ2 H3 fun y H4 => ∃ acc, H4 D = some (.lst acc) ∧ acc.length < sizeLine ∧ Nx (upd H4 D (.lst (acc ++ [y]))) else Nx H3) := by
  refine ⟨fun i m H => m + i = n ∧ Pv i H, ⟨n, rfl, h0⟩, ?_⟩
  rintro i m H ⟨hm, p⟩
  by_cases hi : i < n
  · exact .inr ⟨hgo i H hi p, Pv (i + 1), fun H' p' => ⟨m - 1, by omega, by omega, p'⟩, fun x H' y => hs i H x H' hi p y⟩
  · obtain rfl : i = n := by omega
    exact .inl ⟨hst H p, hd H p⟩
theorem for_gen {J : It} {g : TG} {tb : TS} {D : Ends} {σ : L2.St} {H : Hp} (n : Nat) (Pv : Nat → L2.St → Hp → Prop) (h0 : Pv 0 σ H) (hgo : ∀ i σ H, i < n → Pv i σ H → J.go i H) (hst : ∀ σ H, Pv n σ H → J.stop n H)
    (hs : ∀ i σ H x H', i < n → Pv i σ H → J.yld i H x H' → g x σ H' fun σ2 H2 => tb { D with nx := Pv (i + 1), ct := Pv (i + 1), bk := D.nx } σ2 H2) (hd : ∀ σ H, Pv n σ H → D.nx σ H) :
    ∃ W : Nat → Nat → L2.St → Hp → Prop, (∃ m, W 0 m σ H) ∧ ∀ i m σ H, W i m σ H →
      (J.stop i H ∧ D.nx σ H) ∨ (J.go i H ∧ ∃ N : L2.St → Hp → Prop, (∀ σ' H', N σ' H' → ∃ m', m' < m ∧ W (i + 1) m' σ' H') ∧ ∀ x H', J.yld i H x H' → g x σ H' fun σ2 H2 => tb { D with nx := N, ct := N, bk := D.nx } σ2 H2) := by
  refine ⟨fun i m σ H => m + i = n ∧ Pv i σ H, ⟨n, rfl, h0⟩, ?_⟩
  rintro i m σ H ⟨hm, p⟩
  by_cases hi : i < n
  · exact .inr ⟨hgo i σ H hi p, Pv (i + 1), fun σ' H' p' => ⟨m - 1, by omega, by omega, p'⟩, fun x H' y => hs i σ H x H' hi p y⟩
  · obtain rfl : i = n := by omega
    exact .inl ⟨hst σ H p, hd σ H p⟩
structure Blt4 (mg : Str → Option Value) : Prop extends Blt2 mg where
  ran : mg "range" = none
  enu : mg "enumerate" = none
  str : mg "str" = none
  dic : mg "dict" = none
/-- a row of a language -/
abbrev Rw := Str × Int
def RowV (H : Hp) (v : V) (r : Rw) : Prop := ∃ t, v = .ref t ∧ H t = some (.tup [.str r.1, .int r.2])
def RowsAt (H : Hp) (l : Addr) (rs : List Rw) : Prop := ∃ vs, H l = some (.lst vs) ∧ Paired (RowV H) vs rs
structure RowsOk (rs : List Rw) : Prop where
  len : rs.length ≤ 14
  nd : (rs.map (·.1)).Nodup
  mem : ∀ r ∈ rs, r.1 ∈ menu ∧ 0 ≤ r.2 ∧ r.2 ≤ 2
  leaf : ∃ r ∈ rs, r.2 = 0
theorem RowV.but {B : Nat} {H H' : Hp} {st cl : Addr} (hs : StAt B H st cl) (hb : But st H H') {v : V} {r : Rw} (h : RowV H v r) : RowV H' v r := by
  obtain ⟨t, e, q⟩ := h
  obtain ⟨ns, i, c, h0, n, e1, _⟩ := hs
  exact ⟨t, e, hb _ _ q (ne_of q e1 (by intro z; cases z))⟩
theorem RowV.same {H H' : Hp} (s : Same H H') {v : V} {r : Rw} (h : RowV H v r) : RowV H' v r := by
  obtain ⟨t, e, q⟩ := h
  exact ⟨t, e, s _ _ q⟩
theorem RowsAt.but {B : Nat} {H H' : Hp} {st cl l : Addr} (hs : StAt B H st cl) (hb : But st H H') {rs : List Rw} (h : RowsAt H l rs) : RowsAt H' l rs := by
  obtain ⟨vs, e, p⟩ := h
  refine ⟨vs, hb _ _ e (fun z => ?_), Paired.mono (fun _ _ q => q.but hs hb) p⟩
  obtain ⟨ns, i, c, h0, n, e1, _⟩ := hs
  rw [z, e1] at e
  cases e
  cases p with
  | cons _ p =>
    cases p with
    | cons q _ =>
      obtain ⟨t, z, _⟩ := q
      cases z
theorem RowsAt.same {H H' : Hp} {l : Addr} (s : Same H H') {rs : List Rw} (h : RowsAt H l rs) : RowsAt H' l rs := by
  obtain ⟨vs, e, p⟩ := h
  exact ⟨vs, s _ _ e, Paired.mono (fun _ _ q => q.same s) p⟩
theorem paired_perm {α β : Type} {R : α → β → Prop} {ys xs : List α} (h : ys.Perm xs) : ∀ {rs : List β}, Paired R xs rs → ∃ ps : List β, ps.Perm rs ∧ Paired R ys ps := by
  induction h with
  | nil => intro rs p; exact ⟨rs, .refl _, p⟩
  | cons a _ ih =>
    intro rs p
    cases p with
    | cons q t =>
      obtain ⟨ps, e, p'⟩ := ih t
      exact ⟨_ :: ps, e.cons _, .cons q p'⟩
  | swap a b l =>
    intro rs p
    cases p with
    | cons q t =>
      cases t with
      | cons q' t =>
        exact ⟨_ :: _ :: _, .swap _ _ _, .cons q' (.cons q t)⟩
  | trans _ _ ih1 ih2 =>
    intro rs p
    obtain ⟨ps, e, p'⟩ := ih2 p
    obtain ⟨qs, e', p''⟩ := ih1 p'
    exact ⟨qs, e'.trans e, p''⟩
theorem RowsOk.perm {rs ps : List Rw} (h : RowsOk rs) (p : ps.Perm rs) : RowsOk ps where
  len := by rw [p.length_eq]; exact h.len
  nd := (p.map _).nodup_iff.mpr h.nd
  mem := fun r hr => h.mem r (p.subset hr)
  leaf := by
    obtain ⟨r, hr, e⟩ := h.leaf
    exact ⟨r, p.symm.subset hr, e⟩
def spRows : Sp := fun vs H Q _ => ∃ (st : Addr) (m : Int) (B : Nat) (cl : Addr), vs = [.ref st, .int m] ∧ 1 ≤ m ∧ m ≤ 13 ∧ StAt B H st cl ∧ B + 50 < 1000000000000000 ∧
  ∀ (l : Addr) (rs : List Rw) (H' : Hp), H l = none → RowsAt H' l rs → RowsOk rs → StAt (B + 50) H' st cl → But st H H' → Q (.ref l) H'
abbrev NRows : List Str := ["_law_state", "_law_most", "_law_words_here", "_law_found", "_law_many", "_law_k", "_law_word"]
theorem scRows : FnScope NRows ["_law_state", "_law_most"] (fnScope sRows) := fnScope_by (by decide +kernel)
section
variable {P : Program} {w : World} {K : PySem.W.Frag} {mg : Str → Option Value} {base : Heap}
theorem c_rows {f : Addr} {fd : FuncData} (F : Def K mg "_law_rows" sRows f fd) (b : Binds K fd ["_law_state", "_law_most"] []) (T : Blt4 mg) (C : Cal P w K mg base 1 "_law_take" spTake []) (CM : Cal P w K mg base 2 "_law_mix" spMix []) (CW : Cal P w K mg base 3 "_law_words" spWords []) : Cal P w K mg base 4 "_law_rows" spRows [] := by
  refine cal0 F b .nil scRows (fun vs H Q E h => ?_) (fun cdv A outer s H vs Q E hr h => ?_)
  · obtain ⟨st, m, B, cl, rfl, _⟩ := h
    rfl
  · obtain ⟨st, m, B, cl, rfl, m0, m1, hst, hB, k⟩ := h
    have nd := scRows.nd
    refine ⟨_, pss_cons (ps_set (i := 2) nd rfl (by first | exact Or.inl rfl | exact Or.inr rfl) (pe_c CW hr (by decide) (by rfl) (pa_cons (pv 0) (pa_cons (pe_op op_add pe_int (pe_c C hr (by decide) (by rfl) (pa_cons (pv 0) (pa_cons (pv 1) pa_nil)))) pa_nil))))
      (pss_cons (ps_set (i := 3) nd rfl (Or.inl rfl) (pe_lst (pa_cons (pe_tup (pa_cons (pe_ix ix_list (pv 2) pe_int fun _ _ => rfl) (pa_cons pe_int pa_nil))) pa_nil)))
      (pss_cut (ps_setLc (i := 4) (own := [("_law_k", 5)]) (g := gName 5) (tt := tYes) rfl nd rfl rfl (by rfl) (pi_list (pe_slice sl_list (pv 2) (po_some pe_int) po_none)) (blkOk_by (N := NRows) (sc := fnScope sRows) (by decide +kernel)) (fun _ _ _ _ _ => pg_name (i := 5) nd rfl (Or.inl rfl)) (fun _ _ _ _ _ => pts_nil)
          (fun _ _ _ _ _ => pe_c C hr (by decide) (by rfl) (pa_cons (pv 0) (pa_cons pe_int pa_nil))))
      (pss_cut (ps_for PassesOwn.never rfl (pi_enum (by rfl) T.enu (pa_cons (pe_slice sl_list (pv 2) (po_some pe_int) po_none) pa_nil)) (pg_tup rfl (pgs_cons (pg_name (i := 5) nd rfl (Or.inl rfl)) (pgs_cons (pg_name (i := 6) nd rfl (Or.inl rfl)) pgs_nil)))
          (pss_one (ps_expr (pe_bm PySem.F.plainAttrs_list PySem.F.slot_list_append PySem.F.type_list_append mt_append (pv 3) (pa_cons (pe_tup (pa_cons (pv 6) (pa_cons
            (pe_ifExp (pw_or (pt_cmp (pc_lt (pe_ix ix_list (pv 4) (pv 5) fun _ _ => rfl) pe_int)) (pw_or1 (pt_cmpR op_notIn_seq pe_int (pe_slice sl_list (pv 4) po_none (po_some (pv 5))) (by rfl)))).pt
              (pe_ix ix_list (pv 4) (pv 5) fun _ _ => rfl) pe_int) pa_nil))) pa_nil)))))
      (pss_one (ps_ret (pe_c CM hr (by decide) (by rfl) (pa_cons (pv 0) (pa_cons (pv 3) pa_nil)))))))), ?_⟩
    refine ⟨_, rfl, _, rfl, _, rfl, st, m, B, cl, rfl, by omega, by omega, hst, by omega, fun d H1 d0 d1 hs1 hb1 => ⟨1, d, rfl, rfl, st, 1 + d, B + 1, cl, rfl, by omega, by omega, hs1, by omega, fun wl ws H2 nwl hwl hwn hwd hwm hs2 hb2 => ?_⟩⟩
    obtain ⟨w0, wr, rfl⟩ : ∃ w0 wr, ws = w0 :: wr := by
      cases ws with
      | nil => simp at hwn; omega
      | cons a t => exact ⟨a, t, rfl⟩
    obtain ⟨wa, wc⟩ := hs1.new nwl
    have nwlH : H wl = none := hb1.free nwl wa
    have hwr : wr.length ≤ 13 := by rw [List.length_cons] at hwn; omega
    refine ⟨_, rfl, wl, _, 0, .str w0, rfl, rfl, SqL.of hwl, at_of (j := 0) (by omega) rfl, (by show 2 ≤ sizeLine; decide), fun t0 nt0 => ⟨(by show 1 ≤ sizeLine; decide), fun fd nfd => ?_⟩⟩
    obtain ⟨ta, tc⟩ := hs2.new nt0
    have e1 : H2 fd = none := by rw [upd_ne (ne_of_none upd_same nfd).symm] at nfd; exact nfd
    have fdt : fd ≠ t0 := (ne_of_none upd_same nfd).symm
    obtain ⟨fa, fc⟩ := hs2.new e1
    have fwl : fd ≠ wl := (ne_of_none hwl e1).symm
    have twl : t0 ≠ wl := (ne_of_none hwl nt0).symm
    have nfdH : H fd = none := hb1.free (hb2.free e1 fa) fa
    have ntH : H t0 = none := hb1.free (hb2.free nt0 ta) ta
    have hb3 : But st H (upd (upd H2 t0 (.tup [.str w0, .int 0])) fd (.lst [.ref t0])) := ((hb1.trans hb2).upd ntH).upd nfdH
    have hs3 : StAt (B + 1 + 14) (upd (upd H2 t0 (.tup [.str w0, .int 0])) fd (.lst [.ref t0])) st cl := (hs2.put ta tc).put fa fc
    have h3w : (upd (upd H2 t0 (.tup [.str w0, .int 0])) fd (.lst [.ref t0])) wl = some (.lst ((w0 :: wr).map V.str)) := by rw [upd_ne fwl.symm, upd_ne twl.symm]; exact hwl
    have h3f : (upd (upd H2 t0 (.tup [.str w0, .int 0])) fd (.lst [.ref t0])) fd = some (.lst [.ref t0]) := upd_same
    have h3t : (upd (upd H2 t0 (.tup [.str w0, .int 0])) fd (.lst [.ref t0])) t0 = some (.tup [.str w0, .int 0]) := by rw [upd_ne fdt.symm]; exact upd_same
    generalize upd (upd H2 t0 (.tup [.str w0, .int 0])) fd (.lst [.ref t0]) = H3 at hb3 hs3 h3w h3f h3t
    have drop1 : ((w0 :: wr).map V.str).drop (1 : Int).toNat = wr.map V.str := rfl
    -- the numbers
    refine ⟨fun σ H' => ∃ (ml : Addr) (ns : List Int), σ = [some (.ref st), some (.int m), some (.ref wl), some (.ref fd), some (.ref ml), none, none] ∧ H' ml = some (.lst (ns.map V.int)) ∧ ns.length = wr.length ∧ (∀ n ∈ ns, 0 ≤ n ∧ n ≤ 2) ∧
        H' wl = some (.lst ((w0 :: wr).map V.str)) ∧ H' fd = some (.lst [.ref t0]) ∧ H' t0 = some (.tup [.str w0, .int 0]) ∧ StAt (B + 30) H' st cl ∧ But st H H' ∧ H ml = none ∧ ml ≠ fd, ?_, ?_⟩
    · refine ⟨_, rfl, 1, rfl, wl, _, rfl, SqL.of h3w, fun p np => ⟨p, rfl, ⟨_, SqL.of upd_same⟩, fun D nD => ?_⟩⟩
      rw [cutFrom (by decide), drop1] at nD ⊢
      obtain ⟨pa, pc⟩ := hs3.new np
      have npH : H p = none := hb3.free np pa
      have Dp : D ≠ p := (ne_of_none upd_same nD).symm
      have nD3 : H3 D = none := by rw [upd_ne Dp] at nD; exact nD
      obtain ⟨Da, Dc⟩ := hs3.new nD3
      have nDH : H D = none := hb3.free nD3 Da
      have kp : ∀ {q : Addr} {o : HO}, H3 q = some o → (upd (upd H3 p (.lst (wr.map V.str))) D (.lst [])) q = some o := fun e => by rw [upd_ne (ne_of_none e nD3), upd_ne (ne_of_none e np)]; exact e
      refine lc_gen (J := Itl K p) wr.length (fun i H' => ∃ ns : List Int, ns.length = i ∧ (∀ n ∈ ns, 0 ≤ n ∧ n ≤ 2) ∧ H' D = some (.lst (ns.map V.int)) ∧ H' p = some (.lst (wr.map V.str)) ∧
        H' wl = some (.lst ((w0 :: wr).map V.str)) ∧ H' fd = some (.lst [.ref t0]) ∧ H' t0 = some (.tup [.str w0, .int 0]) ∧ StAt (B + 15 + i) H' st cl ∧ But st H H')
        ⟨[], rfl, (fun n hn => by cases hn), upd_same, by rw [upd_ne Dp.symm]; exact upd_same, kp h3w, kp h3f, kp h3t, (hs3.put pa pc).put Da Dc, (hb3.upd npH).upd nDH⟩
        (fun i H' hi ⟨ns, _, _, _, hp, _⟩ => ⟨_, .str (wr.getD i ""), SqL.of hp, by rw [List.getElem?_map, List.getElem?_eq_getElem hi, List.getD_eq_getElem?_getD, List.getElem?_eq_getElem hi]; rfl⟩)
        (fun H' ⟨ns, _, _, _, hp, _⟩ => ⟨_, SqL.of hp, by rw [List.length_map]; exact Nat.le_refl _⟩) (fun i H' v H'' hi ⟨ns, hn, hm, hD, hp, h4w, h4f, h4t, hs4, hb4⟩ yl => ?_) (fun H' ⟨ns, hn, hm, hD, hp, h4w, h4f, h4t, hs4, hb4⟩ => ⟨D, ns, rfl, hD, hn, hm, h4w, h4f, h4t, hs4.mono (by omega), hb4, nDH, (ne_of_none h3f nD3).symm⟩)
      obtain ⟨rfl, _⟩ := yl
      refine ⟨rfl, ?_⟩
      unfold tYes
      dsimp only
      rw [if_pos rfl]
      refine ⟨_, rfl, st, 3, B + 15 + i, cl, rfl, by decide, by decide, hs4, by omega, fun x H5 x0 x1 hs5 hb5 => ⟨_, hb5 _ _ hD Da, by rw [List.length_map, sizeLine_eq]; omega, ns ++ [x], ?_⟩⟩
      have kq : ∀ {q : Addr} {o : HO}, H'' q = some o → q ≠ st → q ≠ D → (upd H5 D (.lst (ns.map V.int ++ [V.int x]))) q = some o := fun e n1 n2 => by rw [upd_ne n2]; exact hb5 _ _ e n1
      refine ⟨by simp [hn], fun n hn' => ?_, by rw [upd_same, List.map_append]; rfl, kq hp pa Dp.symm, kq h4w wa (ne_of_none h3w nD3), kq h4f fa (ne_of_none h3f nD3), kq h4t ta (ne_of_none h3t nD3), (hs5.mono (by omega)).put Da Dc, (hb4.trans hb5).upd nDH⟩
      rcases List.mem_append.mp hn' with h | h
      · exact hm n h
      · rw [List.mem_singleton.mp h]; omega
    rintro σ' H4 ⟨ml, ns, rfl, h4m, hnl, hnm, h4w, h4f, h4t, hs4, hb4, nmlH, mlfd⟩
    have mla : ml ≠ st := by
      obtain ⟨o, e⟩ := hst.st
      exact (ne_of_none e nmlH).symm
    -- the rows
    refine ⟨fun σ H' => ∃ (v5 v6 : Option V) (vs : List V) (rs : List Rw), σ = [some (.ref st), some (.int m), some (.ref wl), some (.ref fd), some (.ref ml), v5, v6] ∧ H' fd = some (.lst vs) ∧ Paired (RowV H') vs rs ∧ rs.map (·.1) = w0 :: wr ∧ (∀ r ∈ rs, 0 ≤ r.2 ∧ r.2 ≤ 2) ∧ (w0, 0) ∈ rs ∧ StAt (B + 30) H' st cl ∧ But st H H', ?_, ?_⟩
    · refine ⟨_, rfl, 1, rfl, wl, _, rfl, SqL.of h4w, fun p np => ⟨p, _, rfl, SqL.of upd_same, ?_⟩⟩
      rw [cutFrom (by decide), drop1]
      obtain ⟨pa, pc⟩ := hs4.new np
      have npH : H p = none := hb4.free np pa
      have kp : ∀ {q : Addr} {o : HO}, H4 q = some o → (upd H4 p (.lst (wr.map V.str))) q = some o := fun e => by rw [upd_ne (ne_of_none e np)]; exact e
      refine for_gen (J := Ite K p) wr.length (fun i σ H' => ∃ (v5 v6 : Option V) (vs : List V) (rs : List Rw), σ = [some (.ref st), some (.int m), some (.ref wl), some (.ref fd), some (.ref ml), v5, v6] ∧ H' fd = some (.lst vs) ∧ Paired (RowV H') vs rs ∧ rs.map (·.1) = w0 :: wr.take i ∧ (∀ r ∈ rs, 0 ≤ r.2 ∧ r.2 ≤ 2) ∧ (w0, 0) ∈ rs ∧
          StAt (B + 30) H' st cl ∧ But st H H' ∧ H' ml = some (.lst (ns.map V.int)) ∧ H' p = some (.lst (wr.map V.str)))
        ⟨none, none, _, [(w0, 0)], rfl, kp h4f, .cons ⟨t0, rfl, kp h4t⟩ .nil, by rw [List.take_zero]; rfl, (fun r hr => by rw [List.mem_singleton.mp hr]; exact ⟨Int.le_refl _, by show (0 : Int) ≤ 2; decide⟩), List.mem_singleton.mpr rfl, hs4.put pa pc, hb4.upd npH, kp h4m, upd_same⟩
        (fun i σ H' hi ⟨_, _, _, _, _, _, _, _, _, _, _, _, _, hp⟩ => ⟨_, .str (wr.getD i ""), SqL.of hp, by rw [List.getElem?_map, List.getElem?_eq_getElem hi, List.getD_eq_getElem?_getD, List.getElem?_eq_getElem hi]; rfl⟩)
        (fun σ H' ⟨_, _, _, _, _, _, _, _, _, _, _, _, _, hp⟩ => ⟨_, SqL.of hp, by rw [List.length_map]; exact Nat.le_refl _⟩) ?_ (fun σ H' ⟨v5, v6, vs, rs, e, hf, hp, hr, hr2, hr0, hs, hb, _⟩ => ⟨v5, v6, vs, rs, e, hf, hp, by rw [hr, List.take_of_length_le (Nat.le_refl _)], hr2, hr0, hs, hb⟩)
      rintro i σ H5 v H6 hi ⟨v5, v6, vs, rs, rfl, hf, hp, hr, hr2, hr0, hs5, hb5, hm5, hp5⟩ ⟨T', x, rfl, nT, rfl, hx⟩
      have hx := hx _ (SqL.of hp5)
      rw [List.getElem?_map, List.getElem?_eq_getElem hi] at hx
      obtain rfl := Option.some.inj hx
      obtain ⟨Ta, Tc⟩ := hs5.new nT
      have nTH : H T' = none := hb5.free nT Ta
      refine ⟨T', [.int (i : Nat), .str wr[i]], rfl, SqT.of upd_same, rfl, .int (i : Nat), [.str wr[i]], rfl, .str wr[i], [], rfl, rfl, ?_⟩
      have hs6 := hs5.put (o := .tup [.int (i : Nat), .str wr[i]]) Ta Tc
      have hb6 := hb5.upd (o := .tup [.int (i : Nat), .str wr[i]]) nTH
      have hf6 : (upd H5 T' (.tup [.int (i : Nat), .str wr[i]])) fd = some (.lst vs) := by rw [upd_ne (ne_of_none hf nT)]; exact hf
      have hm6 : (upd H5 T' (.tup [.int (i : Nat), .str wr[i]])) ml = some (.lst (ns.map V.int)) := by rw [upd_ne (ne_of_none hm5 nT)]; exact hm5
      have hp6 : (upd H5 T' (.tup [.int (i : Nat), .str wr[i]])) p = some (.lst (wr.map V.str)) := by rw [upd_ne (ne_of_none hp5 nT)]; exact hp5
      have hpr : Paired (RowV (upd H5 T' (.tup [.int (i : Nat), .str wr[i]]))) vs rs := Paired.mono (fun _ _ q => q.same (same_upd nT)) hp
      generalize upd H5 T' (.tup [.int (i : Nat), .str wr[i]]) = H6 at hs6 hb6 hf6 hm6 hp6 hpr
      have hin : i < ns.length := by omega
      have hat : atI (ns.map V.int) ((i : Nat) : Int) = some (.int ns[i]) := at_of (j := i) (by omega) (by simp [hin])
      have hvl : vs.length = rs.length := Paired.length hpr
      have hrl : rs.length = i + 1 := by
        have := congrArg List.length hr
        rw [List.length_map, List.length_cons, List.length_take] at this
        omega
      -- what is appended, in any heap that holds these
      have fin : ∀ (H7 : Hp) (z : Int), Same H6 H7 → 0 ≤ z ∧ z ≤ 2 → ∀ q, H7 q = none → ∃ (l : Addr) (xs : List V) (y : V), V.ref fd = .ref l ∧ [V.ref q] = [y] ∧ (upd H7 q (.tup [.str wr[i], .int z])) l = some (.lst xs) ∧ xs.length < sizeLine ∧
          (∃ (v5 v6 : Option V) (vs : List V) (rs : List Rw), [some (V.ref st), some (.int m), some (.ref wl), some (.ref fd), some (.ref ml), some (.int (i : Nat)), some (.str wr[i])] = [some (.ref st), some (.int m), some (.ref wl), some (.ref fd), some (.ref ml), v5, v6] ∧ (upd (upd H7 q (.tup [.str wr[i], .int z])) l (.lst (xs ++ [y]))) fd = some (.lst vs) ∧ Paired (RowV (upd (upd H7 q (.tup [.str wr[i], .int z])) l (.lst (xs ++ [y])))) vs rs ∧ rs.map (·.1) = w0 :: wr.take (i + 1) ∧ (∀ r ∈ rs, 0 ≤ r.2 ∧ r.2 ≤ 2) ∧ (w0, 0) ∈ rs ∧
          StAt (B + 30) (upd (upd H7 q (.tup [.str wr[i], .int z])) l (.lst (xs ++ [y]))) st cl ∧ But st H (upd (upd H7 q (.tup [.str wr[i], .int z])) l (.lst (xs ++ [y]))) ∧ (upd (upd H7 q (.tup [.str wr[i], .int z])) l (.lst (xs ++ [y]))) ml = some (.lst (ns.map V.int)) ∧ (upd (upd H7 q (.tup [.str wr[i], .int z])) l (.lst (xs ++ [y]))) p = some (.lst (wr.map V.str))) := by
        intro H7 z s7 hz q nq
        have hf7 := s7 _ _ hf6
        have qf : q ≠ fd := (ne_of_none hf7 nq).symm
        obtain ⟨qa, qc⟩ := (hs6.same s7).new nq
        have kq : ∀ {a : Addr} {o : HO}, H6 a = some o → a ≠ fd → (upd (upd H7 q (.tup [.str wr[i], .int z])) fd (.lst (vs ++ [.ref q]))) a = some o := fun e n => by rw [upd_ne n, upd_ne (ne_of_none (s7 _ _ e) nq)]; exact s7 _ _ e
        refine ⟨fd, vs, _, rfl, rfl, by rw [upd_ne qf.symm]; exact hf7, by rw [hvl, sizeLine_eq]; omega, _, _, _, rs ++ [(wr[i], z)], rfl, upd_same, ?_, ?_, ?_, ?_, ((hs6.same s7).put qa qc).put fa fc, ((hb6.trans (Same.but s7)).upd (hb6.free (same_free s7 nq) qa)).upd nfdH, kq hm6 mlfd, kq hp6 (ne_of_none h4f np).symm⟩
        · refine Paired.snoc (Paired.mono (fun _ _ q' => ?_) hpr) ⟨q, rfl, by rw [upd_ne qf]; exact upd_same⟩
          obtain ⟨t, e, et⟩ := q'
          exact ⟨t, e, kq et (ne_of et hf6 (by intro z; cases z))⟩
        · rw [List.map_append, hr, List.take_succ_eq_append_getElem hi]
          rfl
        · intro r hr'
          rcases List.mem_append.mp hr' with h | h
          · exact hr2 r h
          · rw [List.mem_singleton.mp h]; exact hz
        · exact List.mem_append_left _ hr0
      refine ⟨_, rfl, .inl ⟨rfl, _, SqL.of hf6⟩, _, rfl, _, rfl, _, rfl, ml, _, _, _, rfl, rfl, SqL.of hm6, hat, ns[i], 2, rfl, rfl, ?_⟩
      have hz := hnm ns[i] (List.getElem_mem hin)
      have val : ∀ H7, Same H6 H7 → ∀ q, H7 q = none → True := fun _ _ _ _ => trivial
      refine ⟨_, rfl, ite2 (fun _ => ?_) (fun _ => ?_)⟩
      · refine iteBt rfl ⟨_, rfl, _, rfl, ml, _, _, _, rfl, rfl, SqL.of hm6, hat, (by show 2 ≤ sizeLine; decide), fun q nq => fin H6 _ (fun b o e => e) hz q nq⟩
      · refine ⟨_, rfl, _, rfl, _, rfl, ml, _, rfl, SqL.of hm6, fun q nq => ?_⟩
        rw [cutTo (by omega), ← List.map_take]
        refine ⟨q, _, rfl, .inl (SqL.of upd_same), rfl, List.all_eq_true.mpr fun y hy => ?_, ?_⟩
        · obtain ⟨z, _, rfl⟩ := List.mem_map.mp hy
          rfl
        have s7 : Same H6 (upd H6 q (.lst ((ns.take (((i : Nat) : Int)).toNat).map V.int))) := same_upd nq
        generalize upd H6 q (.lst ((ns.take (((i : Nat) : Int)).toNat).map V.int)) = H7 at s7
        refine ⟨_, rfl, ite2 (fun _ => ?_) (fun _ => ?_)⟩
        · exact ⟨_, rfl, _, rfl, ml, _, _, _, rfl, rfl, SqL.of (s7 _ _ hm6), hat, (by show 2 ≤ sizeLine; decide), fun q nq => fin H7 _ s7 hz q nq⟩
        · exact ⟨(by show 2 ≤ sizeLine; decide), fun q nq => fin H7 1 s7 ⟨by decide, by decide⟩ q nq⟩
    · rintro σ' H5 ⟨v5, v6, vs, rs, rfl, hf, hp, hr, hr2, hr0, hs5, hb5⟩
      have hl := congrArg List.length hr
      rw [List.length_map, List.length_cons] at hl
      have hv := Paired.length hp
      refine ⟨_, rfl, _, rfl, st, fd, vs, B + 30, cl, rfl, hf, by omega, hs5, by omega, fun l ys H6 nl hperm hl6 hs6 hb6 => ?_⟩
      obtain ⟨ps, hps, hp2⟩ := paired_perm hperm hp
      refine k l ps H6 (hb5.free nl (hs5.new nl).1) ⟨ys, hl6, Paired.mono (fun _ _ q => q.but hs5 hb6) hp2⟩ (RowsOk.perm ⟨by omega, by rw [hr]; exact hwd, fun r hr' => ⟨hwm _ (by rw [← hr]; exact List.mem_map_of_mem hr'), hr2 r hr'⟩, ⟨_, hr0, rfl⟩⟩ hps) (hs6.mono (by omega)) (hb5.trans hb6)
end
end KB

namespace KB
open PySem PySem.Spec PyProof.Rows L2 C8
abbrev sLabels : Stmt := top 26
inductive D where
  | fl (x : V)
  | emp
  | sq (xs : List D)
mutual
def sz : D → Nat
  | .fl _ => 1
  | .emp => 1
  | .sq xs => 1 + szs xs
def szs : List D → Nat
  | [] => 0
  | x :: xs => sz x + szs xs
end
def many (rs : List Rw) (z : Str) : Option Int := ((rs ++ [(("keep" : Str), (1 : Int))]).find? fun r => r.1 == z).map (·.2)
mutual
def isT (rs : List Rw) : D → Bool
  | .sq (.fl (.str z) :: cs) => match many rs z with
    | some m => decide ((cs.length : Int) = m) && isTs rs cs
    | none => false
  | _ => false
def isTs (rs : List Rw) : List D → Bool
  | [] => true
  | x :: xs => isT rs x && isTs rs xs
end
def hdOk : List D → Bool
  | .emp :: _ => false
  | _ => true
mutual
/-- v stands for the data d; F: where its lists may stand -/
def DAt (F : Addr → Prop) (H : Hp) : V → D → Prop
  | v, .fl x => v = x ∧ flatV x = true
  | v, .emp => ∃ a, v = .ref a ∧ H a = some (.dK [])
  | v, .sq xs => ∃ a vs, v = .ref a ∧ (H a = some (.tup vs) ∨ (F a ∧ H a = some (.lst vs))) ∧ hdOk xs = true ∧ DAts F H vs xs
def DAts (F : Addr → Prop) (H : Hp) : List V → List D → Prop
  | [], [] => True
  | v :: vs, d :: ds => DAt F H v d ∧ DAts F H vs ds
  | _, _ => False
end
structure Hold (F : Addr → Prop) (H H' : Hp) : Prop where
  tup : ∀ a vs, H a = some (.tup vs) → H' a = some (.tup vs)
  dic : ∀ a, H a = some (.dK []) → H' a = some (.dK [])
  lst : ∀ a vs, F a → H a = some (.lst vs) → H' a = some (.lst vs)
mutual
theorem DAt.hold {F : Addr → Prop} {H H' : Hp} (h : Hold F H H') : ∀ (d : D) {v : V}, DAt F H v d → DAt F H' v d
  | .fl x, _, e => e
  | .emp, _, ⟨a, e, q⟩ => ⟨a, e, h.dic a q⟩
  | .sq xs, _, ⟨a, vs, e, q, o, k⟩ => ⟨a, vs, e, q.imp (h.tup a vs) fun ⟨e, q⟩ => ⟨e, h.lst a vs e q⟩, o, DAts.hold h xs k⟩
theorem DAts.hold {F : Addr → Prop} {H H' : Hp} (h : Hold F H H') : ∀ (ds : List D) {vs : List V}, DAts F H vs ds → DAts F H' vs ds
  | [], [], _ => trivial
  | d :: ds, v :: vs, ⟨k, t⟩ => ⟨DAt.hold h d k, DAts.hold h ds t⟩
  | [], _ :: _, k => k
  | _ :: _, [], k => k
end
mutual
theorem DAt.weak {F G : Addr → Prop} {H : Hp} (h : ∀ a, F a → G a) : ∀ (d : D) {v : V}, DAt F H v d → DAt G H v d
  | .fl x, _, e => e
  | .emp, _, e => e
  | .sq xs, _, ⟨a, vs, e, q, o, k⟩ => ⟨a, vs, e, q.imp id fun ⟨e, q⟩ => ⟨h _ e, q⟩, o, DAts.weak h xs k⟩
theorem DAts.weak {F G : Addr → Prop} {H : Hp} (h : ∀ a, F a → G a) : ∀ (ds : List D) {vs : List V}, DAts F H vs ds → DAts G H vs ds
  | [], [], _ => trivial
  | d :: ds, v :: vs, ⟨k, t⟩ => ⟨DAt.weak h d k, DAts.weak h ds t⟩
  | [], _ :: _, k => k
  | _ :: _, [], k => k
end
/-- tuples alone; lists too, other than this one -/
def nol : Addr → Prop := fun _ => False
def oth (st : Addr) : Addr → Prop := fun a => a ≠ st
theorem Hold.same {F : Addr → Prop} {H H' : Hp} (s : Same H H') : Hold F H H' := ⟨fun a _ => s a _, fun a => s a _, fun a _ _ => s a _⟩
theorem Hold.but {F : Addr → Prop} {B : Nat} {H H' : Hp} {st cl : Addr} (hs : StAt B H st cl) (hb : But st H H') (hF : ∀ a, F a → a ≠ st) : Hold F H H' := by
  obtain ⟨ns, i, c, h0, n, e1, _⟩ := hs
  refine ⟨fun a vs e => hb _ _ e (ne_of e e1 (by intro z; cases z)), fun a e => hb _ _ e (ne_of e e1 (by intro z; cases z)), fun a vs e q => hb _ _ q (hF a e)⟩
abbrev keepR : Rw := ("keep", 1)
def nums (rs : List Rw) : List Rw := rs ++ [keepR]
def labs (rs : List Rw) : List Str := (nums rs).map (·.1)
def kvOf (r : Rw) : Key × V := (Sum.inr r.1, V.int r.2)
theorem labs_nd {rs : List Rw} (h : RowsOk rs) : (labs rs).Nodup := by
  unfold labs nums
  rw [List.map_append]
  refine List.nodup_append.mpr ⟨h.nd, by simp, fun a ha b hb e => ?_⟩
  have hb := List.mem_singleton.mp hb
  subst e hb
  obtain ⟨r, hr, e⟩ := List.mem_map.mp ha
  have := (h.mem r hr).1
  rw [e] at this
  revert this
  decide +kernel
theorem valV_rows (z : Str) : ∀ rs : List Rw, valV (rs.map kvOf) (Sum.inr z) = (rs.find? fun r => r.1 == z).map fun r => V.int r.2
  | [] => rfl
  | r :: rs => by
    rw [List.map_cons, List.find?_cons]
    by_cases e : r.1 = z
    · rw [valV_pos (p := kvOf r) (by show Sum.inr r.1 = _; rw [e]), show (r.1 == z) = true from beq_iff_eq.mpr e]
      rfl
    · rw [valV_neg (p := kvOf r) (by show ¬ (Sum.inr r.1 = (Sum.inr z : Key)); intro h; exact e (Sum.inr.inj h)), show (r.1 == z) = false from beq_eq_false_iff_ne.mpr e]
      exact valV_rows z rs
theorem valV_nums (rs : List Rw) (z : Str) : valV ((nums rs).map kvOf) (Sum.inr z) = (many rs z).map V.int := by
  rw [valV_rows]
  unfold many nums
  rw [Option.map_map]
  rfl
theorem merge_nd : ∀ {more acc : List (Key × V)}, ((acc ++ more).map (·.1)).Nodup → mergeK acc more = acc ++ more
  | [], acc, _ => by rw [List.append_nil]; rfl
  | p :: more, acc, h => by
    have e : putK acc p.1 p.2 = acc ++ [p] := putK_new p.2 (by
      unfold valV
      rw [List.find?_eq_none.mpr fun q hq => ?_]
      · rfl
      · rw [decide_eq_true_eq]
        intro e
        rw [List.map_append, List.nodup_append] at h
        exact h.2.2 _ (List.mem_map_of_mem hq) _ (List.mem_map_of_mem List.mem_cons_self) e)
    show mergeK (putK acc p.1 p.2) more = _
    rw [e, merge_nd (by rw [List.append_assoc]; exact h), List.append_assoc]
    rfl
theorem merge_nums {rs : List Rw} (h : RowsOk rs) : mergeK [] ((nums rs).map kvOf) = (nums rs).map kvOf := by
  refine merge_nd ?_
  rw [List.nil_append, List.map_map]
  have e : (nums rs).map ((·.1) ∘ kvOf) = (labs rs).map (Sum.inr : Str → Key) := by unfold labs; rw [List.map_map]; rfl
  rw [e]
  exact List.Pairwise.map _ (fun a b h e => h (Sum.inr.inj e)) (labs_nd h)
theorem paired_get {α β : Type} {R : α → β → Prop} {xs : List α} {ys : List β} (h : Paired R xs ys) : ∀ {i : Nat} {x : α}, xs[i]? = some x → ∃ y, ys[i]? = some y ∧ R x y := by
  induction h with
  | nil => intro i x e; cases e
  | cons q p ih =>
    intro i x e
    cases i with
    | zero => cases e; exact ⟨_, rfl, q⟩
    | succ i => exact ih e
theorem getD_at {xs : List V} {i : Nat} (h : i < xs.length) : xs[i]? = some (xs.getD i .non) := by rw [List.getD_eq_getElem?_getD, List.getElem?_eq_getElem h] <;> rfl
theorem many_mem {rs : List Rw} (h : RowsOk rs) {r : Rw} (hr : r ∈ nums rs) : many rs r.1 = some r.2 := by
  have nd := labs_nd h
  unfold labs at nd
  unfold many
  show ((nums rs).find? _).map _ = _
  generalize nums rs = l at hr nd
  induction l with
  | nil => cases hr
  | cons q l ih =>
    rw [List.map_cons, List.nodup_cons] at nd
    rw [List.find?_cons]
    rcases List.mem_cons.mp hr with rfl | hr
    · rw [show (r.1 == r.1) = true from beq_self_eq_true _]
      rfl
    · rw [show (q.1 == r.1) = false from beq_eq_false_iff_ne.mpr fun e => nd.1 (by rw [e]; exact List.mem_map_of_mem hr)]
      exact ih hr nd.2
theorem many_lab {rs : List Rw} (h : RowsOk rs) {z : Str} (hz : z ∈ labs rs) : ∃ n, many rs z = some n ∧ 0 ≤ n ∧ n ≤ 2 := by
  obtain ⟨r, hr, rfl⟩ := List.mem_map.mp hz
  refine ⟨r.2, many_mem h hr, ?_⟩
  rcases List.mem_append.mp hr with h' | h'
  · exact (h.mem r h').2
  · rw [List.mem_singleton.mp h']; exact ⟨by decide, by decide⟩
theorem many_some {rs : List Rw} {z : Str} {n : Int} (e : many rs z = some n) : z ∈ labs rs := by
  unfold many at e
  cases e' : ((rs ++ [(("keep" : Str), (1 : Int))]).find? fun r => r.1 == z) with
  | none => rw [e'] at e; cases e
  | some r =>
    have := List.find?_some e'
    have hm := List.mem_of_find?_eq_some e'
    rw [← beq_iff_eq.mp this]
    exact List.mem_map_of_mem hm
def spMany : Sp := fun vs H Q _ => ∃ (l : Addr) (z : Str) (rs : List Rw) (n : Int), vs = [.ref l, .str z] ∧ RowsAt H l rs ∧ RowsOk rs ∧ many rs z = some n ∧ ∀ H', Same H H' → Q (.int n) H'
def spLabels : Sp := fun vs H Q _ => ∃ (l : Addr) (rs : List Rw), vs = [.ref l] ∧ RowsAt H l rs ∧ RowsOk rs ∧ ∀ q H', H q = none → Same H H' → H' q = some (.lst ((labs rs).map V.str)) → Q (.ref q) H'
abbrev NLab : List Str := ["_law_rows_here", "_law_label", "_law_many"]
theorem scLabels : FnScope NLab ["_law_rows_here"] (fnScope sLabels) := fnScope_by (by decide +kernel)
section
variable {P : Program} {w : World} {K : PySem.W.Frag} {mg : Str → Option Value} {base : Heap}
theorem rows_refs {H : Hp} {vs : List V} {rs : List Rw} (h : Paired (RowV H) vs rs) : ∃ ts : List Addr, vs = ts.map V.ref ∧ Paired (fun t (kv : Key × V) => SqT K H t [kV kv.1, kv.2]) ts (rs.map kvOf) := by
  induction h with
  | nil => exact ⟨[], rfl, .nil⟩
  | cons q _ ih =>
    obtain ⟨ts, rfl, p⟩ := ih
    obtain ⟨t, rfl, e⟩ := q
    exact ⟨t :: ts, rfl, .cons (SqT.of e) p⟩
theorem c_labels {f : Addr} {fd : FuncData} (F : Def K mg "_law_labels" sLabels f fd) (b : Binds K fd ["_law_rows_here"] []) (T : Blt4 mg) : Cal P w K mg base 1 "_law_labels" spLabels [] := by
  refine cal0 F b .nil scLabels (fun vs H Q E h => ?_) (fun cdv A outer s H vs Q E hr h => ?_)
  · obtain ⟨l, rs, rfl, _⟩ := h
    rfl
  · obtain ⟨l, rs, rfl, ⟨us, hl, hp⟩, ok, k⟩ := h
    have nd := scLabels.nd
    refine ⟨_, pss_one (ps_ret (pe_op op_cat (pe_lc (own := [("_law_label", 1), ("_law_many", 2)]) (g := gTup K 2 (gCons (gName 1) (gCons (gName 2) gNil))) (tt := tYes) rfl nd (pi_list (pv 0)) (blkOk_by (N := NLab) (sc := fnScope sLabels) (by decide +kernel))
        (fun _ _ _ _ _ => pg_tup rfl (pgs_cons (pg_name (i := 1) nd rfl (Or.inl rfl)) (pgs_cons (pg_name (i := 2) nd rfl (Or.inl rfl)) pgs_nil))) (fun _ _ _ _ _ => pts_nil) (fun _ _ _ _ _ => pv 1)) (pe_lst (pa_cons pe_str pa_nil)))), ?_⟩
    have hlen := Paired.length hp
    have hok := ok.len
    refine ⟨_, rfl, l, rfl, ⟨us, SqL.of hl⟩, fun D nD => ?_⟩
    refine lc_gen (J := Itl K l) rs.length (fun i H' => H' D = some (.lst ((rs.take i).map fun r => V.str r.1)) ∧ Same H H') ⟨upd_same, same_upd nD⟩ (fun i H' hi ⟨_, sm⟩ => ⟨us, us.getD i .non, SqL.of (sm _ _ hl), by rw [List.getD_eq_getElem?_getD, List.getElem?_eq_getElem (by omega)]; rfl⟩)
      (fun H' ⟨_, sm⟩ => ⟨us, SqL.of (sm _ _ hl), by omega⟩) (fun i H' v H'' hi ⟨hD, sm⟩ yl => ?_) (fun H' ⟨hD, sm⟩ => ?_)
    · obtain ⟨rfl, hx⟩ := yl
      have hx := hx _ (SqL.of (sm _ _ hl))
      obtain ⟨r, hr, t, rfl, ht⟩ := paired_get hp hx
      refine ⟨t, [.str r.1, .int r.2], rfl, SqT.of (sm _ _ ht), rfl, .str r.1, [.int r.2], rfl, .int r.2, [], rfl, rfl, rfl, ?_⟩
      unfold tYes
      dsimp only
      rw [if_pos rfl]
      refine ⟨_, rfl, _, hD, by rw [List.length_map, List.length_take, sizeLine_eq]; omega, ?_, fun b o e => by rw [upd_ne (ne_of_none e nD)]; exact sm _ _ e⟩
      obtain ⟨hlt, e⟩ := List.getElem?_eq_some_iff.mp hr
      rw [upd_same, List.take_succ_eq_append_getElem hlt, List.map_append, e]
      rfl
    · rw [List.take_of_length_le (Nat.le_refl _)] at hD
      refine ⟨(by show 1 ≤ sizeLine; decide), fun q nq => ⟨D, q, _, _, rfl, rfl, by rw [upd_ne (ne_of_none hD nq)]; exact hD, upd_same, by rw [List.length_map, sizeLine_eq]; simp; omega, fun c nc => ?_⟩⟩
      have s2 : Same H _ := sm.trans ((same_upd nq (o := .lst [.str "keep"])).trans (same_upd nc (o := .lst ((rs.map fun r => V.str r.1) ++ [.str "keep"]))))
      refine k c _ (same_free (sm.trans (same_upd nq)) nc) s2 (by rw [upd_same]; unfold labs nums; rw [List.map_append, List.map_append, List.map_map]; rfl)
end
end KB

namespace KB
open PySem PySem.Spec PyProof.Rows L2 C8 XE
theorem isTs_get {rs : List Rw} : ∀ {cs : List D}, isTs rs cs = true → ∀ {i : Nat} {c : D}, cs[i]? = some c → isT rs c = true
  | [], _, i, c, e => by cases e
  | x :: xs, h, i, c, e => by
    rw [isTs, Bool.and_eq_true] at h
    cases i with
    | zero => cases e; exact h.1
    | succ i => exact isTs_get h.2 e
theorem szs_get : ∀ {cs : List D} {i : Nat} {c : D}, cs[i]? = some c → sz c ≤ szs cs
  | [], i, c, e => by cases e
  | x :: xs, i, c, e => by
    rw [szs]
    cases i with
    | zero => cases e; omega
    | succ i => have := szs_get (cs := xs) (i := i) e; omega
theorem szs_app : ∀ (a b : List D), szs (a ++ b) = szs a + szs b
  | [], b => by rw [List.nil_append, szs, Nat.zero_add]
  | x :: a, b => by rw [List.cons_append, szs, szs, szs_app a b, Nat.add_assoc]
theorem sz_pos : ∀ d : D, 1 ≤ sz d
  | .fl _ => Nat.le_refl _
  | .emp => Nat.le_refl _
  | .sq xs => by rw [sz]; omega
theorem len_szs : ∀ cs : List D, cs.length ≤ szs cs
  | [] => Nat.le_refl _
  | x :: xs => by rw [szs, List.length_cons]; have := len_szs xs; have := sz_pos x; omega
theorem DAts.len {F : Addr → Prop} {H : Hp} : ∀ {ds : List D} {vs : List V}, DAts F H vs ds → vs.length = ds.length
  | [], [], _ => rfl
  | d :: ds, v :: vs, ⟨_, t⟩ => congrArg (· + 1) (DAts.len t)
  | [], _ :: _, k => (show False from k).elim
  | _ :: _, [], k => (show False from k).elim
theorem DAts.get {F : Addr → Prop} {H : Hp} : ∀ {ds : List D} {vs : List V}, DAts F H vs ds → ∀ {i : Nat} {v : V}, vs[i]? = some v → ∃ d, ds[i]? = some d ∧ DAt F H v d
  | [], [], _, i, v, e => by cases e
  | d :: ds, v :: vs, ⟨k, t⟩, i, v', e => by
    cases i with
    | zero => cases e; exact ⟨d, rfl, k⟩
    | succ i => exact DAts.get t e
  | [], _ :: _, k, _, _, _ => (show False from k).elim
  | _ :: _, [], k, _, _, _ => (show False from k).elim
theorem paired_app {α β : Type} {R : α → β → Prop} {a c : List α} {b d : List β} (h : Paired R a b) (h' : Paired R c d) : Paired R (a ++ c) (b ++ d) := by
  induction h with
  | nil => exact h'
  | cons q _ ih => exact .cons q ih
theorem not_whole {n : Nat} {i : Int} {o : Option Int} (h : 0 < i) (hn : 0 < n) : ¬ (HT.sIx n 0 (some i) = 0 ∧ HT.sIx n n o = n) := by
  intro z
  have z := z.1
  unfold HT.sIx at z
  dsimp only at z
  rw [if_neg (by omega)] at z
  omega
theorem not_whole_hi {n : Nat} {i : Int} {o : Option Int} (h : 0 ≤ i) (hn : i < n) : ¬ (HT.sIx n 0 o = 0 ∧ HT.sIx n n (some i) = n) := by
  intro z
  have z := z.2
  unfold HT.sIx at z
  dsimp only at z
  rw [if_neg (by omega)] at z
  omega
theorem DAts.app {F : Addr → Prop} {H : Hp} : ∀ {ds es : List D} {vs us : List V}, DAts F H vs ds → DAts F H us es → DAts F H (vs ++ us) (ds ++ es)
  | [], es, [], us, _, h => h
  | d :: ds, es, v :: vs, us, ⟨k, t⟩, h => ⟨k, DAts.app t h⟩
  | [], _, _ :: _, _, k, _ => (show False from k).elim
  | _ :: _, _, [], _, k, _ => (show False from k).elim
theorem DAts.take {F : Addr → Prop} {H : Hp} : ∀ {ds : List D} {vs : List V} (n : Nat), DAts F H vs ds → DAts F H (vs.take n) (ds.take n)
  | _, _, 0, _ => trivial
  | [], [], n + 1, _ => trivial
  | d :: ds, v :: vs, n + 1, ⟨k, t⟩ => ⟨k, DAts.take n t⟩
  | [], _ :: _, _ + 1, k => (show False from k).elim
  | _ :: _, [], _ + 1, k => (show False from k).elim
theorem DAts.drop {F : Addr → Prop} {H : Hp} : ∀ {ds : List D} {vs : List V} (n : Nat), DAts F H vs ds → DAts F H (vs.drop n) (ds.drop n)
  | _, _, 0, k => k
  | [], [], n + 1, _ => trivial
  | d :: ds, v :: vs, n + 1, ⟨_, t⟩ => DAts.drop n t
  | [], _ :: _, _ + 1, k => (show False from k).elim
  | _ :: _, [], _ + 1, k => (show False from k).elim
end KB

namespace KB
open PySem PySem.Spec PyProof.Rows L2 C8 XE
abbrev sLoose : Stmt := top 27
def isSq : D → Bool
  | .sq _ => true
  | _ => false
def isSt : D → Bool
  | .fl (.str _) => true
  | _ => false
theorem d_ty {K : PySem.W.Frag} {F : Addr → Prop} {H : Hp} {v : V} : ∀ {d : D}, DAt F H v d → ∃ T, (∀ H', Same H H' → TyX K H' v (.type T)) ∧ PySem.W.kitAny K (.type T) [.type "list", .type "tuple"] = some (isSq d) ∧ PySem.W.kitOne K (.type T) (.type "str") = some (isSt d) := by
  have z : ∀ T ∈ ["NoneType", "bool", "int", "str", "dict", "list", "tuple"], kitB T "list" = some (T == "list") ∧ kitB T "tuple" = some (T == "tuple") ∧ kitB T "str" = some (T == "str") := by decide +kernel
  have mk : ∀ (T : String) (b c : Bool), T ∈ ["NoneType", "bool", "int", "str", "dict", "list", "tuple"] → (T == "list" || T == "tuple") = b → (T == "str") = c → PySem.W.kitAny K (.type T) [.type "list", .type "tuple"] = some b ∧ PySem.W.kitOne K (.type T) (.type "str") = some c := by
    intro T b c hT e1 e2
    obtain ⟨h1, h2, h3⟩ := z T hT
    refine ⟨kitAny_cons (kit_ty h1) (fun e => ?_) (fun e => ?_), by rw [kit_ty h3, e2]⟩
    · rw [e, Bool.false_or] at e1
      exact kitAny_cons (b := (T == "tuple")) (kit_ty h2) (fun e' => by rw [← e1, e']; exact kitAny_nil) fun e' => by rw [← e1, e']
    · rw [e] at e1
      rw [← e1]; rfl
  intro d h
  cases d with
  | fl x =>
    obtain ⟨rfl, fx⟩ := h
    cases v with
    | non => exact ⟨"NoneType", fun _ _ => .base .non, mk _ _ _ (by decide) rfl rfl⟩
    | bl b => exact ⟨"bool", fun _ _ => .base (.bl b), mk _ _ _ (by decide) rfl rfl⟩
    | int i => exact ⟨"int", fun _ _ => .base (.int i), mk _ _ _ (by decide) rfl rfl⟩
    | str z => exact ⟨"str", fun _ _ => .base (.str z), mk _ _ _ (by decide) rfl rfl⟩
    | _ => cases fx
  | emp =>
    obtain ⟨a, rfl, q⟩ := h
    exact ⟨"dict", fun H' s => .base (.dK (s _ _ q)), mk _ _ _ (by decide) rfl rfl⟩
  | sq xs =>
    obtain ⟨a, vs, rfl, q, _⟩ := h
    rcases q with q | ⟨_, q⟩
    · exact ⟨"tuple", fun H' s => .base (.tup (s _ _ q)), mk _ _ _ (by decide) rfl rfl⟩
    · exact ⟨"list", fun H' s => .base (.lst (s _ _ q)), mk _ _ _ (by decide) rfl rfl⟩
def spLoose (N : Nat) : Sp := fun vs H Q _ => ∃ (st : Addr) (v : V) (d : D) (B : Nat) (cl : Addr), vs = [.ref st, v] ∧ DAt (oth st) H v d ∧ sz d ≤ N ∧ sz d ≤ 1000 ∧ StAt B H st cl ∧ B + sz d < 1000000000000000 ∧
  ∀ (v' : V) (H' : Hp), DAt (fun a => H a = none) H' v' d → StAt (B + sz d) H' st cl → But st H H' → Q v' H'
abbrev NLo : List Str := ["_law_state", "_law_thing", "_law_found", "_law_x"]
theorem scLoose : FnScope NLo ["_law_state", "_law_thing"] (fnScope sLoose) := fnScope_by (by decide +kernel)
theorem szs_take_succ {xs : List D} {i : Nat} (h : i < xs.length) : szs (xs.take (i + 1)) = szs (xs.take i) + sz xs[i] := by
  rw [List.take_succ_eq_append_getElem h, szs_app]
  rfl
theorem szs_take_le (xs : List D) (i : Nat) : szs (xs.take i) ≤ szs xs := by
  have : szs (xs.take i) + szs (xs.drop i) = szs xs := by rw [← szs_app, List.take_append_drop]
  omega
section
variable {P : Program} {w : World} {K : PySem.W.Frag} {mg : Str → Option Value} {base : Heap}
theorem loose_step {k : Nat} {N : Nat} {f : Addr} {fd : FuncData} (F : Def K mg "_law_loose" sLoose f fd) (b : Binds K fd ["_law_state", "_law_thing"] []) (T : Blt4 mg) (hk : 1 ≤ k) (C : Cal P w K mg base 1 "_law_take" spTake []) (CL : Cal P w K mg base k "_law_loose" (spLoose N) []) : Cal P w K mg base (k + 1) "_law_loose" (spLoose (N + 1)) [] := by
  refine cal0 F b .nil scLoose (fun vs H Q E h => ?_) (fun cdv A outer s H vs Q E hr h => ?_)
  · obtain ⟨st, v, d, B, cl, rfl, _⟩ := h
    rfl
  · obtain ⟨st, v, d, B, cl, rfl, hv, h0, h1, hst, hB, kk⟩ := h
    have nd := scLoose.nd
    refine ⟨_, pss_cons (ps_if (pt_val (pe_callB call_isiT (by rfl) T.isi (by decide +kernel) (pa_cons (pv 1) (pa_cons (pe_tup (pa_cons (pe_bt "list" T.list) (pa_cons (pe_bt "tuple" T.tup) pa_nil))) pa_nil))))
        (pss_cut (ps_setLc (i := 2) (own := [("_law_x", 3)]) (g := gName 3) (tt := tYes) rfl nd rfl rfl (by rfl) (PI.or (pi_list (pv 1)) (pi_tup (pv 1))) (blkOk_by (N := NLo) (sc := fnScope sLoose) (by decide +kernel)) (fun _ _ _ _ _ => pg_name (i := 3) nd rfl (Or.inl rfl)) (fun _ _ _ _ _ => pts_nil)
            (fun _ _ _ _ _ => pe_c CL hr (Nat.le_refl _) (by rfl) (pa_cons (pv 0) (pa_cons (pv 3) pa_nil))))
        (pss_one (ps_ret (pe_ifExp (pt_cmp (pc_eqI (pe_c C hr hk (by rfl) (pa_cons (pv 0) (pa_cons pe_int pa_nil))) pe_int)) (pv 2) (pe_callTy call_tuple_of (by rfl) T.tup (by decide +kernel) (pa_cons (pv 2) pa_nil))))))
        pss_nil)
      (pss_one (ps_ret (pv 1))), ?_⟩
    obtain ⟨Ty, ty, k1, _⟩ := d_ty (K := K) hv
    refine ⟨_, rfl, (by show 2 ≤ sizeLine; decide), fun p np => ⟨v, p, [.ty "list", .ty "tuple"], _, _, isSq d, rfl, upd_same, .cons (.ty _) (.cons (.ty _) .nil), ty _ (same_upd np), k1, isSq d, rfl, ?_⟩⟩
    have s1 : Same H (upd H p (.tup [.ty "list", .ty "tuple"])) := same_upd np
    generalize upd H p (.tup [.ty "list", .ty "tuple"]) = H1 at s1
    have hs1 := hst.same s1
    cases d with
    | fl x => exact iteF ⟨_, rfl, kk v H1 (DAt.hold (.same s1) (.fl x) hv) (hs1.mono (by omega)) (Same.but s1)⟩
    | emp => exact iteF ⟨_, rfl, kk v H1 (DAt.hold (.same s1) .emp hv) (hs1.mono (by omega)) (Same.but s1)⟩
    | sq xs =>
      obtain ⟨a, vs, rfl, q, ho, hxs⟩ := hv
      have hlen := hxs.len
      have hll := len_szs xs
      have hsz : sz (.sq xs) = 1 + szs xs := rfl
      rw [hsz] at h0 h1 hB
      refine iteT ?_
      refine ⟨fun σ H' => ∃ (Dd : Addr) (ys : List V), σ = [some (.ref st), some (.ref a), some (.ref Dd), none] ∧ H' Dd = some (.lst ys) ∧ DAts (fun a => H a = none) H' ys xs ∧ StAt (B + szs xs) H' st cl ∧ But st H H' ∧ H Dd = none, ?_, ?_⟩
      · -- the walk, over a list or a tuple
        have walk : ∀ (J : It), (∀ i H', i < xs.length → But st H H' → J.go i H') → (∀ H', But st H H' → J.stop xs.length H') → (∀ i H' x H'', But st H H' → J.yld i H' x H'' → H'' = H' ∧ vs[i]? = some x) → ∀ Da, H1 Da = none →
            ∃ W : Nat → Nat → Hp → Prop, (∃ m, W 0 m (upd H1 Da (.lst []))) ∧ ∀ i m H', W i m H' → (J.stop i H' ∧ gName 2 (.ref Da) (start NLo [V.ref st, V.ref a]) H' fun σ H' => ∃ (Dd : Addr) (ys : List V), σ = [some (.ref st), some (.ref a), some (.ref Dd), none] ∧ H' Dd = some (.lst ys) ∧ DAts (fun a => H a = none) H' ys xs ∧ StAt (B + szs xs) H' st cl ∧ But st H H' ∧ H Dd = none) ∨
              (J.go i H' ∧ ∃ Nx : Hp → Prop, (∀ H'', Nx H'' → ∃ m', m' < m ∧ W (i + 1) m' H'') ∧ ∀ x H'', J.yld i H' x H'' → gName 3 x (wipe (start NLo [V.ref st, V.ref a]) [3]) H'' fun σ2 H2 => wipe σ2 [3] = wipe (start NLo [V.ref st, V.ref a]) [3] ∧ tYes σ2 H2 fun b H3 =>
                if b = true then tCall (spLoose N) [] C8.E0 (tCons (tVar 0) (tCons (tVar 3) tNil)) σ2 H3 fun y H4 => ∃ acc, H4 Da = some (.lst acc) ∧ acc.length < sizeLine ∧ Nx (upd H4 Da (.lst (acc ++ [y]))) else Nx H3) := by
          intro J jgo jst jyl Da nDa
          have nDH : H Da = none := same_free s1 nDa
          obtain ⟨Ds, Dc⟩ := hst.new nDH
          refine lc_gen (J := J) xs.length (fun i H' => ∃ ys, H' Da = some (.lst ys) ∧ DAts (fun a => H a = none ∧ a ≠ Da) H' ys (xs.take i) ∧ StAt (B + szs (xs.take i)) H' st cl ∧ But st H H') ⟨[], upd_same, trivial, (hs1.put Ds Dc).mono (Nat.le_add_right _ _), (Same.but s1).upd nDH⟩
            (fun i H' hi ⟨_, _, _, _, bb⟩ => jgo i H' hi bb) (fun H' ⟨_, _, _, _, bb⟩ => jst H' bb) (fun i H' x H'' hi ⟨ys, hD, hys, hs, bb⟩ yl => ?_) (fun H' ⟨ys, hD, hys, hs, bb⟩ => ?_)
          · obtain ⟨rfl, hx⟩ := jyl i H' x H'' bb yl
            obtain ⟨dd, hd, hxd⟩ := hxs.get hx
            obtain ⟨_, ed⟩ := List.getElem?_eq_some_iff.mp hd
            have hts := szs_take_succ hi
            have htl := szs_take_le xs (i + 1)
            rw [ed] at hts
            refine ⟨rfl, ?_⟩
            unfold tYes
            dsimp only
            rw [if_pos rfl]
            refine ⟨_, rfl, _, rfl, st, x, dd, B + szs (xs.take i), cl, rfl, DAt.hold (.but hst bb fun _ h => h) _ hxd, by omega, by omega, hs, by omega, fun v' H5 hv' hs5 b5 => ?_⟩
            have hD5 := b5 _ _ hD Ds
            have hyl := hys.len
            rw [List.length_take] at hyl
            have bb5 := bb.trans b5
            refine ⟨ys, hD5, by rw [sizeLine_eq]; omega, ys ++ [v'], upd_same, ?_, by rw [hts, ← Nat.add_assoc]; exact hs5.put Ds Dc, bb5.upd nDH⟩
            rw [List.take_succ_eq_append_getElem hi, ed]
            have keepD : ∀ {G : Addr → Prop}, (∀ a, G a → a ≠ Da) → Hold G H5 (upd H5 Da (.lst (ys ++ [v']))) := fun hG => ⟨fun a _ e => by rw [upd_ne (ne_of e hD5 (by intro z; cases z))]; exact e, fun a e => by rw [upd_ne (ne_of e hD5 (by intro z; cases z))]; exact e, fun a _ g e => by rw [upd_ne (hG a g)]; exact e⟩
            refine DAts.app (DAts.hold (keepD fun a g => g.2) _ (DAts.hold (.but hs b5 fun a g => (hst.new g.1).1) _ hys)) ⟨?_, trivial⟩
            have nn : ∀ a, H'' a = none → H a = none ∧ a ≠ Da := fun a g => ⟨bb.free g (hs.new g).1, fun z => by rw [z, hD] at g; cases g⟩
            exact DAt.hold (keepD fun a g => g.2) _ (DAt.weak nn _ hv')
          · rw [List.take_of_length_le (Nat.le_refl _)] at hys hs
            exact ⟨Da, ys, rfl, hD, DAts.weak (fun _ g => g.1) _ hys, hs, bb, nDH⟩
        have stt : ∀ {o : HO} {H' : Hp}, But st H H' → H a = some o → a ≠ st → H' a = some o := fun bb e n => bb _ _ e n
        rcases q with q | ⟨hF, q⟩
        · have ne : a ≠ st := by
            obtain ⟨ns, i, c, h0, n, e1, _⟩ := hst
            exact ne_of q e1 (by intro z; cases z)
          refine .inr ⟨_, rfl, a, rfl, ⟨_, SqT.of (s1 _ _ q)⟩, walk (Itt K a) (fun i H' hi bb => ⟨vs, vs.getD i .non, SqT.of (bb _ _ q ne), getD_at (by omega)⟩) (fun H' bb => ⟨vs, SqT.of (bb _ _ q ne), by omega⟩) (fun i H' x H'' bb yl => ⟨yl.1, yl.2 _ (SqT.of (bb _ _ q ne))⟩)⟩
        · refine .inl ⟨_, rfl, a, rfl, ⟨_, SqL.of (s1 _ _ q)⟩, walk (Itl K a) (fun i H' hi bb => ⟨vs, vs.getD i .non, SqL.of (bb _ _ q hF), getD_at (by omega)⟩) (fun H' bb => ⟨vs, SqL.of (bb _ _ q hF), by omega⟩) (fun i H' x H'' bb yl => ⟨yl.1, yl.2 _ (SqL.of (bb _ _ q hF))⟩)⟩
      · rintro σ H2 ⟨Dd, ys, rfl, hD, hys, hs, bb, nD⟩
        obtain ⟨Ds, Dc⟩ := hst.new nD
        refine ⟨_, rfl, st, 2, B + szs xs, cl, rfl, by decide, by decide, hs, by omega, fun dg H3 _ _ hs3 b3 => ⟨dg, 0, rfl, rfl, _, rfl, ?_⟩⟩
        have hD3 := b3 _ _ hD Ds
        have hs3 : StAt (B + sz (.sq xs)) H3 st cl := by rw [hsz, Nat.add_comm 1, ← Nat.add_assoc]; exact hs3
        have hy3 := DAts.hold (.but hs b3 fun a g => (hst.new g).1) _ hys
        refine ite2 (fun _ => ?_) (fun _ => ?_)
        · exact ⟨_, rfl, kk _ H3 ⟨Dd, ys, rfl, .inr ⟨nD, hD3⟩, ho, hy3⟩ hs3 (bb.trans b3)⟩
        · refine ⟨_, rfl, Dd, ys, rfl, .inl ⟨SqL.of hD3, fun l nl => ?_⟩⟩
          obtain ⟨la, lc⟩ := hs3.new nl
          exact kk _ _ ⟨l, ys, rfl, .inl upd_same, ho, DAts.hold (.same (same_upd nl)) _ hy3⟩ (hs3.put la lc) ((bb.trans b3).trans (Same.but (same_upd nl)))
theorem c_loose {f : Addr} {fd : FuncData} (F : Def K mg "_law_loose" sLoose f fd) (b : Binds K fd ["_law_state", "_law_thing"] []) (T : Blt4 mg) (C : Cal P w K mg base 1 "_law_take" spTake []) : ∀ N : Nat, Cal P w K mg base (1 + N) "_law_loose" (spLoose N) []
  | 0 => by
    have no : ∀ {vs H Q E}, spLoose 0 vs H Q E → False := fun ⟨_, _, d, _, _, _, _, h, _⟩ => by have := sz_pos d; omega
    exact cal0 F b .nil scLoose (fun vs H Q E h => (no h).elim) (fun cdv A outer s H vs Q E hr h => (no h).elim)
  | N + 1 => loose_step F b T (Nat.le_add_right 1 N) C (c_loose F b T C N)
end
end KB

namespace KB
open PySem PySem.Spec PyProof.Rows L2 C8 XE
/-! the program's looks at rows, of any data -/
abbrev sNum : Stmt := top 9
abbrev sRow : Stmt := top 10
abbrev sWord : Stmt := top 11
abbrev sLab : Stmt := top 14
def letters : Str := "abcdefghijklmnopqrstuvwxyz"
structure Gs (mg : Str → Option Value) : Prop where
  let_ : ∃ u, mg "LETTERS" = some u ∧ RelV (.str letters) u
  lon : ∃ u, mg "LONGEST_WORD" = some u ∧ RelV (.int 8) u
  kee : ∃ u, mg "KEEP" = some u ∧ RelV (.str "keep") u
def numB : D → Bool
  | .fl (.int _) => true
  | _ => false
def wordS (z : Str) : Bool := decide (1 ≤ z.length) && (decide (z.length ≤ 8) && z.cps.toList.all fun c => decide (c ∈ letters.cps.toList))
def wordB : D → Bool
  | .fl (.str z) => wordS z
  | _ => false
def numOk : D → Bool
  | .fl (.int n) => decide (0 ≤ n) && decide (n ≤ 2)
  | _ => false
def isKeep : D → Bool
  | .fl (.str z) => decide (z = ("keep" : Str))
  | _ => false
/-- a row of a label and a number -/
def labB : D → Bool
  | .sq [a, b] => (wordB a && !isKeep a) && numOk b
  | _ => false
theorem PG.or {X : Cx} {tg : Expr} {g g' : TG} (h : PG X tg g) (h' : PG X tg g') : PG X tg (fun v σ H Q => g v σ H Q ∨ g' v σ H Q) := ⟨fun pins s σ H v u Q I r q => q.elim (h.run pins s σ H v u Q I r) (h'.run pins s σ H v u Q I r)⟩
theorem d_ty2 {K : PySem.W.Frag} {F : Addr → Prop} {H : Hp} {v : V} : ∀ {d : D}, DAt F H v d → ∃ T, (∀ H', Same H H' → TyX K H' v (.type T)) ∧ PySem.W.kitAny K (.type T) [.type "list", .type "tuple"] = some (isSq d) ∧ PySem.W.kitOne K (.type T) (.type "str") = some (isSt d) ∧
    ∃ b, PySem.W.kitOne K (.type T) (.type "int") = some (numB d || b) ∧ PySem.W.kitOne K (.type T) (.type "bool") = some b ∧ (b = true → numB d = false) := by
  have z : ∀ T ∈ ["NoneType", "bool", "int", "str", "dict", "list", "tuple"], kitB T "list" = some (T == "list") ∧ kitB T "tuple" = some (T == "tuple") ∧ kitB T "str" = some (T == "str") ∧ kitB T "int" = some (T == "int" || T == "bool") ∧ kitB T "bool" = some (T == "bool") := by decide +kernel
  have mk : ∀ (T : String) (b c n : Bool), T ∈ ["NoneType", "bool", "int", "str", "dict", "list", "tuple"] → (T == "list" || T == "tuple") = b → (T == "str") = c → (T == "int") = n → PySem.W.kitAny K (.type T) [.type "list", .type "tuple"] = some b ∧ PySem.W.kitOne K (.type T) (.type "str") = some c ∧
      ∃ b, PySem.W.kitOne K (.type T) (.type "int") = some (n || b) ∧ PySem.W.kitOne K (.type T) (.type "bool") = some b ∧ (b = true → n = false) := by
    intro T b c n hT e1 e2 e3
    obtain ⟨h1, h2, h3, h4, h5⟩ := z T hT
    refine ⟨kitAny_cons (kit_ty h1) (fun e => ?_) (fun e => ?_), by rw [kit_ty h3, e2], T == "bool", by rw [kit_ty h4, e3], kit_ty h5, fun hb => ?_⟩
    · rw [e, Bool.false_or] at e1
      exact kitAny_cons (b := (T == "tuple")) (kit_ty h2) (fun e' => by rw [← e1, e']; exact kitAny_nil) fun e' => by rw [← e1, e']
    · rw [e] at e1
      rw [← e1]; rfl
    · rw [← e3, beq_iff_eq.mp hb]
      rfl
  intro d h
  cases d with
  | fl x =>
    obtain ⟨rfl, fx⟩ := h
    cases v with
    | non => exact ⟨"NoneType", fun _ _ => .base .non, mk _ _ _ _ (by decide) rfl rfl rfl⟩
    | bl b => exact ⟨"bool", fun _ _ => .base (.bl b), mk _ _ _ _ (by decide) rfl rfl rfl⟩
    | int i => exact ⟨"int", fun _ _ => .base (.int i), mk _ _ _ _ (by decide) rfl rfl rfl⟩
    | str z => exact ⟨"str", fun _ _ => .base (.str z), mk _ _ _ _ (by decide) rfl rfl rfl⟩
    | _ => cases fx
  | emp =>
    obtain ⟨a, rfl, q⟩ := h
    exact ⟨"dict", fun H' s => .base (.dK (s _ _ q)), mk _ _ _ _ (by decide) rfl rfl rfl⟩
  | sq xs =>
    obtain ⟨a, vs, rfl, q, _⟩ := h
    rcases q with q | ⟨_, q⟩
    · exact ⟨"tuple", fun H' s => .base (.tup (s _ _ q)), mk _ _ _ _ (by decide) rfl rfl rfl⟩
    · exact ⟨"list", fun H' s => .base (.lst (s _ _ q)), mk _ _ _ _ (by decide) rfl rfl rfl⟩
def spNum : Sp := fun vs H Q _ => ∃ (v : V) (d : D) (F : Addr → Prop), vs = [v] ∧ DAt F H v d ∧ Q (.bl (numB d)) H
def spRow : Sp := fun vs H Q _ => ∃ (v : V) (d : D) (F : Addr → Prop), vs = [v] ∧ DAt F H v d ∧ ∀ H', Same H H' → Q (.bl (isSq d)) H'
def spWord : Sp := fun vs H Q _ => ∃ (v : V) (d : D) (F : Addr → Prop), vs = [v] ∧ DAt F H v d ∧ (∀ z, d = .fl (.str z) → z.length ≤ 1000) ∧ ∀ H', Same H H' → Q (.bl (wordB d)) H'
/-- its texts are short -/
def shortD : D → Bool
  | .sq [.fl (.str z), _] => decide (z.length ≤ 1000)
  | _ => true
def spLab : Sp := fun vs H Q _ => ∃ (v : V) (d : D) (F : Addr → Prop), vs = [v] ∧ DAt F H v d ∧ shortD d = true ∧ ∀ H', Same H H' → Q (.bl (labB d)) H'
theorem scNum : FnScope ["thing"] ["thing"] (fnScope sNum) := fnScope_by (by decide +kernel)
theorem scRow : FnScope ["thing"] ["thing"] (fnScope sRow) := fnScope_by (by decide +kernel)
theorem scWord : FnScope ["thing", "letter"] ["thing"] (fnScope sWord) := fnScope_by (by decide +kernel)
theorem scLab : FnScope ["row", "label", "number"] ["row"] (fnScope sLab) := fnScope_by (by decide +kernel)
theorem isSt_inv {d : D} (h : isSt d = true) : ∃ z, d = .fl (.str z) := by
  cases d with
  | fl x => cases x with
    | str z => exact ⟨z, rfl⟩
    | _ => cases h
  | _ => cases h
theorem wordB_no {d : D} (h : isSt d = false) : wordB d = false := by
  cases d with
  | fl x => cases x with
    | str z => cases h
    | _ => rfl
  | _ => rfl
section
variable {P : Program} {w : World} {K : PySem.W.Frag} {mg : Str → Option Value} {base : Heap}
theorem c_num {f : Addr} {fd : FuncData} (F : Def K mg "is_number" sNum f fd) (b : Binds K fd ["thing"] []) (T : Blt4 mg) : Cal P w K mg base 1 "is_number" spNum [] := by
  refine cal0 F b .nil scNum (fun vs H Q E h => ?_) (fun cdv A outer s H vs Q E hr h => ?_)
  · obtain ⟨v, d, G, rfl, _⟩ := h
    rfl
  · obtain ⟨v, d, G, rfl, hv, k⟩ := h
    refine ⟨_, pss_one (ps_ret (pe_and (pe_callB call_isi (by rfl) T.isi (by decide +kernel) (pa_cons (pv 0) (pa_cons (pe_bt "int" T.int) pa_nil))) (pe_one (pe_not (pe_callB call_isi (by rfl) T.isi (by decide +kernel) (pa_cons (pv 0) (pa_cons (pe_bt "bool" T.boo) pa_nil))))))), ?_⟩
    obtain ⟨Ty, ty, _, _, bb, k1, k2, k3⟩ := d_ty2 (K := K) hv
    have ty0 := ty H fun _ _ e => e
    refine ⟨_, rfl, v, .ty "int", _, _, _, rfl, .ty _, ty0, k1, _, rfl, ?_⟩
    cases hn : numB d with
    | true =>
      have : bb = false := by
        cases bb with
        | false => rfl
        | true => have := k3 rfl; rw [hn] at this; cases this
      subst this
      refine iteBt rfl ⟨_, rfl, v, .ty "bool", _, _, _, rfl, .ty _, ty0, k2, _, rfl, ?_⟩
      rw [hn] at k
      exact k
    | false =>
      rw [hn] at k
      cases bb with
      | true => exact iteBt rfl ⟨_, rfl, v, .ty "bool", _, _, _, rfl, .ty _, ty0, k2, _, rfl, k⟩
      | false => exact iteBf rfl k
theorem c_row {f : Addr} {fd : FuncData} (F : Def K mg "is_row" sRow f fd) (b : Binds K fd ["thing"] []) (T : Blt4 mg) : Cal P w K mg base 1 "is_row" spRow [] := by
  refine cal0 F b .nil scRow (fun vs H Q E h => ?_) (fun cdv A outer s H vs Q E hr h => ?_)
  · obtain ⟨v, d, G, rfl, _⟩ := h
    rfl
  · obtain ⟨v, d, G, rfl, hv, k⟩ := h
    refine ⟨_, pss_one (ps_ret (pe_callB call_isiT (by rfl) T.isi (by decide +kernel) (pa_cons (pv 0) (pa_cons (pe_tup (pa_cons (pe_bt "list" T.list) (pa_cons (pe_bt "tuple" T.tup) pa_nil))) pa_nil)))), ?_⟩
    obtain ⟨Ty, ty, k1, _⟩ := d_ty2 (K := K) hv
    exact ⟨_, rfl, (by show 2 ≤ sizeLine; decide), fun p np => ⟨v, p, [.ty "list", .ty "tuple"], _, _, _, rfl, upd_same, .cons (.ty _) (.cons (.ty _) .nil), ty _ (same_upd np), k1, k _ (same_upd np)⟩⟩
theorem c_word {f : Addr} {fd : FuncData} (F : Def K mg "is_word" sWord f fd) (b : Binds K fd ["thing"] []) (T : Blt4 mg) (G : Gs mg) : Cal P w K mg base 1 "is_word" spWord [] := by
  refine cal0 F b .nil scWord (fun vs H Q E h => ?_) (fun cdv A outer s H vs Q E hr h => ?_)
  · obtain ⟨v, d, G, rfl, _⟩ := h
    rfl
  · obtain ⟨v, d, GF, rfl, hv, hz, k⟩ := h
    have nd := scWord.nd
    refine ⟨_, pss_cons (ps_if (pw_or (pt_not (pt_val (pe_callB call_isi (by rfl) T.isi (by decide +kernel) (pa_cons (pv 0) (pa_cons (pe_bt "str" T.str) pa_nil)))))
          (pw_or (pt_cmp (pc_lt (pe_callB call_len_str (by rfl) T.len PySem.boot_len (pa_cons (pv 0) pa_nil)) pe_int))
          (pw_or1 (pt_cmp (pc_gt (pe_callB call_len_str (by rfl) T.len PySem.boot_len (pa_cons (pv 0) pa_nil)) (pe_gc (by rfl) G.lon)))))).pt (pss_one (ps_ret pe_bl)) pss_nil)
      (pss_one (ps_ret (pe_callB (cr_all rfl) (by rfl) T.all (by decide +kernel) (pa_cons (pe_lc (own := [("letter", 1)]) (g := gName 1) (tt := tYes) rfl nd (pi_str (pv 0)) (blkOk_by (N := ["thing", "letter"]) (sc := fnScope sWord) (by decide +kernel))
          (fun _ _ _ _ _ => pg_name (i := 1) nd rfl (Or.inl rfl)) (fun _ _ _ _ _ => pts_nil) (fun _ _ _ _ _ => pe_cmpR op_in_sign (pv 1) (pe_gc (by rfl) G.let_) (by rfl))) pa_nil)))), ?_⟩
    obtain ⟨Ty, ty, _, k1, _⟩ := d_ty2 (K := K) hv
    have ty0 := ty H fun _ _ e => e
    have s0 : Same H H := fun _ _ e => e
    refine ⟨_, rfl, v, .ty "str", _, _, _, rfl, .ty _, ty0, k1, _, rfl, ?_⟩
    cases hs : isSt d with
    | false =>
      rw [wordB_no hs] at k
      exact iteBt rfl (iteBt rfl (k H s0))
    | true =>
      obtain ⟨z, rfl⟩ := isSt_inv hs
      obtain ⟨rfl, _⟩ := hv
      have hz := hz z rfl
      have hls : z.length ≤ sizeLine := by rw [sizeLine_eq]; omega
      have wz : wordB (.fl (.str z)) = wordS z := rfl
      rw [wz] at k
      refine iteBf rfl ⟨_, rfl, z, rfl, hls, z.length, 1, rfl, rfl, _, rfl, ?_⟩
      by_cases l1 : (z.length : Int) < 1
      · have : wordS z = false := by unfold wordS; rw [decide_eq_false (by omega), Bool.false_and]
        rw [this] at k
        exact iteBt (decide_eq_true l1) (iteBt rfl (k H s0))
      refine iteBf (decide_eq_false l1) ⟨_, rfl, z, rfl, hls, z.length, 8, rfl, rfl, _, rfl, ?_⟩
      by_cases l8 : (8 : Int) < z.length
      · have : wordS z = false := by unfold wordS; rw [decide_eq_false (p := z.length ≤ 8) (by omega), Bool.false_and, Bool.and_false]
        rw [this] at k
        exact iteBt (decide_eq_true l8) (k H s0)
      refine iteBf (decide_eq_false l8) ⟨_, rfl, z, rfl, fun Da nDa => ?_⟩
      have hw : wordS z = z.cps.toList.all fun c => decide (c ∈ letters.cps.toList) := by unfold wordS; rw [decide_eq_true (p := 1 ≤ z.length) (by omega), decide_eq_true (p := z.length ≤ 8) (by omega), Bool.true_and, Bool.true_and]
      have hlz : z.cps.size = z.length := rfl
      refine lc_gen (J := Its z) z.cps.size (fun i H' => H' Da = some (.lst (((z.cps.toList.take i).map fun c => decide (c ∈ letters.cps.toList)).map V.bl)) ∧ Same H H') ⟨upd_same, same_upd nDa⟩ (fun i H' hi _ => hi) (fun H' _ => Nat.le_refl _) (fun i H' x H'' hi ⟨hD, sm⟩ yl => ?_) (fun H' ⟨hD, sm⟩ => ?_)
      · obtain ⟨rfl, c, hcc, rfl⟩ := yl
        refine ⟨rfl, ?_⟩
        unfold tYes
        dsimp only
        rw [if_pos rfl]
        have hlt : i < z.cps.toList.length := by rw [Array.length_toList]; exact hi
        have hce : z.cps.toList[i] = c := by
          have : z.cps.toList[i]? = some c := by rw [Array.getElem?_toList]; exact hcc
          exact (List.getElem?_eq_some_iff.mp this).2
        refine ⟨_, rfl, c, letters, rfl, rfl, _, hD, by rw [List.length_map, List.length_map, List.length_take, sizeLine_eq]; omega, ?_, fun b o e => by rw [upd_ne (ne_of_none e nDa)]; exact sm _ _ e⟩
        rw [upd_same, List.take_succ_eq_append_getElem hlt, hce, List.map_append, List.map_append]
        rfl
      · rw [List.take_of_length_le (by rw [Array.length_toList]; exact Nat.le_refl _)] at hD
        refine ⟨Da, _, rfl, SqL.of hD, ?_⟩
        rw [List.all_map]
        rw [hw] at k
        exact k _ sm
theorem c_lab {f : Addr} {fd : FuncData} (F : Def K mg "is_label_row" sLab f fd) (b : Binds K fd ["row"] []) (T : Blt4 mg) (G : Gs mg) (CR : Cal P w K mg base 1 "is_row" spRow []) (CW : Cal P w K mg base 1 "is_word" spWord []) (CN : Cal P w K mg base 1 "is_number" spNum []) : Cal P w K mg base 2 "is_label_row" spLab [] := by
  refine cal0 F b .nil scLab (fun vs H Q E h => ?_) (fun cdv A outer s H vs Q E hr h => ?_)
  · obtain ⟨v, d, GF, rfl, _⟩ := h
    rfl
  · obtain ⟨v, d, GF, rfl, hv, hsh, k⟩ := h
    have nd := scLab.nd
    refine ⟨_, pss_cons (ps_if (pw_or (pt_not (pt_val (pe_c CR hr (by decide) (by rfl) (pa_cons (pv 0) pa_nil)))) (pw_or1 (pt_cmp (pc_neI (pe_callB call_len_seq (by rfl) T.len PySem.boot_len (pa_cons (pv 0) pa_nil)) pe_int)))).pt (pss_one (ps_ret pe_bl)) pss_nil)
      (pss_cut (ps_asg (pv 0) (PG.or (pg_tup rfl (pgs_cons (pg_name (i := 1) nd rfl (Or.inl rfl)) (pgs_cons (pg_name (i := 2) nd rfl (Or.inl rfl)) pgs_nil))) (pg_lst rfl (pgs_cons (pg_name (i := 1) nd rfl (Or.inl rfl)) (pgs_cons (pg_name (i := 2) nd rfl (Or.inl rfl)) pgs_nil)))))
      (pss_cons (ps_if (pw_or (pt_not (pt_val (pe_c CW hr (by decide) (by rfl) (pa_cons (pv 1) pa_nil)))) (pw_or1 (pt_cmpR op_eq (pv 1) (pe_gc (by rfl) G.kee) (nomark _)))).pt (pss_one (ps_ret pe_bl)) pss_nil)
      (pss_one (ps_ret (pe_and (pe_c CN hr (by decide) (by rfl) (pa_cons (pv 2) pa_nil)) (pe_one (pe_chain op_le op_le pe_int (pv 2) pe_int))))))), ?_⟩
    refine ⟨_, rfl, v, d, GF, rfl, hv, fun H1 s1 => ⟨isSq d, rfl, ?_⟩⟩
    cases d with
    | fl x => exact iteBt rfl (iteBt rfl (k H1 s1))
    | emp => exact iteBt rfl (iteBt rfl (k H1 s1))
    | sq xs =>
      refine iteBf rfl ?_
      obtain ⟨a, vs, rfl, q, ho, hxs⟩ := hv
      have hlen := hxs.len
      have sq : ∀ {H'}, Same H H' → SqL K H' a vs ∨ SqT K H' a vs := fun s => q.elim (fun e => .inr (SqT.of (s _ _ e))) fun e => .inl (SqL.of (s _ _ e.2))
      refine ⟨_, rfl, a, vs, rfl, sq s1, (vs.length : Int), 2, rfl, rfl, _, rfl, ?_⟩
      match xs, vs, hlen, hxs with
      | [], [], _, _ => exact iteBt rfl (k H1 s1)
      | [_], [_], _, _ => exact iteBt rfl (k H1 s1)
      | _ :: _ :: _ :: xs, _ :: _ :: _ :: vs, hlen, _ =>
        refine iteBt ?_ ?_
        · show (!decide (((vs.length + 1 + 1 + 1 : Nat) : Int) = 2)) = true
          rw [decide_eq_false (by omega)]
          rfl
        · exact k H1 s1
      | [d1, d2], [v1, v2], _, ⟨h1, h2, _⟩ =>
        refine iteBf rfl ?_
        refine ⟨fun σ H' => σ = [some (.ref a), some v1, some v2] ∧ H' = H1, ?_, ?_⟩
        · refine ⟨_, rfl, ?_⟩
          rcases sq s1 with e | e
          · exact .inr ⟨a, _, rfl, e, rfl, v1, [v2], rfl, v2, [], rfl, rfl, rfl, rfl⟩
          · exact .inl ⟨a, _, rfl, e, rfl, v1, [v2], rfl, v2, [], rfl, rfl, rfl, rfl⟩
        rintro σ H' ⟨rfl, rfl⟩
        have hsh1 : ∀ z, d1 = .fl (.str z) → z.length ≤ 1000 := fun z e => by subst e; exact of_decide_eq_true hsh
        refine ⟨_, rfl, v1, d1, GF, rfl, DAt.hold (.same s1) _ h1, hsh1, fun H2 s2 => ⟨wordB d1, rfl, ?_⟩⟩
        have s12 := s1.trans s2
        cases hw : wordB d1 with
        | false =>
          have : labB (.sq [d1, d2]) = false := by show ((wordB d1 && !isKeep d1) && numOk d2) = false; rw [hw]; rfl
          rw [this] at k
          exact iteBt rfl (iteBt rfl (k H2 s12))
        | true =>
          obtain ⟨z, rfl⟩ : ∃ z, d1 = .fl (.str z) := by
            cases hs : isSt d1 with
            | false => rw [wordB_no hs] at hw; cases hw
            | true => exact isSt_inv hs
          obtain ⟨rfl, _⟩ := h1
          refine iteBf rfl ⟨_, rfl, rfl, _, rfl, ?_⟩
          have lb : labB (.sq [.fl (.str z), d2]) = (!decide (z = ("keep" : Str)) && numOk d2) := by
            show ((wordB (.fl (.str z)) && !decide (z = ("keep" : Str))) && numOk d2) = _
            rw [hw, Bool.true_and]
          rw [lb] at k
          by_cases hk : z = ("keep" : Str)
          · rw [decide_eq_true hk] at k
            exact iteBt (decide_eq_true (congrArg V.str hk)) (k H2 s12)
          · rw [decide_eq_false hk] at k
            refine iteBf (decide_eq_false fun e => hk (V.str.inj e)) ?_
            refine ⟨_, rfl, v2, d2, GF, rfl, DAt.hold (.same s12) _ h2, _, rfl, ?_⟩
            cases hn : numB d2 with
            | false =>
              have : numOk d2 = false := by
                cases d2 with
                | fl x => cases x with
                  | int i => cases hn
                  | _ => rfl
                | _ => rfl
              rw [this] at k
              exact iteBf rfl (k H2 s12)
            | true =>
              obtain ⟨n, rfl⟩ : ∃ n, d2 = .fl (.int n) := by
                cases d2 with
                | fl x => cases x with
                  | int i => exact ⟨i, rfl⟩
                  | _ => cases hn
                | _ => cases hn
              obtain ⟨rfl, _⟩ := h2
              refine iteBt rfl ⟨_, rfl, 0, n, rfl, rfl, decide (0 ≤ n), rfl, ?_⟩
              have nk : numOk (.fl (.int n)) = (decide (0 ≤ n) && decide (n ≤ 2)) := rfl
              rw [nk] at k
              by_cases n0 : 0 ≤ n
              · rw [decide_eq_true n0] at k ⊢
                exact iteBt rfl ⟨n, 2, rfl, rfl, k H2 s12⟩
              · rw [decide_eq_false n0] at k ⊢
                exact iteBf rfl (k H2 s12)
end
end KB

namespace KB
open PySem PySem.Spec PyProof.Rows L2 C8 XE
abbrev sWrong : Stmt := top 15
def labD : D → Str
  | .sq (.fl (.str z) :: _) => z
  | _ => ""
def numD : D → Int
  | .sq [_, .fl (.int n)] => n
  | _ => 7
def okRow (kn : List Str) (d : D) : Bool := labB d && !decide (labD d ∈ kn)
def fb : List Str → Nat → List D → Option Nat
  | _, _, [] => none
  | kn, i, d :: ds => if okRow kn d = true then fb (kn ++ [labD d]) (i + 1) ds else some i
def zeroIn (ds : List D) : Bool := ds.any fun d => decide (numD d = 0)
def wrongV : D → V
  | .sq ds => match fb [] 0 ds with
    | some k => .int (k : Nat)
    | none => if zeroIn ds = true then .non else .int (ds.length : Nat)
  | _ => .int 0
def shortAll : D → Bool
  | .sq ds => ds.all shortD && decide (ds.length ≤ 1000)
  | _ => true
def spWrong : Sp := fun vs H Q _ => ∃ (v : V) (d : D) (F : Addr → Prop), vs = [v] ∧ DAt F H v d ∧ shortAll d = true ∧ ∀ H', Same H H' → Q (wrongV d) H'
abbrev NWr : List Str := ["rows", "earlier", "index", "row"]
theorem scWrong : FnScope NWr ["rows"] (fnScope sWrong) := fnScope_by (by decide +kernel)
theorem labB_inv {d : D} (h : labB d = true) : ∃ z n, d = .sq [.fl (.str z), .fl (.int n)] ∧ 0 ≤ n ∧ n ≤ 2 := by
  unfold labB at h
  split at h
  · rename_i a b
    rw [Bool.and_eq_true, Bool.and_eq_true] at h
    obtain ⟨⟨h1, _⟩, h2⟩ := h
    obtain ⟨z, rfl⟩ : ∃ z, a = .fl (.str z) := by
      cases hs : isSt a with
      | false => rw [wordB_no hs] at h1; cases h1
      | true => exact isSt_inv hs
    cases b with
    | fl x => cases x with
      | int n =>
        have h2 : (decide (0 ≤ n) && decide (n ≤ 2)) = true := h2
        rw [Bool.and_eq_true] at h2
        exact ⟨z, n, rfl, of_decide_eq_true h2.1, of_decide_eq_true h2.2⟩
      | _ => cases h2
    | _ => cases h2
  · cases h
theorem inV_any {kn : List Str} (z : Str) : inV (.str z) (kn.map V.str) = decide (z ∈ kn) := by
  rw [isOf_flat rfl]
  unfold isOf
  by_cases h : z ∈ kn
  · rw [decide_eq_true h]
    exact List.any_eq_true.mpr ⟨z, h, beq_self_eq_true z⟩
  · rw [decide_eq_false h]
    exact List.any_eq_false.mpr fun y hy e => h (by rw [← beq_iff_eq.mp e]; exact hy)
section
variable {P : Program} {w : World} {K : PySem.W.Frag} {mg : Str → Option Value} {base : Heap}
theorem c_wrong {f : Addr} {fd : FuncData} (F : Def K mg "wrong_row" sWrong f fd) (b : Binds K fd ["rows"] []) (T : Blt4 mg) (CR : Cal P w K mg base 1 "is_row" spRow []) (CL : Cal P w K mg base 2 "is_label_row" spLab []) : Cal P w K mg base 3 "wrong_row" spWrong [] := by
  refine cal0 F b .nil scWrong (fun vs H Q E h => ?_) (fun cdv A outer s H vs Q E hr h => ?_)
  · obtain ⟨v, d, G, rfl, _⟩ := h
    rfl
  · obtain ⟨v, d, G, rfl, hv, hsh, k⟩ := h
    have nd := scWrong.nd
    refine ⟨_, pss_cons (ps_if (pt_not (pt_val (pe_c CR hr (by decide) (by rfl) (pa_cons (pv 0) pa_nil)))) (pss_one (ps_ret pe_int)) pss_nil)
      (pss_cons (ps_set (i := 1) nd rfl (Or.inl rfl) (pe_lst pa_nil))
      (pss_cut (ps_for PassesOwn.never rfl (PI.or (pi_enum (by rfl) T.enu (pa_cons (pv 0) pa_nil)) (pi_enumT (by rfl) T.enu (pa_cons (pv 0) pa_nil))) (pg_tup rfl (pgs_cons (pg_name (i := 2) nd rfl (Or.inl rfl)) (pgs_cons (pg_name (i := 3) nd rfl (Or.inl rfl)) pgs_nil)))
          (pss_cons (ps_if (pw_or (pt_not (pt_val (pe_c CL hr (by decide) (by rfl) (pa_cons (pv 3) pa_nil)))) (pw_or1 (pt_cmpR op_in_seq (pe_ix ix_seq (pv 3) pe_int fun _ _ => rfl) (pv 1) (by rfl)))).pt (pss_one (ps_ret (pv 2))) pss_nil)
          (pss_one (ps_expr (pe_bm PySem.F.plainAttrs_list PySem.F.slot_list_append PySem.F.type_list_append mt_append (pv 1) (pa_cons (pe_ix ix_seq (pv 3) pe_int fun _ _ => rfl) pa_nil))))))
      (pss_cons (ps_if (pt_cmpR op_notIn_seq pe_int (pe_lc (own := [("row", 3)]) (g := gName 3) (tt := tYes) rfl nd (PI.or (pi_list (pv 0)) (pi_tup (pv 0))) (blkOk_by (N := NWr) (sc := fnScope sWrong) (by decide +kernel))
          (fun _ _ _ _ _ => pg_name (i := 3) nd rfl (Or.inl rfl)) (fun _ _ _ _ _ => pts_nil) (fun _ _ _ _ _ => pe_ix (show IxR _ (rIx K) from ix_seq) (pv 3) pe_int fun _ _ => rfl)) (by rfl)) (pss_one (ps_ret (pe_callB call_len_seq (by rfl) T.len PySem.boot_len (pa_cons (pv 0) pa_nil)))) pss_nil)
      (pss_one (ps_ret pe_non))))), ?_⟩
    refine ⟨_, rfl, v, d, G, rfl, hv, fun H1 s1 => ⟨isSq d, rfl, ?_⟩⟩
    cases d with
    | fl x => exact iteBt rfl (k H1 s1)
    | emp => exact iteBt rfl (k H1 s1)
    | sq ds =>
      refine iteBf rfl ?_
      obtain ⟨a, vs, rfl, q, ho, hxs⟩ := hv
      have hlen := hxs.len
      have hsh : (ds.all shortD && decide (ds.length ≤ 1000)) = true := hsh
      rw [Bool.and_eq_true] at hsh
      have hl1 := of_decide_eq_true hsh.2
      refine ⟨(by show 0 ≤ sizeLine; decide), fun e ne => ?_⟩
      have neH : H e = none := same_free s1 ne
      -- the item at i
      have item : ∀ {i : Nat} {x : V} {H' : Hp}, Same H H' → vs[i]? = some x → ∃ d, ds[i]? = some d ∧ DAt G H' x d ∧ shortD d = true := fun sm hx => by
        obtain ⟨d, hd, hxd⟩ := hxs.get hx
        exact ⟨d, hd, DAt.hold (.same sm) _ hxd, List.all_eq_true.mp hsh.1 d (List.mem_of_getElem? hd)⟩
      have row0 : ∀ {x : V} {z : Str} {n : Int} {H' : Hp} {Q : VK}, DAt G H' x (.sq [.fl (.str z), .fl (.int n)]) → (Q (.str z) H' → rIx K x (.int 0) H' Q) ∧ (Q (.int n) H' → rIx K x (.int 1) H' Q) := by
        rintro x z n H' Q ⟨b, us, rfl, qb, _, hus⟩
        match us, hus with
        | [u1, u2], ⟨⟨e1, _⟩, ⟨e2, _⟩, _⟩ =>
          subst e1 e2
          rcases qb with qb | ⟨_, qb⟩
          · exact ⟨fun h => .inr (.inl ⟨b, _, 0, _, rfl, rfl, SqT.of qb, at_of (j := 0) (by omega) rfl, h⟩), fun h => .inr (.inl ⟨b, _, 1, _, rfl, rfl, SqT.of qb, at_of (j := 1) (by omega) rfl, h⟩)⟩
          · exact ⟨fun h => .inl ⟨b, _, 0, _, rfl, rfl, SqL.of qb, at_of (j := 0) (by omega) rfl, h⟩, fun h => .inl ⟨b, _, 1, _, rfl, rfl, SqL.of qb, at_of (j := 1) (by omega) rfl, h⟩⟩
      let Pv : Nat → L2.St → Hp → Prop := fun i σ H' => ∃ (v2 v3 : Option V) (kn : List Str), σ = [some (.ref a), some (.ref e), v2, v3] ∧ H' e = some (.lst (kn.map V.str)) ∧ kn.length = i ∧ Same H H' ∧ fb [] 0 ds = fb kn i (ds.drop i) ∧ ∀ d ∈ ds.take i, labB d = true
      refine ⟨fun σ H' => Pv ds.length σ H', ?_, ?_⟩
      · -- the walk
        have walk : ∀ (J : It), (∀ i H', i < ds.length → Same H H' → J.go i H') → (∀ H', Same H H' → J.stop ds.length H') → (∀ i H' x H'', Same H H' → J.yld i H' x H'' → ∃ T' x', x = .ref T' ∧ H' T' = none ∧ H'' = upd H' T' (.tup [.int (i : Nat), x']) ∧ vs[i]? = some x') →
            ∃ W : Nat → Nat → L2.St → Hp → Prop, (∃ m, W 0 m ((start NWr [V.ref a]).set 1 (some (.ref e))) (upd H1 e (.lst []))) ∧ ∀ i m σ H, W i m σ H → (J.stop i H ∧ Pv ds.length σ H) ∨ (J.go i H ∧ ∃ N : L2.St → Hp → Prop, (∀ σ' H', N σ' H' → ∃ m', m' < m ∧ W (i + 1) m' σ' H') ∧
              ∀ x H', J.yld i H x H' → gTup K 2 (gCons (gName 2) (gCons (gName 3) gNil)) x σ H' fun σ2 H2 => tSeq (tIfS (tOr (tNot (tB (tCall spLab [] C8.E0 (tCons (tVar 3) tNil)))) (tTest (tOp (rIn K false) (tOp (rIx K) (tVar 3) (tC (.int 0))) (tVar 1)))) (tRet (tVar 2)) tNext)
                (tDrop (tBM K "list" rAppend (tVar 1) (tCons (tOp (rIx K) (tVar 3) (tC (.int 0))) tNil))) { nx := N, rt := Q, bk := Pv ds.length, ct := N } σ2 H2) := by
          intro J jgo jst jyl
          refine for_gen (J := J) (D := { nx := Pv ds.length, rt := Q }) ds.length Pv ⟨none, none, [], rfl, upd_same, rfl, s1.trans (same_upd ne), rfl, fun d hd => by cases hd⟩ (fun i σ H' hi ⟨_, _, _, _, _, _, sm, _⟩ => jgo i H' hi sm) (fun σ H' ⟨_, _, _, _, _, _, sm, _⟩ => jst H' sm) ?_ (fun σ H' p => p)
          rintro i σ H2 x H3 hi ⟨v2, v3, kn, rfl, he, hkl, sm, hfb, hok⟩ yl
          obtain ⟨T', x', rfl, nT, rfl, hx⟩ := jyl i H2 x H3 sm yl
          obtain ⟨d, hd, _, _⟩ := item sm hx
          obtain ⟨hlt, ed⟩ := List.getElem?_eq_some_iff.mp hd
          have hdrop : ds.drop i = d :: ds.drop (i + 1) := by rw [List.drop_eq_getElem_cons hlt, ed]
          rw [hdrop] at hfb
          refine ⟨T', [.int (i : Nat), x'], rfl, SqT.of upd_same, rfl, .int (i : Nat), [x'], rfl, x', [], rfl, rfl, ?_⟩
          have s3 : Same H2 (upd H2 T' (.tup [.int (i : Nat), x'])) := same_upd nT
          have he3 := s3 _ _ he
          generalize upd H2 T' (.tup [.int (i : Nat), x']) = H3 at s3 he3
          have sm3 := sm.trans s3
          obtain ⟨d', hd', hxd, hds⟩ := item sm3 hx
          rw [hd] at hd'
          obtain rfl := Option.some.inj hd'
          refine ⟨_, rfl, x', d, G, rfl, hxd, hds, fun H4 s4 => ⟨labB d, rfl, ?_⟩⟩
          have sm4 := sm3.trans s4
          have he4 := s4 _ _ he3
          have wv : fb [] 0 ds = some i → wrongV (.sq ds) = .int (i : Nat) := fun h => by
            show (match fb [] 0 ds with | some k => V.int (k : Nat) | none => if zeroIn ds = true then V.non else .int (ds.length : Nat)) = _
            rw [h]
          cases hl : labB d with
          | false =>
            have hb : fb [] 0 ds = some i := by
              rw [hfb]
              show (if okRow kn d = true then _ else some i) = some i
              rw [if_neg (by unfold okRow; rw [hl, Bool.false_and]; exact Bool.false_ne_true)]
            have kk := k H4 sm4
            rw [wv hb] at kk
            exact iteBt rfl (iteBt rfl ⟨_, rfl, kk⟩)
          | true =>
            refine iteBf rfl ?_
            obtain ⟨z, n, rfl, n0, n2⟩ := labB_inv hl
            have hxd4 := DAt.hold (.same s4) _ hxd
            refine ⟨_, rfl, (row0 hxd4).1 ⟨_, rfl, e, _, rfl, .inl (SqL.of he4), rfl, List.all_eq_true.mpr fun y hy => ?_, ?_⟩⟩
            · obtain ⟨y', _, rfl⟩ := List.mem_map.mp hy
              rfl
            rw [if_neg (by decide), inV_any]
            have hlab : labD (.sq [.fl (.str z), .fl (.int n)]) = z := rfl
            by_cases hz : z ∈ kn
            · rw [decide_eq_true hz]
              have hb : fb [] 0 ds = some i := by
                rw [hfb]
                show (if okRow kn _ = true then _ else some i) = some i
                rw [if_neg (by unfold okRow; rw [hl, hlab, decide_eq_true hz]; exact Bool.false_ne_true)]
              have kk := k H4 sm4
              rw [wv hb] at kk
              exact ⟨_, rfl, iteBt rfl ⟨_, rfl, kk⟩⟩
            · rw [decide_eq_false hz]
              refine ⟨_, rfl, iteBf rfl ?_⟩
              refine ⟨_, rfl, .inl ⟨rfl, _, SqL.of he4⟩, _, rfl, (row0 hxd4).1 ⟨e, _, _, rfl, rfl, he4, by rw [List.length_map, sizeLine_eq]; omega, _, _, kn ++ [z], rfl, by rw [upd_same, List.map_append]; rfl, by simp [hkl], fun b o q => by rw [upd_ne (ne_of_none q neH)]; exact sm4 _ _ q, ?_, ?_⟩⟩
              · rw [hfb]
                show (if okRow kn _ = true then fb (kn ++ [labD _]) (i + 1) _ else some i) = _
                rw [if_pos (by unfold okRow; rw [hl, hlab, decide_eq_false hz]; rfl), hlab]
              · intro d hd
                rw [List.take_succ_eq_append_getElem hlt, ed] at hd
                rcases List.mem_append.mp hd with h | h
                · exact hok d h
                · rw [List.mem_singleton.mp h]; exact hl
        have up : ∀ {H'} {o : HO}, Same H H' → H a = some o → H' a = some o := fun sm e => sm _ _ e
        have nea : ∀ {o : HO}, H a = some o → a ≠ e := fun q => ne_of_none q neH
        rcases q with q | ⟨_, q⟩
        · refine .inr ⟨_, rfl, a, vs, rfl, SqT.of (by rw [upd_ne (nea q)]; exact s1 _ _ q), walk (IteT K a) (fun i H' hi sm => ⟨vs, vs.getD i .non, SqT.of (sm _ _ q), getD_at (by omega)⟩) (fun H' sm => ⟨vs, SqT.of (sm _ _ q), by omega⟩) (fun i H' x H'' sm yl => ?_)⟩
          obtain ⟨T', x', e1, e2, e3, e4⟩ := yl
          exact ⟨T', x', e1, e2, e3, e4 _ (SqT.of (sm _ _ q))⟩
        · refine .inl ⟨_, rfl, a, vs, rfl, SqL.of (by rw [upd_ne (nea q)]; exact s1 _ _ q), walk (Ite K a) (fun i H' hi sm => ⟨vs, vs.getD i .non, SqL.of (sm _ _ q), getD_at (by omega)⟩) (fun H' sm => ⟨vs, SqL.of (sm _ _ q), by omega⟩) (fun i H' x H'' sm yl => ?_)⟩
          obtain ⟨T', x', e1, e2, e3, e4⟩ := yl
          exact ⟨T', x', e1, e2, e3, e4 _ (SqL.of (sm _ _ q))⟩
      · rintro σ H2 ⟨v2, v3, kn, rfl, he, _, sm, hfb, hok⟩
        rw [List.drop_eq_nil_of_le (Nat.le_refl _)] at hfb
        rw [List.take_of_length_le (Nat.le_refl _)] at hok
        have hwv : wrongV (.sq ds) = if zeroIn ds = true then .non else .int (ds.length : Nat) := by
          show (match fb [] 0 ds with | some k => V.int (k : Nat) | none => if zeroIn ds = true then V.non else .int (ds.length : Nat)) = _
          rw [hfb]
          rfl
        rw [hwv] at k
        have zr : inV (.int 0) ((ds.map numD).map V.int) = zeroIn ds := by
          unfold inV zeroIn
          rw [List.any_map, List.any_map]
          congr 1
        have fin : ∀ (H' : Hp) (Da : Addr), Same H H' → H' Da = some (.lst ((ds.map numD).map V.int)) → tOp (rIn K true) (fun σ H Q => Q (.int 0) H) (fun σ H Q => Q (.ref Da) H) [some (V.ref a), some (.ref e), v2, v3] H' fun x H1 => ∃ k, x = .bl k ∧ (if k = true then tRet (tCB (fun xs H Q => ∃ p ys, xs = [V.ref p] ∧ (SqL K H p ys ∨ SqT K H p ys) ∧ Q (.int ys.length) H) (tCons (tVar 0) tNil)) { nx := fun _ H' => Q .non H', rt := Q } [some (V.ref a), some (.ref e), v2, v3] H1 else Q .non H1) := by
          intro H' Da sm' hD
          refine ⟨Da, _, rfl, .inl (SqL.of hD), rfl, List.all_eq_true.mpr fun y hy => ?_, ?_⟩
          · obtain ⟨y', _, rfl⟩ := List.mem_map.mp hy
            rfl
          rw [if_pos rfl, zr]
          have kk := k H' sm'
          cases hz : zeroIn ds with
          | true =>
            rw [hz, if_pos rfl] at kk
            exact ⟨_, rfl, iteBf rfl kk⟩
          | false =>
            rw [hz, if_neg Bool.false_ne_true] at kk
            refine ⟨_, rfl, iteBt rfl ⟨_, rfl, a, vs, rfl, q.elim (fun e => .inr (SqT.of (sm' _ _ e))) (fun e => .inl (SqL.of (sm' _ _ e.2))), ?_⟩⟩
            rw [← hlen] at kk
            exact kk
        have walk : ∀ (J : It), (∀ i H', i < ds.length → Same H H' → J.go i H') → (∀ H', Same H H' → J.stop ds.length H') → (∀ i H' x H'', Same H H' → J.yld i H' x H'' → H'' = H' ∧ vs[i]? = some x) → ∀ Da, H2 Da = none →
            ∃ W : Nat → Nat → Hp → Prop, (∃ m, W 0 m (upd H2 Da (.lst []))) ∧ ∀ i m H', W i m H' → (J.stop i H' ∧ Same H H' ∧ H' Da = some (.lst ((ds.map numD).map V.int))) ∨
              (J.go i H' ∧ ∃ Nx : Hp → Prop, (∀ H'', Nx H'' → ∃ m', m' < m ∧ W (i + 1) m' H'') ∧ ∀ x H'', J.yld i H' x H'' → gName 3 x (wipe [some (V.ref a), some (.ref e), v2, v3] [3]) H'' fun σ2 H2 => wipe σ2 [3] = wipe [some (V.ref a), some (.ref e), v2, v3] [3] ∧ tYes σ2 H2 fun b H3 =>
                if b = true then tOp (rIx K) (tVar 3) (tC (.int 1)) σ2 H3 fun y H4 => ∃ acc, H4 Da = some (.lst acc) ∧ acc.length < sizeLine ∧ Nx (upd H4 Da (.lst (acc ++ [y]))) else Nx H3) := by
          intro J jgo jst jyl Da nDa
          have nDH : H Da = none := same_free sm nDa
          refine lc_gen (J := J) ds.length (fun i H' => H' Da = some (.lst (((ds.take i).map numD).map V.int)) ∧ Same H H') ⟨upd_same, sm.trans (same_upd nDa)⟩ (fun i H' hi ⟨_, sm'⟩ => jgo i H' hi sm') (fun H' ⟨_, sm'⟩ => jst H' sm') (fun i H' x H'' hi ⟨hD, sm'⟩ yl => ?_) (fun H' ⟨hD, sm'⟩ => ⟨sm', by rw [hD, List.take_of_length_le (Nat.le_refl _)]⟩)
          obtain ⟨rfl, hx⟩ := jyl i H' x H'' sm' yl
          obtain ⟨d, hd, hxd, _⟩ := item sm' hx
          obtain ⟨hlt, ed⟩ := List.getElem?_eq_some_iff.mp hd
          obtain ⟨z, n, rfl, _, _⟩ := labB_inv (hok d (List.mem_of_getElem? hd))
          refine ⟨rfl, ?_⟩
          unfold tYes
          dsimp only
          rw [if_pos rfl]
          refine ⟨_, rfl, (row0 hxd).2 ⟨_, hD, by rw [List.length_map, List.length_map, List.length_take, sizeLine_eq]; omega, ?_, fun b o q => by rw [upd_ne (ne_of_none q nDH)]; exact sm' _ _ q⟩⟩
          rw [upd_same, List.take_succ_eq_append_getElem hlt, ed, List.map_append, List.map_append]
          rfl
        have glue : ∀ {J : It} {H3 : Hp} {Da : Addr} {R : Hp → Prop} {te : TE}, (∀ H', Same H H' → H' Da = some (.lst ((ds.map numD).map V.int)) → R H') →
            (∃ W : Nat → Nat → Hp → Prop, (∃ m, W 0 m (upd H3 Da (.lst []))) ∧ ∀ i m H', W i m H' → (J.stop i H' ∧ Same H H' ∧ H' Da = some (.lst ((ds.map numD).map V.int))) ∨
              (J.go i H' ∧ ∃ Nx : Hp → Prop, (∀ H'', Nx H'' → ∃ m', m' < m ∧ W (i + 1) m' H'') ∧ ∀ x H'', J.yld i H' x H'' → gName 3 x (wipe [some (V.ref a), some (.ref e), v2, v3] [3]) H'' fun σ2 H2 => wipe σ2 [3] = wipe [some (V.ref a), some (.ref e), v2, v3] [3] ∧ tYes σ2 H2 fun b H3 =>
                if b = true then te σ2 H3 fun y H4 => ∃ acc, H4 Da = some (.lst acc) ∧ acc.length < sizeLine ∧ Nx (upd H4 Da (.lst (acc ++ [y]))) else Nx H3)) →
            ∃ W : Nat → Nat → Hp → Prop, (∃ m, W 0 m (upd H3 Da (.lst []))) ∧ ∀ i m H', W i m H' → (J.stop i H' ∧ R H') ∨
              (J.go i H' ∧ ∃ Nx : Hp → Prop, (∀ H'', Nx H'' → ∃ m', m' < m ∧ W (i + 1) m' H'') ∧ ∀ x H'', J.yld i H' x H'' → gName 3 x (wipe [some (V.ref a), some (.ref e), v2, v3] [3]) H'' fun σ2 H2 => wipe σ2 [3] = wipe [some (V.ref a), some (.ref e), v2, v3] [3] ∧ tYes σ2 H2 fun b H3 =>
                if b = true then te σ2 H3 fun y H4 => ∃ acc, H4 Da = some (.lst acc) ∧ acc.length < sizeLine ∧ Nx (upd H4 Da (.lst (acc ++ [y]))) else Nx H3) := by
          rintro J H3 Da R te hR ⟨W, h0, h⟩
          exact ⟨W, h0, fun i m H' hw => (h i m H' hw).imp (fun ⟨a, b, c⟩ => ⟨a, hR H' b c⟩) id⟩
        rcases q with q' | ⟨hF, q'⟩
        · exact .inr ⟨_, rfl, a, rfl, ⟨vs, SqT.of (sm _ _ q')⟩, fun Da nDa => glue (J := Itt K a) (fun H' s' hD => fin H' Da s' hD) (walk (Itt K a) (fun i H' hi sm => ⟨vs, vs.getD i .non, SqT.of (sm _ _ q'), getD_at (by omega)⟩) (fun H' sm => ⟨vs, SqT.of (sm _ _ q'), by omega⟩) (fun i H' x H'' sm yl => ⟨yl.1, yl.2 _ (SqT.of (sm _ _ q'))⟩) Da nDa)⟩
        · exact .inl ⟨_, rfl, a, rfl, ⟨vs, SqL.of (sm _ _ q')⟩, fun Da nDa => glue (J := Itl K a) (fun H' s' hD => fin H' Da s' hD) (walk (Itl K a) (fun i H' hi sm => ⟨vs, vs.getD i .non, SqL.of (sm _ _ q'), getD_at (by omega)⟩) (fun H' sm => ⟨vs, SqL.of (sm _ _ q'), by omega⟩) (fun i H' x H'' sm yl => ⟨yl.1, yl.2 _ (SqL.of (sm _ _ q'))⟩) Da nDa)⟩
end
end KB

namespace KB
open PySem PySem.Spec PyProof.Rows L2 C8 XE
abbrev sLWord : Stmt := top 28
abbrev sFault : Stmt := top 29
theorem scLWord : FnScope ["_law_x", "_law_sign"] ["_law_x"] (fnScope sLWord) := fnScope_by (by decide +kernel)
abbrev NFa : List Str := ["_law_rows_here", "_law_known", "_law_k", "_law_row"]
theorem scFault : FnScope NFa ["_law_rows_here"] (fnScope sFault) := fnScope_by (by decide +kernel)
section
variable {P : Program} {w : World} {K : PySem.W.Frag} {mg : Str → Option Value} {base : Heap}
theorem c_lword {f : Addr} {fd : FuncData} (F : Def K mg "_law_is_word" sLWord f fd) (b : Binds K fd ["_law_x"] []) (T : Blt4 mg) : Cal P w K mg base 1 "_law_is_word" spWord [] := by
  refine cal0 F b .nil scLWord (fun vs H Q E h => ?_) (fun cdv A outer s H vs Q E hr h => ?_)
  · obtain ⟨v, d, G, rfl, _⟩ := h
    rfl
  · obtain ⟨v, d, GF, rfl, hv, hz, k⟩ := h
    have nd := scLWord.nd
    refine ⟨_, pss_cons (ps_if (pw_or (pt_not (pt_val (pe_callB call_isi (by rfl) T.isi (by decide +kernel) (pa_cons (pv 0) (pa_cons (pe_bt "str" T.str) pa_nil)))))
          (pw_or (pt_cmp (pc_lt (pe_callB call_len_str (by rfl) T.len PySem.boot_len (pa_cons (pv 0) pa_nil)) pe_int))
          (pw_or1 (pt_cmp (pc_gt (pe_callB call_len_str (by rfl) T.len PySem.boot_len (pa_cons (pv 0) pa_nil)) pe_int))))).pt (pss_one (ps_ret pe_bl)) pss_nil)
      (pss_one (ps_ret (pe_callB (cr_all rfl) (by rfl) T.all (by decide +kernel) (pa_cons (pe_lc (own := [("_law_sign", 1)]) (g := gName 1) (tt := tYes) rfl nd (pi_str (pv 0)) (blkOk_by (N := ["_law_x", "_law_sign"]) (sc := fnScope sLWord) (by decide +kernel))
          (fun _ _ _ _ _ => pg_name (i := 1) nd rfl (Or.inl rfl)) (fun _ _ _ _ _ => pts_nil) (fun _ _ _ _ _ => pe_cmpR op_in_sign (pv 1) pe_str (by rfl))) pa_nil)))), ?_⟩
    obtain ⟨Ty, ty, _, k1, _⟩ := d_ty2 (K := K) hv
    have ty0 := ty H fun _ _ e => e
    have s0 : Same H H := fun _ _ e => e
    refine ⟨_, rfl, v, .ty "str", _, _, _, rfl, .ty _, ty0, k1, _, rfl, ?_⟩
    cases hs : isSt d with
    | false =>
      rw [wordB_no hs] at k
      exact iteBt rfl (iteBt rfl (k H s0))
    | true =>
      obtain ⟨z, rfl⟩ := isSt_inv hs
      obtain ⟨rfl, _⟩ := hv
      have hz := hz z rfl
      have hls : z.length ≤ sizeLine := by rw [sizeLine_eq]; omega
      have wz : wordB (.fl (.str z)) = wordS z := rfl
      rw [wz] at k
      refine iteBf rfl ⟨_, rfl, z, rfl, hls, z.length, 1, rfl, rfl, _, rfl, ?_⟩
      by_cases l1 : (z.length : Int) < 1
      · have : wordS z = false := by unfold wordS; rw [decide_eq_false (by omega), Bool.false_and]
        rw [this] at k
        exact iteBt (decide_eq_true l1) (iteBt rfl (k H s0))
      refine iteBf (decide_eq_false l1) ⟨_, rfl, z, rfl, hls, z.length, 8, rfl, rfl, _, rfl, ?_⟩
      by_cases l8 : (8 : Int) < z.length
      · have : wordS z = false := by unfold wordS; rw [decide_eq_false (p := z.length ≤ 8) (by omega), Bool.false_and, Bool.and_false]
        rw [this] at k
        exact iteBt (decide_eq_true l8) (k H s0)
      refine iteBf (decide_eq_false l8) ⟨_, rfl, z, rfl, fun Da nDa => ?_⟩
      have hw : wordS z = z.cps.toList.all fun c => decide (c ∈ letters.cps.toList) := by unfold wordS; rw [decide_eq_true (p := 1 ≤ z.length) (by omega), decide_eq_true (p := z.length ≤ 8) (by omega), Bool.true_and, Bool.true_and]
      have hlz : z.cps.size = z.length := rfl
      refine lc_gen (J := Its z) z.cps.size (fun i H' => H' Da = some (.lst (((z.cps.toList.take i).map fun c => decide (c ∈ letters.cps.toList)).map V.bl)) ∧ Same H H') ⟨upd_same, same_upd nDa⟩ (fun i H' hi _ => hi) (fun H' _ => Nat.le_refl _) (fun i H' x H'' hi ⟨hD, sm⟩ yl => ?_) (fun H' ⟨hD, sm⟩ => ?_)
      · obtain ⟨rfl, c, hcc, rfl⟩ := yl
        refine ⟨rfl, ?_⟩
        unfold tYes
        dsimp only
        rw [if_pos rfl]
        have hlt : i < z.cps.toList.length := by rw [Array.length_toList]; exact hi
        have hce : z.cps.toList[i] = c := by
          have : z.cps.toList[i]? = some c := by rw [Array.getElem?_toList]; exact hcc
          exact (List.getElem?_eq_some_iff.mp this).2
        refine ⟨_, rfl, c, letters, rfl, rfl, _, hD, by rw [List.length_map, List.length_map, List.length_take, sizeLine_eq]; omega, ?_, fun b o e => by rw [upd_ne (ne_of_none e nDa)]; exact sm _ _ e⟩
        rw [upd_same, List.take_succ_eq_append_getElem hlt, hce, List.map_append, List.map_append]
        rfl
      · rw [List.take_of_length_le (by rw [Array.length_toList]; exact Nat.le_refl _)] at hD
        refine ⟨Da, _, rfl, SqL.of hD, ?_⟩
        rw [List.all_map]
        rw [hw] at k
        exact k _ sm
theorem c_fault {f : Addr} {fd : FuncData} (F : Def K mg "_law_fault" sFault f fd) (b : Binds K fd ["_law_rows_here"] []) (T : Blt4 mg) (CW : Cal P w K mg base 1 "_law_is_word" spWord []) : Cal P w K mg base 2 "_law_fault" spWrong [] := by
  refine cal0 F b .nil scFault (fun vs H Q E h => ?_) (fun cdv A outer s H vs Q E hr h => ?_)
  · obtain ⟨v, d, G, rfl, _⟩ := h
    rfl
  · obtain ⟨v, d, G, rfl, hv, hsh, k⟩ := h
    have nd := scFault.nd
    refine ⟨_, pss_cons (ps_if (pt_not (pt_val (pe_callB call_isiT (by rfl) T.isi (by decide +kernel) (pa_cons (pv 0) (pa_cons (pe_tup (pa_cons (pe_bt "list" T.list) (pa_cons (pe_bt "tuple" T.tup) pa_nil))) pa_nil))))) (pss_one (ps_ret pe_int)) pss_nil)
      (pss_cons (ps_set (i := 1) nd rfl (Or.inl rfl) (pe_lst (pa_cons pe_str pa_nil)))
      (pss_cut (ps_for PassesOwn.never rfl (PI.or (pi_enum (by rfl) T.enu (pa_cons (pv 0) pa_nil)) (pi_enumT (by rfl) T.enu (pa_cons (pv 0) pa_nil))) (pg_tup rfl (pgs_cons (pg_name (i := 2) nd rfl (Or.inl rfl)) (pgs_cons (pg_name (i := 3) nd rfl (Or.inl rfl)) pgs_nil)))
          (pss_cons (ps_if (pw_or (pt_not (pt_val (pe_callB call_isiT (by rfl) T.isi (by decide +kernel) (pa_cons (pv 3) (pa_cons (pe_tup (pa_cons (pe_bt "list" T.list) (pa_cons (pe_bt "tuple" T.tup) pa_nil))) pa_nil)))))
              (pw_or (pt_cmp (pc_neI (pe_callB call_len_seq (by rfl) T.len PySem.boot_len (pa_cons (pv 3) pa_nil)) pe_int))
              (pw_or (pt_not (pt_val (pe_c CW hr (by decide) (by rfl) (pa_cons (pe_ix ix_seq (pv 3) pe_int fun _ _ => rfl) pa_nil))))
              (pw_or1 (pt_cmpR op_in_seq (pe_ix ix_seq (pv 3) pe_int fun _ _ => rfl) (pv 1) (by rfl)))))).pt (pss_one (ps_ret (pv 2))) pss_nil)
          (pss_cons (ps_if (pw_or (pt_not (pt_val (pe_callB call_isi (by rfl) T.isi (by decide +kernel) (pa_cons (pe_ix ix_seq (pv 3) pe_int fun _ _ => rfl) (pa_cons (pe_bt "int" T.int) pa_nil)))))
              (pw_or (pt_val (pe_callB call_isi (by rfl) T.isi (by decide +kernel) (pa_cons (pe_ix ix_seq (pv 3) pe_int fun _ _ => rfl) (pa_cons (pe_bt "bool" T.boo) pa_nil))))
              (pw_or1 (pt_cmpR op_notIn_seq (pe_ix ix_seq (pv 3) pe_int fun _ _ => rfl) (pe_tup (pa_cons pe_int (pa_cons pe_int (pa_cons pe_int pa_nil)))) (by rfl))))).pt (pss_one (ps_ret (pv 2))) pss_nil)
          (pss_one (ps_expr (pe_bm PySem.F.plainAttrs_list PySem.F.slot_list_append PySem.F.type_list_append mt_append (pv 1) (pa_cons (pe_ix ix_seq (pv 3) pe_int fun _ _ => rfl) pa_nil)))))))
      (pss_one (ps_ret (pe_ifExp (pt_cmpR op_in_seq pe_int (pe_lc (own := [("_law_row", 3)]) (g := gName 3) (tt := tYes) rfl nd (PI.or (pi_list (pv 0)) (pi_tup (pv 0))) (blkOk_by (N := NFa) (sc := fnScope sFault) (by decide +kernel))
          (fun _ _ _ _ _ => pg_name (i := 3) nd rfl (Or.inl rfl)) (fun _ _ _ _ _ => pts_nil) (fun _ _ _ _ _ => pe_ix (show IxR _ (rIx K) from ix_seq) (pv 3) pe_int fun _ _ => rfl)) (by rfl)) pe_non (pe_callB call_len_seq (by rfl) T.len PySem.boot_len (pa_cons (pv 0) pa_nil))))))), ?_⟩
    obtain ⟨Ty, ty, k1, _⟩ := d_ty2 (K := K) hv
    refine ⟨_, rfl, (by show 2 ≤ sizeLine; decide), fun p np => ⟨v, p, [.ty "list", .ty "tuple"], _, _, isSq d, rfl, upd_same, .cons (.ty _) (.cons (.ty _) .nil), ty _ (same_upd np), k1, isSq d, rfl, ?_⟩⟩
    have s1 : Same H (upd H p (.tup [.ty "list", .ty "tuple"])) := same_upd np
    generalize upd H p (.tup [.ty "list", .ty "tuple"]) = H1 at s1
    cases d with
    | fl x => exact iteBt rfl (k H1 s1)
    | emp => exact iteBt rfl (k H1 s1)
    | sq ds =>
      refine iteBf rfl ?_
      obtain ⟨a, vs, rfl, q, ho, hxs⟩ := hv
      have hlen := hxs.len
      have hsh : (ds.all shortD && decide (ds.length ≤ 1000)) = true := hsh
      rw [Bool.and_eq_true] at hsh
      have hl1 := of_decide_eq_true hsh.2
      refine ⟨(by show 1 ≤ sizeLine; decide), fun e ne => ?_⟩
      have neH : H e = none := same_free s1 ne
      have item : ∀ {i : Nat} {x : V} {H' : Hp}, Same H H' → vs[i]? = some x → ∃ d, ds[i]? = some d ∧ DAt G H' x d ∧ shortD d = true := fun sm hx => by
        obtain ⟨d, hd, hxd⟩ := hxs.get hx
        exact ⟨d, hd, DAt.hold (.same sm) _ hxd, List.all_eq_true.mp hsh.1 d (List.mem_of_getElem? hd)⟩
      have row01 : ∀ {x : V} {d1 d2 : D} {H' : Hp}, DAt G H' x (.sq [d1, d2]) → ∃ v1 v2, DAt G H' v1 d1 ∧ DAt G H' v2 d2 ∧ (∀ {H'' : Hp} {Q : VK}, Same H' H'' → Q v1 H'' → rIx K x (.int 0) H'' Q) ∧ ∀ {H'' : Hp} {Q : VK}, Same H' H'' → Q v2 H'' → rIx K x (.int 1) H'' Q := by
        rintro x d1 d2 H' ⟨b, us, rfl, qb, _, hus⟩
        match us, hus with
        | [u1, u2], ⟨e1, e2, _⟩ =>
          refine ⟨u1, u2, e1, e2, fun sm h => ?_, fun sm h => ?_⟩
          · rcases qb with qb | ⟨_, qb⟩
            · exact .inr (.inl ⟨b, _, 0, _, rfl, rfl, SqT.of (sm _ _ qb), at_of (j := 0) (by omega) rfl, h⟩)
            · exact .inl ⟨b, _, 0, _, rfl, rfl, SqL.of (sm _ _ qb), at_of (j := 0) (by omega) rfl, h⟩
          · rcases qb with qb | ⟨_, qb⟩
            · exact .inr (.inl ⟨b, _, 1, _, rfl, rfl, SqT.of (sm _ _ qb), at_of (j := 1) (by omega) rfl, h⟩)
            · exact .inl ⟨b, _, 1, _, rfl, rfl, SqL.of (sm _ _ qb), at_of (j := 1) (by omega) rfl, h⟩
      let Pv : Nat → L2.St → Hp → Prop := fun i σ H' => ∃ (v2 v3 : Option V) (kn : List Str), σ = [some (.ref a), some (.ref e), v2, v3] ∧ H' e = some (.lst ((("keep" : Str) :: kn).map V.str)) ∧ kn.length = i ∧ Same H H' ∧ fb [] 0 ds = fb kn i (ds.drop i) ∧ ∀ d ∈ ds.take i, labB d = true
      refine ⟨fun σ H' => Pv ds.length σ H', ?_, ?_⟩
      · have walk : ∀ (J : It), (∀ i H', i < ds.length → Same H H' → J.go i H') → (∀ H', Same H H' → J.stop ds.length H') → (∀ i H' x H'', Same H H' → J.yld i H' x H'' → ∃ T' x', x = .ref T' ∧ H' T' = none ∧ H'' = upd H' T' (.tup [.int (i : Nat), x']) ∧ vs[i]? = some x') →
            ∃ W : Nat → Nat → L2.St → Hp → Prop, (∃ m, W 0 m ((start NFa [V.ref a]).set 1 (some (.ref e))) (upd H1 e (.lst [.str "keep"]))) ∧ ∀ i m σ H, W i m σ H → (J.stop i H ∧ Pv ds.length σ H) ∨ (J.go i H ∧ ∃ N : L2.St → Hp → Prop, (∀ σ' H', N σ' H' → ∃ m', m' < m ∧ W (i + 1) m' σ' H') ∧
              ∀ x H', J.yld i H x H' → gTup K 2 (gCons (gName 2) (gCons (gName 3) gNil)) x σ H' fun σ2 H2 =>
                tSeq (tIfS (tOr (tNot (tB (tCB (rIsiT K) (tCons (tVar 3) (tCons (tTup (tCons (tC (.ty "list")) (tCons (tC (.ty "tuple")) tNil))) tNil))))) (tOr (tB (tNeI (tCB (fun xs H Q => ∃ p ys, xs = [V.ref p] ∧ (SqL K H p ys ∨ SqT K H p ys) ∧ Q (.int ys.length) H) (tCons (tVar 3) tNil)) (tC (.int 2))))
                    (tOr (tNot (tB (tCall spWord [] C8.E0 (tCons (tOp (rIx K) (tVar 3) (tC (.int 0))) tNil)))) (tTest (tOp (rIn K false) (tOp (rIx K) (tVar 3) (tC (.int 0))) (tVar 1)))))) (tRet (tVar 2)) tNext)
                  (tSeq (tIfS (tOr (tNot (tB (tCB (rIsi K) (tCons (tOp (rIx K) (tVar 3) (tC (.int 1))) (tCons (tC (.ty "int")) tNil))))) (tOr (tB (tCB (rIsi K) (tCons (tOp (rIx K) (tVar 3) (tC (.int 1))) (tCons (tC (.ty "bool")) tNil))))
                      (tTest (tOp (rIn K true) (tOp (rIx K) (tVar 3) (tC (.int 1))) (tTup (tCons (tC (.int 0)) (tCons (tC (.int 1)) (tCons (tC (.int 2)) tNil)))))))) (tRet (tVar 2)) tNext)
                  (tDrop (tBM K "list" rAppend (tVar 1) (tCons (tOp (rIx K) (tVar 3) (tC (.int 0))) tNil)))) { nx := N, rt := Q, bk := Pv ds.length, ct := N } σ2 H2) := by
          intro J jgo jst jyl
          refine for_gen (J := J) (D := { nx := Pv ds.length, rt := Q }) ds.length Pv ⟨none, none, [], rfl, upd_same, rfl, s1.trans (same_upd ne), rfl, fun d hd => by cases hd⟩ (fun i σ H' hi ⟨_, _, _, _, _, _, sm, _⟩ => jgo i H' hi sm) (fun σ H' ⟨_, _, _, _, _, _, sm, _⟩ => jst H' sm) ?_ (fun σ H' p => p)
          rintro i σ H2 x H3 hi ⟨v2, v3, kn, rfl, he, hkl, sm, hfb, hok⟩ yl
          obtain ⟨T', x', rfl, nT, rfl, hx⟩ := jyl i H2 x H3 sm yl
          obtain ⟨d, hd, _, _⟩ := item sm hx
          obtain ⟨hlt, ed⟩ := List.getElem?_eq_some_iff.mp hd
          have hdrop : ds.drop i = d :: ds.drop (i + 1) := by rw [List.drop_eq_getElem_cons hlt, ed]
          rw [hdrop] at hfb
          refine ⟨T', [.int (i : Nat), x'], rfl, SqT.of upd_same, rfl, .int (i : Nat), [x'], rfl, x', [], rfl, rfl, ?_⟩
          have s3 : Same H2 (upd H2 T' (.tup [.int (i : Nat), x'])) := same_upd nT
          have he3 := s3 _ _ he
          generalize upd H2 T' (.tup [.int (i : Nat), x']) = H3 at s3 he3
          have sm3 := sm.trans s3
          obtain ⟨d', hd', hxd, hds⟩ := item sm3 hx
          rw [hd] at hd'
          obtain rfl := Option.some.inj hd'
          have wv : fb [] 0 ds = some i → wrongV (.sq ds) = .int (i : Nat) := fun h => by
            show (match fb [] 0 ds with | some k => V.int (k : Nat) | none => if zeroIn ds = true then V.non else .int (ds.length : Nat)) = _
            rw [h]
          -- the row is wrong: its index
          have bad : ∀ H', Same H H' → okRow kn d = false → Q (.int (i : Nat)) H' := fun H' sm' hb => by
            have hb : fb [] 0 ds = some i := by
              rw [hfb]
              show (if okRow kn d = true then _ else some i) = some i
              rw [if_neg (by rw [hb]; exact Bool.false_ne_true)]
            have kk := k H' sm'
            rw [wv hb] at kk
            exact kk
          have nol : labB d = false → okRow kn d = false := fun h => by unfold okRow; rw [h, Bool.false_and]
          obtain ⟨T1, ty1, k1', _⟩ := d_ty2 (K := K) hxd
          refine ⟨_, rfl, (by show 2 ≤ sizeLine; decide), fun p np => ⟨x', p, [.ty "list", .ty "tuple"], _, _, isSq d, rfl, upd_same, .cons (.ty _) (.cons (.ty _) .nil), ty1 _ (same_upd np), k1', isSq d, rfl, ?_⟩⟩
          have s4 : Same H3 (upd H3 p (.tup [.ty "list", .ty "tuple"])) := same_upd np
          generalize upd H3 p (.tup [.ty "list", .ty "tuple"]) = H4 at s4
          have sm4 := sm3.trans s4
          have hxd4 := DAt.hold (.same s4) _ hxd
          have he4 := s4 _ _ he3
          cases d with
          | fl y => exact iteBt rfl (iteBt rfl ⟨_, rfl, bad H4 sm4 (nol rfl)⟩)
          | emp => exact iteBt rfl (iteBt rfl ⟨_, rfl, bad H4 sm4 (nol rfl)⟩)
          | sq es =>
            refine iteBf rfl ?_
            obtain ⟨b, us, eb, qb, _, hus⟩ := id hxd4
            have hul := hus.len
            subst eb
            refine ⟨_, rfl, b, us, rfl, qb.elim (fun e => .inr (SqT.of e)) (fun e => .inl (SqL.of e.2)), (us.length : Int), 2, rfl, rfl, _, rfl, ?_⟩
            match es, us, hul, hus, bad, nol, hxd4 with
            | [], [], _, _, bad, nol, _ => exact iteBt rfl (iteBt rfl ⟨_, rfl, bad H4 sm4 (nol rfl)⟩)
            | [_], [_], _, _, bad, nol, _ => exact iteBt rfl (iteBt rfl ⟨_, rfl, bad H4 sm4 (nol rfl)⟩)
            | _ :: _ :: _ :: es, _ :: _ :: _ :: us, hul, _, bad, nol, _ =>
              refine iteBt ?_ (iteBt rfl ⟨_, rfl, bad H4 sm4 (nol rfl)⟩)
              show (!decide (((us.length + 1 + 1 + 1 : Nat) : Int) = 2)) = true
              rw [decide_eq_false (by omega)]
              rfl
            | [d1, d2], [w1, w2], _, _, bad, nol, hxd4 =>
              refine iteBf rfl ?_
              obtain ⟨v1, v2', hv1, hv2, r0, r1⟩ := row01 hxd4
              have hs1 : ∀ z, d1 = .fl (.str z) → z.length ≤ 1000 := fun z e => by subst e; exact of_decide_eq_true hds
              refine ⟨_, rfl, r0 (fun _ _ e => e) ⟨v1, d1, G, rfl, hv1, hs1, fun H5 s5 => ⟨wordB d1, rfl, ?_⟩⟩⟩
              have sm5 := sm4.trans s5
              have he5 := s5 _ _ he4
              have lb : labB (.sq [d1, d2]) = ((wordB d1 && !isKeep d1) && numOk d2) := rfl
              cases hw : wordB d1 with
              | false => exact iteBt rfl (iteBt rfl ⟨_, rfl, bad H5 sm5 (nol (by rw [lb, hw]; rfl))⟩)
              | true =>
                obtain ⟨z, rfl⟩ : ∃ z, d1 = .fl (.str z) := by
                  cases hs : isSt d1 with
                  | false => rw [wordB_no hs] at hw; cases hw
                  | true => exact isSt_inv hs
                obtain ⟨rfl, _⟩ := hv1
                have ik : isKeep (.fl (.str z)) = decide (z = ("keep" : Str)) := rfl
                refine iteBf rfl ⟨_, rfl, r0 s5 ⟨_, rfl, e, _, rfl, .inl (SqL.of he5), rfl, List.all_eq_true.mpr fun y hy => ?_, ?_⟩⟩
                · obtain ⟨y', _, rfl⟩ := List.mem_map.mp hy
                  rfl
                rw [if_neg (by decide), inV_any]
                have hlab : labD (.sq [.fl (.str z), d2]) = z := rfl
                by_cases hz : z ∈ ("keep" : Str) :: kn
                · rw [decide_eq_true hz]
                  refine ⟨_, rfl, iteBt rfl ⟨_, rfl, bad H5 sm5 ?_⟩⟩
                  rcases List.mem_cons.mp hz with h | h
                  · exact nol (by rw [lb, ik, decide_eq_true h, hw]; rfl)
                  · unfold okRow
                    rw [hlab, decide_eq_true h]
                    exact Bool.and_false _
                rw [decide_eq_false hz]
                have nk : z ≠ ("keep" : Str) := fun h => hz (by rw [h]; exact List.mem_cons_self)
                have nkn : z ∉ kn := fun h => hz (List.mem_cons_of_mem _ h)
                rw [ik, decide_eq_false nk, hw] at lb
                have lb : labB (.sq [.fl (.str z), d2]) = numOk d2 := lb
                refine ⟨_, rfl, iteBf rfl ?_⟩
                obtain ⟨T2, ty2, _, _, bb, ki, kb, kx⟩ := d_ty2 (K := K) hv2
                refine ⟨_, rfl, r1 s5 ⟨v2', .ty "int", _, _, _, rfl, .ty _, ty2 _ s5, ki, _, rfl, ?_⟩⟩
                have notnum : numB d2 = false → numOk d2 = false := fun h => by
                  cases d2 with
                  | fl x => cases x with
                    | int i => cases h
                    | _ => rfl
                  | _ => rfl
                cases hb : bb with
                | true =>
                  rw [Bool.or_true]
                  refine iteBf rfl ⟨_, rfl, r1 s5 ⟨v2', .ty "bool", _, _, _, rfl, .ty _, ty2 _ s5, kb, _, rfl, ?_⟩⟩
                  rw [hb]
                  exact iteBt rfl (iteBt rfl ⟨_, rfl, bad H5 sm5 (nol (by rw [lb]; exact notnum (kx hb)))⟩)
                | false =>
                  rw [Bool.or_false]
                  cases hn : numB d2 with
                  | false => exact iteBt rfl (iteBt rfl ⟨_, rfl, bad H5 sm5 (nol (by rw [lb]; exact notnum hn))⟩)
                  | true =>
                    refine iteBf rfl ⟨_, rfl, r1 s5 ⟨v2', .ty "bool", _, _, _, rfl, .ty _, ty2 _ s5, kb, _, rfl, ?_⟩⟩
                    rw [hb]
                    obtain ⟨n, rfl⟩ : ∃ n, d2 = .fl (.int n) := by
                      cases d2 with
                      | fl x => cases x with
                        | int i => exact ⟨i, rfl⟩
                        | _ => cases hn
                      | _ => cases hn
                    obtain ⟨rfl, _⟩ := hv2
                    refine iteBf rfl ⟨_, rfl, r1 s5 ⟨(by show 3 ≤ sizeLine; decide), fun p2 np2 => ⟨p2, _, rfl, .inr (SqT.of upd_same), rfl, rfl, ?_⟩⟩⟩
                    have s6 : Same H5 (upd H5 p2 (.tup [.int 0, .int 1, .int 2])) := same_upd np2
                    generalize upd H5 p2 (.tup [.int 0, .int 1, .int 2]) = H6 at s6
                    have sm6 := sm5.trans s6
                    have he6 := s6 _ _ he5
                    have hin : inV (.int n) [.int 0, .int 1, .int 2] = numOk (.fl (.int n)) := by
                      show _ = (decide (0 ≤ n) && decide (n ≤ 2))
                      have e1 : inV (.int n) [.int 0, .int 1, .int 2] = ((0 : Int) == n || ((1 : Int) == n || ((2 : Int) == n || false))) := rfl
                      rw [e1]
                      by_cases h0 : (0 : Int) = n
                      · subst h0; rfl
                      by_cases h1 : (1 : Int) = n
                      · subst h1; rfl
                      by_cases h2 : (2 : Int) = n
                      · subst h2; rfl
                      rw [beq_eq_false_iff_ne.mpr h0, beq_eq_false_iff_ne.mpr h1, beq_eq_false_iff_ne.mpr h2]
                      by_cases hh : 0 ≤ n
                      · rw [decide_eq_false (p := n ≤ 2) (by omega), Bool.and_false]; rfl
                      · rw [decide_eq_false hh]; rfl
                    rw [if_pos rfl, hin]
                    cases hno : numOk (.fl (.int n)) with
                    | false => exact ⟨_, rfl, iteBt rfl ⟨_, rfl, bad H6 sm6 (nol (by rw [lb]; exact hno))⟩⟩
                    | true =>
                      refine ⟨_, rfl, iteBf rfl ?_⟩
                      rw [hno] at lb
                      refine ⟨_, rfl, .inl ⟨rfl, _, SqL.of he6⟩, _, rfl, r0 (s5.trans s6) ⟨e, _, _, rfl, rfl, he6, by rw [List.length_map, List.length_cons, sizeLine_eq]; omega, _, _, kn ++ [z], rfl, by rw [upd_same, List.map_cons, List.map_cons, List.map_append]; rfl, by simp [hkl], fun b o q => by rw [upd_ne (ne_of_none q neH)]; exact sm6 _ _ q, ?_, ?_⟩⟩
                      · rw [hfb]
                        show (if okRow kn _ = true then fb (kn ++ [labD _]) (i + 1) _ else some i) = _
                        rw [if_pos (by unfold okRow; rw [lb, hlab, decide_eq_false nkn]; rfl), hlab]
                      · intro d hd
                        rw [List.take_succ_eq_append_getElem hlt, ed] at hd
                        rcases List.mem_append.mp hd with h | h
                        · exact hok d h
                        · rw [List.mem_singleton.mp h]; exact lb
        have nea : ∀ {o : HO}, H a = some o → a ≠ e := fun q => ne_of_none q neH
        rcases q with q | ⟨_, q⟩
        · refine .inr ⟨_, rfl, a, vs, rfl, SqT.of (by rw [upd_ne (nea q)]; exact s1 _ _ q), walk (IteT K a) (fun i H' hi sm => ⟨vs, vs.getD i .non, SqT.of (sm _ _ q), getD_at (by omega)⟩) (fun H' sm => ⟨vs, SqT.of (sm _ _ q), by omega⟩) (fun i H' x H'' sm yl => ?_)⟩
          obtain ⟨T', x', e1, e2, e3, e4⟩ := yl
          exact ⟨T', x', e1, e2, e3, e4 _ (SqT.of (sm _ _ q))⟩
        · refine .inl ⟨_, rfl, a, vs, rfl, SqL.of (by rw [upd_ne (nea q)]; exact s1 _ _ q), walk (Ite K a) (fun i H' hi sm => ⟨vs, vs.getD i .non, SqL.of (sm _ _ q), getD_at (by omega)⟩) (fun H' sm => ⟨vs, SqL.of (sm _ _ q), by omega⟩) (fun i H' x H'' sm yl => ?_)⟩
          obtain ⟨T', x', e1, e2, e3, e4⟩ := yl
          exact ⟨T', x', e1, e2, e3, e4 _ (SqL.of (sm _ _ q))⟩
      · rintro σ H2 ⟨v2, v3, kn, rfl, he, _, sm, hfb, hok⟩
        rw [List.drop_eq_nil_of_le (Nat.le_refl _)] at hfb
        rw [List.take_of_length_le (Nat.le_refl _)] at hok
        have hwv : wrongV (.sq ds) = if zeroIn ds = true then .non else .int (ds.length : Nat) := by
          show (match fb [] 0 ds with | some k => V.int (k : Nat) | none => if zeroIn ds = true then V.non else .int (ds.length : Nat)) = _
          rw [hfb]
          rfl
        rw [hwv] at k
        have zr : inV (.int 0) ((ds.map numD).map V.int) = zeroIn ds := by
          unfold inV zeroIn
          rw [List.any_map, List.any_map]
          congr 1
        have lenq : ∀ {H'}, Same H H' → SqL K H' a vs ∨ SqT K H' a vs := fun sm' => q.elim (fun e => .inr (SqT.of (sm' _ _ e))) (fun e => .inl (SqL.of (sm' _ _ e.2)))
        have walk : ∀ (J : It) (R : Hp → Prop), (∀ i H', i < ds.length → Same H H' → J.go i H') → (∀ H', Same H H' → J.stop ds.length H') → (∀ i H' x H'', Same H H' → J.yld i H' x H'' → H'' = H' ∧ vs[i]? = some x) → ∀ Da, H2 Da = none → (∀ H', Same H H' → H' Da = some (.lst ((ds.map numD).map V.int)) → R H') →
            ∃ W : Nat → Nat → Hp → Prop, (∃ m, W 0 m (upd H2 Da (.lst []))) ∧ ∀ i m H', W i m H' → (J.stop i H' ∧ R H') ∨
              (J.go i H' ∧ ∃ Nx : Hp → Prop, (∀ H'', Nx H'' → ∃ m', m' < m ∧ W (i + 1) m' H'') ∧ ∀ x H'', J.yld i H' x H'' → gName 3 x (wipe [some (V.ref a), some (.ref e), v2, v3] [3]) H'' fun σ2 H2 => wipe σ2 [3] = wipe [some (V.ref a), some (.ref e), v2, v3] [3] ∧ tYes σ2 H2 fun b H3 =>
                if b = true then tOp (rIx K) (tVar 3) (tC (.int 1)) σ2 H3 fun y H4 => ∃ acc, H4 Da = some (.lst acc) ∧ acc.length < sizeLine ∧ Nx (upd H4 Da (.lst (acc ++ [y]))) else Nx H3) := by
          intro J R jgo jst jyl Da nDa hR
          have nDH : H Da = none := same_free sm nDa
          refine lc_gen (J := J) ds.length (fun i H' => H' Da = some (.lst (((ds.take i).map numD).map V.int)) ∧ Same H H') ⟨upd_same, sm.trans (same_upd nDa)⟩ (fun i H' hi ⟨_, sm'⟩ => jgo i H' hi sm') (fun H' ⟨_, sm'⟩ => jst H' sm') (fun i H' x H'' hi ⟨hD, sm'⟩ yl => ?_) (fun H' ⟨hD, sm'⟩ => hR H' sm' (by rw [hD, List.take_of_length_le (Nat.le_refl _)]))
          obtain ⟨rfl, hx⟩ := jyl i H' x H'' sm' yl
          obtain ⟨d, hd, hxd, _⟩ := item sm' hx
          obtain ⟨hlt, ed⟩ := List.getElem?_eq_some_iff.mp hd
          obtain ⟨z, n, rfl, _, _⟩ := labB_inv (hok d (List.mem_of_getElem? hd))
          obtain ⟨u1, u2, h1, ⟨rfl, _⟩, _, r1⟩ := row01 hxd
          refine ⟨rfl, ?_⟩
          unfold tYes
          dsimp only
          rw [if_pos rfl]
          refine ⟨_, rfl, r1 (fun _ _ e => e) ⟨_, hD, by rw [List.length_map, List.length_map, List.length_take, sizeLine_eq]; omega, ?_, fun b o q => by rw [upd_ne (ne_of_none q nDH)]; exact sm' _ _ q⟩⟩
          rw [upd_same, List.take_succ_eq_append_getElem hlt, ed, List.map_append, List.map_append]
          rfl
        have flat : (((ds.map numD).map V.int).all flatV) = true := List.all_eq_true.mpr fun y hy => by
          obtain ⟨y', _, rfl⟩ := List.mem_map.mp hy
          rfl
        have last : ∀ H', Same H H' → (if zeroIn ds = true then Q .non H' else tCB (fun xs H Q => ∃ p ys, xs = [V.ref p] ∧ (SqL K H p ys ∨ SqT K H p ys) ∧ Q (.int ys.length) H) (tCons (tVar 0) tNil) [some (V.ref a), some (.ref e), v2, v3] H' Q) := by
          intro H' sm'
          have kk := k H' sm'
          cases hz : zeroIn ds with
          | true =>
            rw [hz, if_pos rfl] at kk
            exact iteBt rfl kk
          | false =>
            rw [hz, if_neg Bool.false_ne_true] at kk
            refine iteBf rfl ⟨_, rfl, a, vs, rfl, lenq sm', ?_⟩
            rw [← hlen] at kk
            exact kk
        rcases q with q' | ⟨hF, q'⟩
        · refine .inr ⟨_, rfl, a, rfl, ⟨vs, SqT.of (sm _ _ q')⟩, fun Da nDa => walk (Itt K a) _ (fun i H' hi sm => ⟨vs, vs.getD i .non, SqT.of (sm _ _ q'), getD_at (by omega)⟩) (fun H' sm => ⟨vs, SqT.of (sm _ _ q'), by omega⟩) (fun i H' x H'' sm yl => ⟨yl.1, yl.2 _ (SqT.of (sm _ _ q'))⟩) Da nDa fun H' sm' hD => ⟨Da, _, rfl, .inl (SqL.of hD), rfl, flat, ?_⟩⟩
          rw [if_neg (by decide), zr]
          exact ⟨_, rfl, last H' sm'⟩
        · refine .inl ⟨_, rfl, a, rfl, ⟨vs, SqL.of (sm _ _ q')⟩, fun Da nDa => walk (Itl K a) _ (fun i H' hi sm => ⟨vs, vs.getD i .non, SqL.of (sm _ _ q'), getD_at (by omega)⟩) (fun H' sm => ⟨vs, SqL.of (sm _ _ q'), by omega⟩) (fun i H' x H'' sm yl => ⟨yl.1, yl.2 _ (SqL.of (sm _ _ q'))⟩) Da nDa fun H' sm' hD => ⟨Da, _, rfl, .inl (SqL.of hD), rfl, flat, ?_⟩⟩
          rw [if_neg (by decide), zr]
          exact ⟨_, rfl, last H' sm'⟩
end
end KB

/-! Making an own exception whose __init__ says super().__init__(text) and stores its parameters. -/
namespace XI
open PySem PySem.W PySem.Calls PyProof.Rows PySem.HandSPX
section
variable {prog : Program} {w : World} {M : Model} {A : Around} {E : Value → Shared → Prop} {hp : Heap} {g : Array GenState} {d : Drawn} {t : Nat} {os : OsState}
variable {cn cq : Str} {C N : Addr} {bs bm tl : List Value} {sn : List Str} {sub : List Value} {ab : Bool} {col : Option Bool} {dd : Option Addr} {k0 k1 k2 k3 k5 : Option Value} {B n0 n1 : String} {us : List Value} {kw : List (Str × Value)}
theorem chk (FB : ExcBaseFacts B n0 n1 tl) (ht : ∀ Y : String, bm.contains (.type Y) = tl.contains (.type Y)) {Q : Unit → Shared → Prop}
    (oC : hp.get? C = some (excClassObj cn cq C N bs bm true sn sub ab col dd k0 k1 k2 k3 k5 n0)) (q : Q () ⟨hp, g, d, t, os⟩) : wpAny M A (checkBuiltinCall n0 ⟨.ref C :: us, kw⟩) Q E ⟨hp, g, d, t, os⟩ := by
  have inB : (Value.ref C :: bm).contains (.type B) = true := by simp only [List.contains_cons, ht, FB.hasB, Bool.or_true]
  have st := FB.noStar
  simp only [checkBuiltinCall, FB.newKind, FB.newSplit, FB.newRow]
  repeat (first
    | (refine wpAny_isSubtype_exc oC ?_; rw [inB])
    | refine wpAny_loadPart_at oC ?_
    | refine wpAny_madeBy_exc oC ?_
    | refine wpAny_staticBase_exc oC ?_
    | wp_step
    | simp only [bne_self_eq_false, Bool.false_eq_true, if_false])
  exact q
theorem chkT {Q : Unit → Shared → Prop} (oC : hp.get? C = some (excClassObj cn cq C N bs bm true sn sub ab col dd k0 k1 k2 k3 k5 n0)) (q : Q () ⟨hp, g, d, t, os⟩) :
    wpAny M A (checkBuiltinCall "type.__call__" ⟨.ref C :: us, kw⟩) Q E ⟨hp, g, d, t, os⟩ := by
  have z := tc_sub
  have ty : (⟨hp, g, d, t, os⟩ : Shared).TypeIs (.ref C) "type" := ⟨_, oC, rfl⟩
  simp only [checkBuiltinCall, tc_kind, tc_split]
  repeat (any_goals (first
    | assumption
    | with_reducible refine wpAny_onRaise ?_
    | with_reducible refine wpAny_loadPart_at oC ?_
    | with_reducible refine wpAny_map ?_
    | wp_step))
end
section
variable {prog : Program} {w : World} {A : Around} {E : Value → Shared → Prop} {R : Result → Shared → Prop} {hp : Heap} {g : Array GenState} {d : Drawn} {t : Nat} {os : OsState}
variable {cn cq : Str} {C N fI : Addr} {bs bm tl : List Value} {sn : List Str} {sub : List Value} {ab : Bool} {col : Option Bool} {dd : Option Addr} {k0 k1 k2 k3 k5 : Option Value} {B n0 n1 : String} {us : List Value} {kw : List (Str × Value)}
/-- the tuple of the arguments, and the new exception behind it -/
abbrev two (hp : Heap) (C : Addr) (us : List Value) : Heap := (hp.push (kdv_tup us)).push (excO C hp.objs.size)
theorem newE (FB : ExcBaseFacts B n0 n1 tl) (ht : ∀ Y : String, bm.contains (.type Y) = tl.contains (.type Y)) (oC : hp.get? C = some (excClassObj cn cq C N bs bm true sn sub ab col dd k0 k1 k2 k3 k5 n0)) (hl : us.length ≤ sizeLine)
    (q : R (.ok (.ret (.ref (hp.objs.size + 1)))) ⟨two hp C us, g, d, t, os⟩) : codeAny (model prog w) A (.builtin n0 ⟨.ref C :: us, kw⟩) R ⟨hp, g, d, t, os⟩ := by
  have en := FB.ends
  have inB : (Value.ref C :: bm).contains (.type B) = true := by simp only [List.contains_cons, ht, FB.hasB, Bool.or_true]
  have noA : (Value.ref C :: bm).contains (.type "AttributeError") = false := by rw [List.contains_cons, ht, FB.noAttr] <;> rfl
  have noN : (Value.ref C :: bm).contains (.type "NameError") = false := by rw [List.contains_cons, ht, FB.noName] <;> rfl
  refine codeAny_builtinAt FB.entry ?_
  unfold Builtin.«BaseException.__new__»
  refine PySem.wpAt_bind ?_
  show PySem.wpAt _ _ _ (stack >>= _) _ _ _
  refine PySem.wpAt_bind (PySem.wpAt_stack fun p below => PySem.wpAt_of_wpAny ?_)
  wp_walk
  refine PySem.wpAt_of_wpAny ?_
  rw [FB.owner]
  repeat (first
    | (with_reducible refine wpAny_isSubtype_exc oC ?_; first | rw [inB] | rw [noA] | rw [noN])
    | with_reducible refine wpAny_madeHere_exc FB.canon oC ?_
    | with_reducible refine wpAny_loadPart_at oC ?_
    | wp_step)
  show R _ _
  rw [Heap.size_push]
  exact q
theorem tcall (FB : ExcBaseFacts B n0 n1 tl) (ht : ∀ Y : String, bm.contains (.type Y) = tl.contains (.type Y)) {Q : Fin → Shared → Prop}
    (oC : hp.get? C = some (excClassObj cn cq C N bs bm true sn sub ab col dd k0 k1 k2 k3 k5 n0)) (li : Looks (model prog w) hp (typeLookup (.ref C) "__init__") (some (.ref fI)))
    (lb : ∀ self, Looks (model prog w) hp (bindSpecial (.ref fI) self) (.ref fI, [self])) (hl : us.length ≤ sizeLine)
    (q : codeAny (model prog w) A (.call (.ref fI) ⟨.ref (hp.objs.size + 1) :: us, kw⟩) (fun r s' => match r with | .ok (.ret v) => v = .none ∧ Q (.done (.ret (.ref (hp.objs.size + 1)))) s' | .ok _ => False | .error e => E e s') ⟨two hp C us, g, d, t, os⟩) :
    wpAny (model prog w) A (Builtin.«type.__call__» ⟨.ref C :: us, kw⟩) Q E ⟨hp, g, d, t, os⟩ := by
  repeat (first
    | with_reducible refine wpAny_madeBy_exc oC ?_
    | with_reducible refine wpAny_loadPart_at oC ?_
    | wp_step)
  refine codeAny_call_builtin_code (Code.quiet_builtin _ FB.quiet) (chk FB ht oC ?_)
  refine newE FB ht oC hl ?_
  show wpAny _ _ _ _ _ _
  have kp : ∀ b o, hp.get? b = some o → (two hp C us).get? b = some o := fun b o e => Heap.get?_push_of_some _ (Heap.get?_push_of_some _ e)
  have oC1 := kp _ _ oC
  have oX : (two hp C us).get? (hp.objs.size + 1) = some (excO C hp.objs.size) := by heap_get
  have inC : (Value.ref C :: bm).contains (.ref C) = true := by simp
  have li1 := li.keeps kp
  have lb1 := (lb (.ref (hp.objs.size + 1))).keeps kp
  unfold isInstance
  repeat (first
    | (with_reducible refine wpAny_isSubtype_exc oC1 ?_; rw [inC])
    | with_reducible refine wpAny_loadPart_at oX ?_
    | wp_step)
  show wpAny _ _ (typeLookup (.ref C) _) _ _ _
  refine li1.at (wpAny_holding (wpAny_bind (lb1.at ?_)))
  refine wpAny_bind (wpAny_call (codeAny_mono q fun r s' z => ?_))
  rcases r with e | (v | _ | _ | _) <;> first | exact z | exact z.elim | skip
  obtain ⟨rfl, z⟩ := z
  first
    | exact wpAny_pure (wpAny_pure z)
    | (wp_walk; exact z)
/-- C(us, kw): the new exception, then its own __init__ -/
theorem callE (FB : ExcBaseFacts B n0 n1 tl) (ht : ∀ Y : String, bm.contains (.type Y) = tl.contains (.type Y))
    (oC : hp.get? C = some (excClassObj cn cq C N bs bm true sn sub ab col dd k0 k1 k2 k3 k5 n0)) (li : Looks (model prog w) hp (typeLookup (.ref C) "__init__") (some (.ref fI)))
    (lb : ∀ self, Looks (model prog w) hp (bindSpecial (.ref fI) self) (.ref fI, [self])) (hl : us.length ≤ sizeLine)
    (q : codeAny (model prog w) (A.under (.builtin "type.__call__" ⟨.ref C :: us, kw⟩)) (.call (.ref fI) ⟨.ref (hp.objs.size + 1) :: us, kw⟩) (InitBack (hp.objs.size + 1) R) ⟨two hp C us, g, d, t, os⟩) :
    codeAny (model prog w) A (.call (.ref C) ⟨us, kw⟩) R ⟨hp, g, d, t, os⟩ := by
  have z1 := tc_lookup
  have z2 := tc_bind (.ref C)
  have ty : (⟨hp, g, d, t, os⟩ : Shared).TypeIs (.ref C) "type" := ⟨_, oC, rfl⟩
  refine codeAny_of_tree ?_
  show wpAny _ _ (callAny (.ref C) _) _ _ _
  repeat (any_goals (first
    | assumption
    | with_reducible refine wpAny_loadPart_at oC ?_
    | wp_step))
  refine ⟨rfl, codeAny_call_builtin_at (Code.quiet_builtin _ (by decide +kernel)) entry_typeCall (chkT oC (tcall FB ht oC li lb hl (codeAny_mono q fun r s' z => ?_)))⟩
  rcases r with e | (v | _ | _ | _) <;> exact z
end
end XI

namespace XI
open PySem PySem.W PySem.Calls PyProof.Rows PySem.HandSPX
section
variable {prog : Program} {w : World} {A : Around} {E : Value → Shared → Prop} {R : Result → Shared → Prop} {s : Shared} {K : Frag} {mg mb : Str → Option Value} {C fI cc cda x L t0 : Addr} {qual tx : Str} {scope : Scope} {params : Arguments} {body : List Stmt}
/-- behind the wrapper's call the args are laid anew -/
theorem wrapCall {cn cq : Str} {N u : Addr} {bs bm tl : List Value} {sn : List Str} {sub : List Value} {ab : Bool} {col : Option Bool} {dd : Option Addr} {k0 k1 k2 k3 k5 : Option Value} {B n0 n1 : String} {us : List Value} {Q : Value → Shared → Prop}
    (FB : ExcBaseFacts B n0 n1 tl) (oC : s.heap.get? C = some (excClassObj cn cq C N bs bm true sn sub ab col dd k0 k1 k2 k3 k5 n0)) (ox : s.heap.get? x = some (excO C t0)) (ou : s.heap.get? u = some (kxs_mw n1 x)) (hl : us.length ≤ sizeLine)
    (q : ∀ h' t1, (∀ b o, b ≠ x → s.heap.get? b = some o → h'.get? b = some o) → h'.get? x = some (excO C t1) → Q .none { s with heap := h' }) : wpAny (model prog w) A (call (.ref u) us) Q E s := by
  obtain ⟨hp, g, d, tk, os⟩ := s
  refine wpAny_call (codeAny_of_tree ?_)
  show wpAny _ A.in1 (callAny (.ref u) ⟨us, []⟩) _ _ _
  simp only [callAny]
  refine wpAny_bind (wpAny_load ou ?_)
  simp only [show (Value.type "method-wrapper" == Value.type "method" || Value.type "method-wrapper" == Value.type "builtin_function_or_method" || Value.type "method-wrapper" == Value.type "method-wrapper") = true by decide, if_true, kxs_mw]
  refine KFB.if_so (by decide) (wpAny_bind (check_bound_init FB.toExcCallFacts oC ox rfl (wpAny_bind (wpAny_pure (wpAny_pure ⟨plainId_quiet FB.init.plain _, codeAny_builtin FB.initEntry ?_⟩)))))
  exact exc_init_tree (t0 := t0) (cls := .ref C) (dv := none) (c2 := .none) (c3 := .none) (b4 := .bool false) ox hl fun h' kp e _ => q h' _ kp e
theorem superPart {p0 p1 p2 p3 p4 p5 : Pos} {k : Nat} {Q : Flow → Shared → Prop} {oc od doc pm an ct osl dV kV} {cl : Value} {cld : Option Addr} {csl : Array (Option Value)} {ccl : Value} {cdd : Option Addr} {ccs : Array (Option Value)} {vs : Array Value} {file : Str} {tf : Tok} {m : Str → Option Value}
    (X : K.In s.heap) (gl : s.heap.Ns mainGlobals mg) (bl : s.heap.Ns builtinsNs mb) (hbb : ∀ y : Str, y ≠ "__name__" → mb y = bootBuiltins y) (hsu : mg "super" = none)
    (hf : K.lookup fI = some ⟨oc, od, .func (ksFn "__init__" qual params body scope dV kV doc pm an (.ref cda) ct cc), osl⟩) (hp1 : ∃ ar, (params.posonlyargs ++ params.args).head? = some ar ∧ ar.arg = ("self" : Str))
    (hcell : K.lookup cc = some ⟨cl, cld, .cell (some (.ref C)), csl⟩) (hcode : K.lookup cda = some ⟨ccl, cdd, .fields vs, ccs⟩) (hvs : vs[2]? = some (.str file tf)) (hfile : ((prog.main.file : Str) == file) = true)
    (htop : (prog.main.scope.names.lookup ("super" : Str)).isSome = false)
    (T : L2.OexC K C) (hsup : ks_superIn K C C "__init__" = some (some (.builtin "ValueError.__init__"))) (hop : nsIn K cStatics "thirdparty.any" = some none) (hB : subIn K (.ref C) (.type "ValueError") = some true) (hmr : mroIn K C (.ref C) = some true)
    (hks : scope.names.lookup ("super" : Str) = some .globalImplicit) (hkc : scope.names.lookup ("__class__" : Str) = some .free) (hka : scope.names.lookup ("self" : Str) = some .local) (hk : scope.kind = .function)
    (ns : s.heap.Ns L m) (hm : m "self" = some (.ref x)) (ox : s.heap.get? x = some (excO C t0)) (nx : K.lookup x = none)
    (q : ∀ h' t' t1, (∀ b o, b ≠ x → s.heap.get? b = some o → h'.get? b = some o) → h'.get? x = some (excO C t1) → Q .next { s with heap := h', toks := t' })
    {pl : Sem Bool} (he : eval (.Call (.Attribute (.Call (.Name "super" p0) [] [] p1) "__init__" p2) [.Constant (.str tx) k p3] [] p4) (ksEnv qual scope L fI (.ref cda) cc) = (do
      let ov ← attributeBase (.Call (.Name "super" p0) [] [] p1) "__init__" (ksEnv qual scope L fI (.ref cda) cc) (eval (.Call (.Name "super" p0) [] [] p1) (ksEnv qual scope L fI (.ref cda) cc))
      standAt p2.atName
      let (fx, first) ← holding [ov] (getMethod ov "__init__" pl)
      callWith p4 fx first (backTo p4 (starEach [.Constant (.str tx) k p3] (ksEnv qual scope L fI (.ref cda) cc))) [])) (hsw : swapsWith (.Call (.Attribute (.Call (.Name "super" p0) [] [] p1) "__init__" p2) [.Constant (.str tx) k p3] [] p4) none p5.line (ksEnv qual scope L fI (.ref cda) cc) = pure false) :
    PySem.wpAt (model prog w) A (.func body (ksEnv qual scope L fI (.ref cda) cc)) (exec (.Expr (.Call (.Attribute (.Call (.Name "super" p0) [] [] p1) "__init__" p2) [.Constant (.str tx) k p3] [] p4) p5) (ksEnv qual scope L fI (.ref cda) cc)) Q E s := by
  obtain ⟨nm, qq, N, bs, bm, sn, sub, ab, col, dd, k0, k1, k2, k3, k5, hC, hbm⟩ := T.cls
  have hcl : clsIn K C = some { name := nm, bases := bs, mro := .ref C :: bm, ns := N, qualname := qq, hasDict := true, slotNames := sn, subclasses := sub, abstract := ab, collection := col, hasDel := false } := by unfold clsIn; rw [hC] <;> rfl
  obtain ⟨ar, har, hara⟩ := hp1
  have hxC : x ≠ C := fun z => by
    rw [z, hC] at nx
    cases nx
  obtain ⟨hp, g, d, t, os⟩ := s
  have oC : hp.get? C = _ := X _ _ hC
  refine ks_wpAt_Expr_any (ks_wpAt_MethodCall ?_ he) (by simp [interactive, hk]) hsw
  refine ks_wpAt_super_base hks hkc (by decide +kernel) rfl (X _ _ hf) rfl har rfl (X _ _ hcode) rfl hvs hfile htop ?_
  refine ks_loadName_global hk hks (loadGlobal_builtin gl hsu bl ((hbb _ (by decide +kernel)).trans (by decide +kernel)) ⟨rfl, ?_⟩)
  refine wpAny_loadName_free hk hkc rfl ⟨_, X _ _ hcell, rfl⟩ ?_
  rw [hara]
  refine wpAny_loadName_local hk hka ns hm ?_
  refine ks_wpAny_isType_cls oC rfl ⟨rfl, ?_⟩
  refine ks_wpAny_call_super oC rfl ox rfl (fun c e => by cases e) (looks_mroIn X hmr) fun h1 e1 kp1 => ?_
  have X1 : K.In h1 := X.keeps kp1
  have I1 : InstAt h1 x (excO C t0) C none := ⟨kp1 _ _ ox, rfl, rfl, trivial⟩
  have al : alongIn K "__init__" (((Value.ref C :: bm).dropWhile (· != .ref C)).drop 1) = some (some (.builtin "ValueError.__init__")) := by
    have z := hsup
    unfold ks_superIn at z
    rw [hcl] at z
    exact z
  refine kxs_getMethod kxs_ValueError (K := K) e1 (looks_opaque X1 hop) ((looks_clsIn X1 hcl).andThen .now) rfl X1 al (I1.type.andThen (looks_subIn X1 hB)) hxC (by decide +kernel) ?_
  have kp2 : ∀ b o, hp.get? b = some o → (h1.push (kxs_mw "ValueError.__init__" x)).get? b = some o := fun b o e => Heap.get?_push_of_some _ (kp1 _ _ e)
  have ou : (h1.push (kxs_mw "ValueError.__init__" x)).get? h1.objs.size = some (kxs_mw "ValueError.__init__" x) := Heap.get?_push_at rfl rfl
  refine kxs_callWith (i := "ValueError.__init__") (x := x) rfl (evalArgs_plain ?_)
  refine spliced_cons (Constant_str (k := k) (pos := p3) (spliced_nil ⟨ou, ?_⟩))
  exact wrapCall PySem.F.excBase_ValueError (kp2 _ _ oC) (kp2 _ _ ox) ou (by show 1 ≤ sizeLine; decide) fun h' t1 kq ex => q h' _ t1 (fun b o hb e => kq b o hb (kp2 b o e)) ex
/-- the rows self.f = f -/
inductive Stores : List Str → List Stmt → Prop where
  | nil : Stores [] []
  | cons {f : Str} {q1 q2 q3 q4 : Pos} {fs : List Str} {b : List Stmt} (h : Stores fs b) : Stores (f :: fs) (.Assign [.Attribute (.Name "self" q1) f q2] (.Name f q3) q4 :: b)
/-- an exception at x of the class at C, made since h: what its attributes are -/
structure ExAt (h h' : Heap) (L x C : Addr) (fs : List (Str × Value)) : Prop where
  keep : ∀ b o, b ≠ x → h.get? b = some o → h'.get? b = some o
  some0 : fs = [] → ∃ t1, h'.get? x = some (excO C t1)
  some1 : fs ≠ [] → ∃ t1 dx m0, h'.get? x = some { cls := .ref C, dict := some dx, data := .fields #[.ref t1, .none, .none, .none, .bool false, .none] } ∧ L < dx ∧ dx ≠ x ∧ h'.Ns1 dx m0 ∧ (∀ y, m0 y = fs.lookup y) ∧ Within m0 (fs.map (·.1))
theorem lookup_cons2 {α : Type} (y f : Str) (v : α) (fs : List (Str × α)) : ((f, v) :: fs).lookup y = if y = f then some v else fs.lookup y := by
  by_cases e : y = f
  · rw [if_pos e, List.lookup_cons, show (y == f) = true from beq_iff_eq.mpr e]
  · rw [if_neg e, List.lookup_cons, show (y == f) = false from beq_eq_false_iff_ne.mpr e]
theorem storesRun {hb : Heap} {env : Env} {m : Str → Option Value} {Q : Flow → Shared → Prop} (T : L2.OexC K C) (hk : env.scope.kind = .function) (hself : env.kindOf "self" = some .local) (hm : m "self" = some (.ref x)) (nx : K.lookup x = none) (hxL : x ≠ env.locals) (hLs : hb.objs.size ≤ env.locals)
    (hxs : x < hb.objs.size) (hKb : K.In hb) : ∀ (todo : List (Str × Value)) (b : List Stmt) (old : List (Str × Value)) (s : Shared), Stores (todo.map (·.1)) b → old.length + todo.length ≤ 900 → (∀ p ∈ todo, env.kindOf p.1 = some .local ∧ (p.1 == ("__debug__" : Str)) = false ∧ m p.1 = some p.2 ∧ findIn K (.ref C) p.1 = some none) →
      K.In s.heap → s.heap.Ns env.locals m → ExAt hb s.heap env.locals x C old → (∀ h' t', ExAt hb h' env.locals x C (todo.reverse ++ old) → Q .next { s with heap := h', toks := t' }) → wpAny (model prog w) A (execs b env) Q E s
  | [], _, old, s, .nil, _, _, _, _, D, q => wpAny_execs_nil (q s.heap s.toks D)
  | (f, v) :: todo, _, old, s, .cons hS, hl, hp, X, ns, D, q => by
    obtain ⟨nm, qq, N, bs, bm, sn, sub, ab, col, dd, k0, k1, k2, k3, k5, hC, hbm⟩ := T.cls
    have hcl : clsIn K C = some { name := nm, bases := bs, mro := .ref C :: bm, ns := N, qualname := qq, hasDict := true, slotNames := sn, subclasses := sub, abstract := ab, collection := col, hasDel := false } := by unfold clsIn; rw [hC] <;> rfl
    obtain ⟨l1, l2, l3, l4⟩ := hp (f, v) List.mem_cons_self
    have go : ∀ h' t', K.In h' → h'.Ns env.locals m → ExAt hb h' env.locals x C ((f, v) :: old) → wpAny (model prog w) A (execs _ env) Q E { s with heap := h', toks := t' } := fun h' t' X' ns' D' =>
      storesRun T hk hself hm nx hxL hLs hxs hKb todo _ ((f, v) :: old) { s with heap := h', toks := t' } hS (by simp only [List.length_cons] at hl ⊢; omega) (fun p hp' => hp p (List.mem_cons_of_mem _ hp')) X' ns' D' fun h2 t2 D2 => q h2 t2 (by rw [List.reverse_cons, List.append_assoc]; exact D2)
    refine wpAny_execs_cons (plainObj_wpAny_Assign_Attribute ?_)
    refine wpAny_Name (wpAny_loadName_local hk l1 ns l3 ?_) l2
    refine wpAny_Name (wpAny_loadName_local hk hself ns hm ?_) (by decide)
    obtain ⟨h, g, d, t, os⟩ := s
    have keepK : ∀ h' : Heap, (∀ b o, b ≠ x → h.get? b = some o → h'.get? b = some o) → K.In h' := fun h' kp a o e => kp a o (fun z => by rw [z, nx] at e; cases e) (X a o e)
    have hlt := ns.lt
    cases old with
    | nil =>
      obtain ⟨t1, ho⟩ := D.some0 rfl
      refine set_plain X (ox := excO C t1) (od := none) ⟨ho, rfl, rfl, trivial⟩ T.sa ?_
      refine exc_osa X ho hcl (show refsVE (.ref C :: bm) = true from hbm) rfl l4 fun h' tk' dx kp dn dne hx hn => ?_
      obtain ⟨oL, eL, pL, e1, e2⟩ := ns
      have hbd : env.locals < dx := Nat.lt_of_lt_of_le hlt dn
      refine go h' tk' (keepK h' kp) ⟨oL, eL, pL, kp _ _ (Ne.symm hxL) e1, e2⟩ ⟨fun b o hbx e => kp b o hbx (D.keep b o hbx e), (fun z => nomatch z), fun _ => ⟨t1, dx, _, hx, hbd, dne, hn, fun y => ?_, ?_⟩⟩
      · rw [lookup_cons2] <;> rfl
      · exact .cons f v .nil
    | cons p old =>
      obtain ⟨t1, dx, m0, ho, dn, dne, hns, hmap, hw⟩ := D.some1 (by simp)
      obtain ⟨oD, _, _, hoD, _, _⟩ := hns.count hw
      refine set_plain X (ox := { cls := .ref C, dict := some dx, data := .fields #[.ref t1, .none, .none, .none, .bool false, .none] }) (od := some oD) ⟨ho, rfl, rfl, hoD⟩ T.sa ?_
      refine PySem.OEX.osa_old X ho hns hw (by simp only [List.length_map, List.length_cons] at hl ⊢; omega) hcl (show refsVE (.ref C :: bm) = true from hbm) rfl l4 fun h' tk' kp hn => ?_
      obtain ⟨oL, eL, pL, e1, e2⟩ := ns
      refine go h' tk' (fun a o e => ?_) ⟨oL, eL, pL, kp _ _ (Nat.ne_of_lt dn) e1, e2⟩ ⟨fun b o hbx e => kp b o (Nat.ne_of_lt (Nat.lt_of_lt_of_le (Heap.lt_size e) (Nat.le_trans hLs (Nat.le_of_lt dn)))) (D.keep b o hbx e), (fun z => nomatch z), fun _ => ⟨t1, dx, _, kp _ _ (Ne.symm dne) ho, dn, dne, hn, fun y => ?_, ?_⟩⟩
      · refine kp a o (fun z => ?_) (X a o e)
        have y := Heap.lt_size (hKb a o e)
        rw [z] at y
        exact absurd (Nat.lt_of_lt_of_le y (Nat.le_trans hLs (Nat.le_of_lt dn))) (Nat.lt_irrefl _)
      · rw [lookup_cons2, hmap]
      · exact .cons f v hw
/-- what the written part and the text say of C's own __init__ -/
structure IniK (prog : Program) (K : Frag) (C fI : Addr) (qual : Str) (params : Arguments) (body : List Stmt) (scope : Scope) (fs : List Str) : Prop where
  fn : ∃ oc od dV kV doc pm an cda ct osl cc cl cld csl ccl cdd ccs, ∃ (vs : Array Value) (file : Str) (tf : Tok), K.lookup fI = some ⟨oc, od, .func (ksFn "__init__" qual params body scope dV kV doc pm an (.ref cda) ct cc), osl⟩ ∧ codeIn K (.ref cda) qual = true ∧
    K.lookup cc = some ⟨cl, cld, .cell (some (.ref C)), csl⟩ ∧ K.lookup cda = some ⟨ccl, cdd, .fields vs, ccs⟩ ∧ vs[2]? = some (.str file tf) ∧ ((prog.main.file : Str) == file) = true
  sup : ks_superIn K C C "__init__" = some (some (.builtin "ValueError.__init__"))
  ini : findIn K (.ref C) "__init__" = some (some (.ref fI))
  ity : typeIn K (.ref fI) = some (.type "function")
  opa : nsIn K cStatics "thirdparty.any" = some none
  suB : subIn K (.ref C) (.type "ValueError") = some true
  suC : mroIn K C (.ref C) = some true
  par : (params.posonlyargs ++ params.args).head?.map (·.arg) = some "self"
  top : (prog.main.scope.names.lookup ("super" : Str)).isSome = false
  ssu : scope.names.lookup ("super" : Str) = some .globalImplicit
  scl : scope.names.lookup ("__class__" : Str) = some .free
  sse : scope.names.lookup ("self" : Str) = some .local
  kin : scope.kind = .function
  cel : ∀ y ∈ scope.names, y.2 ≠ .cell
  nco : scope.isCoroutine = false
  nge : scope.isGenerator = false
  fie : ∀ f ∈ fs, scope.names.lookup f = some .local ∧ (f == ("__debug__" : Str)) = false ∧ findIn K (.ref C) f = some none ∧ f ≠ "self"
  ndf : fs.Nodup
  bod : ∃ (p0 p1 p2 p3 p4 p5 : Pos) (k : Nat) (tx : Str) (b : List Stmt), body = .Expr (.Call (.Attribute (.Call (.Name "super" p0) [] [] p1) "__init__" p2) [.Constant (.str tx) k p3] [] p4) p5 :: b ∧ Stores fs b ∧
    ∀ (L fI' cda' cc' : Addr), ∃ pl, eval (.Call (.Attribute (.Call (.Name "super" p0) [] [] p1) "__init__" p2) [.Constant (.str tx) k p3] [] p4) (ksEnv qual scope L fI' (.ref cda') cc') = (do
      let ov ← attributeBase (.Call (.Name "super" p0) [] [] p1) "__init__" (ksEnv qual scope L fI' (.ref cda') cc') (eval (.Call (.Name "super" p0) [] [] p1) (ksEnv qual scope L fI' (.ref cda') cc'))
      standAt p2.atName
      let (fx, first) ← holding [ov] (getMethod ov "__init__" pl)
      callWith p4 fx first (backTo p4 (starEach [.Constant (.str tx) k p3] (ksEnv qual scope L fI' (.ref cda') cc'))) []) ∧ swapsWith (.Call (.Attribute (.Call (.Name "super" p0) [] [] p1) "__init__" p2) [.Constant (.str tx) k p3] [] p4) none p5.line (ksEnv qual scope L fI' (.ref cda') cc') = pure false
theorem lookup_nd {α : Type} : ∀ {l : List (Str × α)} {f : Str} {v : α}, (l.map (·.1)).Nodup → (f, v) ∈ l → l.lookup f = some v
  | [], _, _, _, h => nomatch h
  | (f', v') :: l, f, v, nd, h => by
    rw [lookup_cons2]
    rcases List.mem_cons.mp h with e | h
    · cases e
      rw [if_pos rfl]
    · have nd' := List.nodup_cons.mp nd
      by_cases e : f = f'
      · exact absurd (List.mem_map.mpr ⟨(f, v), h, e⟩) nd'.1
      · rw [if_neg e]
        exact lookup_nd nd'.2 h
theorem zip_fst : ∀ {fs : List Str} {us : List Value}, us.length = fs.length → (fs.zip us).map (·.1) = fs
  | [], [], _ => rfl
  | f :: fs, u :: us, h => by
    have z : us.length = fs.length := Nat.succ.inj h
    simp only [List.zip_cons_cons, List.map_cons, zip_fst z]
theorem initE {fs : List Str} {us : List Value} {args : Args} (J : IniK prog K C fI qual params body scope fs) (T : L2.OexC K C) (X : K.In s.heap) (gl : s.heap.Ns mainGlobals mg) (bl : s.heap.Ns builtinsNs mb) (hbb : ∀ y : Str, y ≠ "__name__" → mb y = bootBuiltins y) (hsu : mg "super" = none)
    (hlim : s.heap.NoLimit) (hroom : A.depth < recursionLimit) (hus : us.length = fs.length) (hfl : fs.length ≤ 900)
    (hbind : ∀ fd : FuncData, (∃ oc od osl, K.lookup fI = some ⟨oc, od, .func fd, osl⟩) → BindsTo s fd args (("self", .ref x) :: fs.zip us)) (ox : s.heap.get? x = some (excO C t0)) (nx : K.lookup x = none)
    (q : ∀ h' t', ExAt s.heap h' s.heap.objs.size x C (fs.zip us).reverse → R (.ok (.ret .none)) { s with heap := h', toks := t' }) : codeAny (model prog w) A (.call (.ref fI) args) R s := by
  obtain ⟨oc, od, dV, kV, doc, pm, an, cda, ct, osl, cc, cl, cld, csl, ccl, cdd, ccs, vs, file, tf, hf, hcd, hcell, hcode, hvs, hfile⟩ := J.fn
  obtain ⟨p0, p1, p2, p3, p4, p5, k, tx, b, rfl, hS, hev⟩ := J.bod
  refine ks_codeAny_call_defAt hroom (X _ _ hf) rfl hlim (codeRec_of X hcd) rfl (hbind _ ⟨_, _, _, hf⟩) J.cel (fun y hy => ?_) (fun h1 hn kp => ?_) J.nco J.nge J.kin
  · rcases List.mem_cons.mp hy with rfl | hy
    · exact J.sse
    · exact (J.fie y.1 (List.of_mem_zip hy).1).1
  · obtain ⟨pl, he, hsw⟩ := hev s.heap.objs.size fI cda cc
    have par : ∃ ar, (params.posonlyargs ++ params.args).head? = some ar ∧ ar.arg = ("self" : Str) := by
      cases z : (params.posonlyargs ++ params.args).head? with
      | none => have y := J.par; rw [z] at y; cases y
      | some ar => have y := J.par; rw [z] at y; exact ⟨ar, rfl, Option.some.inj y⟩
    have hxL : x ≠ s.heap.objs.size := Nat.ne_of_lt (Heap.lt_size ox)
    have zf := zip_fst hus
    have nd : (((("self", Value.ref x) :: fs.zip us) : List (Str × Value)).reverse.map (·.1)).Nodup := by
      rw [List.map_reverse, List.map_cons, zf]
      refine (List.reverse_perm _).nodup_iff.mpr ?_
      exact List.nodup_cons.mpr ⟨fun z => (J.fie _ z).2.2.2 rfl, J.ndf⟩
    have mm : ∀ p ∈ ((("self", Value.ref x) :: fs.zip us) : List (Str × Value)), ((("self", Value.ref x) :: fs.zip us) : List (Str × Value)).reverse.lookup p.1 = some p.2 := fun p hp => lookup_nd nd (List.mem_reverse.mpr hp)
    refine ks_wpAt_execs_cons (superPart (X.keeps kp) (gl.keeps kp) (bl.keeps kp) hbb hsu hf par hcell hcode hvs hfile J.top T J.sup J.opa J.suB J.suC J.ssu J.scl J.sse J.kin hn (mm _ List.mem_cons_self) (kp _ _ ox) nx (fun h2 t2 t1 kp2 ex => ?_) he hsw)
    have kp3 : ∀ b o, b ≠ x → s.heap.get? b = some o → h2.get? b = some o := fun b o hb e => kp2 b o hb (kp b o e)
    obtain ⟨oL, eL, pL, e1, e2⟩ := hn
    refine PySem.wpAt_of_wpAny (storesRun (hb := s.heap) (env := ksEnv qual scope s.heap.objs.size fI (.ref cda) cc) T J.kin J.sse (mm _ List.mem_cons_self) nx hxL (Nat.le_refl _) (Heap.lt_size ox) X (fs.zip us) b [] _ (by rw [zf]; exact hS) (by have z := congrArg List.length zf; rw [List.length_map] at z; show 0 + _ ≤ 900; omega) (fun p hp => ?_) (fun a o e => kp3 a o (fun z => by rw [z, nx] at e; cases e) (X a o e)) ⟨oL, eL, pL, kp2 _ _ (Ne.symm hxL) e1, e2⟩ ⟨kp3, fun _ => ⟨t1, ex⟩, fun z => absurd rfl z⟩ fun h' t' D => ?_)
    · have y := J.fie p.1 (List.of_mem_zip hp).1
      exact ⟨y.1, y.2.1, mm p (List.mem_cons_of_mem _ hp), y.2.2.1⟩
    · rw [List.append_nil] at D
      exact q h' t' D
end
end XI

namespace XI
open PySem PySem.Spec PyProof.Rows L2
/-- the abstract heap behind C(..): the new exception at a, its own dict at d -/
def mkH (H : Hp) (a d C : Addr) : List (Str × V) → Hp
  | [] => upd H a (exo a C none)
  | p :: fl => upd (upd H d (exd d (p :: fl))) a (exo a C (some d))
theorem mkH_ne {H : Hp} {a d C b : Addr} : ∀ {fl : List (Str × V)}, b ≠ a → b ≠ d → mkH H a d C fl b = H b
  | [], h, _ => upd_ne h
  | _ :: _, h, h2 => (upd_ne h).trans (upd_ne h2)
theorem same_mk {H : Hp} {a d C : Addr} {fl : List (Str × V)} (ha : H a = none) (hd : H d = none) : Same H (mkH H a d C fl) := fun b o e => by
  rw [mkH_ne (ne_of_none e ha) (ne_of_none e hd)]
  exact e
theorem relO_zip {fs : List Str} : ∀ {vs : List V} {us : List Value}, Vals vs us → ∀ y, RelO ((fs.zip vs).reverse.lookup y) ((fs.zip us).reverse.lookup y) := by
  have key : ∀ (fs : List Str) (vs : List V) (us : List Value) (al : List (Str × V)) (bl : List (Str × Value)), Vals vs us → (∀ y, RelO (al.lookup y) (bl.lookup y)) → ∀ y, RelO (((fs.zip vs).reverse ++ al).lookup y) (((fs.zip us).reverse ++ bl).lookup y) := by
    intro fs
    induction fs with
    | nil => intro vs us al bl _ h y; exact h y
    | cons f fs ih =>
      intro vs us al bl r h y
      cases r with
      | nil => exact h y
      | cons rv rr =>
        simp only [List.zip_cons_cons, List.reverse_cons, List.append_assoc, List.singleton_append]
        refine ih _ _ _ _ rr (fun z => ?_) y
        rw [lookup_cons2, lookup_cons2]
        by_cases e : z = f
        · rw [if_pos e, if_pos e]; exact rv
        · rw [if_neg e, if_neg e]; exact h z
  intro vs us r y
  have z := key fs vs us [] [] r (fun _ => True.intro) y
  rw [List.append_nil, List.append_nil] at z
  exact z
theorem n21 (n : Nat) : n + 2 ≠ n + 1 := by omega
theorem n12 (n : Nat) : n + 1 ≤ n + 2 := by omega
theorem nlt {n m : Nat} (h : n + 2 < m) : n ≤ m := by omega
theorem nlt1 {n m : Nat} (h : n + 2 < m) : n + 1 ≤ m := by omega
section
variable {X : Cx} {pins : List (Addr × Obj)} {σ : L2.St} {H : Hp} {s : Shared} {C fI : Addr} {qual : Str} {params : Arguments} {body : List Stmt} {scope : Scope} {fs : List Str}
/-- C(us, ks = ws): what the parameters but self hold is vals -/
theorem mkE {us ws vals : List Value} {vs : List V} {ks : List Str} {Q : VK} {E : Value → Shared → Prop} (J : IniK X.prog X.K C fI qual params body scope fs) (T : OexC X.K C) (hsu : X.mg "super" = none) (hr : Room 1 X.A) (I : Inv X pins σ H s)
    (hl : us.length ≤ sizeLine) (r : Vals vs vals) (hv : vals.length = fs.length) (hfl : fs.length ≤ 900)
    (hbind : ∀ (s : Shared) (y : Value) (fd : FuncData), (∃ oc od osl, X.K.lookup fI = some ⟨oc, od, .func fd, osl⟩) → BindsTo s fd ⟨y :: us, ks.zip ws⟩ (("self", y) :: fs.zip vals))
    (q : ∀ a d, H a = none → H d = none → d ≠ a → Q (.ref a) (mkH H a d C (fs.zip vs).reverse)) : wpAny (model X.prog X.w) X.A (call (.ref C) us (ks.zip ws)) (EP X pins σ Q) E s := by
  obtain ⟨nm, qq, N, bs, bm, sn, sub, ab, col, dd, k0, k1, k2, k3, k5, hC, hbm⟩ := T.cls
  obtain ⟨hp, g, dr, tk, os⟩ := s
  have X0 := I.kIn
  have kp : ∀ b o, hp.get? b = some o → (two hp C us).get? b = some o := fun b o e => Heap.get?_push_of_some _ (Heap.get?_push_of_some _ e)
  have hsz : (two hp C us).objs.size = hp.objs.size + 2 := by rw [Heap.size_push, Heap.size_push]
  have hget : (two hp C us).get? (hp.objs.size + 1) = some (PySem.HandSPX.excO C hp.objs.size) := by heap_get
  have nx : X.K.lookup (hp.objs.size + 1) = none := by
    cases e : X.K.lookup (hp.objs.size + 1) with
    | none => rfl
    | some o => exact absurd (Nat.lt_of_succ_lt (Heap.lt_size (X0 _ _ e))) (Nat.lt_irrefl _)
  obtain ⟨mb, hb1, hb2⟩ := I.mod.blt
  have hn : H (hp.objs.size + 1) = none := I.hok.fresh (Nat.le_succ _)
  refine wpAny_call (callE PySem.F.excBase_ValueError (fun Y => PySem.HandSPX.refsVE_contains Y bm hbm) (X0 _ _ hC) (PySem.W.looks_findIn X0 J.ini) (fun self => PySem.W.bind_fn X0 self J.ity) hl
    (initE (s := ⟨two hp C us, g, dr, tk, os⟩) J T (X0.keeps kp) ((I.mod.glob.keeps I.bk).keeps kp) ((hb1.keeps I.bk).keeps kp) hb2 hsu (I.nolimit.keeps kp) (by have := hr.dp; show X.A.depth + 1 < _; omega) hv hfl (fun fd hfd => hbind _ _ fd hfd) hget nx fun h' t' D => ⟨rfl, ?_⟩))
  have K2 : ∀ b o, hp.get? b = some o → h'.get? b = some o := fun b o e => D.keep b o (Nat.ne_of_lt (Nat.lt_succ_of_lt (Heap.lt_size e))) (kp b o e)
  have neb : ∀ {b : Addr} {o : Obj}, hp.get? b = some o → b ≠ hp.objs.size + 1 := fun e => Nat.ne_of_lt (Nat.lt_succ_of_lt (Heap.lt_size e))
  have rel := relO_zip (fs := fs) r
  have done : ∀ (d : Addr) (H' : Hp), d ≠ hp.objs.size + 1 → H d = none → hp.objs.size + 1 ≤ d → (∀ b, b ≠ hp.objs.size + 1 → b ≠ d → H' b = H b) → HOk X.prog X.w H' h' → Q (.ref (hp.objs.size + 1)) H' →
      EP X pins σ Q (.ref (hp.objs.size + 1)) ⟨h', g, dr, t', os⟩ := fun d H' _ hd hdl hH hok q' => by
    have ned : ∀ {b : Addr} {o : Obj}, hp.get? b = some o → b ≠ d := fun e => Nat.ne_of_lt (Nat.lt_of_lt_of_le (Nat.lt_succ_of_lt (Heap.lt_size e)) hdl)
    have st : ∀ b o, H b = some o → H' b = some o := fun b o e => by
      rw [hH b (ne_of_none e hn) (ne_of_none e hd)]
      exact e
    refine ⟨.ref (hp.objs.size + 1), H', I.un (t' := t') (h' := h') ⟨fun b o e _ _ _ => K2 b o e, fun b o e _ _ _ => ⟨o.slots, K2 b o e⟩, fun b o e n _ => ?_, fun b o e _ => ⟨o, K2 b o e⟩, fun b xs e => st _ _ e, fun b o u e => st _ _ e, fun b ps e => ⟨#[], by rw [st _ _ e]; simp⟩⟩ hok, rfl, q'⟩
    rw [hH b (neb e) (ned e)]
    exact n
  have old : ∀ (H' : Hp), (∀ b o, H b = some o → H' b = some o) → ∀ b o, H b = some o → ObjOk X.prog X.w H' h' b o := fun H' st b o e =>
    (I.hok b o e).stay (fun c v _ z => K2 c v z) (fun c z => st _ _ z) fun c xs z => st _ _ z
  by_cases hfs : fs = []
  · subst hfs
    obtain ⟨t1, ho⟩ := D.some0 rfl
    have hd : H (hp.objs.size + 2) = none := I.hok.fresh (Nat.le_add_right _ 2)
    have q' := q (hp.objs.size + 1) (hp.objs.size + 2) hn hd (n21 _)
    have e0 : mkH H (hp.objs.size + 1) (hp.objs.size + 2) C (([] : List Str).zip vs).reverse = upd H (hp.objs.size + 1) (exo (hp.objs.size + 1) C none) := rfl
    rw [e0] at q'
    refine done (hp.objs.size + 2) _ (n21 _) hd (n12 _) (fun b h1 _ => upd_ne h1) (fun b o e => ?_) q'
    by_cases hb : b = hp.objs.size + 1
    · subst hb
      rw [upd_same] at e
      cases e
      exact exo_ok ho
    · rw [upd_ne hb] at e
      exact old _ (fun c u z => by rw [upd_ne (ne_of_none z hn)]; exact z) b o e
  · have hne : (fs.zip vals).reverse ≠ [] := fun z => by
      have z2 := congrArg List.length z
      rw [List.length_reverse, List.length_zip, hv, Nat.min_self] at z2
      exact hfs (List.length_eq_zero_iff.mp z2)
    obtain ⟨t1, dx, m0, ho, dn, dne, hns, hmap, hw⟩ := D.some1 hne
    have dn' : hp.objs.size + 2 < dx := by rw [← hsz]; exact dn
    have hd : H dx = none := I.hok.fresh (nlt dn')
    have q' := q (hp.objs.size + 1) dx hn hd dne
    have rel' : ∀ f, RelO ((fs.zip vs).reverse.lookup f) (m0 f) := fun f => by rw [hmap]; exact rel f
    cases hfl2 : (fs.zip vs).reverse with
    | nil =>
      have z2 := congrArg List.length hfl2
      rw [List.length_reverse, List.length_zip, r.length, hv, Nat.min_self] at z2
      exact absurd (List.length_eq_zero_iff.mp z2) hfs
    | cons p fl =>
      rw [hfl2] at q' rel'
      refine done dx _ dne hd (nlt1 dn') (fun b h1 h2 => (upd_ne h1).trans (upd_ne h2)) (fun b o e => ?_) q'
      by_cases hb : b = hp.objs.size + 1
      · subst hb
        have e' := upd_same.symm.trans e
        cases e'
        exact exo_ok ho
      · have e' := (upd_ne hb).symm.trans e
        by_cases hb2 : b = dx
        · subst hb2
          have e2 := upd_same.symm.trans e'
          cases e2
          exact exd_ok hns rel'
        · have e2 := (upd_ne hb2).symm.trans e'
          exact old _ (fun c u z => by
            show upd (upd H dx _) _ _ c = _
            rw [upd_ne (ne_of_none z hn), upd_ne (ne_of_none z hd)]
            exact z) b o e2
end
end XI

namespace XI
open PySem PySem.Spec PyProof.Rows L2
/-- an own exception class under its name, with the parameters fs of its __init__ (all stored) -/
structure EC (prog : Program) (K : PySem.W.Frag) (mg : Str → Option Value) (x : Str) (C : Addr) (fs : List Str) : Prop where
  ini : ∃ fI qual params body scope, IniK prog K C fI qual params body scope fs ∧
    (∀ (s : Shared) (y : Value) (fd : FuncData), (∃ oc od osl, K.lookup fI = some ⟨oc, od, .func fd, osl⟩) → ∀ us : List Value, us.length = fs.length → BindsTo s fd ⟨y :: us, []⟩ (("self", y) :: fs.zip us)) ∧
    ∀ (s : Shared) (y : Value) (fd : FuncData), (∃ oc od osl, K.lookup fI = some ⟨oc, od, .func fd, osl⟩) → ∀ (ks : List Str) (ws us : List Value), ks.length = ws.length → (ks.zip ws).Perm (fs.zip us) → us.length = fs.length → ks.length = fs.length → BindsTo s fd ⟨[y], ks.zip ws⟩ (("self", y) :: fs.zip us)
  oex : OexC K C
  gC : mg x = some (.ref C)
  su : mg "super" = none
  is : ExcC K C
  fl : fs.length ≤ 900
def tMkP (C : Addr) (fs : List Str) (t : TA) : TE := fun σ H Q => t σ H fun vs H1 => vs.length = fs.length ∧ ∀ a d, H1 a = none → H1 d = none → d ≠ a → Q (.ref a) (mkH H1 a d C (fs.zip vs).reverse)
def tMkK (C : Addr) (fs : List Str) (g : List V → List V) (t : TA) : TE := fun σ H Q => t σ H fun ws H1 => ∀ a d, H1 a = none → H1 d = none → d ≠ a → Q (.ref a) (mkH H1 a d C (fs.zip (g ws)).reverse)
section
variable {X : Cx} {x : Str} {C : Addr} {fs : List Str} {e : Expr} {es : List Expr} {kws : List Keyword} {t : TA} {te : TE} {p pos : Pos}
theorem lenOk {vs : List V} {us : List Value} {n : Nat} (r : Vals vs us) (h : vs.length = n) (hn : n ≤ 900) : us.length ≤ sizeLine := by
  rw [← r.length, h, sizeLine_eq]
  omega
theorem pe_excP (c : EC X.prog X.K X.mg x C fs) (hr : Room 1 X.A) (hg : Gl X x) (ha : PA X (e :: es) t) (hdb : (x == ("__debug__" : Str)) = false := by decide)
    (he : starEach (e :: es) X.env = (false, eval e X.env) :: starEach es X.env := by rfl) (hpl : (backTo pos (starEach es X.env)).any (·.1) = false := by rfl) : PE X (.Call (.Name x p) (e :: es) [] pos) (tMkP C fs t) := by
  obtain ⟨fI, qual, params, body, scope, J, b1, _⟩ := c.ini
  refine ⟨fun pins s σ H Q I h => ?_⟩
  refine wpAny_Call_Name_kw (ld_glob I hg c.gC ?_ hdb)
  refine PySem.W.callWith_K (h₀ := X.base) I.ok.mod.kin c.oex.kC (thn (ha.run pos pins s σ H _ I h) fun us s1 ⟨vs, H1, I1, r, hl, q⟩ => ⟨I1.kIn, ?_⟩) he hpl
  exact mkE (ks := []) (ws := []) J c.oex c.su hr I1 (lenOk r hl c.fl) r (r.length.symm.trans hl) c.fl (fun s y fd hf => b1 s y fd hf us (r.length.symm.trans hl)) q
theorem pe_exc0 (c : EC X.prog X.K X.mg x C []) (hr : Room 1 X.A) (hg : Gl X x) (hdb : (x == ("__debug__" : Str)) = false := by decide) : PE X (.Call (.Name x p) [] [] pos) (tMkP C [] tNil) := by
  obtain ⟨fI, qual, params, body, scope, J, b1, _⟩ := c.ini
  refine ⟨fun pins s σ H Q I h => ?_⟩
  refine wpAny_Call_Name_kw (ld_glob I hg c.gC ?_ hdb)
  refine PySem.W.callWith_K0 I.kIn c.oex.kC ?_
  exact mkE (ks := []) (ws := []) (us := []) (vs := []) (vals := []) J c.oex c.su hr I (Nat.zero_le _) .nil rfl (Nat.zero_le _) (fun s y fd hf => b1 s y fd hf [] rfl) h.2
theorem pe_excK {ks : List Str} {g : List V → List V} {gu : List Value → List Value} (c : EC X.prog X.K X.mg x C fs) (hr : Room 1 X.A) (hg : Gl X x) (hk : PK X kws t) (hall : (backToKw pos (keywordEach kws X.env)).all (·.1.isSome) = true := by rfl)
    (hks : (backToKw pos (keywordEach kws X.env)).filterMap (·.1) = ks := by rfl) (hkl : ks.length = fs.length := by rfl)
    (hgu : ∀ (vs : List V) (us : List Value), Vals vs us → us.length = fs.length → Vals (g vs) (gu us) ∧ (gu us).length = fs.length ∧ (ks.zip us).Perm (fs.zip (gu us))) (hdb : (x == ("__debug__" : Str)) = false := by decide)
    (hpl : ((backTo pos (starEach [] X.env)).any (·.1) || (backToKw pos (keywordEach kws X.env)).any (·.1.isNone)) = false := by rfl) :
    PE X (.Call (.Name x p) [] kws pos) (fun σ H Q => t σ H fun ws H1 => ws.length = fs.length ∧ ∀ a d, H1 a = none → H1 d = none → d ≠ a → Q (.ref a) (mkH H1 a d C (fs.zip (g ws)).reverse)) := by
  obtain ⟨fI, qual, params, body, scope, J, _, b2⟩ := c.ini
  refine ⟨fun pins s σ H Q I h => ?_⟩
  refine wpAny_Call_Name_kw (ld_glob I hg c.gC ?_ hdb)
  refine PySem.W.callWith_KW0 (h₀ := X.base) I.ok.mod.kin c.oex.kC hall (thn (hk.run pos pins s σ H _ I h) fun ws s1 ⟨vs, H1, I1, r, hl, q⟩ => ⟨I1.kIn, ?_⟩) hpl
  rw [hks]
  have e1 : ws.length = fs.length := r.length.symm.trans hl
  obtain ⟨r2, l2, pm⟩ := hgu vs ws r e1
  exact mkE (us := []) J c.oex c.su hr I1 (Nat.zero_le _) r2 l2 c.fl (fun s y fd hf => b2 s y fd hf ks ws (gu ws) (hkl.trans e1.symm) pm l2 hkl) q
/-- e.f, e an exception that was made -/
def tExf (K : PySem.W.Frag) (f : Str) (te : TE) : TE := fun σ H Q => te σ H fun y H1 => ∃ a C d fl v, y = .ref a ∧ H1 a = some (exo a C (some d)) ∧ H1 d = some (exd d fl) ∧ ExcC K C ∧ PySem.W.findIn K (.ref C) f = some none ∧ fl.lookup f = some v ∧ Q v H1
theorem inst_exo {pins : List (Addr × Obj)} {σ : L2.St} {H : Hp} {s : Shared} {a d : Addr} {fl : List (Str × V)} (I : Inv X pins σ H s) (ha : H a = some (exo a C (some d))) (hd : H d = some (exd d fl)) :
    ∃ (ox od : Obj) (mA : Str → Option Value), PySem.W.InstAt s.heap a ox C (some od) ∧ (∀ f, PySem.W.lookIn f od = some (mA f)) ∧ ∀ f, RelO (fl.lookup f) (mA f) := by
  obtain ⟨t1, ho⟩ := exo_at I.hok ha
  obtain ⟨mA, hns, rel⟩ := exd_at I.hok hd
  obtain ⟨od, e, hl⟩ := lookIn_ns hns
  exact ⟨_, od, mA, ⟨ho, rfl, rfl, e⟩, hl, rel⟩
theorem pe_exf {f : Str} (he : PE X e te) (hb : attributeBase e f X.env (eval e X.env) = eval e X.env := by rfl) : PE X (.Attribute e f pos) (tExf X.K f te) := by
  refine ⟨fun pins s σ H Q I h => ?_⟩
  refine attr_of hb (thn (he.run pins s σ H _ I h) fun u s1 hh => ?_)
  obtain ⟨y, H1, I1, ry, a, C, d, fl, v, rfl, ea, ed, T, hno, hv, q⟩ := hh
  obtain rfl : u = Value.ref a := ry
  obtain ⟨ox, od, mA, J, hl, rel⟩ := inst_exo I1 ea ed
  obtain ⟨u, hu, ru⟩ := RelO.some_of (v := v) (o := mA f) (by rw [← hv]; exact rel f)
  exact HandSPX.exc_get I1.kIn J T.hg T.hk T.hs (PySem.W.findObj_own T.hd hno rfl (by rw [hl, hu])) (handed_of ru) ⟨v, H1, I1.tok _, ru, q⟩
/-- isinstance(e, c), e an exception that was made -/
def rIsX (K : PySem.W.Frag) : List V → Hp → VK → Prop := fun xs H Q => ∃ (a C : Addr) (c : V) (u : Value) (b : Bool), xs = [.ref a, c] ∧ ClsV c u ∧ (H a = some (exo a C none) ∨ ∃ d fl, H a = some (exo a C (some d)) ∧ H d = some (exd d fl)) ∧ ExcC K C ∧ PySem.W.kitOne K (.ref C) u = some b ∧ Q (.bl b) H
theorem call_isX : CallR X (.builtin "isinstance") (rIsX X.K) := by
  intro pins s σ H xs us Q I r h
  obtain ⟨a, C, c, u, b, rfl, hc, hE, T, hk, q⟩ := h
  obtain ⟨u1, u2, rfl, r1, r2⟩ := vals2 r
  obtain rfl : u1 = Value.ref a := r1
  have e2 := hc.eq r2
  subst e2
  have cl : (PySem.W.clsIn X.K C).isSome = true := by
    obtain ⟨cd, h1, _⟩ := PySem.W.any_some T.hd
    rw [h1] <;> rfl
  have fin : ∀ {ox : Obj} {od : Option Obj}, PySem.W.InstAt s.heap a ox C od → wpAny (model X.prog X.w) X.A (call (.builtin "isinstance") [.ref a, u2]) (EP X pins σ Q) X.xe s := fun J =>
    PySem.W.kia_one (PySem.W.kitx_exc cl T.hg T.hk T.hs T.ha T.hn T.ht T.hm) I.kIn J hk (fun z => nomatch z) fun tk => ⟨.bl b, H, I.tok tk, rfl, q⟩
  rcases hE with ea | ⟨d, fl, ea, ed⟩
  · obtain ⟨t1, ho⟩ := exo_at I.hok ea
    exact fin (od := none) ⟨ho, rfl, rfl, trivial⟩
  · obtain ⟨ox, od, mA, J, _, _⟩ := inst_exo I ea ed
    exact fin J
end
end XI

namespace XI
open PySem PySem.Spec PyProof.Rows L2
/-- what stands of an exception's fields behind its making: nothing, or its own dict at d -/
def dH (H : Hp) (d : Addr) : List (Str × V) → Hp
  | [] => H
  | p :: fl => upd H d (.xd (p :: fl))
def dO (d : Addr) : List (Str × V) → Option Addr
  | [] => none
  | _ :: _ => some d
section
variable {X : Cx} {pins : List (Addr × Obj)} {σ : L2.St} {H : Hp} {s : Shared} {C fI : Addr} {qual : Str} {params : Arguments} {body : List Stmt} {scope : Scope} {fs : List Str}
/-- the making of an exception that is let go at once (to be raised) -/
theorem mkM {us ws vals : List Value} {vs : List V} {ks : List Str} {Q : XK} {E : Value → Shared → Prop} (J : IniK X.prog X.K C fI qual params body scope fs) (T : OexC X.K C) (hsu : X.mg "super" = none) (hr : Room 1 X.A) (I : Inv X pins σ H s)
    (hl : us.length ≤ sizeLine) (r : Vals vs vals) (hv : vals.length = fs.length) (hfl : fs.length ≤ 900)
    (hbind : ∀ (s : Shared) (y : Value) (fd : FuncData), (∃ oc od osl, X.K.lookup fI = some ⟨oc, od, .func fd, osl⟩) → BindsTo s fd ⟨y :: us, ks.zip ws⟩ (("self", y) :: fs.zip vals))
    (q : ∀ d, H d = none → Q (.ref C) (dO d (fs.zip vs).reverse) (dH H d (fs.zip vs).reverse)) : wpAny (model X.prog X.w) X.A (call (.ref C) us (ks.zip ws)) (MkP X pins σ Q) E s := by
  obtain ⟨nm, qq, N, bs, bm, sn, sub, ab, col, dd, k0, k1, k2, k3, k5, hC, hbm⟩ := T.cls
  obtain ⟨hp, g, dr, tk, os⟩ := s
  have X0 := I.kIn
  have kp : ∀ b o, hp.get? b = some o → (two hp C us).get? b = some o := fun b o e => Heap.get?_push_of_some _ (Heap.get?_push_of_some _ e)
  have hsz : (two hp C us).objs.size = hp.objs.size + 2 := by rw [Heap.size_push, Heap.size_push]
  have hget : (two hp C us).get? (hp.objs.size + 1) = some (PySem.HandSPX.excO C hp.objs.size) := by heap_get
  have nx : X.K.lookup (hp.objs.size + 1) = none := by
    cases e : X.K.lookup (hp.objs.size + 1) with
    | none => rfl
    | some o => exact absurd (Nat.lt_of_succ_lt (Heap.lt_size (X0 _ _ e))) (Nat.lt_irrefl _)
  obtain ⟨mb, hb1, hb2⟩ := I.mod.blt
  have hn : H (hp.objs.size + 1) = none := I.hok.fresh (Nat.le_succ _)
  refine wpAny_call (callE PySem.F.excBase_ValueError (fun Y => PySem.HandSPX.refsVE_contains Y bm hbm) (X0 _ _ hC) (PySem.W.looks_findIn X0 J.ini) (fun self => PySem.W.bind_fn X0 self J.ity) hl
    (initE (s := ⟨two hp C us, g, dr, tk, os⟩) J T (X0.keeps kp) ((I.mod.glob.keeps I.bk).keeps kp) ((hb1.keeps I.bk).keeps kp) hb2 hsu (I.nolimit.keeps kp) (by have := hr.dp; show X.A.depth + 1 < _; omega) hv hfl (fun fd hfd => hbind _ _ fd hfd) hget nx fun h' t' D => ⟨rfl, ?_⟩))
  have K2 : ∀ b o, hp.get? b = some o → h'.get? b = some o := fun b o e => D.keep b o (Nat.ne_of_lt (Nat.lt_succ_of_lt (Heap.lt_size e))) (kp b o e)
  have neb : ∀ {b : Addr} {o : Obj}, hp.get? b = some o → b ≠ hp.objs.size + 1 := fun e => Nat.ne_of_lt (Nat.lt_succ_of_lt (Heap.lt_size e))
  have rel := relO_zip (fs := fs) r
  obtain ⟨G, gk', gn'⟩ := restrict h' fun b => decide (b ≠ hp.objs.size + 1)
  have gk : ∀ b, b ≠ hp.objs.size + 1 → G.get? b = h'.get? b := fun b hb => gk' b (decide_eq_true hb)
  have ge : G.get? (hp.objs.size + 1) = none := gn' _ (by simp)
  have K3 : ∀ b o, hp.get? b = some o → G.get? b = some o := fun b o e => (gk b (neb e)).trans (K2 b o e)
  have sub : ∀ b o, G.get? b = some o → h'.get? b = some o := fun b o z => by
    by_cases hb : b = hp.objs.size + 1
    · rw [hb, ge] at z
      cases z
    · exact (gk b hb).symm.trans z
  have done : ∀ (d : Addr) (H' : Hp) (od : Option Addr) (tu : Addr), d ≠ hp.objs.size + 1 → H d = none → hp.objs.size + 1 ≤ d → (∀ b, b ≠ d → H' b = H b) → HOk X.prog X.w H' G → h'.get? (hp.objs.size + 1) = some ({ cls := .ref C, dict := od, data := .fields #[.ref tu, .none, .none, .none, .bool false, .none] } : Obj) → Q (.ref C) od H' →
      MkP X pins σ Q (.ref (hp.objs.size + 1)) ⟨h', g, dr, t', os⟩ := fun d H' od tu nd hd hdl hH hok ha q' => by
    have ned : ∀ {b : Addr} {o : Obj}, hp.get? b = some o → b ≠ d := fun e => Nat.ne_of_lt (Nat.lt_of_lt_of_le (Nat.lt_succ_of_lt (Heap.lt_size e)) hdl)
    have st : ∀ b o, H b = some o → H' b = some o := fun b o e => by
      rw [hH b (ne_of_none e hd)]
      exact e
    have J1 : Inv X pins σ H' ⟨G, g, dr, t', os⟩ := I.un (t' := t') (h' := G) ⟨fun b o e _ _ _ => K3 b o e, fun b o e _ _ _ => ⟨o.slots, K3 b o e⟩, fun b o e n _ => by rw [hH b (ned e)]; exact n, fun b o e _ => ⟨o, K3 b o e⟩, fun b xs e => st _ _ e, fun b o u e => st _ _ e, fun b ps e => ⟨#[], by rw [st _ _ e]; simp⟩⟩ hok
    refine ⟨hp.objs.size + 1, _, _, ⟨G, g, dr, t', os⟩, H', .ref C, od, rfl, J1, sub, ge, ha, ⟨rfl, rfl⟩, rfl, rfl, ?_, rfl, J1.bare, raises_own T.exC T.tyC, q'⟩
    rw [hH _ nd.symm]
    exact hn
  have old : ∀ (H' : Hp), (∀ b o, H b = some o → H' b = some o) → ∀ b o, H b = some o → ObjOk X.prog X.w H' G b o := fun H' st b o e =>
    (I.hok b o e).stay (fun c v _ z => K3 c v z) (fun c z => st _ _ z) fun c xs z => st _ _ z
  by_cases hfs : fs = []
  · subst hfs
    obtain ⟨t1, ho⟩ := D.some0 rfl
    have hd : H (hp.objs.size + 2) = none := I.hok.fresh (Nat.le_add_right _ 2)
    exact done (hp.objs.size + 2) H none t1 (n21 _) hd (n12 _) (fun b _ => rfl) (fun b o e => old _ (fun c u z => z) b o e) ho (q (hp.objs.size + 2) hd)
  · have hne : (fs.zip vals).reverse ≠ [] := fun z => by
      have z2 := congrArg List.length z
      rw [List.length_reverse, List.length_zip, hv, Nat.min_self] at z2
      exact hfs (List.length_eq_zero_iff.mp z2)
    obtain ⟨t1, dx, m0, ho, dn, dne, hns, hmap, hw⟩ := D.some1 hne
    have dn' : hp.objs.size + 2 < dx := by rw [← hsz]; exact dn
    have hd : H dx = none := I.hok.fresh (nlt dn')
    have q' := q dx hd
    have rel' : ∀ f, RelO ((fs.zip vs).reverse.lookup f) (m0 f) := fun f => by rw [hmap]; exact rel f
    cases hfl2 : (fs.zip vs).reverse with
    | nil =>
      have z2 := congrArg List.length hfl2
      rw [List.length_reverse, List.length_zip, r.length, hv, Nat.min_self] at z2
      exact absurd (List.length_eq_zero_iff.mp z2) hfs
    | cons p fl =>
      rw [hfl2] at q' rel'
      refine done dx _ (some dx) t1 dne hd (nlt1 dn') (fun b h2 => upd_ne h2) (fun b o e => ?_) ho q'
      by_cases hb2 : b = dx
      · subst hb2
        have e2 := upd_same.symm.trans e
        cases e2
        exact ⟨m0, hns.at fun o y => (gk b dne).trans y, rel'⟩
      · have e2 := (upd_ne hb2).symm.trans e
        exact old _ (fun c u z => by
          show upd H dx _ c = _
          rw [upd_ne (ne_of_none z hd)]
          exact z) b o e2
end
section
variable {X : Cx} {x : Str} {C : Addr} {fs : List Str} {e : Expr} {es : List Expr} {t : TA} {p pos : Pos}
/-- raise C(e, ..) -/
theorem pmk_X (c : EC X.prog X.K X.mg x C fs) (hr : Room 1 X.A) (hg : Gl X x) (ha : PA X (e :: es) t) (hdb : (x == ("__debug__" : Str)) = false := by decide)
    (he : starEach (e :: es) X.env = (false, eval e X.env) :: starEach es X.env := by rfl) (hpl : (backTo pos (starEach es X.env)).any (·.1) = false := by rfl) :
    PMk X (.Call (.Name x p) (e :: es) [] pos) (fun σ H Q => t σ H fun vs H1 => vs.length = fs.length ∧ ∀ d, H1 d = none → Q (.ref C) (dO d (fs.zip vs).reverse) (dH H1 d (fs.zip vs).reverse)) := by
  intro pins s σ H Q I h
  obtain ⟨fI, qual, params, body, scope, J, b1, _⟩ := c.ini
  refine wpAny_Call_Name_kw (ld_glob I hg c.gC ?_ hdb)
  refine PySem.W.callWith_K (h₀ := X.base) I.ok.mod.kin c.oex.kC (thn (ha.run pos pins s σ H _ I h) fun us s1 ⟨vs, H1, I1, r, hl, q⟩ => ⟨I1.kIn, ?_⟩) he hpl
  exact mkM (ks := []) (ws := []) J c.oex c.su hr I1 (lenOk r hl c.fl) r (r.length.symm.trans hl) c.fl (fun s y fd hf => b1 s y fd hf us (r.length.symm.trans hl)) q
theorem pmk_X0 (c : EC X.prog X.K X.mg x C []) (hr : Room 1 X.A) (hg : Gl X x) (hdb : (x == ("__debug__" : Str)) = false := by decide) : PMk X (.Call (.Name x p) [] [] pos) (fun _ H Q => Q (.ref C) none H) := by
  intro pins s σ H Q I h
  obtain ⟨fI, qual, params, body, scope, J, b1, _⟩ := c.ini
  refine wpAny_Call_Name_kw (ld_glob I hg c.gC ?_ hdb)
  refine PySem.W.callWith_K0 I.kIn c.oex.kC ?_
  exact mkM (ks := []) (ws := []) (us := []) (vs := []) (vals := []) J c.oex c.su hr I (Nat.zero_le _) .nil rfl (Nat.zero_le _) (fun s y fd hf => b1 s y fd hf [] rfl) fun d _ => h
end
end XI

/-! a method called, an object made, in a try -/
namespace XI
open PySem PySem.Spec PyProof.Rows L2
section
variable {X : Cx} {CX : CXT} {k : Nat} {f C : Addr} {fd : FuncData} {ps : List Str} {sp : Sp} {E : L2.St → XK} {x m : Str} {p pos apos : Pos} {e o : Expr} {es : List Expr} {ta : TE} {t : TA}
def tMethS (C : Addr) (m : Str) (sp : Sp) (E : L2.St → XK) (ta : TE) (t : TA) : TE := fun σ H Q => ta σ H fun x H1 => ∃ a dx fs, x = .ref a ∧ H1 a = some (.ins C dx fs) ∧ fs.lookup m = none ∧ t σ H1 fun vs H2 => sp (x :: vs) H2 Q (E σ)
theorem pe_methS {pl : Sem Bool} (he : PE X o ta) (c : Cls X.K C) (hm : Meth X.K C m f) (F : FnOk X.prog X.w X.K X.mg X.base CX k f fd ps sp) (hr : Room k X.A) (hb : Binds X.K fd ps []) (hx : ∀ σ, PassesAt CX X σ (E σ)) (ha : PA X (e :: es) t)
    (hst : starEach (e :: es) X.env = (false, eval e X.env) :: starEach es X.env := by rfl) (hpl : (backTo pos (starEach es X.env)).any (·.1) = false := by rfl)
    (ht : eval (.Call (.Attribute o m apos) (e :: es) [] pos) X.env = (do
      let ov ← eval o X.env; standAt apos.atName
      let (g, first) ← holding [ov] (getMethod ov m pl)
      callWith pos g first (backTo pos (starEach (e :: es) X.env)) (backToKw pos (keywordEach [] X.env))) := by rfl) : PE X (.Call (.Attribute o m apos) (e :: es) [] pos) (tMethS C m sp E ta t) := by
  refine ⟨fun pins s σ H Q I h => PySem.W.methodCall_KW (pl := pl) (thn (he.run pins s σ H _ I h) fun u s1 hh => ?_) ht⟩
  obtain ⟨y, H1, I1, ry, a, dx, fs, rfl, ea, l, q⟩ := hh
  obtain rfl : u = Value.ref a := ry
  refine getmeth_ok I1 ea c hm l (PySem.W.callWith_K (first := [.ref a]) (h₀ := X.base) I.ok.mod.kin hm.kp (thn (ha.run pos pins s1 σ H1 _ I1 q) fun us s2 hh2 => ?_) hst hpl)
  obtain ⟨vs, H2, I2, r, q2⟩ := hh2
  exact ⟨I2.kIn, run_fnS (us := .ref a :: us) (vs := .ref a :: vs) F hr hb (hx σ) I2 (.cons rfl r) q2⟩
def tMakeS (C : Addr) (sp : Sp) (E : L2.St → XK) (t : TA) : TE := fun σ H Q => t σ H fun vs H1 => ∀ y dx, H1 y = none → H1 dx = none → dx ≠ y → sp (.ref y :: vs) (upd (upd H1 dx (.own y)) y (.ins C dx [])) (fun v H2 => v = .non ∧ Q (.ref y) H2) (E σ)
theorem run_makeS {pins : List (Addr × Obj)} {σ : L2.St} {H : Hp} {s : Shared} {Q : VK} {us : List Value} {vs : List V} (M : Mk X.K C f) (F : FnOk X.prog X.w X.K X.mg X.base CX k f fd ps sp) (hr : Room (k + 1) X.A) (hb : Binds X.K fd ps [])
    (hx : PassesAt CX X σ (E σ)) (I : Inv X pins σ H s) (r : Vals vs us)
    (h : ∀ y dx, H y = none → H dx = none → dx ≠ y → sp (.ref y :: vs) (upd (upd H dx (.own y)) y (.ins C dx [])) (fun v H2 => v = .non ∧ Q (.ref y) H2) (E σ)) : wpAny (model X.prog X.w) X.A (call (.ref C) us) (EP X pins σ Q) X.xe s := by
  obtain ⟨N, hN⟩ : ∃ N, N = s.heap.objs.size := ⟨_, rfl⟩
  have q0 := h (s.heap.objs.size + 1) s.heap.objs.size (I.hok.fresh (Nat.le_succ _)) (I.hok.fresh (Nat.le_refl _)) (Nat.ne_of_lt (Nat.lt_succ_self _))
  have I2 := Inv.made (C := C) I
  have r2 : Vals (V.ref (s.heap.objs.size + 1) :: vs) (Value.ref (s.heap.objs.size + 1) :: us) := .cons rfl r
  have hl : (Value.ref (s.heap.objs.size + 1) :: us).length = ps.length := by rw [← r2.length, F.len _ _ _ _ q0]
  have hb2 := hb _ (Value.ref (s.heap.objs.size + 1) :: us) I2.kIn (by rw [List.append_nil]; exact hl)
  rw [List.append_nil] at hb2
  refine wpAny_call (make_map (f := f) I.kIn M.makes M.init (beq_iff_eq.mp M.fn) (codeAny_mono (F.run _ X.stack _ _ ⟨_, []⟩ _ _ _ (E σ) (hr.make C us []) (I2.env0.make C us []) hb2 r2 q0) fun r s' hq' => ?_))
  cases r with
  | error er => exact hx pins _ _ er s' I2 hq'
  | ok fl =>
    cases fl with
    | ret u =>
      obtain ⟨v, H', I3, rv, ev, q3⟩ := I2.after hq'
      subst ev
      exact ⟨rv, ⟨V.ref (s.heap.objs.size + 1), H', I3, rfl, q3⟩⟩
    | next => exact hq'.elim
    | brk => exact hq'.elim
    | cont => exact hq'.elim
theorem pe_makeS (M : Mk X.K C f) (F : FnOk X.prog X.w X.K X.mg X.base CX k f fd ps sp) (hr : Room (k + 1) X.A) (hg : Gl X x) (hm : X.mg x = some (.ref C)) (hb : Binds X.K fd ps []) (hx : ∀ σ, PassesAt CX X σ (E σ)) (ha : PA X (e :: es) t)
    (hdb : (x == ("__debug__" : Str)) = false := by decide) (he : starEach (e :: es) X.env = (false, eval e X.env) :: starEach es X.env := by rfl) (hpl : (backTo pos (starEach es X.env)).any (·.1) = false := by rfl) :
    PE X (.Call (.Name x p) (e :: es) [] pos) (tMakeS C sp E t) := by
  refine ⟨fun pins s σ H Q I h => wpAny_Call_Name_kw (ld_glob I hg hm ?_ hdb)⟩
  refine PySem.W.callWith_K (h₀ := X.base) I.ok.mod.kin M.kp (thn (ha.run pos pins s σ H _ I h) fun us s1 hh => ?_) he hpl
  obtain ⟨vs, H1, I1, r, q⟩ := hh
  exact ⟨I1.kIn, run_makeS M F hr hb (hx σ) I1 r q⟩
end
end XI

namespace KB
open PySem PySem.Spec PyProof.Rows L2 C8 XI
/-- what the text says of an __init__ whose parameters are all stored -/
structure TxtI (st : Stmt) (qual : Str) (fs : List Str) : Prop where
  par : ((fnArgs st).posonlyargs ++ (fnArgs st).args).head?.map (·.arg) = some "self"
  ssu : (fnScope st).names.lookup ("super" : Str) = some .globalImplicit
  scl : (fnScope st).names.lookup ("__class__" : Str) = some .free
  sse : (fnScope st).names.lookup ("self" : Str) = some .local
  kin : (fnScope st).kind = .function
  cel : ∀ y ∈ (fnScope st).names, y.2 ≠ .cell
  nco : (fnScope st).isCoroutine = false
  nge : (fnScope st).isGenerator = false
  fie : ∀ f ∈ fs, (fnScope st).names.lookup f = some .local ∧ (f == ("__debug__" : Str)) = false ∧ f ≠ "self"
  ndf : fs.Nodup
  len : fs.length ≤ 900
  bod : ∃ (p0 p1 p2 p3 p4 p5 : Pos) (k : Nat) (tx : Str) (b : List Stmt), fnBody st = .Expr (.Call (.Attribute (.Call (.Name "super" p0) [] [] p1) "__init__" p2) [.Constant (.str tx) k p3] [] p4) p5 :: b ∧ Stores fs b ∧
    ∀ (L fI' cda' cc' : Addr), ∃ pl, eval (.Call (.Attribute (.Call (.Name "super" p0) [] [] p1) "__init__" p2) [.Constant (.str tx) k p3] [] p4) (PySem.W.ksEnv qual (fnScope st) L fI' (.ref cda') cc') = (do
      let ov ← attributeBase (.Call (.Name "super" p0) [] [] p1) "__init__" (PySem.W.ksEnv qual (fnScope st) L fI' (.ref cda') cc') (eval (.Call (.Name "super" p0) [] [] p1) (PySem.W.ksEnv qual (fnScope st) L fI' (.ref cda') cc'))
      standAt p2.atName
      let (fx, first) ← holding [ov] (getMethod ov "__init__" pl)
      callWith p4 fx first (backTo p4 (starEach [.Constant (.str tx) k p3] (PySem.W.ksEnv qual (fnScope st) L fI' (.ref cda') cc'))) []) ∧ swapsWith (.Call (.Attribute (.Call (.Name "super" p0) [] [] p1) "__init__" p2) [.Constant (.str tx) k p3] [] p4) none p5.line (PySem.W.ksEnv qual (fnScope st) L fI' (.ref cda') cc') = pure false
  bP : ∀ (kV doc pm : Value) (an : Option Addr) (cdv ct : Value) (cc : Addr) (y : Value) (us : List Value), us.length = fs.length → bindArgs (PySem.W.ksFn "__init__" qual (fnArgs st) (fnBody st) (fnScope st) .none kV doc pm an cdv ct cc) ⟨y :: us, []⟩ = pure ((("self" : Str), y) :: fs.zip us)
  bK : ∀ (kV doc pm : Value) (an : Option Addr) (cdv ct : Value) (cc : Addr) (y : Value) (ks : List Str) (ws us : List Value), ks.length = ws.length → (ks.zip ws).Perm (fs.zip us) → us.length = fs.length → ks.length = fs.length → bindArgs (PySem.W.ksFn "__init__" qual (fnArgs st) (fnBody st) (fnScope st) .none kV doc pm an cdv ct cc) ⟨[y], ks.zip ws⟩ = pure ((("self" : Str), y) :: fs.zip us)
def inCls (i : Nat) : Stmt := (clsBody (top i)).getD 0 (.Pass ⟨0, 0, 0, 0⟩)
theorem txt_BadLanguage : TxtI (inCls 3) "BadLanguage.__init__" ["index"] where
  par := by decide +kernel
  ssu := by rfl
  scl := by rfl
  sse := by rfl
  kin := by rfl
  cel := by decide +kernel
  nco := by rfl
  nge := by rfl
  fie := by decide +kernel
  ndf := by decide +kernel
  len := by decide
  bod := ⟨_, _, _, _, _, _, _, _, _, by rfl, (.cons .nil), fun L fI' cda' cc' => ⟨_, by rfl, by rfl⟩⟩
  bP := fun _ _ _ _ _ _ _ y us hl => match us, hl with | [_], _ => rfl
  bK := fun _ _ _ _ _ _ _ y ks ws us h1 hp h2 h3 => match ks, ws, us, h1, h2, h3 with
    | [k], [w], [u], _, _, _ => by
      have e := List.perm_singleton.mp hp
      obtain ⟨e1, e2⟩ := Prod.mk.inj (List.cons.inj e).1
      subst e1 e2
      rfl
theorem txt_UnknownLabel : TxtI (inCls 4) "UnknownLabel.__init__" ["label"] where
  par := by decide +kernel
  ssu := by rfl
  scl := by rfl
  sse := by rfl
  kin := by rfl
  cel := by decide +kernel
  nco := by rfl
  nge := by rfl
  fie := by decide +kernel
  ndf := by decide +kernel
  len := by decide
  bod := ⟨_, _, _, _, _, _, _, _, _, by rfl, (.cons .nil), fun L fI' cda' cc' => ⟨_, by rfl, by rfl⟩⟩
  bP := fun _ _ _ _ _ _ _ y us hl => match us, hl with | [_], _ => rfl
  bK := fun _ _ _ _ _ _ _ y ks ws us h1 hp h2 h3 => match ks, ws, us, h1, h2, h3 with
    | [k], [w], [u], _, _, _ => by
      have e := List.perm_singleton.mp hp
      obtain ⟨e1, e2⟩ := Prod.mk.inj (List.cons.inj e).1
      subst e1 e2
      rfl
theorem ec_mk {prog : Program} {K : PySem.W.Frag} {mg : Str → Option Value} {h : Heap} {x qual : Str} {st : Stmt} {C fI cc cda : Addr} {fs : List Str} (T : TxtI st qual fs) (X : K.In h) (G : h.Ns mainGlobals mg)
    {nm q : Str} {N : Addr} {bs bm : List Value} {sn : List Str} {sub : List Value} {ab : Bool} {col : Option Bool} {dd : Option Addr} {k0 k1 k2 k3 k5 : Option Value} {oc kV doc pm ct cl ccl : Value} {od an cld cdd : Option Addr} {osl csl ccs : Array (Option Value)} {vs : Array Value} {file : Str} {tf : Tok}
    (aC : PySem.W.nsIn K mainGlobals x = some (some (.ref C))) (lC : K.lookup C = some (excClassObj nm q C N bs bm true sn sub ab col dd k0 k1 k2 k3 k5 "ValueError.__new__")) (ini : PySem.W.findIn K (.ref C) "__init__" = some (some (.ref fI)))
    (lI : K.lookup fI = some ⟨oc, od, .func (PySem.W.ksFn "__init__" qual (fnArgs st) (fnBody st) (fnScope st) .none kV doc pm an (.ref cda) ct cc), osl⟩) (lc : K.lookup cc = some ⟨cl, cld, .cell (some (.ref C)), csl⟩) (ld : K.lookup cda = some ⟨ccl, cdd, .fields vs, ccs⟩)
    (hbm : PySem.HandSPX.refsVE bm = true) (hv : vs[2]? = some (.str file tf)) (hfile : ((prog.main.file : Str) == file) = true) (htop : (prog.main.scope.names.lookup ("super" : Str)).isSome = false) (su : PySem.W.nsIn K mainGlobals "super" = some none)
    (cI : PySem.W.codeIn K (.ref cda) qual = true) (sa : PySem.W.findIn K (.ref C) "__setattr__" = some (some (.builtin "object.__setattr__"))) (exC : PySem.W.subIn K (.ref C) (.type "BaseException") = some true) (tyC : PySem.W.typeIn K (.ref C) = some (.type "type")) (kC : PySem.W.keepIn K (.ref C) = true)
    (hg : PySem.W.findIn K (.ref C) "__getattribute__" = some (some (.builtin "BaseException.__getattribute__"))) (hk : PySem.W.findIn K (.ref C) "__getattr__" = some none) (hd : PySem.W.hasDictIn K C = true) (ha : PySem.W.findIn K (.ref C) "__class__" = some (some (.builtin "object.__class__")))
    (hn : PySem.W.specialIn K (.builtin "object.__class__") "__get__" = some (some (.builtin "getset_descriptor.__get__"))) (ht : PySem.W.takesIn K (.builtin "object.__class__") = some true) (hm : PySem.W.mroIn K C (.type "object") = some true)
    (sup : PySem.W.ks_superIn K C C "__init__" = some (some (.builtin "ValueError.__init__"))) (ity : PySem.W.typeIn K (.ref fI) = some (.type "function")) (opa : PySem.W.nsIn K cStatics "thirdparty.any" = some none) (suB : PySem.W.subIn K (.ref C) (.type "ValueError") = some true)
    (suC : PySem.W.mroIn K C (.ref C) = some true) (nf : ∀ f ∈ fs, PySem.W.findIn K (.ref C) f = some none) : EC prog K mg x C fs where
  ini := by
    have lk : ∀ {fd : FuncData}, (∃ oc od osl, K.lookup fI = some ⟨oc, od, .func fd, osl⟩) → fd = PySem.W.ksFn "__init__" qual (fnArgs st) (fnBody st) (fnScope st) .none kV doc pm an (.ref cda) ct cc := fun {fd} ⟨oc', od', osl', e⟩ => by
      rw [lI] at e
      cases e
      rfl
    refine ⟨fI, qual, fnArgs st, fnBody st, fnScope st, ⟨⟨oc, od, .none, kV, doc, pm, an, cda, ct, osl, cc, cl, cld, csl, ccl, cdd, ccs, vs, file, tf, lI, cI, lc, ld, hv, hfile⟩, sup, ini, ity, opa, suB, suC, T.par, htop, T.ssu, T.scl, T.sse, T.kin, T.cel, T.nco, T.nge,
      fun f hf => ⟨(T.fie f hf).1, (T.fie f hf).2.1, nf f hf, (T.fie f hf).2.2⟩, T.ndf, T.bod⟩, fun s y fd hfd us hl => ?_, fun s y fd hfd ks ws us h1 h2 h3 h4 => ?_⟩
    · rw [lk hfd]
      exact .of_eq (T.bP _ _ _ _ _ _ _ y us hl)
    · rw [lk hfd]
      exact .of_eq (T.bK _ _ _ _ _ _ _ y ks ws us h1 h2 h3 h4)
  oex := ⟨⟨nm, q, N, bs, bm, sn, sub, ab, col, dd, k0, k1, k2, k3, k5, lC, hbm⟩, sa, exC, tyC, kC⟩
  gC := PySem.W.mg_of X G aC
  su := PySem.W.mg_none_of X G su
  is := ⟨hg, hk, exC, hd, ha, hn, ht, hm⟩
  fl := T.len
end KB

/-! tuple(d), d a dict: its keys -/
namespace XD
open PySem PySem.Spec PySem.W PyProof.Rows L2
section
variable {prog : Program} {w : World} {A : Around} {E : Value → Shared → Prop} {s : Shared} {T : String} {r d : Addr} {n : Nat} {Pn : Nat → Value → Prop} {OK : Heap → Prop}
theorem coll {Q : List Value → Shared → Prop} (K : KdlSrc prog w T r d n Pn OK) (h0 : A.handled = none) (hok : OK s.heap) (hn : n ≤ sizeLine)
    (hq : ∀ (h' : Heap) (tk : Nat) (acc : Array Value), (∀ b o, s.heap.get? b = some o → h'.get? b = some o) → ItemsOf Pn acc n → Q acc.toList { s with heap := h', toks := tk }) : wpAny (model prog w) A (collect (.ref r)) Q E s := by
  unfold collect
  refine wpAny_bind (wpAny_runValue (codeAny_builtin PySem.F.entry_proto_collect ?_))
  rw [Around.under_plainId PySem.F.plain_proto_collect _]
  show wpAny _ A.in1 (newList [] >>= fun l => again (.builtin "list.__iadd__" ⟨[l, .ref r], []⟩)) _ _ s
  refine wpAny_bind (wpAny_newObj_type ?_)
  refine wpAny_pure ⟨plainId_quiet PySem.F.plain_list_iadd _, codeAny_builtin PySem.F.entry_list_iadd ?_⟩
  rw [Around.under_plainId PySem.F.plain_list_iadd _]
  have lt := K.there _ hok
  have hS : (s.heap.push { cls := .type "list", data := .seq ([] : List Value).toArray }).get? s.heap.objs.size = some { cls := .type "list", data := .seq #[] 0 } := Heap.get?_push_size _ rfl
  refine wpAny_mono (kdl_extend (A := A) (R := fun rr s' => rr = .ok (.ret (.ref s.heap.objs.size)) ∧ ∃ (h' : Heap) (tk : Nat) (acc : Array Value) (c' : Nat), s' = { s with heap := h', toks := tk } ∧ (∀ b o, s.heap.get? b = some o → h'.get? b = some o) ∧
      h'.get? s.heap.objs.size = some { cls := .type "list", dict := none, data := .seq acc c', slots := #[] } ∧ ItemsOf Pn acc n)
    (s := { s with heap := s.heap.push { cls := .type "list", data := .seq ([] : List Value).toArray } }) K h0 (K.keep _ _ hok fun b _ o e => Heap.get?_push_of_some _ e) s.heap.objs.size (Nat.ne_of_gt lt.1) (Nat.ne_of_gt lt.2) (.ref s.heap.objs.size) 0 hS
    (fun h' tk acc c' hk e hi => ⟨rfl, h', tk, acc, c', rfl, fun b o q => hk b o (Nat.ne_of_lt (Heap.lt_size q)) (Heap.get?_push_of_some _ q), e, hi⟩) hn) (fun fin s' h => ?_) (fun e s' h => ?_)
  · have last : ∀ {s'' : Shared}, (∃ (h' : Heap) (tk : Nat) (acc : Array Value) (c' : Nat), s'' = { s with heap := h', toks := tk } ∧ (∀ b o, s.heap.get? b = some o → h'.get? b = some o) ∧ h'.get? s.heap.objs.size = some { cls := .type "list", dict := none, data := .seq acc c', slots := #[] } ∧ ItemsOf Pn acc n) →
        wpAny (model prog w) A (load s.heap.objs.size >>= fun o => match o.data with | .seq xs _ => pure xs.toList | _ => unsupported "internal:collect") Q E s'' := by
      rintro s'' ⟨h', tk, acc, c', rfl, hk, hS', hi⟩
      exact wpAny_bind (wpAny_load hS' (wpAny_pure (hq h' tk acc hk hi)))
    cases fin with
    | done f =>
      obtain ⟨e, z⟩ := h
      cases e
      exact last z
    | again c' =>
      refine ⟨h.1, codeAny_mono h.2 fun rr s'' hr' => ?_⟩
      obtain ⟨rfl, z⟩ := hr'
      exact last z
  · exact absurd h.1 (by simp)
theorem tupNew {Q1 : Value → Shared → Prop} (K : KdlSrc prog w "dict" r d n Pn OK) (h0 : A.handled = none) (hok : OK s.heap) (hn : n ≤ sizeLine)
    (hq : ∀ (h' : Heap) (tk : Nat) (acc : Array Value), (∀ b o, s.heap.get? b = some o → h'.get? b = some o) → ItemsOf Pn acc n → Q1 (.ref h'.objs.size) { s with heap := h'.push { cls := .type "tuple", data := .seq acc }, toks := tk }) :
    codeAny (model prog w) A (.call (.builtin "tuple.__new__") ⟨[.type "tuple", .ref r], []⟩) (wants Q1 E) s := by
  refine codeAny_of_tree ?_
  show wpAny _ A.in1 (do checkBuiltinCall "tuple.__new__" ⟨[.type "tuple", .ref r], []⟩; again (.builtin "tuple.__new__" ⟨[.type "tuple", .ref r], []⟩)) _ _ s
  refine wpAny_bind (wpAny_of_eq (PySem.F.newCall_tuple_1 _) (wpAny_pure ⟨plainId_quiet PySem.F.plain_tuple_new _, codeAny_builtin PySem.F.entry_tuple_new ?_⟩))
  rw [Around.under_plainId PySem.F.plain_tuple_new _]
  have z1 := sub_tuple_self
  have z2 := init_tuple_lookup
  have z3 := madeHere_tuple
  have ty : s.TypeIs (.ref r) "dict" := K.type s hok
  have h1 : A.in1.handled = none := h0
  wp_walk using wpAny_typeOf ty, coll (A := A.in1) K h1 hok hn
  intro h' tk acc hk hacc
  show wpAny _ _ (Builtin.Tuple.tupleExact acc.toList.toArray >>= fun v => ret v) _ _ _
  unfold Builtin.Tuple.tupleExact
  have ez : acc.toList.toArray = acc := by simp
  rw [ez]
  refine wpAny_bind (wpAny_newObj_type (wpAny_pure ?_) (by show acc.size ≤ sizeLine; rw [hacc.1]; exact hn))
  exact hq h' tk acc hk hacc
theorem tup_call {Q : Value → Shared → Prop} (K : KdlSrc prog w "dict" r d n Pn OK) (h0 : A.handled = none) (hok : OK s.heap) (hn : n ≤ sizeLine)
    (hq : ∀ (h' : Heap) (tk : Nat) (acc : Array Value), (∀ b o, s.heap.get? b = some o → h'.get? b = some o) → ItemsOf Pn acc n → Q (.ref h'.objs.size) { s with heap := h'.push { cls := .type "tuple", data := .seq acc }, toks := tk }) :
    wpAny (model prog w) A (call (.type "tuple") [.ref r]) Q E s := by
  refine callType_codes (Q₁ := fun obj s1 => s1.TypeIs obj "tuple" ∧ Q obj s1) PySem.F.called_tuple (PySem.F.typeCall_tuple_1 _) PySem.F.entry_object_init
    (tupNew (A := A.in1) K h0 hok hn fun h' tk acc hk hacc => ⟨⟨_, Heap.get?_push_size _ rfl, rfl⟩, hq h' tk acc hk hacc⟩) fun obj s1 h1 => ?_
  exact ⟨h1.1, PySem.F.args_object_init_2 obj _, object_init_meets PySem.F.called_tuple.init.lookup PySem.F.called_tuple.made (by decide) prog w A.in1 _ s1 ⟨h1.1, rfl, h1.2⟩⟩
end
section
variable {X : Cx}
def rTupD (K : PySem.W.Frag) : List V → Hp → VK → Prop := fun xs H Q => ∃ (a : Addr) (kvs : List (Key × V)), xs = [.ref a] ∧ H a = some (.dK kvs) ∧ ∀ p, H p = none → Q (.ref p) (upd H p (.tup (kvs.map fun kv => kV kv.1)))
theorem call_tupleD (hc : X.calm = true) : CallR X (.type "tuple") (rTupD X.K) := by
  intro pins s σ H xs us Q I r q
  obtain ⟨a, kvs, rfl, hd, q⟩ := q
  obtain ⟨u, rfl, rx⟩ := vals1 r
  cases rx
  obtain ⟨z, lo, vs, rel, dd⟩ := dk_rd I.hok (.inl hd)
  obtain ⟨ep, hat⟩ := dd.dictAt
  have same_keys : (kvs.map fun kv => kV kv.1) = vs.map fun p => kV p.1 := by
    have kk := congrArg (List.map kV) rel.keys
    rw [List.map_map, List.map_map] at kk; exact kk
  refine tup_call (kdl_dict (knd := mixKind X.prog X.w) (kvs := vs) (ep := ep) lo) (I.ok.hd hc) hat (by rw [← rel.length]; exact z) fun h' tk acc hk hacc => ?_
  have got : Vals (vs.map fun p => kV p.1) acc.toList := keys_at (by rw [Array.length_toList]; exact hacc.1) fun j v e => hacc.2 j v (by rw [← Array.getElem?_toList]; exact e)
  have I1 : Inv X pins σ H { s with heap := h', toks := tk } := I.kept (t' := tk) hk
  have nw : ObjOk X.prog X.w (upd H h'.objs.size (.tup (kvs.map fun kv => kV kv.1))) (h'.push { cls := .type "tuple", data := .seq acc }) h'.objs.size (.tup (kvs.map fun kv => kV kv.1)) :=
    ⟨by rw [List.length_map]; exact z, acc.toList, by rw [same_keys]; exact got, by rw [Array.toArray_toList]; exact IsTup.new _ _⟩
  exact ⟨.ref h'.objs.size, _, I1.laid (t' := tk) (fun c o e => Heap.get?_push_of_some _ e) (Nat.le_refl _) nw, rfl, q _ (I1.hok.fresh (Nat.le_refl _))⟩
end
end XD

namespace KB
open PySem PySem.Spec PyProof.Rows L2 C8 XE XD XI
/-! what a language of any data is -/
def rowD (r : Rw) : D := .sq [.fl (.str r.1), .fl (.int r.2)]
structure RowsG (rs : List Rw) : Prop where
  len : rs.length ≤ 1000
  nd : (labs rs).Nodup
  num : ∀ r ∈ rs, 0 ≤ r.2 ∧ r.2 ≤ 2
  wrd : ∀ r ∈ rs, wordS r.1 = true
theorem labB_inv2 {d : D} (h : labB d = true) : ∃ r : Rw, d = rowD r ∧ 0 ≤ r.2 ∧ r.2 ≤ 2 ∧ r.1 ≠ "keep" ∧ wordS r.1 = true := by
  obtain ⟨z, n, rfl, h1, h2⟩ := labB_inv h
  have h : ((wordS z && !decide (z = ("keep" : Str))) && (decide (0 ≤ n) && decide (n ≤ 2))) = true := h
  rw [Bool.and_eq_true, Bool.and_eq_true] at h
  exact ⟨(z, n), rfl, h1, h2, (by have := h.1.2; simpa using this), h.1.1⟩
theorem fb_inv : ∀ (ds : List D) (kn : List Str) (i : Nat), fb kn i ds = none → ∃ rs : List Rw, ds = rs.map rowD ∧ (rs.map (·.1)).Nodup ∧ (∀ r ∈ rs, 0 ≤ r.2 ∧ r.2 ≤ 2 ∧ r.1 ≠ "keep" ∧ wordS r.1 = true ∧ r.1 ∉ kn)
  | [], _, _, _ => ⟨[], rfl, .nil, fun r hr => by cases hr⟩
  | d :: ds, kn, i, h => by
    unfold fb at h
    split at h
    · rename_i ho
      obtain ⟨rs, rfl, nd, hm⟩ := fb_inv ds _ _ h
      unfold okRow at ho
      rw [Bool.and_eq_true] at ho
      obtain ⟨r, rfl, n0, n2, nk, hw⟩ := labB_inv2 ho.1
      have hn : r.1 ∉ kn := by
        have := ho.2
        rw [Bool.not_eq_true'] at this
        exact of_decide_eq_false this
      refine ⟨r :: rs, rfl, List.nodup_cons.mpr ⟨fun hr => ?_, nd⟩, fun q hq => ?_⟩
      · obtain ⟨q, hq, e⟩ := List.mem_map.mp hr
        exact (hm q hq).2.2.2.2 (by rw [e]; exact List.mem_append_right _ (List.mem_singleton.mpr rfl))
      · rcases List.mem_cons.mp hq with rfl | hq
        · exact ⟨n0, n2, nk, hw, hn⟩
        · obtain ⟨a, b, c, e, f⟩ := hm q hq
          exact ⟨a, b, c, e, fun z => f (List.mem_append_left _ z)⟩
    · cases h
theorem wrong_inv {d : D} (h : wrongV d = .non) (hs : shortAll d = true) : ∃ rs : List Rw, d = .sq (rs.map rowD) ∧ RowsG rs := by
  cases d with
  | fl x => cases h
  | emp => cases h
  | sq ds =>
    have hs : (ds.all shortD && decide (ds.length ≤ 1000)) = true := hs
    rw [Bool.and_eq_true] at hs
    have hl := of_decide_eq_true hs.2
    cases hf : fb [] 0 ds with
    | some k =>
      have h : (match fb [] 0 ds with | some k => V.int (k : Nat) | none => if zeroIn ds = true then V.non else .int (ds.length : Nat)) = .non := h
      rw [hf] at h
      cases h
    | none =>
      obtain ⟨rs, rfl, nd, hm⟩ := fb_inv ds [] 0 hf
      refine ⟨rs, rfl, by rwa [List.length_map] at hl, ?_, fun r hr => ⟨(hm r hr).1, (hm r hr).2.1⟩, fun r hr => (hm r hr).2.2.2.1⟩
      unfold labs nums
      rw [List.map_append]
      refine List.nodup_append.mpr ⟨nd, by simp, fun a ha b hb e => ?_⟩
      have hb := List.mem_singleton.mp hb
      subst e hb
      obtain ⟨r, hr, e⟩ := List.mem_map.mp ha
      exact (hm r hr).2.2.1 e
theorem wrong_ok {d : D} (h : wrongV d = .non) : wrongV d = .non := h
/-- a row as it was handed -/
def RowX (F : Addr → Prop) (H : Hp) (v : V) (r : Rw) : Prop := ∃ t, v = .ref t ∧ (H t = some (.tup [.str r.1, .int r.2]) ∨ (F t ∧ H t = some (.lst [.str r.1, .int r.2])))
theorem RowX.same {F : Addr → Prop} {H H' : Hp} (s : Same H H') {v : V} {r : Rw} (h : RowX F H v r) : RowX F H' v r := by
  obtain ⟨t, e, q⟩ := h
  exact ⟨t, e, q.imp (s _ _) fun ⟨a, b⟩ => ⟨a, s _ _ b⟩⟩
theorem rowsX {F : Addr → Prop} {H : Hp} : ∀ {rs : List Rw} {vs : List V}, DAts F H vs (rs.map rowD) → Paired (RowX F H) vs rs
  | [], [], _ => .nil
  | r :: rs, v :: vs, h => by
    obtain ⟨⟨t, us, rfl, q, _, hu⟩, h2⟩ := h
    match us, hu with
    | [u1, u2], ⟨⟨e1, _⟩, ⟨e2, _⟩, _⟩ =>
      subst e1 e2
      exact .cons ⟨t, rfl, q⟩ (rowsX h2)
  | [], _ :: _, h => h.elim
  | _ :: _, [], h => h.elim
end KB

namespace KB
open PySem PySem.Spec PyProof.Rows L2 C8 XE XD XI
/-! Language.__init__ of any data -/
def mth (j : Nat) : Stmt := (clsBody (top 17)).getD j (.Pass ⟨0, 0, 0, 0⟩)
abbrev sInit : Stmt := mth 0
abbrev NIn : List Str := ["self", "rows", "wrong", "row", "label", "number"]
theorem scInit : FnScope NIn ["self", "rows"] (fnScope sInit) := fnScope_by (by decide +kernel)
def LangAt (H : Hp) (x C : Addr) (rs : List Rw) : Prop := ∃ dx rt nt lt ws, H x = some (.ins C dx [("rows", .ref rt), ("numbers", .ref nt), ("labels", .ref lt)]) ∧ H rt = some (.tup ws) ∧ Paired (RowV H) ws rs ∧ H nt = some (.dK ((nums rs).map kvOf)) ∧ H lt = some (.tup ((labs rs).map V.str))
structure LC (K : PySem.W.Frag) (mg : Str → Option Value) (C : Addr) : Prop where
  cls : Cls K C
  rows : NoAttr K C "rows"
  numbers : NoAttr K C "numbers"
  labels : NoAttr K C "labels"
/-- what it raises, with one field -/
def exO (BL : Addr) (f : Str) (v : V) (H : Hp) (E : XK) : Prop := ∀ H' d, Same H H' → H' d = none → E (.ref BL) (some d) (upd H' d (.xd [(f, v)]))
def spInit (C BL : Addr) : Sp := fun vs H Q E => ∃ (x dx : Addr) (v : V) (d : D) (F : Addr → Prop), vs = [.ref x, v] ∧ H x = some (.ins C dx []) ∧ DAt F H v d ∧ shortAll d = true ∧ (wrongV d ≠ .non → exO BL "index" (wrongV d) H E) ∧
  ∀ rs H', d = .sq (rs.map rowD) → RowsG rs → wrongV d = .non → (∀ b o, H b = some o → b ≠ x → H' b = some o) → LangAt H' x C rs → Q .non H'
section
variable {P : Program} {w : World} {K : PySem.W.Frag} {mg : Str → Option Value} {base : Heap}
theorem lt_walk {K : PySem.W.Frag} {i : Nat} {σ : L2.St} {H : Hp} {R : It → Hp → Prop} {a : Addr} {vs : List V} (hi : σ[i]? = some (some (.ref a))) (q : H a = some (.tup vs) ∨ H a = some (.lst vs))
    (h : ∀ J : It, (∀ j H', j < vs.length → H' a = H a → J.go j H') → (∀ H', H' a = H a → J.stop vs.length H') → (∀ j H' x H'', H' a = H a → J.yld j H' x H'' → H'' = H' ∧ vs[j]? = some x) → R J H) : iList K (tVar i) σ H R ∨ iTup K (tVar i) σ H R := by
  rcases q with q | q
  · exact .inr ⟨_, hi, a, rfl, ⟨vs, SqT.of q⟩, h _ (fun j H' hj e => ⟨vs, vs.getD j .non, SqT.of (by rw [e]; exact q), getD_at hj⟩) (fun H' e => ⟨vs, SqT.of (by rw [e]; exact q), Nat.le_refl _⟩) (fun j H' x H'' e y => ⟨y.1, y.2 _ (SqT.of (by rw [e]; exact q))⟩)⟩
  · exact .inl ⟨_, hi, a, rfl, ⟨vs, SqL.of q⟩, h _ (fun j H' hj e => ⟨vs, vs.getD j .non, SqL.of (by rw [e]; exact q), getD_at hj⟩) (fun H' e => ⟨vs, SqL.of (by rw [e]; exact q), Nat.le_refl _⟩) (fun j H' x H'' e y => ⟨y.1, y.2 _ (SqL.of (by rw [e]; exact q))⟩)⟩
theorem row_ix {K : PySem.W.Frag} {t : Addr} {u1 u2 : V} {H : Hp} (ht : H t = some (.tup [u1, u2]) ∨ H t = some (.lst [u1, u2])) {Q : VK} : (Q u1 H → rIx K (.ref t) (.int 0) H Q) ∧ (Q u2 H → rIx K (.ref t) (.int 1) H Q) := by
  rcases ht with qb | qb
  · exact ⟨fun h => .inr (.inl ⟨t, _, 0, _, rfl, rfl, SqT.of qb, at_of (j := 0) (by omega) rfl, h⟩), fun h => .inr (.inl ⟨t, _, 1, _, rfl, rfl, SqT.of qb, at_of (j := 1) (by omega) rfl, h⟩)⟩
  · exact ⟨fun h => .inl ⟨t, _, 0, _, rfl, rfl, SqL.of qb, at_of (j := 0) (by omega) rfl, h⟩, fun h => .inl ⟨t, _, 1, _, rfl, rfl, SqL.of qb, at_of (j := 1) (by omega) rfl, h⟩⟩
/-- a def that may let an own exception out, by its body -/
theorem fnX {x qual : Str} {st : Stmt} {f : Addr} {fd : FuncData} {N ps : List Str} {k : Nat} {sp : Sp} (F : C8.Fun K x qual st f fd) (S : FnScope N ps (fnScope st)) (len : ∀ vs H Q E, sp vs H Q E → vs.length = ps.length)
    (hbody : ∀ (cdv : Value) (A : Around) (outer : List Env) (s : Shared) (H : Hp) (vs : List V) (Q : VK) (E : XK), Room k (A.deeper (envOfC qual (fnScope st) s.heap.objs.size f cdv)) → sp vs H Q E →
      ∃ t, PSs (cxOf (L2.CX P w) P w K mg base N qual (fnScope st) f cdv A outer s H E) (fnBody st) t ∧ t { nx := fun _ H' => Q .non H', rt := Q } (start N vs) H) : FnOk P w K mg base (L2.CX P w) (k + 1) f fd ps sp := by
  obtain ⟨oc, od, dV, kV, doc, pm, an, cdv, ct, osl, rfl, lk, hcd⟩ := F.ex
  exact fn_of lk hcd S len fun A outer s H vs Q E hr hsp => hbody cdv A outer s H vs Q E hr hsp
theorem c_init {C BL f : Addr} {fd : FuncData} (F : C8.Fun K "__init__" "Language.__init__" sInit f fd) (T : Blt4 mg) (G : Gs mg) (L : LC K mg C) (EB : EC P K mg "BadLanguage" BL ["index"]) (CW : Cal P w K mg base 3 "wrong_row" spWrong []) : FnOk P w K mg base (L2.CX P w) 4 f fd ["self", "rows"] (spInit C BL) := by
  refine fnX F scInit (fun vs H Q E h => ?_) (fun cdv A outer s H vs Q E hr h => ?_)
  · obtain ⟨x, dx, v, d, F, rfl, _⟩ := h
    rfl
  · obtain ⟨x, dx, v, d, F, rfl, hx, hv, hs, kE, k⟩ := h
    have nd := scInit.nd
    refine ⟨_, pss_cons (ps_set (i := 2) nd rfl (Or.inl rfl) (pe_c CW hr (by decide) (by rfl) (pa_cons (pv 1) pa_nil)))
      (pss_cons (ps_if (pt_cmp (pc_notN (pv 2))) (pss_one (ps_raise rfl (takes_of rfl rfl rfl rfl) (pmk_X EB (hr.mono (by decide)) (by rfl) (pa_cons (pv 2) pa_nil)))) pss_nil)
      (pss_cut (ps_fld (pv 0) (pe_callTy call_tuple_of (by rfl) T.tup (by decide +kernel) (pa_cons (pe_lc (own := [("row", 3)]) (g := gName 3) (tt := tYes) rfl nd (PI.or (pi_list (pv 1)) (pi_tup (pv 1))) (blkOk_by (N := NIn) (sc := fnScope sInit) (by decide +kernel))
          (fun _ _ _ _ _ => pg_name (i := 3) nd rfl (Or.inl rfl)) (fun _ _ _ _ _ => pts_nil)
          (fun _ _ _ _ _ => pe_tup (pa_cons (pe_ix (show IxR _ (rIx K) from ix_seq) (pv 3) pe_int fun _ _ => rfl) (pa_cons (pe_ix (show IxR _ (rIx K) from ix_seq) (pv 3) pe_int fun _ _ => rfl) pa_nil)))) pa_nil)) rfl)
      (pss_cut (ps_fld (pv 0) (pe_dc (own := [("label", 4), ("number", 5)]) (g := gTup K 2 (gCons (gName 4) (gCons (gName 5) gNil))) (tt := tYes) rfl nd (pi_tup (pe_tup (StX.pa_star (pe_fld (pv 0) rfl) (pa_cons (pe_tup (pa_cons (pe_gc (by rfl) G.kee) (pa_cons pe_int pa_nil))) pa_nil))))
          (blkOk_by (N := NIn) (sc := fnScope sInit) (by decide +kernel)) (fun _ _ _ _ _ => pg_tup rfl (pgs_cons (pg_name (i := 4) nd rfl (Or.inl rfl)) (pgs_cons (pg_name (i := 5) nd rfl (Or.inl rfl)) pgs_nil))) (fun _ _ _ _ _ => pts_nil) (fun _ _ _ _ _ => pv 4) (fun _ _ _ _ _ => pv 5)) rfl)
      (pss_one (ps_fld (pv 0) (pe_callTy (call_tupleD rfl) (by rfl) T.tup (by decide +kernel) (pa_cons (pe_fld (pv 0) rfl) pa_nil)) rfl))))), ?_⟩
    refine ⟨_, rfl, v, d, F, rfl, hv, hs, fun H1 s1 => ?_⟩
    by_cases hw : wrongV d = .non
    · rw [hw]
      obtain ⟨rs, rfl, ok⟩ := wrong_inv hw hs
      obtain ⟨l, us, rfl, q, _, hus⟩ := hv
      have hp : Paired (RowX F H1) us rs := Paired.mono (fun _ _ h => h.same s1) (rowsX hus)
      have hlen := Paired.length hp
      have hok := ok.len
      have hx1 := s1 _ _ hx
      refine ⟨_, rfl, _, rfl, iteBf (by rfl) ?_⟩
      have q1 : H1 l = some (.tup us) ∨ (F l ∧ H1 l = some (.lst us)) := q.imp (s1 _ _) fun ⟨a, b⟩ => ⟨a, s1 _ _ b⟩
      have hw0 := hw
      clear hw
      refine ⟨fun σ H' => ∃ (rt : Addr) (ws : List V), σ = [some (.ref x), some (.ref l), some .non, none, none, none] ∧ H' x = some (.ins C dx [("rows", .ref rt)]) ∧ H' rt = some (.tup ws) ∧ Paired (RowV H') ws rs ∧ ∀ b o, H b = some o → b ≠ x → H' b = some o, ?_, ?_⟩
      · refine lt_walk (vs := us) rfl (q1.imp id And.right) fun J jgo jst jyl Da nDa => ?_
        have sa : ∀ {H'}, Same H1 H' → H' l = H1 l := fun sm => q1.elim (fun e => by rw [sm _ _ e, e]) (fun e => by rw [sm _ _ e.2, e.2])
        refine lc_gen (J := J) rs.length (fun i H' => ∃ ws, H' Da = some (.lst ws) ∧ Paired (RowV H') ws (rs.take i) ∧ Same H1 H') ⟨[], upd_same, .nil, same_upd nDa⟩ (fun i H' hi ⟨_, _, _, sm⟩ => jgo i H' (by omega) (sa sm))
          (fun H' ⟨_, _, _, sm⟩ => by rw [← hlen]; exact jst H' (sa sm)) (fun i H' v H'' hi ⟨ws, hD, hw, sm⟩ yl => ?_) (fun H' ⟨ws, hD, hw, sm⟩ => ?_)
        · obtain ⟨rfl, hv⟩ := jyl i H' v H'' (sa sm) yl
          obtain ⟨r, hr', t, rfl, ht⟩ := paired_get hp hv
          obtain ⟨hlt, er⟩ := List.getElem?_eq_some_iff.mp hr'
          refine ⟨rfl, ?_⟩
          unfold tYes
          dsimp only
          rw [if_pos rfl]
          refine ⟨_, rfl, (row_ix (ht.imp (sm _ _) fun e => sm _ _ e.2)).1 ⟨_, rfl, (row_ix (ht.imp (sm _ _) fun e => sm _ _ e.2)).2 ⟨(by show 2 ≤ sizeLine; decide), fun p np => ?_⟩⟩⟩
          have pD : p ≠ Da := (ne_of_none hD np).symm
          have hwl := Paired.length hw
          rw [List.length_take] at hwl
          refine ⟨ws, by rw [upd_ne pD.symm]; exact hD, by rw [sizeLine_eq]; omega, ws ++ [.ref p], upd_same, ?_, fun b o q => by rw [upd_ne (ne_of_none q nDa), upd_ne (ne_of_none (sm _ _ q) np)]; exact sm _ _ q⟩
          rw [List.take_succ_eq_append_getElem hlt, er]
          refine Paired.snoc (Paired.mono (fun _ _ ⟨t', e, q⟩ => ⟨t', e, ?_⟩) hw) ⟨p, rfl, by rw [upd_ne pD]; exact upd_same⟩
          rw [upd_ne (ne_of q hD (by intro z; cases z)), upd_ne (ne_of_none q np)]
          exact q
        · rw [List.take_of_length_le (Nat.le_refl _)] at hw
          refine ⟨Da, ws, rfl, .inl ⟨SqL.of hD, fun rt nrt => ?_⟩⟩
          have s2 : Same H1 (upd H' rt (.tup ws)) := sm.trans (same_upd nrt)
          have hw2 : Paired (RowV (upd H' rt (.tup ws))) ws rs := Paired.mono (fun _ _ q => q.same (same_upd nrt)) hw
          have hr2 : (upd H' rt (.tup ws)) rt = some (.tup ws) := upd_same
          generalize upd H' rt (.tup ws) = H2 at s2 hw2 hr2
          have hx2 := s2 _ _ hx1
          have keep : ∀ {q : Addr} {vs : List V}, H2 q = some (.tup vs) → (upd H2 x (.ins C dx [("rows", .ref rt)])) q = some (.tup vs) := fun e => by rw [upd_ne (ne_of e hx2 (by intro z; cases z))]; exact e
          refine ⟨_, rfl, x, C, dx, _, rfl, hx2, L.cls, L.rows, by decide, rt, ws, rfl, upd_same, keep hr2, Paired.mono (fun _ _ ⟨t', e, q⟩ => ⟨t', e, keep q⟩) hw2, fun b o e ne => ?_⟩
          rw [upd_ne ne]
          exact s2 _ _ (s1 _ _ e)
      rintro σ H2 ⟨rt, ws, rfl, hx2, hrt, hw, b2⟩
      refine ⟨fun σ H' => ∃ nt, σ = [some (.ref x), some (.ref l), some .non, none, none, none] ∧ H' x = some (.ins C dx [("rows", .ref rt), ("numbers", .ref nt)]) ∧ H' nt = some (.dK ((nums rs).map kvOf)) ∧ H' rt = some (.tup ws) ∧ Paired (RowV H') ws rs ∧ ∀ b o, H b = some o → b ≠ x → H' b = some o, ?_, ?_⟩
      · have hwl := Paired.length hw
        refine ⟨_, rfl, x, C, dx, _, _, rfl, hx2, L.cls, L.rows, rfl, rt, ws, rfl, .inl (SqT.of hrt), (by show 2 ≤ sizeLine; decide), fun kt nkt => ⟨by rw [List.length_append, sizeLine_eq]; simp; omega, fun it nit => ⟨it, rfl, ⟨_, SqT.of upd_same⟩, fun Da nDa => ?_⟩⟩⟩
        have s3 : Same H2 (upd (upd H2 kt (.tup [.str "keep", .int 1])) it (.tup (ws ++ [.ref kt]))) := (same_upd nkt).trans (same_upd nit)
        have hk3 : (upd (upd H2 kt (.tup [.str "keep", .int 1])) it (.tup (ws ++ [.ref kt]))) kt = some (.tup [.str "keep", .int 1]) := by rw [upd_ne (ne_of_none upd_same nit)]; exact upd_same
        have hi3 : (upd (upd H2 kt (.tup [.str "keep", .int 1])) it (.tup (ws ++ [.ref kt]))) it = some (.tup (ws ++ [.ref kt])) := upd_same
        have hp3 : Paired (RowV (upd (upd H2 kt (.tup [.str "keep", .int 1])) it (.tup (ws ++ [.ref kt])))) (ws ++ [.ref kt]) (nums rs) := Paired.snoc (Paired.mono (fun _ _ q => q.same s3) hw) ⟨kt, rfl, hk3⟩
        generalize upd (upd H2 kt (.tup [.str "keep", .int 1])) it (.tup (ws ++ [.ref kt])) = H3 at s3 hi3 hp3 nDa ⊢
        have hnl := Paired.length hp3
        have hnn : (nums rs).length = rs.length + 1 := by unfold nums; rw [List.length_append]; rfl
        refine dc_tup (xs := ws ++ [.ref kt]) (fun i H' => H' Da = some (.dK (((nums rs).take i).map kvOf)) ∧ Same H3 H') ⟨upd_same, same_upd nDa⟩ (fun i H' _ ⟨_, sm⟩ => SqT.of (sm _ _ hi3)) (fun i v H' hv ⟨hD, sm⟩ => ?_) (fun H' ⟨hD, sm⟩ => ?_)
        · obtain ⟨r, hr', t, rfl, ht⟩ := paired_get hp3 hv
          obtain ⟨hlt, er⟩ := List.getElem?_eq_some_iff.mp hr'
          refine ⟨t, [.str r.1, .int r.2], rfl, SqT.of (sm _ _ ht), rfl, .str r.1, [.int r.2], rfl, .int r.2, [], rfl, rfl, rfl, ?_⟩
          unfold tYes
          dsimp only
          rw [if_pos rfl]
          refine ⟨_, rfl, _, rfl, _, Sum.inr r.1, rfl, hD, by rw [List.length_map, List.length_take, sizeLine_eq]; omega, ?_, fun b o q => by rw [upd_ne (ne_of_none q nDa)]; exact sm _ _ q⟩
          have new : valV (((nums rs).take i).map kvOf) (Sum.inr r.1) = none := by
            rw [valV_rows]
            rw [List.find?_eq_none.mpr fun q hq => ?_]
            · rfl
            · intro e
              have e := beq_iff_eq.mp e
              have nd' := ok.nd
              unfold labs at nd'
              rw [← List.take_append_drop i (nums rs), List.map_append, List.drop_eq_getElem_cons hlt, er, List.map_cons] at nd'
              exact (List.nodup_append.mp nd').2.2 q.1 (List.mem_map_of_mem hq) r.1 List.mem_cons_self e
          rw [upd_same, putK_new _ new, List.take_succ_eq_append_getElem hlt, er, List.map_append]
          rfl
        · rw [hnl, List.take_of_length_le (Nat.le_refl _)] at hD
          have hx4 := sm _ _ (s3 _ _ hx2)
          refine ⟨_, rfl, x, C, dx, _, rfl, hx4, L.cls, L.numbers, by simp, Da, rfl, upd_same, ?_, ?_, ?_, fun b o e ne => ?_⟩
          · rw [upd_ne (ne_of hD hx4 (by intro z; cases z))]
            exact hD
          · rw [upd_ne (ne_of (sm _ _ (s3 _ _ hrt)) hx4 (by intro z; cases z))]
            exact sm _ _ (s3 _ _ hrt)
          · exact Paired.mono (fun _ _ ⟨t', e, q⟩ => ⟨t', e, by rw [upd_ne (ne_of (sm _ _ (s3 _ _ q)) hx4 (by intro z; cases z))]; exact sm _ _ (s3 _ _ q)⟩) hw
          · rw [upd_ne ne]
            exact sm _ _ (s3 _ _ (b2 _ _ e ne))
      rintro σ H3 ⟨nt, rfl, hx3, hn3, hrt3, hw3, b3⟩
      refine ⟨_, rfl, x, C, dx, _, _, rfl, hx3, L.cls, L.numbers, rfl, nt, _, rfl, hn3, fun lt nlt => ?_⟩
      have ek : ((nums rs).map kvOf).map (fun kv => kV kv.1) = (labs rs).map V.str := by unfold labs; rw [List.map_map, List.map_map]; rfl
      rw [ek]
      have hx4 : (upd H3 lt (.tup ((labs rs).map V.str))) x = some (.ins C dx [("rows", .ref rt), ("numbers", .ref nt)]) := by rw [upd_ne (ne_of_none hx3 nlt)]; exact hx3
      have hn4 : (upd H3 lt (.tup ((labs rs).map V.str))) nt = some (.dK ((nums rs).map kvOf)) := by rw [upd_ne (ne_of_none hn3 nlt)]; exact hn3
      have hl4 : (upd H3 lt (.tup ((labs rs).map V.str))) lt = some (.tup ((labs rs).map V.str)) := upd_same
      have hrt4 : (upd H3 lt (.tup ((labs rs).map V.str))) rt = some (.tup ws) := by rw [upd_ne (ne_of_none hrt3 nlt)]; exact hrt3
      have hw4 : Paired (RowV (upd H3 lt (.tup ((labs rs).map V.str)))) ws rs := Paired.mono (fun _ _ q => q.same (same_upd nlt)) hw3
      have b4 : ∀ b o, H b = some o → b ≠ x → (upd H3 lt (.tup ((labs rs).map V.str))) b = some o := fun b o e ne => by rw [upd_ne (ne_of_none (b3 _ _ e ne) nlt)]; exact b3 _ _ e ne
      generalize upd H3 lt (.tup ((labs rs).map V.str)) = H4 at hx4 hn4 hl4 hrt4 hw4 b4 ⊢
      refine ⟨_, rfl, x, C, dx, _, rfl, hx4, L.cls, L.labels, by simp, k _ _ rfl ok hw0 (fun b o e ne => by rw [upd_ne ne]; exact b4 _ _ e ne) ⟨dx, rt, nt, lt, ws, upd_same, ?_, ?_, ?_, ?_⟩⟩
      · rw [upd_ne (ne_of hrt4 hx4 (by intro z; cases z))]; exact hrt4
      · exact Paired.mono (fun _ _ ⟨t', e, q⟩ => ⟨t', e, by rw [upd_ne (ne_of q hx4 (by intro z; cases z))]; exact q⟩) hw4
      · rw [upd_ne (ne_of hn4 hx4 (by intro z; cases z))]; exact hn4
      · rw [upd_ne (ne_of hl4 hx4 (by intro z; cases z))]; exact hl4
    · obtain ⟨n, hn⟩ : ∃ n, wrongV d = .int n := by
        cases d with
        | sq ds =>
          have hd : wrongV (.sq ds) = (match fb [] 0 ds with | some k => V.int (k : Nat) | none => if zeroIn ds = true then V.non else .int (ds.length : Nat)) := rfl
          rw [hd] at hw ⊢
          cases hf : fb [] 0 ds with
          | some k => exact ⟨_, rfl⟩
          | none =>
            rw [hf] at hw
            dsimp only at hw ⊢
            split at hw
            · exact absurd rfl hw
            · rename_i hz
              rw [if_neg hz]
              exact ⟨_, rfl⟩
        | fl x => exact ⟨_, rfl⟩
        | emp => exact ⟨_, rfl⟩
      have kk := kE hw
      rw [hn] at kk ⊢
      exact ⟨_, rfl, _, rfl, iteBt (by rfl) ⟨_, rfl, rfl, fun dd ndd => kk H1 dd s1 ndd⟩⟩
end
end KB

namespace XQ
open PySem PySem.Spec PyProof.Rows L2 PySem.SeqAt
/-! a text beside a dict: never alike -/
theorem str_eq_declines_dict (b : Str) (u : Tok) (l : Addr) (c : Value) (es : Array DictEntry) (n : Nat) (dd : Option Addr) (sl : Array (Option Value)) :
    Meets (Builtin.«str.__eq__» ⟨[.str b u, .ref l], []⟩) (fun _ R s => s.heap.get? l = some { cls := c, dict := dd, data := .dict es n, slots := sl } ∧ R (.ok (.ret .notImplemented)) s) :=
  .of_wp fun prog w A R s h => by obtain ⟨hp, g, d, tk, os⟩ := s; obtain ⟨hl, h⟩ := h; wp_walk using wpAny_loadPart' hl, wpAny_load hl; exact ⟨_, rfl, h⟩
section
variable {A : Around} {s : Shared} {prog : Program} {w : World} {E : Value → Shared → Prop}
theorem dict_declines {l : Addr} {b : Str} {u : Tok} {Q : Value → Shared → Prop} (hd : s.TypeIs (.ref l) "dict") (h : Q .notImplemented s) : wpAny (model prog w) A (call (.builtin "dict.__eq__") [.ref l, .str b u]) Q E s := by
  refine wpAny_call_entry PySem.F.slot_dict_eq hd PySem.F.entry_dict_eq ?_ (PySem.F.args_dict_eq_2 _ _)
  show wpAny _ _ (Builtin.Dict.dictSlotArgs "__eq__" ⟨[.ref l, .str b u], []⟩ >>= _) _ _ s
  refine wpAny_bind ?_
  unfold Builtin.Dict.dictSlotArgs
  refine wpAny_bind (wpAny_notOrdered_dict hd ?_)
  show wpAny _ _ (pure (Value.ref l, Value.str b u)) _ _ s
  refine wpAny_pure ?_
  refine wpAny_bind (wpAny_isInstance (T := "str") (typeIs_str s b u) PySem.F.sub_str_dict ?_)
  simp only [Bool.not_false, if_true]
  exact wpAny_bind (wpAny_rule (wpAny_pure ⟨_, rfl, h⟩))
theorem RcAt.str_dict {l : Addr} (b : Str) (u : Tok) {o : Obj} {es : Array DictEntry} {ep : Nat} (ho : s.heap.get? l = some o) (hc : o.ExactDict) (hd : o.data = .dict es ep) (hu : A.units < cLine) : RcAt A s (.str b u) (.ref l) false := fun prog w E Q h => by
  have ht : s.TypeIs (.ref l) "dict" := ⟨o, ho, hc.1⟩
  obtain ⟨cls, dd, data, sl⟩ := o
  simp only at hd
  subst hd
  exact rc_eq_decline_or (k := false) (typeIs_str s b u) ht (by decide) F.sub_dict_str F.slot_str_eq F.slot_dict_eq_refl
    (fun _ hq => call_meets F.slot_str_eq (typeIs_str s b u) F.entry_str_eq (F.args_str_eq_2 _ _) (str_eq_declines_dict b u l _ es ep dd sl) ⟨ho, hq⟩)
    (fun _ hq => dict_declines ht hq)
    (fun _ hq => wpAny_of_eq (rfl : isSame (.str b u) (.ref l) = pure false) hq) (.inr hu) h
theorem EqAt.str_dict {l : Addr} (b : Str) (u : Tok) {o : Obj} {es : Array DictEntry} {ep : Nat} (ho : s.heap.get? l = some o) (hc : o.ExactDict) (hd : o.data = .dict es ep) (hu : A.units < cLine) : EqAt A s (.str b u) (.ref l) false := fun prog w E Q h => by
  unfold eqBool
  refine wpAny_holding ?_
  refine wpAny_ite_split (fun hab => absurd (eq_of_beq hab) nofun) (fun _ => ?_)
  exact wpAny_bind (RcAt.str_dict b u ho hc hd hu prog w E _ (wpAny_truthy_bool h))
end
end XQ

namespace KB
open PySem PySem.Spec PyProof.Rows L2 C8 XE XD XI
/-! x not in texts, x any data -/
section
variable {X : Cx}
theorem strs_of {ls : List Str} : ∀ {us : List Value}, Vals (ls.map V.str) us → ∀ w ∈ us, ∃ z t, w = .str z t := by
  intro us r w hw
  induction ls generalizing us with
  | nil => cases r; cases hw
  | cons z ls ih =>
    cases r with
    | cons r t =>
      rcases List.mem_cons.mp hw with rfl | hw
      · obtain ⟨t, rfl⟩ := r
        exact ⟨z, t, rfl⟩
      · exact ih t hw
def rNotAny (K : PySem.W.Frag) : R2 := fun x y H Q => ∃ p ls d F, y = .ref p ∧ (SqL K H p (ls.map V.str) ∨ SqT K H p (ls.map V.str)) ∧ DAt F H x d ∧ Q (.bl (!isOf x ls)) H
theorem op_notAny (hu : X.A.units + 64 < cLine) : OpR X (compareOp .NotIn) (rNotAny X.K) := by
  intro pins s σ H x y v u Q I rx ry h
  obtain ⟨p, ls, d, F, rfl, hq, hx, q⟩ := h
  cases d with
  | fl z =>
    obtain ⟨rfl, hf⟩ := hx
    exact op_notOf hu pins s σ H x (.ref p) v u Q I rx ry ⟨p, ls, rfl, hq, .inl hf, q⟩
  | sq xs =>
    obtain ⟨a, vs, rfl, e, _⟩ := hx
    exact op_notOf hu pins s σ H (.ref a) (.ref p) v u Q I rx ry ⟨p, ls, rfl, hq, .inr ⟨a, vs, rfl, e.elim (fun e => .inr (SqT.of e)) (fun e => .inl (SqL.of e.2))⟩, q⟩
  | emp =>
    obtain ⟨a, rfl, e⟩ := hx
    cases rx
    cases ry
    obtain ⟨_, _, vs, _, o, es, ep, ho, hc, hd, _⟩ := dk_of I.hok e
    have he : ∀ {us : List Value}, Vals (ls.map V.str) us → ∀ w ∈ us, SeqAt.EqAt X.A.in1 s w (.ref a) false := by
      intro us r w hw
      obtain ⟨z, t, rfl⟩ := strs_of r w hw
      exact XQ.EqAt.str_dict z t ho hc hd (by show X.A.units + 1 < cLine; omega)
    have no : ∀ us : List Value, (us.toArray.any fun _ => false) = false := fun us => by simp
    rcases hq with hq | hq
    · obtain ⟨its, r, pl, hz⟩ := I.list hq
      refine SeqAt.notIn_listAt (fun _ => false) pl.isList (fun w hw => he r w (by simpa using hw)) ⟨.bl _, H, I, rfl, ?_⟩
      rw [no]
      exact q
    · obtain ⟨its, r, pl, hz⟩ := I.tuple hq
      refine SeqAt.notIn_tupleAt (fun _ => false) pl (fun w hw => he r w (by simpa using hw)) ⟨.bl _, H, I, rfl, ?_⟩
      rw [no]
      exact q
end
end KB

namespace KB
open PySem PySem.Spec PyProof.Rows L2 C8 XE XD XI
/-! Language.children, Language.__len__ -/
abbrev sLen : Stmt := mth 1
abbrev sEq : Stmt := mth 2
abbrev sCh : Stmt := mth 3
theorem scLen : FnScope ["self"] ["self"] (fnScope sLen) := fnScope_by (by decide +kernel)
theorem scEq : FnScope ["self", "other"] ["self", "other"] (fnScope sEq) := fnScope_by (by decide +kernel)
theorem scCh : FnScope ["self", "label"] ["self", "label"] (fnScope sCh) := fnScope_by (by decide +kernel)
def spLen (C : Addr) : Sp := fun vs H Q _ => ∃ (x : Addr) (rs : List Rw), vs = [.ref x] ∧ LangAt H x C rs ∧ Q (.int rs.length) H
def spCh (C UL : Addr) : Sp := fun vs H Q E => ∃ (x : Addr) (v : V) (d : D) (F : Addr → Prop) (rs : List Rw), vs = [.ref x, v] ∧ LangAt H x C rs ∧ DAt F H v d ∧ (isOf v (labs rs) = false → exO UL "label" v H E) ∧ (∀ z n, v = .str z → many rs z = some n → Q (.int n) H)
theorem isOf_lab {rs : List Rw} {v : V} : isOf v (labs rs) = true → ∃ z, v = .str z ∧ z ∈ labs rs := by
  intro h
  unfold isOf at h
  split at h
  · rename_i z
    obtain ⟨y, hy, e⟩ := List.any_eq_true.mp h
    exact ⟨z, rfl, by rw [← beq_iff_eq.mp e]; exact hy⟩
  · cases h
theorem manyS {rs : List Rw} {z : Str} (h : z ∈ labs rs) : ∃ n, many rs z = some n := by
  obtain ⟨r, hr, e⟩ := List.mem_map.mp h
  unfold many
  cases hf : ((rs ++ [(("keep" : Str), (1 : Int))]).find? fun r => r.1 == z) with
  | some q => exact ⟨q.2, rfl⟩
  | none => exact absurd (beq_iff_eq.mpr e) (List.find?_eq_none.mp hf r hr)
section
variable {P : Program} {w : World} {K : PySem.W.Frag} {mg : Str → Option Value} {base : Heap}
theorem c_len {C f : Addr} {fd : FuncData} (M : Meth K C "__len__" f) (F : C8.Fun K "__len__" "Language.__len__" sLen f fd) (b : Binds K fd ["self"] []) (T : Blt4 mg) (L : LC K mg C) : FnOk P w K mg base C8.CX0 1 f fd ["self"] (spLen C) := by
  refine fn0 F scLen (fun vs H Q E h => ?_) (fun cdv A outer s H vs Q E hr h => ?_)
  · obtain ⟨x, rs, rfl, _⟩ := h
    rfl
  · obtain ⟨x, rs, rfl, ⟨dx, rt, nt, lt, ws, hx, hr', hw, _⟩, k⟩ := h
    refine ⟨_, pss_one (ps_ret (pe_callB call_len_seq (by rfl) T.len PySem.boot_len (pa_cons (pe_fld (pv 0) rfl) pa_nil))), ?_⟩
    have := Paired.length hw
    refine ⟨_, rfl, x, C, dx, _, _, rfl, hx, L.cls, L.rows, rfl, rt, ws, rfl, .inr (SqT.of hr'), ?_⟩
    rw [this]
    exact k
theorem c_ch {C UL f : Addr} {fd : FuncData} (F : C8.Fun K "children" "Language.children" sCh f fd) (T : Blt4 mg) (L : LC K mg C) (EU : EC P K mg "UnknownLabel" UL ["label"]) : FnOk P w K mg base (L2.CX P w) 4 f fd ["self", "label"] (spCh C UL) := by
  refine fnX F scCh (fun vs H Q E h => ?_) (fun cdv A outer s H vs Q E hr h => ?_)
  · obtain ⟨x, v, d, F, rs, rfl, _⟩ := h
    rfl
  · obtain ⟨x, v, d, F, rs, rfl, ⟨dx, rt, nt, lt, ws, hx, hr', hw, hn, hl⟩, hv, kE, k⟩ := h
    have hu : (A.deeper (envOfC "Language.children" (fnScope sCh) s.heap.objs.size f cdv)).units + 64 < cLine := by have := hr.un; omega
    have hu1 : (A.deeper (envOfC "Language.children" (fnScope sCh) s.heap.objs.size f cdv)).units + 1 < cLine := by omega
    refine ⟨_, pss_cons (ps_if (pt_cmpR (op_notAny hu) (pv 1) (pe_fld (pv 0) rfl) (by rfl)) (pss_one (ps_raise rfl (takes_of rfl rfl rfl rfl) (pmk_X EU (hr.mono (by decide)) (by rfl) (pa_cons (pv 1) pa_nil)))) pss_nil)
      (pss_one (ps_ret (pe_dget hu1 (pe_fld (pv 0) rfl) (pv 1) (fun _ _ => rfl)))), ?_⟩
    refine ⟨_, rfl, _, rfl, x, C, dx, _, _, rfl, hx, L.cls, L.labels, rfl, lt, labs rs, d, F, rfl, .inr (SqT.of hl), hv, !isOf v (labs rs), rfl, ?_⟩
    cases hi : isOf v (labs rs) with
    | false => exact iteBt rfl ⟨_, rfl, rfl, fun dd ndd => kE hi H dd (fun _ _ e => e) ndd⟩
    | true =>
      obtain ⟨z, rfl, hz⟩ := isOf_lab hi
      obtain ⟨n, hm⟩ := manyS hz
      refine iteBf rfl ?_
      refine ⟨_, rfl, x, C, dx, _, _, rfl, hx, L.cls, L.numbers, rfl, _, rfl, ?_⟩
      have g := DGet.k (k := Sum.inr z) hn
      rw [valV_nums, hm] at g
      exact ⟨nt, .int n, rfl, g, k z n rfl hm⟩
end
end KB

namespace XO
open PySem PySem.Spec PyProof.Rows PySem.SeqAt
/-! an own __eq__ beside anything, == and !=, both answers -/
section
variable {M : Model} {prog : Program} {w : World} {A : Around} {E : Value → Shared → Prop} {s : Shared} {K : PySem.W.Frag} {x C f : Addr} {ox : Obj} {od : Option Obj} {b tb : Value}
theorem ifBound_objNe {args : List Value} {Q : Option Value → Shared → Prop} (X : K.In s.heap) (I : PySem.W.InstAt s.heap x ox C od) (hs : PySem.W.findIn K (.ref C) "__ne__" = some (some (.builtin "object.__ne__")))
    (h : wpAny M A (call (.builtin "object.__ne__") (.ref x :: args)) (fun v => Q (some v)) E s) : wpAny M A (callSpecialIfBound? (.ref x) "__ne__" args) Q E s := by
  simp only [callSpecialIfBound?, bindSpecialIfBound?]
  refine wpAny_holding (wpAny_bind (wpAny_bind (wpAny_bind (I.type.here ((PySem.W.looks_findIn X hs).here ?_)))))
  refine wpAny_bind (wpAny_askSetting (wpAny_ite ?_))
  have fin : wpAny M A (call (.builtin "object.__ne__") ([.ref x] ++ args) >>= fun v => pure (some v)) Q E s := wpAny_bind (wpAny_mono h (fun v s' h' => wpAny_pure h') fun _ _ h' => h')
  split
  · exact wpAny_bind (wpAny_of_eq (F.cmp_object.ne.bind _) (wpAny_pure (by exact fin)))
  · exact wpAny_tryCatch (wpAny_bind (wpAny_of_eq (F.cmp_object.ne.bind _) (wpAny_pure (by exact fin))))
theorem entry_ne {Q : Value → Shared → Prop} (X : K.In s.heap) (I : PySem.W.InstAt s.heap x ox C od) (he : PySem.W.findIn K (.ref C) "__eq__" = some (some (.ref f))) (hf : PySem.W.isFn K (.ref f) = true) (hu : A.units < cLine)
    (h : wpAny (model prog w) A (call (.ref f) [.ref x, b]) (fun v s' => ∃ r, v = .bool r ∧ Q (.bool (!r)) s') E s) : wpAny (model prog w) A (Builtin.«object.__ne__» ⟨[.ref x, b], []⟩) (fun fin s' => ∃ v, fin = .done (.ret v) ∧ Q v s') E s := by
  unfold Builtin.«object.__ne__»
  refine wpAny_bind ?_
  show wpAny _ _ (pure (Value.ref x, [b])) _ _ _
  refine wpAny_pure ?_
  refine wpAny_bind (wpAny_cRoomFor hu ?_)
  refine wpAny_bind (PySem.W.ifBound_K X I he hf (wpAny_mono h (fun v s' z => ?_) fun _ _ e => e))
  obtain ⟨r, rfl, q⟩ := z
  exact wpAny_bind (wpAny_truthy_bool (wpAny_pure ⟨_, rfl, q⟩))
theorem call_objNe {Q : Value → Shared → Prop} (X : K.In s.heap) (I : PySem.W.InstAt s.heap x ox C od) (hm : PySem.W.mroIn K C (.type "object") = some true) (he : PySem.W.findIn K (.ref C) "__eq__" = some (some (.ref f))) (hf : PySem.W.isFn K (.ref f) = true) (hu : A.in1.units < cLine)
    (h : wpAny (model prog w) A.in1 (call (.ref f) [.ref x, b]) (fun v s' => ∃ r, v = .bool r ∧ Q (.bool (!r)) s') E s) : wpAny (model prog w) A (call (.builtin "object.__ne__") [.ref x, b]) Q E s := by
  refine wpAny_call (codeAny_call_builtin F.cmp_object.ne.plain F.cmpEntry_ne (PySem.W.check_slot F.cmpKind_ne F.cmpSplit_ne (I.type.andThen (PySem.W.looks_mroIn X hm)) (F.cmpArgs_ne _ _) (wpAny_mono (entry_ne (Q := Q) X I he hf hu h) (fun fin s' z => ?_) fun _ _ e => e)))
  obtain ⟨v, rfl, q⟩ := z
  exact q
/-- x != b, by x's own __eq__ -/
theorem ne_K {Q : Value → Shared → Prop} (hu : A.in1.units < cLine) (X : K.In s.heap) (I : PySem.W.InstAt s.heap x ox C od) (hb : PySem.W.Looks (model prog w) s.heap (typeOf b) tb) (hn : PySem.W.notFirst K C tb = true) (hs : PySem.W.findIn K (.ref C) "__ne__" = some (some (.builtin "object.__ne__")))
    (hm : PySem.W.mroIn K C (.type "object") = some true) (he : PySem.W.findIn K (.ref C) "__eq__" = some (some (.ref f))) (hf : PySem.W.isFn K (.ref f) = true)
    (h : wpAny (model prog w) A.in1 (call (.ref f) [.ref x, b]) (fun v s' => ∃ r, v = .bool r ∧ Q (.bool (!r)) s') E s) : wpAny (model prog w) A (richCompare .NotEq (.ref x) b) Q E s := by
  have one : wpAny (model prog w) A (tryCompare (.ref x) "__ne__" b) (fun r s' => ∃ v, r = some v ∧ Q v s') E s := by
    unfold tryCompare
    refine wpAny_bind (ifBound_objNe X I hs (call_objNe X I hm he hf hu (wpAny_mono h (fun v s' z => ?_) fun _ _ e => e)))
    obtain ⟨r, rfl, q⟩ := z
    exact ⟨r, rfl, wpAny_pure ⟨_, rfl, q⟩⟩
  have hu' : A.units < cLine := Nat.lt_of_succ_lt hu
  unfold richCompare
  simp only [oneThing_ref]
  refine wpAny_holding (wpAny_bind (wpAny_cRoomFor hu' ?_))
  rw [cmpInfo_NotEq]
  dsimp only
  refine wpAny_bind (I.type.here (wpAny_bind (hb.here ?_)))
  split
  · rename_i q
    have e : PySem.W.subIn K tb (.ref C) = some false := by
      rcases Bool.or_eq_true_iff.mp hn with e | e
      · rw [beq_iff_eq.mp e] at q; simp at q
      · exact beq_iff_eq.mp e
    refine wpAny_bind ((PySem.W.looks_subIn X e).here ?_)
    simp only [Bool.false_eq_true, if_false]
    refine wpAny_bind (wpAny_mono one (fun r s' z => ?_) fun _ _ e => e)
    obtain ⟨v, rfl, hq⟩ := z
    exact wpAny_pure hq
  · refine wpAny_bind (wpAny_pure ?_)
    simp only [Bool.false_eq_true, if_false]
    refine wpAny_bind (wpAny_mono one (fun r s' z => ?_) fun _ _ e => e)
    obtain ⟨v, rfl, hq⟩ := z
    exact wpAny_pure hq
end
end XO
namespace L2
open PySem PySem.Spec PyProof.Rows
section
variable {X : Cx} {CX : CXT} {C g : Addr} {fd : FuncData} {ps : List Str} {n : Nat} {sp : Sp} {E : XK}
theorem run_fnA {A : Around} {pins : List (Addr × Obj)} {σ : St} {H : Hp} {s : Shared} {Q : VK} {us : List Value} {vs : List V} (F : FnOk X.prog X.w X.K X.mg X.base CX n g fd ps sp) (hr : Room n A) (e0 : Env0 X.prog X.w X.K X.mg X.base A X.stack s H) (hb : Binds X.K fd ps []) (hx : Passes CX X E) (I : Inv X pins σ H s) (r : Vals vs us) (h : sp vs H Q E) :
    wpAny (model X.prog X.w) A (call (.ref g) us) (EP X pins σ Q) X.xe s := by
  have hl : us.length = ps.length := by rw [← r.length]; exact F.len _ _ _ _ h
  have hb2 := hb s us I.kIn (by rw [List.append_nil]; exact hl)
  rw [List.append_nil] at hb2
  refine wpAny_call (codeAny_mono (F.run A X.stack s H ⟨us, []⟩ us vs Q E hr e0 hb2 r h) fun r s' hq => ?_)
  cases r with
  | error e => exact hx pins σ H s e s' I hq
  | ok fl =>
    cases fl with
    | ret u => exact I.after hq
    | next => exact False.elim hq
    | brk => exact False.elim hq
    | cont => exact False.elim hq
/-- x == y, x an instance of the class at C with an own __eq__ at g; y anything whose type is known and not below C -/
def rOwnAny (K : PySem.W.Frag) (C : Addr) (sp : Sp) (E : XK) (neg : Bool) : R2 := fun x y H Q => ∃ a dx fs t, x = .ref a ∧ H a = some (.ins C dx fs) ∧ TyX K H y t ∧ PySem.W.notFirst K C t = true ∧ sp [x, y] H (fun z H' => ∃ r, z = .bl r ∧ Q (.bl (if neg = true then !r else r)) H') E
theorem op_eqOwn (hs : PySem.W.findIn X.K (.ref C) "__eq__" = some (some (.ref g))) (hf : PySem.W.isFn X.K (.ref g) = true) (F : FnOk X.prog X.w X.K X.mg X.base CX n g fd ps sp) (hb : Binds X.K fd ps []) (hr : Room n X.A) (hx : Passes CX X E) : OpR X (compareOp .Eq) (rOwnAny X.K C sp E false) := by
  intro pins s σ H x y v u Q I rx ry h
  obtain ⟨a, dx, fs, t, rfl, ha, ty, hn, q⟩ := h
  cases (show v = Value.ref a from rx)
  obtain ⟨mA, J, _⟩ := ins_get I.hok ha
  obtain ⟨od, J, _⟩ := J.look
  obtain ⟨m, hF⟩ := I.fr
  obtain ⟨Pk, kx, hk, _⟩ := kit_of I ry ty
  show wpAny _ _ (richCompare .Eq (.ref a) u) _ _ _
  refine PySem.W.cmp_K (op := .Eq) (tb := t) hr.units0 hF I.ok.mod.kin J (kx.ty _ _ I.kIn hk) hn hs hf ?_
  refine wpAny_mono (run_fnA (us := [.ref a, u]) (vs := [.ref a, y]) F hr I.env0 hb hx I (.cons rfl (.cons ry .nil)) q) (fun w s' z => ?_) fun _ _ x => x
  obtain ⟨z', H', I', rz, r, ez, qz⟩ := z
  subst ez
  cases (show w = Value.bool r from rz)
  exact ⟨.bl r, H', I', rfl, qz⟩
theorem op_neOwn (he : PySem.W.findIn X.K (.ref C) "__eq__" = some (some (.ref g))) (hs : PySem.W.findIn X.K (.ref C) "__ne__" = some (some (.builtin "object.__ne__"))) (hm : PySem.W.mroIn X.K C (.type "object") = some true) (hf : PySem.W.isFn X.K (.ref g) = true) (F : FnOk X.prog X.w X.K X.mg X.base CX n g fd ps sp) (hb : Binds X.K fd ps [])
    (hr : Room (n + 1) X.A) (hx : Passes CX X E) : OpR X (compareOp .NotEq) (rOwnAny X.K C sp E true) := by
  intro pins s σ H x y v u Q I rx ry h
  obtain ⟨a, dx, fs, t, rfl, ha, ty, hn, q⟩ := h
  cases (show v = Value.ref a from rx)
  obtain ⟨mA, J, _⟩ := ins_get I.hok ha
  obtain ⟨od, J, _⟩ := J.look
  obtain ⟨Pk, kx, hk, _⟩ := kit_of I ry ty
  show wpAny _ _ (richCompare .NotEq (.ref a) u) _ _ _
  refine XO.ne_K (tb := t) hr.in1.units0 I.kIn J (kx.ty _ _ I.kIn hk) hn hs hm he hf ?_
  refine wpAny_mono (run_fnA (us := [.ref a, u]) (vs := [.ref a, y]) F hr.in1 I.env0.in1 hb hx I (.cons rfl (.cons ry .nil)) q) (fun w s' z => ?_) fun _ _ x => x
  obtain ⟨z', H', I', rz, r, ez, qz⟩ := z
  subst ez
  exact ⟨r, rz, .bl (!r), H', I', rfl, qz⟩
end
end L2

namespace KB
open PySem PySem.Spec PyProof.Rows L2 C8 XE XD XI
/-! Language.__eq__ -/
def tys : List String := ["NoneType", "bool", "int", "str", "dict", "list", "tuple"]
theorem d_ty3 {K : PySem.W.Frag} {F : Addr → Prop} {H : Hp} {v : V} {d : D} (h : DAt F H v d) : ∃ T ∈ tys, TyX K H v (.type T) := by
  cases d with
  | fl x =>
    obtain ⟨rfl, hf⟩ := h
    cases v with
    | non => exact ⟨_, by decide, .base .non⟩
    | bl b => exact ⟨_, by decide, .base (.bl b)⟩
    | int b => exact ⟨_, by decide, .base (.int b)⟩
    | str b => exact ⟨_, by decide, .base (.str b)⟩
    | _ => cases hf
  | emp =>
    obtain ⟨a, rfl, e⟩ := h
    exact ⟨_, by decide, .base (.dK e)⟩
  | sq xs =>
    obtain ⟨a, vs, rfl, e, _⟩ := h
    rcases e with e | ⟨_, e⟩
    · exact ⟨_, by decide, .base (.tup e)⟩
    · exact ⟨_, by decide, .base (.lst e)⟩
def rowP (r : Rw) : PyData := .tuple [.str r.1, .int r.2]
def rowsP (rs : List Rw) : PyData := .tuple (rs.map rowP)
theorem dp_rows {K : PySem.W.Frag} {H : Hp} : ∀ {rs : List Rw} {ws : List V}, Paired (RowV H) ws rs → DpAll K H ws (rs.map rowP)
  | [], _, .nil => .nil
  | r :: rs, _, .cons ⟨t, e, q⟩ h => by
    subst e
    exact .cons (.tup (SqT.of q) (.cons (.str _) (.cons (.int _) .nil))) (dp_rows h)
theorem word_ok {z : Str} (h : wordS z = true) : PyData.strOk z = true := by
  unfold wordS at h
  rw [Bool.and_eq_true, Bool.and_eq_true] at h
  have h2 := List.all_eq_true.mp h.2.2
  have hl : ∀ c ∈ letters.cps.toList, c < 0x110000 := by decide +kernel
  unfold PyData.strOk
  rw [← Array.all_toList]
  exact List.all_eq_true.mpr fun c hc => decide_eq_true (hl c (of_decide_eq_true (h2 c hc)))
theorem shaped_rows {rs : List Rw} (h : RowsG rs) : SeqAt.shaped (rowsP rs) = true := by
  have h1 : ∀ rs : List Rw, (∀ r ∈ rs, wordS r.1 = true) → PyData.canLayAll0 (rs.map rowP) = true := fun rs => by
    induction rs with
    | nil => intro _; simp [PyData.canLayAll0]
    | cons r rs ih =>
      intro hw
      have a := ih fun q hq => hw q (List.mem_cons_of_mem _ hq)
      have b := word_ok (hw r List.mem_cons_self)
      simp [PyData.canLayAll0, PyData.canLay0, rowP, a, b]
  have h2 : ∀ rs : List Rw, PyData.depthAll (rs.map rowP) ≤ 4 := fun rs => by
    induction rs with
    | nil => simp [PyData.depthAll]
    | cons r rs ih =>
      have : (rowP r).depth ≤ 4 := by simp [rowP, PyData.depth, PyData.depthAll]
      simp only [List.map_cons, PyData.depthAll]
      omega
  unfold SeqAt.shaped rowsP
  rw [PyData.canLay0, h1 rs h.wrd, Bool.true_and, decide_eq_true_eq, PyData.depth]
  have := h2 rs
  omega
theorem eqv_rows : ∀ rs qs : List Rw, PyData.eqv (rowsP rs) (rowsP qs) = decide (rs = qs) := by
  have go : ∀ rs qs : List Rw, PyData.eqvAll (rs.map rowP) (qs.map rowP) = decide (rs = qs) := by
    intro rs
    induction rs with
    | nil => intro qs; cases qs <;> simp [PyData.eqvAll]
    | cons r rs ih =>
      intro qs
      cases qs with
      | nil => simp [PyData.eqvAll]
      | cons q qs =>
        rw [List.map_cons, List.map_cons, PyData.eqvAll, ih]
        obtain ⟨a, b⟩ := r
        obtain ⟨c, d⟩ := q
        rw [Bool.eq_iff_iff]
        simp [rowP, PyData.eqv, PyData.eqvAll, and_assoc]
  intro rs qs
  unfold rowsP
  rw [PyData.eqv, go]
/-- what isinstance(.., Language) asks -/
structure IsL (K : PySem.W.Frag) (C : Addr) : Prop where
  ins : InsC K C
  no : ∀ T ∈ tys, PySem.W.kitOne K (.type T) (.ref C) = some false
def spEqL (C : Addr) : Sp := fun vs H Q _ => ∃ (x : Addr) (y : V) (rs : List Rw), vs = [.ref x, y] ∧ LangAt H x C rs ∧ RowsG rs ∧ ((∃ b qs, y = .ref b ∧ LangAt H b C qs ∧ RowsG qs ∧ Q (.bl (decide (rs = qs))) H) ∨ ∃ d F, DAt F H y d ∧ Q (.bl false) H)
section
variable {P : Program} {w : World} {K : PySem.W.Frag} {mg : Str → Option Value} {base : Heap}
theorem c_eq {C f : Addr} {fd : FuncData} (F : C8.Fun K "__eq__" "Language.__eq__" sEq f fd) (T : Blt4 mg) (hm : mg "Language" = some (.ref C)) (L : LC K mg C) (IL : IsL K C) : FnOk P w K mg base C8.CX0 2 f fd ["self", "other"] (spEqL C) := by
  refine fn0 F scEq (fun vs H Q E h => ?_) (fun cdv A outer s H vs Q E hr h => ?_)
  · obtain ⟨x, y, rs, rfl, _⟩ := h
    rfl
  · obtain ⟨x, y, rs, rfl, hL, ok, h⟩ := h
    have hu : (A.deeper (envOfC "Language.__eq__" (fnScope sEq) s.heap.objs.size f cdv)).units + 64 < cLine := by have := hr.un; omega
    refine ⟨_, pss_one (ps_ret (pe_and (pe_callB call_isi (by rfl) T.isi (by decide +kernel) (pa_cons (pv 1) (pa_cons (pe_gc (v := .ref C) (by rfl) ⟨_, hm, rfl⟩) pa_nil))) (pe_one (pe_cmpR (op_eqD hu) (pe_fld (pv 0) rfl) (pe_fld (pv 1) rfl) (by rfl))))), ?_⟩
    rcases h with ⟨b, qs, rfl, ⟨dy, rt', nt', lt', ws', hy, hr2, hw', _⟩, ok', k⟩ | ⟨d, G, hd, k⟩
    · obtain ⟨dx, rt, nt, lt, ws, hx, hr1, hw, _⟩ := hL
      refine ⟨_, rfl, _, _, _, _, true, rfl, .own C, .base (.ins hy IL.ins.cl IL.ins.ha IL.ins.hn IL.ins.htk IL.ins.hm), IL.ins.me, true, rfl, ?_⟩
      rw [if_pos rfl]
      refine ⟨_, rfl, x, C, dx, _, _, rfl, hx, L.cls, L.rows, rfl, _, rfl, b, C, dy, _, _, rfl, hy, L.cls, L.rows, rfl, rowsP rs, rowsP qs, .tup (SqT.of hr1) (dp_rows hw), .tup (SqT.of hr2) (dp_rows hw'), shaped_rows ok, shaped_rows ok', ?_⟩
      rw [eqv_rows]
      exact k
    · obtain ⟨Ty, hT, ty⟩ := d_ty3 (K := K) hd
      refine ⟨_, rfl, _, _, _, _, false, rfl, .own C, ty, IL.no _ hT, false, rfl, ?_⟩
      rw [if_neg Bool.false_ne_true]
      exact k
end
end KB

namespace KB
open PySem PySem.Spec PyProof.Rows L2 C8 XE XD XI
/-! _law_unknown, _law_tried -/
abbrev sTried : Stmt := top 30
abbrev sUnk : Stmt := top 31
abbrev NUn : List Str := ["_law_language", "_law_thing", "_law_found", "e"]
theorem scUnk : FnScope NUn ["_law_language", "_law_thing"] (fnScope sUnk) := fnScope_by (by decide +kernel)
/-- what stands of an own exception class with one field, besides EC -/
structure XX (K : PySem.W.Frag) (mg : Str → Option Value) (x f : Str) (C : Addr) : Prop where
  xf : XfC K C
  no : PySem.W.findIn K (.ref C) f = some none
  ex : PySem.W.exmOne K (.ref C) (.ref C) = some true
  gl : mg x = some (.ref C)
theorem takesF {X : Cx} : Takes X (fun _ _ _ _ => False) := fun u s' ⟨_, _, _, _, _, _, _, _, _, _, _, _, _, _, _, _, h⟩ => h.elim
def spUnk (C : Addr) : Sp := fun vs H Q _ => ∃ (x : Addr) (v : V) (d : D) (F : Addr → Prop) (rs : List Rw), vs = [.ref x, v] ∧ LangAt H x C rs ∧ DAt F H v d ∧
  (isOf v (labs rs) = false → ∀ p H', Same H H' → H' p = some (.tup [.str "unknown", v]) → Q (.ref p) H') ∧ (∀ z n, v = .str z → many rs z = some n → ∀ p H', Same H H' → H' p = some (.tup [.str "told", .int n]) → Q (.ref p) H')
section
variable {P : Program} {w : World} {K : PySem.W.Frag} {mg : Str → Option Value} {base : Heap}
theorem c_unk {C UL f fc : Addr} {fd fdc : FuncData} (F : Def K mg "_law_unknown" sUnk f fd) (b : Binds K fd ["_law_language", "_law_thing"] []) (T : Blt4 mg) (CL : Cls K C) (MC : Meth K C "children" fc) (FC : FnOk P w K mg base (L2.CX P w) 4 fc fdc ["self", "label"] (spCh C UL)) (bc : Binds K fdc ["self", "label"] [])
    (EU : XX K mg "UnknownLabel" "label" UL) : Cal P w K mg base 6 "_law_unknown" (spUnk C) [] := by
  refine cal0 F b .nil scUnk (fun vs H Q E h => ?_) (fun cdv A outer s H vs Q E hr h => ?_)
  · obtain ⟨x, v, d, F, rs, rfl, _⟩ := h
    rfl
  · obtain ⟨x, v, d, G, rs, rfl, hL, hv, kN, kY⟩ := h
    have hr1 : Room 4 _ := hr.mono (by decide)
    refine ⟨_, pss_cut (ps_try_as (i := 3) (tb := fun W => tAsg (tTup (tCons (tC (.str "told")) (tCons (tMethS C "children" (spCh C UL) (WE W) (tVar 0) (tCons (tVar 1) tNil)) tNil))) (gName 2)) (ts := fun a cls d => tAsg (tTup (tCons (tC (.str "unknown")) (tCons (tXf a cls d UL "label" (tVar 3)) tNil))) (gName 2)) (Wout := fun _ _ _ _ => False) rfl rfl scUnk.nd rfl rfl ⟨rfl, by decide, Or.inl EU.gl⟩ takesF
        (fun W pn xe tk _ => pss_one (ps_set (i := 2) scUnk.nd rfl (Or.inl rfl) (pe_tup (pa_cons pe_str (pa_cons (pe_methS (pv 0) CL MC FC hr1 bc (fun σ => passAt tk σ) (pa_cons (pv 1) pa_nil)) pa_nil)))))
        (fun a oe cls d pn hz hf => pss_one (ps_set (i := 2) scUnk.nd rfl (Or.inl rfl) (pe_tup (pa_cons pe_str (pa_cons (pe_xf EU.xf EU.no hz hf (pv 3)) pa_nil))))))
      (pss_one (ps_ret (pv 2))), ?_⟩
    refine ⟨fun σ H' => ∃ p, σ = [some (.ref x), some v, some (.ref p), none] ∧ Q (.ref p) H', ?_, ?_⟩
    · obtain ⟨dx, rt, nt, lt, ws, hx, hrest⟩ := id hL
      refine ⟨_, rfl, x, dx, _, rfl, hx, rfl, _, rfl, x, v, d, G, rs, rfl, hL, hv, fun hi H1 dd s1 ndd => ⟨true, EU.ex, fun _ a ha => ?_, fun z => nomatch z⟩, fun z n e hm => ⟨(by show 2 ≤ sizeLine; decide), fun p np => ?_⟩⟩
      · refine ⟨_, rfl, rfl, rfl, dd, _, v, rfl, upd_same, rfl, (by show 2 ≤ sizeLine; decide), fun p np => ?_⟩
        exact ⟨p, rfl, kN hi p _ (fun c o q => by rw [upd_ne (ne_of_none (by rw [upd_ne (ne_of_none (s1 _ _ q) ndd)]; exact s1 _ _ q) np), upd_ne (ne_of_none (s1 _ _ q) ndd)]; exact s1 _ _ q) upd_same⟩
      · exact ⟨p, rfl, kY z n e hm p _ (same_upd np) upd_same⟩
    · rintro σ H1 ⟨p, rfl, q⟩
      exact ⟨_, rfl, q⟩
end
end KB

namespace L2
open PySem PySem.Spec PyProof.Rows
section
variable {X : Cx} {CX : CXT} {C g : Addr} {fd : FuncData} {ps : List Str} {n : Nat} {sp : Sp} {E : XK}
/-- len(x), x an instance of the class at C with an own __len__ at g -/
def rLenOwn (C : Addr) (sp : Sp) (E : XK) : List V → Hp → VK → Prop := fun xs H Q => ∃ a dx fs, xs = [.ref a] ∧ H a = some (.ins C dx fs) ∧ sp [.ref a] H (fun z H' => ∃ i : Int, z = .int i ∧ 0 ≤ i ∧ i < 2 ^ 63 ∧ Q (.int i) H') E
theorem call_lenOwn (hs : PySem.W.findIn X.K (.ref C) "__len__" = some (some (.ref g))) (hf : PySem.W.isFn X.K (.ref g) = true) (F : FnOk X.prog X.w X.K X.mg X.base CX n g fd ps sp) (hb : Binds X.K fd ps []) (hr : Room (n + 1) X.A) (hx : Passes CX X E) : CallR X (.builtin "len") (rLenOwn C sp E) := by
  intro pins s σ H xs us Q I r h
  obtain ⟨a, dx, fs, rfl, ha, q⟩ := h
  obtain ⟨u, rfl, ru⟩ := r.one
  cases (show u = Value.ref a from ru)
  obtain ⟨mA, J, _⟩ := ins_get I.hok ha
  obtain ⟨od, J, _⟩ := J.look
  obtain ⟨m, hF⟩ := I.fr
  refine PySem.W.len_K hF I.ok.mod.kin J hs hf (wpAny_mono (run_fnA (us := [.ref a]) (vs := [.ref a]) F hr.in1 I.env0.in1 hb hx I (.cons rfl .nil) q) (fun w s' z => ?_) fun _ _ x => x)
  obtain ⟨z', H', I', rz, i, ez, h0, h1, qz⟩ := z
  subst ez
  obtain ⟨t, e⟩ := (show ∃ t, w = Value.int i t from rz)
  subst e
  exact ⟨⟨h0, h1⟩, .int i, H', I'.tok _, ⟨_, rfl⟩, qz⟩
end
end L2

namespace KB
open PySem PySem.Spec PyProof.Rows L2 C8 XE XD XI
/-! _law_tried -/
abbrev NTr : List Str := ["_law_rows_here", "_law_found", "e", "_law_label"]
theorem scTried : FnScope NTr ["_law_rows_here"] (fnScope sTried) := fnScope_by (by decide +kernel)
theorem noneAt {X : Cx} (σ : L2.St) : PassesAt (L2.CX X.prog X.w) X σ C8.E0 := fun _ _ _ _ _ _ ⟨_, _, _, _, _, _, _, _, _, _, _, _, h⟩ => h.elim
/-- what it answers -/
def triedAt (H : Hp) (p : Addr) (d : D) : Prop := (∃ rs : List Rw, d = .sq (rs.map rowD) ∧ RowsG rs ∧ wrongV d = .non ∧ ∃ lt nl, H p = some (.tup [.str "made", .ref lt, .ref nl, .int rs.length]) ∧ H lt = some (.tup ((labs rs).map V.str)) ∧ H nl = some (.lst ((nums rs).map fun r => V.int r.2))) ∨
  (wrongV d ≠ .non ∧ H p = some (.tup [.str "bad", wrongV d]))
def spTried : Sp := fun vs H Q _ => ∃ (v : V) (d : D) (F : Addr → Prop), vs = [v] ∧ DAt F H v d ∧ shortAll d = true ∧ ∀ p H', Same H H' → triedAt H' p d → Q (.ref p) H'
theorem many_memG {rs : List Rw} (nd : (labs rs).Nodup) {r : Rw} (hr : r ∈ nums rs) : many rs r.1 = some r.2 := by
  unfold labs at nd
  unfold many
  show ((nums rs).find? _).map _ = _
  generalize nums rs = l at hr nd
  induction l with
  | nil => cases hr
  | cons q l ih =>
    rw [List.map_cons, List.nodup_cons] at nd
    rw [List.find?_cons]
    rcases List.mem_cons.mp hr with rfl | hr
    · rw [show (r.1 == r.1) = true from beq_self_eq_true _]
      rfl
    · rw [show (q.1 == r.1) = false from beq_eq_false_iff_ne.mpr fun e => nd.1 (by rw [e]; exact List.mem_map_of_mem hr)]
      exact ih hr nd.2
section
variable {P : Program} {w : World} {K : PySem.W.Frag} {mg : Str → Option Value} {base : Heap}
theorem c_tried {C BL UL f fi fc fl : Addr} {fd fdi fdc fdl : FuncData} (F : Def K mg "_law_tried" sTried f fd) (b : Binds K fd ["_law_rows_here"] []) (T : Blt4 mg) (L : LC K mg C) (hm : mg "Language" = some (.ref C))
    (MI : Mk K C fi) (FI : FnOk P w K mg base (L2.CX P w) 4 fi fdi ["self", "rows"] (spInit C BL)) (bi : Binds K fdi ["self", "rows"] [])
    (MC : Meth K C "children" fc) (FC : FnOk P w K mg base (L2.CX P w) 4 fc fdc ["self", "label"] (spCh C UL)) (bc : Binds K fdc ["self", "label"] [])
    (ML : PySem.W.findIn K (.ref C) "__len__" = some (some (.ref fl))) (hfl : PySem.W.isFn K (.ref fl) = true) (FL : FnOk P w K mg base C8.CX0 1 fl fdl ["self"] (spLen C)) (bl : Binds K fdl ["self"] [])
    (EB : XX K mg "BadLanguage" "index" BL) : Cal P w K mg base 7 "_law_tried" spTried [] := by
  refine cal0 F b .nil scTried (fun vs H Q E h => ?_) (fun cdv A outer s H vs Q E hr h => ?_)
  · obtain ⟨v, d, F, rfl, _⟩ := h
    rfl
  · obtain ⟨v, d, G, rfl, hv, hsh, k⟩ := h
    have nd := scTried.nd
    have hr1 : Room 5 _ := hr.mono (by decide)
    have hr4 : Room 4 _ := hr.mono (by decide)
    refine ⟨_, pss_cut (ps_try_as (i := 2) (tb := fun W => tAsg (tMakeS C (spInit C BL) (WE W) (tCons (tVar 0) tNil)) (gName 1)) (ts := fun a cls d => tRet (tTup (tCons (tC (.str "bad")) (tCons (tXf a cls d BL "index" (tVar 2)) tNil)))) (Wout := fun _ _ _ _ => False) rfl rfl nd rfl rfl ⟨rfl, by decide, Or.inl EB.gl⟩ takesF
        (fun W pn xe tk _ => pss_one (ps_set (i := 1) nd rfl (by first | exact Or.inl rfl | exact Or.inr rfl | exact Or.inr ⟨rfl, rfl⟩) (pe_makeS MI FI hr1 (by rfl) hm bi (fun σ => passAt tk σ) (pa_cons (pv 0) pa_nil))))
        (fun a oe cls d pn hz hf => pss_one (ps_ret (pe_tup (pa_cons pe_str (pa_cons (pe_xf EB.xf EB.no hz hf (pv 2)) pa_nil))))))
      (pss_one (ps_ret (pe_tup (pa_cons pe_str (pa_cons (pe_fld (pv 1) rfl) (pa_cons (pe_lc (own := [("_law_label", 3)]) (g := gName 3) (tt := tYes) rfl nd (pi_tup (pe_fld (pv 1) rfl)) (blkOk_by (N := NTr) (sc := fnScope sTried) (by decide +kernel))
          (fun _ _ _ _ _ => pg_name (i := 3) nd rfl (Or.inl rfl)) (fun _ _ _ _ _ => pts_nil) (fun _ _ _ _ _ => pe_methS (E := fun _ => C8.E0) (pv 1) L.cls MC FC (hr4.mono (by decide)) bc (fun σ => noneAt σ) (pa_cons (pv 3) pa_nil)))
          (pa_cons (pe_callB (call_lenOwn (E := C8.E0) ML hfl FL bl (hr.mono (by decide)) C8.pass0) (by rfl) T.len PySem.boot_len (pa_cons (pv 1) pa_nil)) pa_nil))))))), ?_⟩
    refine ⟨fun σ H' => ∃ (y : Addr) (rs : List Rw), σ = [some v, some (.ref y), none, none] ∧ LangAt H' y C rs ∧ Same H H' ∧ d = .sq (rs.map rowD) ∧ RowsG rs ∧ wrongV d = .non, ?_, ?_⟩
    · refine ⟨_, rfl, fun y dx ny ndx ne => ?_⟩
      have sm : Same H (upd (upd H dx (.own y)) y (.ins C dx [])) := fun c o q => by rw [upd_ne (ne_of_none q ny), upd_ne (ne_of_none q ndx)]; exact q
      refine ⟨y, dx, v, d, G, rfl, upd_same, DAt.hold (.same sm) _ hv, hsh, fun hw H1 dd s1 ndd => ⟨true, EB.ex, fun _ a ha => ?_, fun z => nomatch z⟩, fun rs H1 e ok hw hb hLg => ⟨rfl, y, rs, rfl, hLg, fun c o q => hb c o (sm c o q) (ne_of_none q ny), e, ok, hw⟩⟩
      refine ⟨_, rfl, rfl, rfl, dd, _, wrongV d, rfl, upd_same, rfl, (by show 2 ≤ sizeLine; decide), fun p np => k p _ (fun c o q => ?_) (.inr ⟨hw, upd_same⟩)⟩
      have q1 := s1 _ _ (sm _ _ q)
      have q2 : (upd H1 dd (.xd [("index", wrongV d)])) c = some o := by rw [upd_ne (ne_of_none q1 ndd)]; exact q1
      rw [upd_ne (ne_of_none q2 np)]
      exact q2
    · rintro σ H1 ⟨y, rs, rfl, hLg, sm, ed, ok, hw⟩
      obtain ⟨dx, rt, nt, lt, ws, hy, hrt, hws, hnt, hlt⟩ := id hLg
      refine ⟨_, rfl, y, C, dx, _, _, rfl, hy, L.cls, L.labels, rfl, _, rfl, y, C, dx, _, _, rfl, hy, L.cls, L.labels, rfl, lt, rfl, ⟨_, SqT.of hlt⟩, fun Da nDa => ?_⟩
      have ll : (labs rs).length = (nums rs).length := by unfold labs; rw [List.length_map]
      refine lc_gen (J := Itt K lt) (nums rs).length (fun i H' => H' Da = some (.lst (((nums rs).take i).map fun r => V.int r.2)) ∧ Same H1 H') ⟨upd_same, same_upd nDa⟩ (fun i H' hi ⟨_, s2⟩ => ⟨_, ((labs rs).map V.str).getD i .non, SqT.of (s2 _ _ hlt), getD_at (by rw [List.length_map]; omega)⟩)
        (fun H' ⟨_, s2⟩ => ⟨_, SqT.of (s2 _ _ hlt), by rw [List.length_map]; omega⟩) (fun i H' x H'' hi ⟨hD, s2⟩ yl => ?_) (fun H' ⟨hD, s2⟩ => ?_)
      · obtain ⟨rfl, hx⟩ := yl
        have hx := hx _ (SqT.of (s2 _ _ hlt))
        obtain ⟨hlt2, ex⟩ := List.getElem?_eq_some_iff.mp hx
        have er : ((nums rs)[i]).1 = (labs rs)[i]'(by omega) := by simp [labs]
        have ex2 : x = .str ((nums rs)[i]).1 := by rw [er, ← ex]; simp
        subst ex2
        have hm2 := many_memG ok.nd (List.getElem_mem hi)
        refine ⟨rfl, ?_⟩
        unfold tYes
        dsimp only
        rw [if_pos rfl]
        refine ⟨_, rfl, y, dx, _, rfl, s2 _ _ hy, rfl, _, rfl, y, .str ((nums rs)[i]).1, .fl (.str ((nums rs)[i]).1), G, rs, rfl, ⟨dx, rt, nt, lt, ws, s2 _ _ hy, s2 _ _ hrt, Paired.mono (fun _ _ q => q.same s2) hws, s2 _ _ hnt, s2 _ _ hlt⟩, ⟨rfl, rfl⟩, fun hi2 => ?_, fun z n e hn => ?_⟩
        · have : isOf (.str ((nums rs)[i]).1) (labs rs) = true := List.any_eq_true.mpr ⟨_, List.mem_map_of_mem (List.getElem_mem hi), beq_self_eq_true _⟩
          rw [this] at hi2
          cases hi2
        · cases e
          rw [hm2] at hn
          cases hn
          have hln : (nums rs).length = rs.length + 1 := by unfold nums; rw [List.length_append]; rfl
          have hle := ok.len
          refine ⟨_, hD, by rw [List.length_map, List.length_take, sizeLine_eq]; omega, ?_, fun c o q => by rw [upd_ne (ne_of_none q nDa)]; exact s2 _ _ q⟩
          rw [upd_same, List.take_succ_eq_append_getElem hi, List.map_append]
          rfl
      · rw [List.take_of_length_le (Nat.le_refl _)] at hD
        have hle := ok.len
        refine ⟨_, rfl, y, dx, _, rfl, s2 _ _ hy, y, rs, rfl, ⟨dx, rt, nt, lt, ws, s2 _ _ hy, s2 _ _ hrt, Paired.mono (fun _ _ q => q.same s2) hws, s2 _ _ hnt, s2 _ _ hlt⟩, rs.length, rfl, by omega, by omega, (by show 4 ≤ sizeLine; decide), fun p np => ?_⟩
        have s3 : Same H (upd H' p (.tup [.str "made", .ref lt, .ref Da, .int rs.length])) := (sm.trans s2).trans (same_upd np)
        exact k p _ s3 (.inl ⟨rs, ed, ok, hw, lt, Da, upd_same, by rw [upd_ne (ne_of_none (s2 _ _ hlt) np)]; exact s2 _ _ hlt, by rw [upd_ne (ne_of_none hD np)]; exact hD⟩)
end
end KB

namespace KB
open PySem PySem.Spec PyProof.Rows L2 C8 XE XD XI
/-! new data, laid item by item: what the text writes of it -/
/-- te lays d, wherever H has grown to -/
def GE (H : Hp) (σ : L2.St) (te : TE) (d : D) : Prop := ∀ H0, Same H H0 → ∀ Q : VK, (∀ v H1, Same H0 H1 → DAt (fun a => H a = none) H1 v d → Q v H1) → te σ H0 Q
def GA (H : Hp) (σ : L2.St) (t : TA) (ds : List D) : Prop := ∀ H0, Same H H0 → ∀ Q : List V → Hp → Prop, (∀ vs H1, Same H0 H1 → DAts (fun a => H a = none) H1 vs ds → Q vs H1) → t σ H0 Q
/-- small things: short texts, small numbers, no dict -/
def okX : V → Bool
  | .int i => decide (-9 ≤ i) && decide (i ≤ 9)
  | .str z => decide (z.length ≤ 20) && PyData.strOk z
  | .non => true
  | .bl _ => true
  | _ => false
mutual
def okD : D → Bool
  | .fl x => okX x
  | .emp => false
  | .sq xs => okDs xs
def okDs : List D → Bool
  | [] => true
  | x :: xs => okD x && okDs xs
end
theorem okDs_all : ∀ ds : List D, okDs ds = ds.all okD
  | [] => rfl
  | d :: ds => by rw [okDs, List.all_cons, okDs_all ds]
theorem ok_short {d : D} (h : okD d = true) : shortD d = true := by
  unfold shortD
  split
  · rename_i z y
    have h : (okX (.str z) && _) = true := h
    rw [Bool.and_eq_true] at h
    have h1 : (decide (z.length ≤ 20) && PyData.strOk z) = true := h.1
    rw [Bool.and_eq_true] at h1
    have := of_decide_eq_true h1.1
    exact decide_eq_true (by omega)
  · rfl
theorem menu_ok : ∀ z ∈ menu, okX (.str z) = true := by decide +kernel
theorem ok_row {r : Rw} (h : r.1 ∈ menu ∧ 0 ≤ r.2 ∧ r.2 ≤ 2) : okD (rowD r) = true := by
  have h1 := menu_ok _ h.1
  show (okX (.str r.1) && (okX (.int r.2) && true)) = true
  rw [h1, Bool.true_and, Bool.and_true]
  show (decide (-9 ≤ r.2) && decide (r.2 ≤ 9)) = true
  rw [decide_eq_true (by omega), decide_eq_true (by omega)]
  rfl
section
variable {H : Hp} {σ : L2.St}
theorem ge_c {x : V} (h : flatV x = true) : GE H σ (tC x) (.fl x) := fun H0 s0 Q k => k x H0 (fun _ _ e => e) ⟨rfl, h⟩
theorem ga_nil : GA H σ tNil [] := fun H0 s0 Q k => k [] H0 (fun _ _ e => e) trivial
theorem ga_cons {te : TE} {t : TA} {d : D} {ds : List D} (h : GE H σ te d) (h2 : GA H σ t ds) : GA H σ (tCons te t) (d :: ds) := fun H0 s0 Q k =>
  h H0 s0 _ fun v H1 s1 hv => h2 H1 (s0.trans s1) _ fun vs H2 s2 hvs => k (v :: vs) H2 (s1.trans s2) ⟨DAt.hold (.same s2) _ hv, hvs⟩
theorem ge_tup {t : TA} {ds : List D} (h : GA H σ t ds) (o : hdOk ds = true) (hl : ds.length ≤ 1000) : GE H σ (tTup t) (.sq ds) := fun H0 s0 Q k =>
  h H0 s0 _ fun vs H1 s1 hvs => ⟨by rw [hvs.len, sizeLine_eq]; omega, fun p np => k (.ref p) _ (s1.trans (same_upd np)) ⟨p, vs, rfl, .inl upd_same, o, DAts.hold (.same (same_upd np)) _ hvs⟩⟩
theorem ge_lst {t : TA} {ds : List D} (h : GA H σ t ds) (o : hdOk ds = true) (hl : ds.length ≤ 1000) : GE H σ (tLst t) (.sq ds) := fun H0 s0 Q k =>
  h H0 s0 _ fun vs H1 s1 hvs => ⟨by rw [hvs.len, sizeLine_eq]; omega, fun p np => k (.ref p) _ (s1.trans (same_upd np)) ⟨p, vs, rfl, .inr ⟨same_free (s0.trans s1) np, upd_same⟩, o, DAts.hold (.same (same_upd np)) _ hvs⟩⟩
theorem ge_neg {i : Int} : GE H σ (tUn (rU fun i => V.int (-i)) (tC (.int i))) (.fl (.int (-i))) := fun H0 s0 Q k => by
  refine ⟨i, rfl, ?_⟩
  exact k (.int (-i)) H0 (fun _ _ e => e) ⟨rfl, rfl⟩
abbrev tRow2 (a b : V) : TE := tTup (tCons (tC a) (tCons (tC b) tNil))
theorem ge_row {a b : V} (ha : flatV a = true) (hb : flatV b = true) : GE H σ (tRow2 a b) (.sq [.fl a, .fl b]) := ge_tup (ga_cons (ge_c ha) (ga_cons (ge_c hb) ga_nil)) rfl (by simp)
def tOdd : TA := tCons (tC .non) (tCons (tC (.int 5)) (tCons (tC (.str "ab")) (tCons (tLst tNil) (tCons (tTup (tCons (tC (.str "a")) tNil)) (tCons (tTup (tCons (tC (.str "a")) (tCons (tC (.int 0)) (tCons (tC (.int 0)) tNil))))
  (tCons (tRow2 (.str "A") (.int 0)) (tCons (tRow2 (.str "") (.int 1)) (tCons (tRow2 (.int 5) (.int 1)) (tCons (tRow2 (.str "qq") (.int 3)) (tCons (tTup (tCons (tC (.str "qq")) (tCons (tUn (rU fun i => V.int (-i)) (tC (.int 1))) tNil))) (tCons (tRow2 (.str "qq") (.bl true)) tNil)))))))))))
def dOdd : List D := [.fl .non, .fl (.int 5), .fl (.str "ab"), .sq [], .sq [.fl (.str "a")], .sq [.fl (.str "a"), .fl (.int 0), .fl (.int 0)], .sq [.fl (.str "A"), .fl (.int 0)], .sq [.fl (.str ""), .fl (.int 1)], .sq [.fl (.int 5), .fl (.int 1)], .sq [.fl (.str "qq"), .fl (.int 3)], .sq [.fl (.str "qq"), .fl (.int (-1))], .sq [.fl (.str "qq"), .fl (.bl true)]]
theorem ga_odd : GA H σ tOdd dOdd := by
  unfold tOdd dOdd
  refine ga_cons (ge_c rfl) ?_
  refine ga_cons (ge_c rfl) ?_
  refine ga_cons (ge_c rfl) ?_
  refine ga_cons (ge_lst ga_nil rfl (by decide)) ?_
  refine ga_cons (ge_tup (ga_cons (ge_c rfl) ga_nil) rfl (by decide)) ?_
  refine ga_cons (ge_tup (ga_cons (ge_c rfl) (ga_cons (ge_c rfl) (ga_cons (ge_c rfl) ga_nil))) rfl (by decide)) ?_
  refine ga_cons (ge_row rfl rfl) ?_
  refine ga_cons (ge_row rfl rfl) ?_
  refine ga_cons (ge_row rfl rfl) ?_
  refine ga_cons (ge_row rfl rfl) ?_
  refine ga_cons (ge_tup (ga_cons (ge_c rfl) (ga_cons ge_neg ga_nil)) rfl (by decide)) ?_
  exact ga_cons (ge_row rfl rfl) ga_nil
theorem odd_ok : okDs dOdd = true := by decide +kernel
theorem odd_sz : ∀ d ∈ dOdd, sz d ≤ 10 := by
  intro d hd
  simp only [dOdd, List.mem_cons, List.mem_nil_iff, or_false] at hd
  rcases hd with rfl | rfl | rfl | rfl | rfl | rfl | rfl | rfl | rfl | rfl | rfl | rfl <;> simp [sz, szs]
end
theorem rows_dats {F : Addr → Prop} {H : Hp} {us : List V} {rs : List Rw} (h : Paired (RowV H) us rs) : DAts F H us (rs.map rowD) := by
  induction h with
  | nil => trivial
  | cons q _ ih =>
    obtain ⟨t, rfl, e⟩ := q
    exact ⟨⟨t, _, rfl, .inl e, rfl, ⟨rfl, rfl⟩, ⟨rfl, rfl⟩, trivial⟩, ih⟩
end KB

namespace KB
open PySem PySem.Spec PyProof.Rows L2 C8 XE XD XI
/-! _law_spoilt -/
abbrev sSpoilt : Stmt := top 32
abbrev NSp : List Str := ["_law_state", "_law_rows_here", "_law_found", "_law_k", "_law_odd", "_law_thing"]
theorem scSpoilt : FnScope NSp ["_law_state", "_law_rows_here"] (fnScope sSpoilt) := fnScope_by (by decide +kernel)
/-- rows of the menu's words -/
def spSpoilt : Sp := fun vs H Q _ => ∃ (st l : Addr) (rs : List Rw) (B : Nat) (cl : Addr), vs = [.ref st, .ref l] ∧ RowsAt H l rs ∧ rs.length ≤ 14 ∧ (∀ r ∈ rs, r.1 ∈ menu ∧ 0 ≤ r.2 ∧ r.2 ≤ 2) ∧ StAt B H st cl ∧ B + 20 < 1000000000000000 ∧
  ∀ (p : Addr) (vs : List V) (ds : List D) (H' : Hp), H' p = some (.lst vs) → DAts (oth st) H' vs ds → hdOk ds = true → ds.length ≤ 15 → okDs ds = true → szs ds ≤ 200 → H p = none → StAt (B + 20) H' st cl → But st H H' → Q (.ref p) H'
theorem szs_rows : ∀ rs : List Rw, szs (rs.map rowD) = 3 * rs.length
  | [] => rfl
  | r :: rs => by
    rw [List.map_cons, szs, szs_rows rs, List.length_cons, show sz (rowD r) = 3 from rfl]
    omega
theorem okDs_rows {rs : List Rw} (h : ∀ r ∈ rs, r.1 ∈ menu ∧ 0 ≤ r.2 ∧ r.2 ≤ 2) : okDs (rs.map rowD) = true := by
  rw [okDs_all, List.all_eq_true]
  intro d hd
  obtain ⟨r, hr, rfl⟩ := List.mem_map.mp hd
  exact ok_row (h r hr)
theorem DAts.mem {F : Addr → Prop} {H : Hp} {ds : List D} {vs : List V} (h : DAts F H vs ds) {v : V} (hv : v ∈ vs) : ∃ d ∈ ds, DAt F H v d := by
  obtain ⟨i, hi⟩ := List.getElem?_of_mem hv
  obtain ⟨d, hd, q⟩ := h.get hi
  exact ⟨d, List.mem_of_getElem? hd, q⟩
def tHd (K : PySem.W.Frag) : TE := tIf (tTest (tOp (rNeNil K) (tVar 1) (tLst tNil))) (tOp (rIxT K) (tOp (rIxL K) (tVar 1) (tC (.int 0))) (tC (.int 0))) (tC (.str "A"))
def tExt (K : PySem.W.Frag) : TA := tCons (tRow2 (.str "keep") (.int 1)) (tCons (tRow2 (.str "qq") (.str "1")) (tCons (tRow2 (.str "abcdefghi") (.int 0)) (tCons (tTup (tCons (tHd K) (tCons (tC (.int 1)) tNil))) (tCons (tRow2 (.str "qq") .non) tNil))))
def dExt (z : Str) : List D := [.sq [.fl (.str "keep"), .fl (.int 1)], .sq [.fl (.str "qq"), .fl (.str "1")], .sq [.fl (.str "abcdefghi"), .fl (.int 0)], .sq [.fl (.str z), .fl (.int 1)], .sq [.fl (.str "qq"), .fl .non]]
section
variable {K : PySem.W.Frag} {H : Hp} {σ : L2.St} {l : Addr} {us : List V} {rs : List Rw}
theorem ge_hd (h1 : σ[1]? = some (some (.ref l))) (hl : H l = some (.lst us)) (hp : Paired (RowV H) us rs) (hm : ∀ r ∈ rs, r.1 ∈ menu ∧ 0 ≤ r.2 ∧ r.2 ≤ 2) : ∃ z, okX (.str z) = true ∧ GE H σ (tHd K) (.fl (.str z)) := by
  cases hp with
  | nil =>
    refine ⟨"A", by decide +kernel, fun H0 s0 Q k => ?_⟩
    refine ⟨_, h1, (by show 0 ≤ sizeLine; decide), fun p np => ⟨l, p, [], rfl, rfl, SqL.of (by rw [upd_ne (ne_of_none (s0 _ _ hl) np)]; exact s0 _ _ hl), SqL.of upd_same, _, rfl, iteBf rfl ?_⟩⟩
    exact k _ _ (same_upd np) ⟨rfl, rfl⟩
  | cons q hp =>
    rename_i v r us rs
    obtain ⟨t, rfl, ht⟩ := q
    refine ⟨r.1, menu_ok _ (hm r List.mem_cons_self).1, fun H0 s0 Q k => ?_⟩
    refine ⟨_, h1, (by show 0 ≤ sizeLine; decide), fun p np => ⟨l, p, .ref t :: us, rfl, rfl, SqL.of (by rw [upd_ne (ne_of_none (s0 _ _ hl) np)]; exact s0 _ _ hl), SqL.of upd_same, _, rfl, iteBt rfl ?_⟩⟩
    have s1 := s0.trans (same_upd np (o := .lst []))
    exact ⟨_, h1, l, _, 0, .ref t, rfl, rfl, SqL.of (s1 _ _ hl), at_of (j := 0) (by omega) rfl, t, _, 0, .str r.1, rfl, rfl, SqT.of (s1 _ _ ht), at_of (j := 0) (by omega) rfl, k _ _ (same_upd np) ⟨rfl, rfl⟩⟩
theorem ga_ext {z : Str} (h : GE H σ (tHd K) (.fl (.str z))) : GA H σ (tExt K) (dExt z) := by
  unfold tExt dExt
  refine ga_cons (ge_row rfl rfl) ?_
  refine ga_cons (ge_row rfl rfl) ?_
  refine ga_cons (ge_row rfl rfl) ?_
  refine ga_cons (ge_tup (ga_cons h (ga_cons (ge_c rfl) ga_nil)) rfl (by simp)) ?_
  exact ga_cons (ge_row rfl rfl) ga_nil
end
mutual
theorem DAt.off {F : Addr → Prop} {H : Hp} {p : Addr} (n : H p = none) : ∀ (d : D) {v : V}, DAt F H v d → DAt (fun a => F a ∧ a ≠ p) H v d
  | .fl x, _, e => e
  | .emp, _, e => e
  | .sq xs, _, ⟨a, vs, e, q, o, k⟩ => ⟨a, vs, e, q.imp id fun ⟨f, q⟩ => ⟨⟨f, ne_of_none q n⟩, q⟩, o, DAts.off n xs k⟩
theorem DAts.off {F : Addr → Prop} {H : Hp} {p : Addr} (n : H p = none) : ∀ (ds : List D) {vs : List V}, DAts F H vs ds → DAts (fun a => F a ∧ a ≠ p) H vs ds
  | [], [], _ => trivial
  | d :: ds, v :: vs, ⟨k, t⟩ => ⟨DAt.off n d k, DAts.off n ds t⟩
  | [], _ :: _, k => k
  | _ :: _, [], k => k
end
theorem asg_lst {t : TA} {g : TG} {D : Ends} {σ : L2.St} {H : Hp} {ds : List KB.D} (h : GA H σ t ds) (hl : ds.length ≤ 1000)
    (k : ∀ p vs H', H p = none → H' p = some (.lst vs) → DAts (fun a => H a = none ∧ a ≠ p) H' vs ds → Same H H' → g (.ref p) σ H' D.nx) : tAsg (tLst t) g D σ H :=
  h H (Same.refl _) _ fun vs H2 s2 hvs => ⟨by rw [hvs.len, sizeLine_eq]; omega, fun p np => k p vs _ (same_free s2 np) upd_same (DAts.hold (.same (same_upd np)) _ (DAts.off np _ hvs)) (s2.trans (same_upd np))⟩
/-- xs.extend([..]), the list written there -/
theorem ext_lst {K : PySem.W.Frag} {t : TA} {i : Nat} {D : Ends} {σ : L2.St} {H : Hp} {ds : List KB.D} {p : Addr} {vs1 : List V} (h : GA H σ t ds) (hi : σ[i]? = some (some (.ref p))) (hp : H p = some (.lst vs1)) (hl : vs1.length + ds.length ≤ 1000)
    (k : ∀ vs2 H' q, H q = none → Same H H' → H' q = none → DAts (fun a => H a = none) H' vs2 ds → vs2.length = ds.length → D.nx σ (upd (upd H' q (.lst vs2)) p (.lst (vs1 ++ vs2)))) : tDrop (tBM K "list" rExtend (tVar i) (tCons (tLst t) tNil)) D σ H := by
  refine ⟨_, hi, .inl ⟨rfl, _, SqL.of hp⟩, ?_⟩
  refine h H (Same.refl _) _ fun vs2 H3 s3 hvs2 => ⟨by rw [hvs2.len, sizeLine_eq]; omega, fun q nq => ?_⟩
  have hp3 := s3 _ _ hp
  have pq : p ≠ q := ne_of_none hp3 nq
  have e2 := hvs2.len
  exact ⟨p, q, vs1, vs2, rfl, rfl, by rw [upd_ne pq]; exact hp3, upd_same, by rw [e2, sizeLine_eq]; omega, k vs2 H3 q (same_free s3 nq) s3 nq hvs2 e2⟩
theorem szs_le {ds : List D} {m : Nat} (h : ∀ d ∈ ds, sz d ≤ m) : szs ds ≤ m * ds.length := by
  induction ds with
  | nil => exact Nat.zero_le _
  | cons d ds ih =>
    have h1 := h d List.mem_cons_self
    have h2 := ih fun e he => h e (List.mem_cons_of_mem _ he)
    rw [szs, List.length_cons, Nat.mul_succ]
    omega
theorem okDs_app {a b : List D} (h : okDs a = true) (h' : okDs b = true) : okDs (a ++ b) = true := by
  rw [okDs_all, List.all_append, ← okDs_all, ← okDs_all, h, h']
  rfl
theorem okDs_mem {a : List D} (h : okDs a = true) {d : D} (hd : d ∈ a) : okD d = true := by
  rw [okDs_all] at h
  exact List.all_eq_true.mp h d hd
theorem okDs_of {a : List D} (h : ∀ d ∈ a, okD d = true) : okDs a = true := by
  rw [okDs_all]
  exact List.all_eq_true.mpr h
theorem ext_ok {z : Str} (h : okX (.str z) = true) : okDs (dExt z) = true := by
  have h1 : okD (.sq [.fl (.str z), .fl (.int 1)]) = true := by
    show (okX (.str z) && (okX (.int 1) && true)) = true
    rw [h]
    rfl
  show (okD (.sq [.fl (.str "keep"), .fl (.int 1)]) && (okD (.sq [.fl (.str "qq"), .fl (.str "1")]) && (okD (.sq [.fl (.str "abcdefghi"), .fl (.int 0)]) && (okD (.sq [.fl (.str z), .fl (.int 1)]) && (okD (.sq [.fl (.str "qq"), .fl .non]) && true))))) = true
  rw [h1]
  decide +kernel
theorem ext_sz {z : Str} : ∀ d ∈ dExt z, sz d ≤ 10 := by
  intro d hd
  simp only [dExt, List.mem_cons, List.mem_nil_iff, or_false] at hd
  rcases hd with rfl | rfl | rfl | rfl | rfl <;> simp [sz, szs]
theorem hdOk_row (rs : List Rw) (ds : List D) (h : hdOk ds = true) : hdOk (rs.map rowD ++ ds) = true := by
  cases rs with
  | nil => exact h
  | cons r rs => rfl
theorem hdOk_ok {ds : List D} (h : okDs ds = true) : hdOk ds = true := by
  unfold hdOk
  split
  · cases h
  · rfl
section
variable {P : Program} {w : World} {K : PySem.W.Frag} {mg : Str → Option Value} {base : Heap}
theorem c_spoilt {f : Addr} {fd : FuncData} (F : Def K mg "_law_spoilt" sSpoilt f fd) (b : Binds K fd ["_law_state", "_law_rows_here"] []) (T : Blt4 mg) (C : Cal P w K mg base 1 "_law_take" spTake []) (CO : Cal P w K mg base 2 "_law_one" spOne []) : Cal P w K mg base 3 "_law_spoilt" spSpoilt [] := by
  refine cal0 F b .nil scSpoilt (fun vs H Q E h => ?_) (fun cdv A outer s H vs Q E hr h => ?_)
  · obtain ⟨st, l, rs, B, cl, rfl, _⟩ := h
    rfl
  · obtain ⟨st, l, rs, B, cl, rfl, hR, hl, hm, hst, hB, kk⟩ := h
    have nd := scSpoilt.nd
    have hu : (A.deeper (envOfC "_law_spoilt" (fnScope sSpoilt) s.heap.objs.size f cdv)).units + 64 < cLine := by have := hr.un; omega
    refine ⟨_, pss_cut (ps_par (i := 2) (j := 3) rfl nd rfl rfl (by decide) rfl rfl (pa_cons (pe_callTy call_list_of (by rfl) T.list (by decide +kernel) (pa_cons (pv 1) pa_nil)) (pa_cons (pe_c C hr (by decide) (by rfl) (pa_cons (pv 0) (pa_cons (pe_op op_add (pe_callB call_len_seq (by rfl) T.len PySem.boot_len (pa_cons (pv 1) pa_nil)) pe_int) pa_nil))) pa_nil)) (by rfl))
      (pss_cut (ps_set (i := 4) nd rfl (Or.inl rfl) (pe_lst (pa_cons pe_non (pa_cons pe_int (pa_cons pe_str (pa_cons (pe_lst pa_nil) (pa_cons (pe_tup (pa_cons pe_str pa_nil)) (pa_cons (pe_tup (pa_cons pe_str (pa_cons pe_int (pa_cons pe_int pa_nil)))) (pa_cons (pe_tup (pa_cons pe_str (pa_cons pe_int pa_nil))) (pa_cons (pe_tup (pa_cons pe_str (pa_cons pe_int pa_nil)))
          (pa_cons (pe_tup (pa_cons pe_int (pa_cons pe_int pa_nil))) (pa_cons (pe_tup (pa_cons pe_str (pa_cons pe_int pa_nil))) (pa_cons (pe_tup (pa_cons pe_str (pa_cons (pe_un un_neg pe_int) pa_nil))) (pa_cons (pe_tup (pa_cons pe_str (pa_cons pe_bl pa_nil))) pa_nil))))))))))))))
      (pss_cut (ps_expr (pe_bm PySem.F.plainAttrs_list PySem.F.slot_list_extend PySem.F.type_list_extend mt_extend (pv 4) (pa_cons (pe_lst (pa_cons (pe_tup (pa_cons pe_str (pa_cons pe_int pa_nil))) (pa_cons (pe_tup (pa_cons pe_str (pa_cons pe_str pa_nil))) (pa_cons (pe_tup (pa_cons pe_str (pa_cons pe_int pa_nil)))
          (pa_cons (pe_tup (pa_cons (pe_ifExp (pt_cmpR (op_neNil hu) (pv 1) (pe_lst pa_nil) (by rfl)) (pe_ix ix_tup (pe_ix ix_list (pv 1) pe_int fun _ _ => rfl) pe_int fun _ _ => rfl) pe_str) (pa_cons pe_int pa_nil))) (pa_cons (pe_tup (pa_cons pe_str (pa_cons pe_non pa_nil))) pa_nil)))))) pa_nil)))
      (pss_cut (ps_set (i := 5) nd rfl (Or.inl rfl) (pe_c CO hr (by decide) (by rfl) (pa_cons (pv 0) (pa_cons (pv 4) pa_nil))))
      (pss_one (ps_ret (pe_op op_cat (pe_op op_cat (pe_slice sl_list (pv 2) po_none (po_some (pv 3))) (pe_lst (pa_cons (pv 5) pa_nil))) (pe_slice sl_list (pv 2) (po_some (pe_op op_add (pv 3) (pe_c C hr (by decide) (by rfl) (pa_cons (pv 0) (pa_cons pe_int pa_nil))))) po_none))))))), ?_⟩
    obtain ⟨us, hll, hp⟩ := hR
    have hlen := Paired.length hp
    have hdu : DAts (oth st) H us (rs.map rowD) := rows_dats hp
    have nst : ∀ {a : Addr}, H a = none → a ≠ st := fun n => (hst.new n).1
    refine ⟨fun σ H' => ∃ (L : Addr) (k : Int), σ = [some (.ref st), some (.ref l), some (.ref L), some (.int k), none, none] ∧ 0 ≤ k ∧ k ≤ rs.length ∧ H L = none ∧ H' L = some (.lst us) ∧ StAt (B + 1) H' st cl ∧ But st H H', ?_, ?_⟩
    · refine ⟨_, rfl, l, us, rfl, .inl (SqL.of hll), fun L nL => ?_⟩
      obtain ⟨La, Lc⟩ := hst.new nL
      have s1 : Same H (upd H L (.lst us)) := same_upd nL
      refine ⟨_, rfl, _, rfl, l, us, rfl, .inl (SqL.of (s1 _ _ hll)), us.length, 1, rfl, rfl, st, us.length + 1, B, cl, rfl, by omega, by omega, hst.same s1, by omega, fun d H2 d0 d1 hs2 b2 => ⟨_, _, rfl, L, d, rfl, d0, by omega, nL, b2 _ _ upd_same La, hs2, (Same.but s1).trans b2⟩⟩
    rintro σ H1 ⟨L, k, rfl, k0, k1, nL, hL1, hs1, b1⟩
    have ne_l : l ≠ st := by
      obtain ⟨ns, i, c, h0, n, e1, _⟩ := hst
      intro z
      subst z
      rw [hll] at e1
      cases e1
      cases hp with
      | cons _ hp =>
        cases hp with
        | cons q _ =>
          obtain ⟨t, z, _⟩ := q
          cases z
    have hl1 := b1 _ _ hll ne_l
    have hp1 : Paired (RowV H1) us rs := Paired.mono (fun _ _ q => q.but hst b1) hp
    have ne_L : L ≠ st := nst nL
    -- _law_odd
    refine ⟨fun σ H' => ∃ (p : Addr) (vs : List V), σ = [some (.ref st), some (.ref l), some (.ref L), some (.int k), some (.ref p), none] ∧ H' p = some (.lst vs) ∧ H1 p = none ∧ DAts (fun a => H1 a = none ∧ a ≠ p) H' vs dOdd ∧ Same H1 H', ?_, ?_⟩
    · exact asg_lst ga_odd (by decide) fun p vs H' np hp hv sm => ⟨p, vs, rfl, hp, np, hv, sm⟩
    rintro σ H2 ⟨p, vs1, rfl, hp2, np, hv1, s12⟩
    obtain ⟨z, hz, ghd⟩ := ge_hd (K := K) (σ := [some (.ref st), some (.ref l), some (.ref L), some (.int k), some (.ref p), none]) rfl (s12 _ _ hl1) (Paired.mono (fun _ _ q => q.same s12) hp1) hm
    have hl0 : vs1.length = 12 := hv1.len
    -- extend
    refine ⟨fun σ H' => ∃ (vs : List V), σ = [some (.ref st), some (.ref l), some (.ref L), some (.int k), some (.ref p), none] ∧ H' p = some (.lst vs) ∧ DAts (fun a => H1 a = none ∧ a ≠ p) H' vs (dOdd ++ dExt z) ∧ Same H1 H', ?_, ?_⟩
    · refine ext_lst (ga_ext ghd) rfl hp2 (by rw [hl0]; show 12 + 5 ≤ 1000; decide) fun vs2 H3 q nq0 s3 nq hvs2 hl2 => ?_
      have hp3 := s3 _ _ hp2
      have s13 : Same H1 H3 := s12.trans s3
      have sH : Same H1 (upd (upd H3 q (.lst vs2)) p (.lst (vs1 ++ vs2))) := fun a o e => by
        have e3 := s13 _ _ e
        rw [upd_ne (ne_of_none e np), upd_ne (ne_of_none e3 nq)]
        exact e3
      refine ⟨vs1 ++ vs2, rfl, upd_same, ?_, sH⟩
      -- what the items are made of stays
      have keep : ∀ {G : Addr → Prop}, (∀ a, G a → a ≠ p) → Hold G H3 (upd (upd H3 q (.lst vs2)) p (.lst (vs1 ++ vs2))) := fun hG => ⟨fun a _ e => by rw [upd_ne (ne_of e hp3 (by intro z; cases z)), upd_ne (ne_of_none e nq)]; exact e, fun a e => by rw [upd_ne (ne_of e hp3 (by intro z; cases z)), upd_ne (ne_of_none e nq)]; exact e, fun a _ g e => by rw [upd_ne (hG a g), upd_ne (ne_of_none e nq)]; exact e⟩
      refine DAts.app (DAts.hold (keep fun a g => g.2) _ (DAts.hold (.same s3) _ hv1)) (DAts.hold (keep fun a g => g.2) _ (DAts.weak (fun a g => ⟨same_free s12 g, fun e => by rw [e, hp2] at g; cases g⟩) _ hvs2))
    rintro σ H3 ⟨vs, rfl, hp3, hvs, s13⟩
    have hlv : vs.length = 17 := hvs.len
    have hokE := okDs_app odd_ok (ext_ok hz)
    have hszE : ∀ d ∈ dOdd ++ dExt z, sz d ≤ 10 := fun d hd => (List.mem_append.mp hd).elim (odd_sz d) (ext_sz d)
    have ne_p : p ≠ st := (hs1.new np).1
    -- one of them
    refine ⟨fun σ H' => ∃ (x : V) (d : D), σ = [some (.ref st), some (.ref l), some (.ref L), some (.int k), some (.ref p), some x] ∧ DAt (oth st) H' x d ∧ okD d = true ∧ sz d ≤ 10 ∧ StAt (B + 2) H' st cl ∧ But st H1 H', ?_, ?_⟩
    · refine ⟨_, rfl, _, rfl, st, p, vs, B + 1, cl, rfl, .inl hp3, ne_p, by omega, by omega, hs1.same s13, by omega, fun x H4 hx hs4 b4 => ?_⟩
      obtain ⟨d, hd, hxd⟩ := DAts.mem hvs hx
      exact ⟨x, d, rfl, DAt.hold (.but (hs1.same s13) b4 fun a g => g) _ (DAt.weak (fun a g => (hs1.new g.1).1) _ hxd), okDs_mem hokE hd, hszE d hd, hs4, (Same.but s13).trans b4⟩
    rintro σ H4 ⟨x, d, rfl, hx, hok, hsz, hs4, b4⟩
    have hL4 := b4 _ _ hL1 ne_L
    refine ⟨_, rfl, _, rfl, k, rfl, L, _, rfl, SqL.of hL4, fun e ne => ⟨_, rfl, (by show 1 ≤ sizeLine; decide), fun g ng => ?_⟩⟩
    rw [cutTo k0] at ng ⊢
    have ge : e ≠ g := ne_of_none upd_same ng
    refine ⟨e, g, us.take k.toNat, [x], rfl, rfl, by rw [upd_ne ge]; exact upd_same, upd_same, by rw [sizeLine_eq]; simp; omega, fun c nc => ?_⟩
    have s45 : Same H4 (upd (upd (upd H4 e (.lst (us.take k.toNat))) g (.lst [x])) c (.lst (us.take k.toNat ++ [x]))) := (same_upd ne).trans ((same_upd ng).trans (same_upd nc))
    have hc5 : (upd (upd (upd H4 e (.lst (us.take k.toNat))) g (.lst [x])) c (.lst (us.take k.toNat ++ [x]))) c = some (.lst (us.take k.toNat ++ [x])) := upd_same
    generalize upd (upd (upd H4 e (.lst (us.take k.toNat))) g (.lst [x])) c (.lst (us.take k.toNat ++ [x])) = H5 at s45 hc5
    have hs5 := hs4.same s45
    have ncH4 : H4 c = none := same_free ((same_upd ne).trans (same_upd ng)) nc
    have nec : c ≠ st := (hs4.new ncH4).1
    refine ⟨_, rfl, _, rfl, _, rfl, st, 2, B + 2, cl, rfl, by decide, by decide, hs5, by omega, fun d' H6 d0 d1 hs6 b6 => ⟨k, d', rfl, rfl, k + d', rfl, L, _, rfl, SqL.of (b6 _ _ (s45 _ _ hL4) ne_L), fun e2 ne2 => ?_⟩⟩
    rw [cutFrom (by omega)]
    have hc6 := b6 _ _ hc5 nec
    refine ⟨c, e2, us.take k.toNat ++ [x], us.drop (k + d').toNat, rfl, rfl, by rw [upd_ne (ne_of_none hc6 ne2)]; exact hc6, upd_same, by rw [sizeLine_eq]; simp; omega, fun p2 np2 => ?_⟩
    have s67 : Same H6 (upd (upd H6 e2 (.lst (us.drop (k + d').toNat))) p2 (.lst (us.take k.toNat ++ [x] ++ us.drop (k + d').toNat))) := (same_upd ne2).trans (same_upd np2)
    have b47 : But st H4 (upd (upd H6 e2 (.lst (us.drop (k + d').toNat))) p2 (.lst (us.take k.toNat ++ [x] ++ us.drop (k + d').toNat))) := (Same.but s45).trans (b6.trans (Same.but s67))
    have bH : But st H (upd (upd H6 e2 (.lst (us.drop (k + d').toNat))) p2 (.lst (us.take k.toNat ++ [x] ++ us.drop (k + d').toNat))) := b1.trans (b4.trans b47)
    have hD7 := DAts.hold (.but hst bH fun a g => g) _ hdu
    have nn : H p2 = none := by
      have n6 : H6 p2 = none := same_free (same_upd ne2) np2
      have h6 : But st H H6 := b1.trans (b4.trans ((Same.but s45).trans b6))
      exact h6.free n6 (hs6.new n6).1
    refine kk p2 _ ((rs.map rowD).take k.toNat ++ [d] ++ (rs.map rowD).drop (k + d').toNat) _ upd_same (DAts.app (DAts.app (DAts.take _ hD7) ⟨DAt.hold (.but hs4 b47 fun a g => g) _ hx, trivial⟩) (DAts.drop _ hD7)) ?_ ?_ ?_ ?_ nn ((hs6.same s67).mono (by omega)) bH
    · refine hdOk_ok ?_
      have ho := okDs_rows hm
      exact okDs_app (okDs_app (okDs_of fun q hq => okDs_mem ho (List.mem_of_mem_take hq)) (okDs_of fun q hq => by rw [List.mem_singleton.mp hq]; exact hok)) (okDs_of fun q hq => okDs_mem ho (List.mem_of_mem_drop hq))
    · simp
      omega
    · have ho := okDs_rows hm
      exact okDs_app (okDs_app (okDs_of fun q hq => okDs_mem ho (List.mem_of_mem_take hq)) (okDs_of fun q hq => by rw [List.mem_singleton.mp hq]; exact hok)) (okDs_of fun q hq => okDs_mem ho (List.mem_of_mem_drop hq))
    · have h1 := szs_le (ds := (rs.map rowD).take k.toNat ++ [d] ++ (rs.map rowD).drop (k + d').toNat) (m := 10) fun q hq => by
        have hr : ∀ q ∈ rs.map rowD, sz q ≤ 10 := fun q hq => by
          obtain ⟨r, _, rfl⟩ := List.mem_map.mp hq
          show 3 ≤ 10
          decide
        rcases List.mem_append.mp hq with hq | hq
        · rcases List.mem_append.mp hq with hq | hq
          · exact hr q (List.mem_of_mem_take hq)
          · rw [List.mem_singleton.mp hq]; exact hsz
        · exact hr q (List.mem_of_mem_drop hq)
      have h2 : ((rs.map rowD).take k.toNat ++ [d] ++ (rs.map rowD).drop (k + d').toNat).length ≤ 15 := by
        simp
        omega
      omega
end
end KB

namespace KB
open PySem PySem.Spec PyProof.Rows L2 C8 XE XD XI
/-! repr of small data -/
theorem same_t {K : PySem.W.Frag} {H H' : Hp} {a : Addr} {xs : List V} (e : Same H H') (h : SqT K H a xs) : SqT K H' a xs := by
  rcases h with h | h
  · rcases h with h | ⟨o, h⟩
    · exact Or.inl (.inl (e a _ h))
    · exact Or.inl (.inr ⟨o, e a _ h⟩)
  · exact Or.inr h
mutual
theorem Dp.same {K : PySem.W.Frag} {H H' : Hp} (s : Same H H') : ∀ (d : PyData) {v : V}, Dp K H v d → Dp K H' v d
  | .none, _, h => by cases h; exact .non
  | .bool _, _, h => by cases h; exact .bl _
  | .int _, _, h => by cases h; exact .int _
  | .str _, _, h => by cases h; exact .str _
  | .list ds, _, h => by
    cases h with
    | lst a b => exact .lst (s.seq a) (DpAll.same s ds b)
  | .tuple ds, _, h => by
    cases h with
    | tup a b => exact .tup (same_t s a) (DpAll.same s ds b)
  | .dict _, _, h => by cases h
theorem DpAll.same {K : PySem.W.Frag} {H H' : Hp} (s : Same H H') : ∀ (ds : List PyData) {vs : List V}, DpAll K H vs ds → DpAll K H' vs ds
  | [], _, h => by cases h; exact .nil
  | d :: ds, _, h => by
    cases h with
    | cons a b => exact .cons (Dp.same s d a) (DpAll.same s ds b)
end
/-- what is said of small data -/
structure Small (e : PyData) (n : Nat) : Prop where
  lay : e.canLay0 = true
  sho : e.showable = true
  lea : e.leavesShort 13 = true
  wei : e.weight + 1 ≤ 30 * n
  dep : e.depth ≤ n
structure SmallAll (es : List PyData) (n : Nat) : Prop where
  lay : PyData.canLayAll0 es = true
  sho : PyData.showableAll es = true
  lea : PyData.leavesShortAll 13 es = true
  wei : PyData.weightAll es ≤ 30 * n
  dep : PyData.depthAll es ≤ n
theorem small_int {i : Int} (h1 : -9 ≤ i) (h2 : i ≤ 9) : Small (.int i) 1 := by
  have : i = -9 ∨ i = -8 ∨ i = -7 ∨ i = -6 ∨ i = -5 ∨ i = -4 ∨ i = -3 ∨ i = -2 ∨ i = -1 ∨ i = 0 ∨ i = 1 ∨ i = 2 ∨ i = 3 ∨ i = 4 ∨ i = 5 ∨ i = 6 ∨ i = 7 ∨ i = 8 ∨ i = 9 := by omega
  rcases this with rfl | rfl | rfl | rfl | rfl | rfl | rfl | rfl | rfl | rfl | rfl | rfl | rfl | rfl | rfl | rfl | rfl | rfl | rfl <;> exact ⟨by decide +kernel, by decide +kernel, by decide +kernel, by decide +kernel, by decide +kernel⟩
theorem small_str {z : Str} (h1 : z.length ≤ 20) (h2 : PyData.strOk z = true) : Small (.str z) 1 := by
  refine ⟨h2, rfl, ?_, ?_, by simp [PyData.depth]⟩
  · show (z.cps.toList.all fun c => decide (c < 16 ^ 8)) = true
    unfold PyData.strOk at h2
    rw [← Array.all_toList] at h2
    refine List.all_eq_true.mpr fun c hc => decide_eq_true ?_
    have := of_decide_eq_true (List.all_eq_true.mp h2 c hc)
    omega
  · show z.cps.size + 1 ≤ 30
    have : z.cps.size = z.length := rfl
    omega
mutual
theorem small_of {K : PySem.W.Frag} {F : Addr → Prop} {H : Hp} : ∀ (d : D) {v : V}, okD d = true → DAt F H v d → ∃ e, Dp K H v e ∧ Small e (sz d)
  | .fl x, v, h, ⟨ev, hf⟩ => by
    subst ev
    have h : okX v = true := h
    cases v with
    | non => exact ⟨_, .non, by refine ⟨rfl, rfl, rfl, by show 0 + 1 ≤ 30; decide, by simp [PyData.depth]⟩⟩
    | bl b => exact ⟨_, .bl b, by refine ⟨rfl, rfl, rfl, by show 0 + 1 ≤ 30; decide, by simp [PyData.depth]⟩⟩
    | int i =>
      have h : (decide (-9 ≤ i) && decide (i ≤ 9)) = true := h
      rw [Bool.and_eq_true] at h
      exact ⟨_, .int i, small_int (of_decide_eq_true h.1) (of_decide_eq_true h.2)⟩
    | str z =>
      have h : (decide (z.length ≤ 20) && PyData.strOk z) = true := h
      rw [Bool.and_eq_true] at h
      exact ⟨_, .str z, small_str (of_decide_eq_true h.1) h.2⟩
    | _ => cases h
  | .emp, v, h, _ => by cases h
  | .sq xs, v, h, ⟨a, vs, e, q, o, k⟩ => by
    subst e
    obtain ⟨es, h1, S⟩ := smalls_of (K := K) xs h k
    have w : PyData.weightAll es + 1 ≤ 30 * (1 + szs xs) := by have := S.wei; omega
    have dp : (PyData.list es).depth ≤ 1 + szs xs ∧ (PyData.tuple es).depth ≤ 1 + szs xs := by
      have := S.dep
      constructor <;> (simp only [PyData.depth]; omega)
    rcases q with q | ⟨_, q⟩
    · exact ⟨.tuple es, .tup (SqT.of q) h1, ⟨S.lay, S.sho, S.lea, w, dp.2⟩⟩
    · exact ⟨.list es, .lst (SqL.of q) h1, ⟨S.lay, S.sho, S.lea, w, dp.1⟩⟩
theorem smalls_of {K : PySem.W.Frag} {F : Addr → Prop} {H : Hp} : ∀ (ds : List D) {vs : List V}, okDs ds = true → DAts F H vs ds → ∃ es, DpAll K H vs es ∧ SmallAll es (szs ds)
  | [], [], _, _ => ⟨[], .nil, ⟨rfl, rfl, rfl, Nat.zero_le _, by simp [PyData.depthAll]⟩⟩
  | d :: ds, v :: vs, h, ⟨k, t⟩ => by
    rw [okDs, Bool.and_eq_true] at h
    obtain ⟨e, h1, S⟩ := small_of (K := K) d h.1 k
    obtain ⟨es, h2, T⟩ := smalls_of (K := K) ds h.2 t
    refine ⟨e :: es, .cons h1 h2, ⟨?_, ?_, ?_, ?_, ?_⟩⟩
    · rw [PyData.canLayAll0, S.lay, T.lay]; rfl
    · rw [PyData.showableAll, S.sho, T.sho]; rfl
    · rw [PyData.leavesShortAll, S.lea, T.lea]; rfl
    · rw [PyData.weightAll, szs]; have := S.wei; have := T.wei; omega
    · rw [PyData.depthAll, szs]; have := S.dep; have := T.dep; have := sz_pos d; omega
  | [], _ :: _, _, k => k.elim
  | _ :: _, [], _, k => k.elim
end
/-- repr(v) -/
def rRepr (K : PySem.W.Frag) : List V → Hp → VK → Prop := fun xs H Q => ∃ v, xs = [v] ∧ ((∃ e n, Dp K H v e ∧ Small e n ∧ n ≤ 400 ∧ Q (.str e.shown) H) ∨ ∃ a, v = .ref a ∧ H a = some (.dK []) ∧ Q (.str (PyData.dict []).shown) H)
theorem Small.fits {e : PyData} {n : Nat} (S : Small e n) (h : n ≤ 400) : e.shown.length ≤ sizeLine := by
  have := S.wei
  refine PyData.shown_fits (B := 13) (by decide) (by decide) S.lea ?_
  have e : (2 : Nat) ^ 20 = 1048576 := by decide
  omega
section
variable {X : Cx}
theorem call_repr (hg : X.A.guards = some []) (hu : X.A.units + 500 < cLine) : CallR X (.builtin "repr") (rRepr X.K) := by
  intro pins s σ H xs us Q I r h
  obtain ⟨v, rfl, h⟩ := h
  obtain ⟨u, rfl, ru⟩ := r.one
  rcases h with ⟨e, n, hd, S, hn, q⟩ | ⟨a, rfl, ha, q⟩
  · have hz := S.fits hn
    have hdep := S.dep
    cases hd with
    | non =>
      cases ru
      exact P.repr_of_none ⟨.str _, H, I.tok _, ⟨_, rfl⟩, q⟩
    | bl b =>
      cases ru
      exact P.repr_of_bool ⟨.str _, H, I.tok _, ⟨_, rfl⟩, q⟩
    | int i =>
      obtain ⟨t, rfl⟩ := ru
      exact P.repr_of_int (by have := S.sho; simpa [PyData.showable] using this) ⟨.str _, H, I.tok _, ⟨_, rfl⟩, q⟩
    | str z =>
      obtain ⟨t, rfl⟩ := ru
      exact P.repr_of_str ⟨.str _, H, I.tok _, ⟨_, rfl⟩, q⟩ hz
    | lst hs ha =>
      cases ru
      obtain ⟨as, hr⟩ := Dp.reads I _ _ _ (.lst hs ha) rfl
      exact repr_of_reads' hr S.sho (PyData.noDict_hsm (PyData.hasDict_of_canLay _ S.lay)) hg (by omega) (fun _ _ e => e) (fun h' u tk hk => ⟨.str _, H, I.kept hk, ⟨_, rfl⟩, q⟩) hz
    | tup hs ha =>
      cases ru
      obtain ⟨as, hr⟩ := Dp.reads I _ _ _ (.tup hs ha) rfl
      exact repr_of_reads' hr S.sho (PyData.noDict_hsm (PyData.hasDict_of_canLay _ S.lay)) hg (by omega) (fun _ _ e => e) (fun h' u tk hk => ⟨.str _, H, I.kept hk, ⟨_, rfl⟩, q⟩) hz
  · cases ru
    obtain ⟨_, hS, vs, r, o, es, ep, ho, hc, hd, _, hp, _⟩ := dk_of I.hok ha
    cases r
    have he : es.toList = [] := by
      generalize es.toList = l at hp
      cases hp
      rfl
    have hr : Reads s.heap (.ref a) (.dict []) (a :: [] ++ []) := .dict ho hc.1 hd (by rw [he]; exact .nil) (by rw [he]; exact .nil)
    refine repr_of_reads' hr rfl (fun _ hm => ?_) hg (by simp only [PyData.depth, PyData.depthKv]; omega) (fun _ _ e => e) (fun h' u tk hk => ⟨.str _, H, I.kept hk, ⟨_, rfl⟩, q⟩) (by decide +kernel)
    have : sysModules = a := by simpa using hm
    subst this
    cases hS
end
end KB

namespace KB
open PySem PySem.Spec PyProof.Rows L2 C8 XE XD XI
/-! _law_same of any data, the answer True -/
def sqo (t : Bool) (xs : List V) : HO := match t with
  | true => .tup xs
  | false => .lst xs
def nmo (t : Bool) : String := match t with
  | true => "tuple"
  | false => "list"
def EqN (H : Hp) : Nat → V → V → Prop
  | 0, _, _ => False
  | n + 1, x, y => (x = y ∧ Leaf H x) ∨ ∃ t a b xs ys, x = .ref a ∧ y = .ref b ∧ H a = some (sqo t xs) ∧ H b = some (sqo t ys) ∧ Paired (EqN H n) xs ys ∧ xs.length ≤ 100000
theorem EqN.same {H H' : Hp} (s : Same H H') : ∀ {n : Nat} {x y : V}, EqN H n x y → EqN H' n x y
  | 0, _, _, h => h
  | n + 1, x, y, h => h.imp (fun ⟨e, l⟩ => ⟨e, l.same s⟩) fun ⟨t, a, b, xs, ys, e1, e2, q1, q2, p, l⟩ => ⟨t, a, b, xs, ys, e1, e2, s _ _ q1, s _ _ q2, Paired.mono (fun _ _ h => EqN.same s h) p, l⟩
def spSameN (n : Nat) : Sp := fun vs H Q _ => ∃ x y : V, vs = [x, y] ∧ EqN H n x y ∧ ∀ H', Same H H' → Q (.bl true) H'
theorem sqo_seq {K : PySem.W.Frag} {H : Hp} {a : Addr} {t : Bool} {xs : List V} (h : H a = some (sqo t xs)) : SqL K H a xs ∨ SqT K H a xs := by
  cases t with
  | true => exact .inr (SqT.of h)
  | false => exact .inl (SqL.of h)
theorem sqo_ty {K : PySem.W.Frag} {H : Hp} {a : Addr} {t : Bool} {xs : List V} (h : H a = some (sqo t xs)) : TyX K H (.ref a) (.type (nmo t)) := by
  cases t with
  | true => exact .base (.tup h)
  | false => exact .base (.lst h)
theorem kit_sq {K : PySem.W.Frag} (t : Bool) : PySem.W.kitAny K (.type (nmo t)) [.type "list", .type "tuple"] = some true ∧ PySem.W.kitOne K (.type (nmo t)) (.type "list") = some (!t) ∧ PySem.W.kitOne K (.type (nmo t)) (.type "tuple") = some t := by
  have z : kitB "list" "list" = some true ∧ kitB "list" "tuple" = some false ∧ kitB "tuple" "list" = some false ∧ kitB "tuple" "tuple" = some true := by decide +kernel
  obtain ⟨z1, z2, z3, z4⟩ := z
  cases t with
  | true => exact ⟨kitAny_cons (kit_ty z3) (fun _ => kitAny_cons (kit_ty z4) (fun e => (nomatch e)) (fun _ => rfl)) (fun e => (nomatch e)), kit_ty z3, kit_ty z4⟩
  | false => exact ⟨kitAny_cons (kit_ty z1) (fun e => (nomatch e)) (fun _ => rfl), kit_ty z1, kit_ty z2⟩
abbrev NSa : List Str := ["_law_found", "_law_due", "_law_x", "_law_y"]
section
variable {P : Program} {w : World} {K : PySem.W.Frag} {mg : Str → Option Value} {base : Heap}
theorem same_step {k n : Nat} {f : Addr} {fd : FuncData} (F : Def K mg "_law_same" sSame f fd) (b : Binds K fd ["_law_found", "_law_due"] []) (T : Blt2 mg) (CS : Cal P w K mg base k "_law_same" (spSameN n) []) : Cal P w K mg base (k + 1) "_law_same" (spSameN (n + 1)) [] := by
  refine cal0 F b .nil scSame (fun vs H Q E h => ?_) (fun cdv A outer s H vs Q E hr h => ?_)
  · obtain ⟨x, y, rfl, _⟩ := h
    rfl
  · obtain ⟨x, y, rfl, hx, k⟩ := h
    have hu : (A.deeper (envOfC "_law_same" (fnScope sSame) s.heap.objs.size f cdv)).units + 64 < cLine := by have := hr.un; omega
    have nd := scSame.nd
    refine ⟨_, pss_cons (ps_if (pt_val (pe_callB call_isiT (by rfl) T.isi (by decide +kernel) (pa_cons (pv 1) (pa_cons (pe_tup (pa_cons (pe_bt "list" T.list) (pa_cons (pe_bt "tuple" T.tup) pa_nil))) pa_nil))))
        (pss_cons (ps_if (pw_or (pt_cmpR op_ne (pe_callB call_isi (by rfl) T.isi (by decide +kernel) (pa_cons (pv 0) (pa_cons (pe_bt "list" T.list) pa_nil))) (pe_callB call_isi (by rfl) T.isi (by decide +kernel) (pa_cons (pv 1) (pa_cons (pe_bt "list" T.list) pa_nil))) (nomark _))
            (pw_or1 (pt_cmpR op_ne (pe_callB call_isi (by rfl) T.isi (by decide +kernel) (pa_cons (pv 0) (pa_cons (pe_bt "tuple" T.tup) pa_nil))) (pe_callB call_isi (by rfl) T.isi (by decide +kernel) (pa_cons (pv 1) (pa_cons (pe_bt "tuple" T.tup) pa_nil))) (nomark _)))).pt pss_never pss_nil)
        (pss_one (ps_ret (pe_and (pe_cmpR op_eq (pe_callB call_len_seq (by rfl) T.len PySem.boot_len (pa_cons (pv 0) pa_nil)) (pe_callB call_len_seq (by rfl) T.len PySem.boot_len (pa_cons (pv 1) pa_nil)) (nomark _))
          (pe_one (pe_callB (cr_all rfl) (by rfl) T.all (by decide +kernel) (pa_cons (pe_lc (own := [("_law_x", 2), ("_law_y", 3)]) (g := gTup K 2 (gCons (gName 2) (gCons (gName 3) gNil))) (tt := tYes) rfl nd (RZ.pi_zipA (by rfl) T.zip (pa_cons (pv 0) (pa_cons (pv 1) pa_nil)))
            (blkOk_by (N := NSa) (sc := fnScope sSame) (by decide +kernel)) (fun _ _ _ _ _ => pg_tup rfl (pgs_cons (pg_name (i := 2) nd rfl (Or.inl rfl)) (pgs_cons (pg_name (i := 3) nd rfl (Or.inl rfl)) pgs_nil))) (fun _ _ _ _ _ => pts_nil)
            (fun _ _ _ _ _ => pe_c CS hr (Nat.le_refl _) (by rfl) (pa_cons (pv 2) (pa_cons (pv 3) pa_nil)))) pa_nil))))))) pss_nil)
      (pss_cons (ps_if (pt_val (pe_callB call_isi (by rfl) T.isi (by decide +kernel) (pa_cons (pv 1) (pa_cons (pe_bt "int" T.int) pa_nil))))
          (pss_one (ps_ret (pe_and (pe_callB call_isi (by rfl) T.isi (by decide +kernel) (pa_cons (pv 0) (pa_cons (pe_bt "int" T.int) pa_nil)))
            (pe_and (pe_cmpR op_eq (pe_callB call_isi (by rfl) T.isi (by decide +kernel) (pa_cons (pv 0) (pa_cons (pe_bt "bool" T.boo) pa_nil))) (pe_callB call_isi (by rfl) T.isi (by decide +kernel) (pa_cons (pv 1) (pa_cons (pe_bt "bool" T.boo) pa_nil))) (nomark _))
              (pe_one (pe_cmpR op_eq (pv 0) (pv 1) (nomark _))))))) pss_nil)
      (pss_one (ps_ret (pe_and (pe_cmpR op_isBl (pe_callB call_isiT (by rfl) T.isi (by decide +kernel) (pa_cons (pv 0) (pa_cons (pe_tup (pa_cons (pe_bt "int" T.int) (pa_cons (pe_bt "list" T.list) (pa_cons (pe_bt "tuple" T.tup) pa_nil)))) pa_nil))) pe_bl (nomark _))
        (pe_one (pe_cmpR (op_eq.or (op_eqV hu)) (pv 0) (pv 1) (nomark _))))))), ?_⟩
    rcases hx with ⟨rfl, hx⟩ | ⟨t, a, c, xs, ys, rfl, rfl, ha, hc, hp, hl⟩
    · obtain ⟨Ty, hT, ty, hs⟩ := leaf_ty (K := K) hx
      obtain ⟨k1, k2, k3, k4⟩ := kitLT (K := K) hT
      refine ⟨_, rfl, (by show 2 ≤ sizeLine; decide), fun p np => ⟨x, p, [.ty "list", .ty "tuple"], _, _, false, rfl, upd_same, .cons (.ty _) (.cons (.ty _) .nil), ty _ (same_upd np), k1, false, rfl, iteF ?_⟩⟩
      have s1 : Same H (upd H p (.tup [.ty "list", .ty "tuple"])) := same_upd np
      refine ⟨_, rfl, x, .ty "int", _, _, _, rfl, .ty _, ty _ s1, k3, _, rfl, ite2 (fun hi => ?_) (fun hi => ?_)⟩
      · have hsc : scal x x = true := by
          rcases hs with z | ⟨z, _⟩
          · exact z
          · rw [z] at hi
            cases hi
        refine ⟨_, rfl, x, .ty "int", _, _, _, rfl, .ty _, ty _ s1, k3, _, rfl, iteBt hi ?_⟩
        refine ⟨_, rfl, x, .ty "bool", _, _, _, rfl, .ty _, ty _ s1, k4, _, rfl, x, .ty "bool", _, _, _, rfl, .ty _, ty _ s1, k4, rfl, _, rfl, iteBt (decide_eq_true rfl) ?_⟩
        refine ⟨_, rfl, _, rfl, hsc, ?_⟩
        rw [decide_eq_true rfl]
        exact k _ s1
      · have hi : (Ty == "int" || Ty == "bool") = false := by simpa using hi
        rw [hi] at k2
        refine ⟨_, rfl, (by show 3 ≤ sizeLine; decide), fun p2 np2 => ?_⟩
        have s2 : Same H (upd (upd H p (.tup [.ty "list", .ty "tuple"])) p2 (.tup [.ty "int", .ty "list", .ty "tuple"])) := s1.trans (same_upd np2)
        refine ⟨x, p2, [.ty "int", .ty "list", .ty "tuple"], _, _, false, rfl, upd_same, .cons (.ty _) (.cons (.ty _) (.cons (.ty _) .nil)), ty _ s2, k2, false, false, rfl, rfl, _, rfl, iteBt (decide_eq_true rfl) ?_⟩
        refine ⟨_, rfl, _, rfl, ?_⟩
        rcases hs with hsc | ⟨_, a, kvs, rfl, e, dk⟩
        · refine .inl ⟨hsc, ?_⟩
          rw [decide_eq_true rfl]
          exact k _ s2
        · refine .inr ⟨1, by decide, .inr ⟨a, a, kvs, kvs, rfl, rfl, s2 _ _ e, s2 _ _ e, rfl, fun p hp => ⟨p.2, (dk p hp).1, .inl ⟨rfl, (dk p hp).2⟩⟩⟩, k _ s2⟩
    · obtain ⟨k1, k2, k3⟩ := kit_sq (K := K) t
      have hlen := Paired.length hp
      refine ⟨_, rfl, (by show 2 ≤ sizeLine; decide), fun p np => ⟨_, p, [.ty "list", .ty "tuple"], _, _, true, rfl, upd_same, .cons (.ty _) (.cons (.ty _) .nil), sqo_ty (same_upd np _ _ hc), k1, true, rfl, iteT ?_⟩⟩
      have s1 : Same H (upd H p (.tup [.ty "list", .ty "tuple"])) := same_upd np
      generalize upd H p (.tup [.ty "list", .ty "tuple"]) = H1 at s1
      have ha1 := s1 _ _ ha
      have hc1 := s1 _ _ hc
      refine ⟨_, rfl, _, .ty "list", _, _, _, rfl, .ty _, sqo_ty ha1, k2, _, rfl, _, .ty "list", _, _, _, rfl, .ty _, sqo_ty hc1, k2, rfl, _, rfl, iteBf (by rw [decide_eq_true rfl]; rfl) ?_⟩
      refine ⟨_, rfl, _, .ty "tuple", _, _, _, rfl, .ty _, sqo_ty ha1, k3, _, rfl, _, .ty "tuple", _, _, _, rfl, .ty _, sqo_ty hc1, k3, rfl, _, rfl, iteBf (by rw [decide_eq_true rfl]; rfl) ?_⟩
      refine ⟨_, rfl, a, xs, rfl, sqo_seq ha1, _, rfl, c, ys, rfl, sqo_seq hc1, rfl, _, rfl, iteBt (decide_eq_true (by rw [hlen])) ?_⟩
      -- the walk
      have walk : ∀ (J : It), (∀ i H', i < xs.length → Same H1 H' → J.go i H') → (∀ H', Same H1 H' → J.stop xs.length H') → (∀ i H' x H'', Same H1 H' → J.yld i H' x H'' → ∃ T' x' y', x = .ref T' ∧ H' T' = none ∧ H'' = upd H' T' (.tup [x', y']) ∧ xs[i]? = some x' ∧ ys[i]? = some y') → ∀ Da, H1 Da = none →
          ∃ W : Nat → Nat → Hp → Prop, (∃ m, W 0 m (upd H1 Da (.lst []))) ∧ ∀ i m H', W i m H' → (J.stop i H' ∧ (H' Da = some (.lst ((List.replicate xs.length true).map V.bl)) ∧ Same H1 H')) ∨
            (J.go i H' ∧ ∃ Nx : Hp → Prop, (∀ H'', Nx H'' → ∃ m', m' < m ∧ W (i + 1) m' H'') ∧ ∀ x H'', J.yld i H' x H'' → gTup K 2 (gCons (gName 2) (gCons (gName 3) gNil)) x (wipe (start NSa [.ref a, .ref c]) [2, 3]) H'' fun σ2 H2 => wipe σ2 [2, 3] = wipe (start NSa [.ref a, .ref c]) [2, 3] ∧ tYes σ2 H2 fun b H3 =>
              if b = true then tCall (spSameN n) [] C8.E0 (tCons (tVar 2) (tCons (tVar 3) tNil)) σ2 H3 fun y H4 => ∃ acc, H4 Da = some (.lst acc) ∧ acc.length < sizeLine ∧ Nx (upd H4 Da (.lst (acc ++ [y]))) else Nx H3) := by
        intro J jgo jst jyl Da nDa
        refine lc_gen (J := J) xs.length (fun i H' => H' Da = some (.lst ((List.replicate i true).map V.bl)) ∧ Same H1 H') ⟨upd_same, same_upd nDa⟩ (fun i H' hi ⟨_, sm⟩ => jgo i H' hi sm) (fun H' ⟨_, sm⟩ => jst H' sm) (fun i H' x H'' hi ⟨hD, sm⟩ yl => ?_) (fun H' h => h)
        obtain ⟨T', x', y', rfl, nT, rfl, hx, hy⟩ := jyl i H' x H'' sm yl
        have s3 : Same H' (upd H' T' (.tup [x', y'])) := same_upd nT
        refine ⟨T', [x', y'], rfl, SqT.of upd_same, rfl, x', [y'], rfl, y', [], rfl, rfl, ?_⟩
        generalize upd H' T' (.tup [x', y']) = H3 at s3
        refine ⟨rfl, ?_⟩
        unfold tYes
        dsimp only
        rw [if_pos rfl]
        obtain ⟨y2, hy2, he⟩ := paired_get hp hx
        rw [hy] at hy2
        obtain rfl := Option.some.inj hy2
        refine ⟨_, rfl, _, rfl, x', y', rfl, EqN.same (s1.trans (sm.trans s3)) he, fun H4 s4 => ⟨_, s4 _ _ (s3 _ _ hD), by rw [List.length_map, List.length_replicate, sizeLine_eq]; omega, ?_, fun b o q => by rw [upd_ne (ne_of_none q nDa)]; exact s4 _ _ (s3 _ _ (sm _ _ q))⟩⟩
        rw [upd_same, List.replicate_succ', List.map_append]
        rfl
      have fin : ∀ Da H', H' Da = some (.lst ((List.replicate xs.length true).map V.bl)) ∧ Same H1 H' → ∃ (a : Addr) (bs : List Bool), [V.ref Da] = [.ref a] ∧ SqL K H' a (bs.map V.bl) ∧ Q (.bl (bs.all id)) H' := fun Da H' ⟨hD, sm⟩ => by
        refine ⟨Da, _, rfl, SqL.of hD, ?_⟩
        rw [show (List.replicate xs.length true).all id = true from List.all_eq_true.mpr fun b hb => by rw [List.eq_of_mem_replicate hb]; rfl]
        exact k _ (s1.trans sm)
      have stp : ∀ {D : Addr → Hp → Prop}, True := trivial
      refine ⟨_, rfl, _, rfl, a, c, xs, ys, rfl, ?_⟩
      cases t with
      | true => 
        refine .inr ⟨SqT.of ha1, SqT.of hc1, fun Da nDa => ?_⟩
        obtain ⟨W, h0, h⟩ := walk (RZ.ItzT K a c) (fun i H' hi sm => ⟨xs, ys, xs.getD i .non, ys.getD i .non, SqT.of (sm _ _ ha1), SqT.of (sm _ _ hc1), getD_at hi, getD_at (by omega)⟩) (fun H' sm => ⟨xs, ys, SqT.of (sm _ _ ha1), SqT.of (sm _ _ hc1), .inl (Nat.le_refl _)⟩)
          (fun i H' x H'' sm yl => by obtain ⟨T', x', y', e1, e2, e3, e4, e5⟩ := yl; exact ⟨T', x', y', e1, e2, e3, e4 _ (SqT.of (sm _ _ ha1)), e5 _ (SqT.of (sm _ _ hc1))⟩) Da nDa
        exact ⟨W, h0, fun i m H' hw => (h i m H' hw).imp (fun ⟨q1, q2⟩ => ⟨q1, fin Da H' q2⟩) id⟩
      | false =>
        refine .inl ⟨SqL.of ha1, SqL.of hc1, fun Da nDa => ?_⟩
        obtain ⟨W, h0, h⟩ := walk (Itz K a c) (fun i H' hi sm => ⟨xs, ys, xs.getD i .non, ys.getD i .non, SqL.of (sm _ _ ha1), SqL.of (sm _ _ hc1), getD_at hi, getD_at (by omega)⟩) (fun H' sm => ⟨xs, ys, SqL.of (sm _ _ ha1), SqL.of (sm _ _ hc1), .inl (Nat.le_refl _)⟩)
          (fun i H' x H'' sm yl => by obtain ⟨T', x', y', e1, e2, e3, e4, e5⟩ := yl; exact ⟨T', x', y', e1, e2, e3, e4 _ (SqL.of (sm _ _ ha1)), e5 _ (SqL.of (sm _ _ hc1))⟩) Da nDa
        exact ⟨W, h0, fun i m H' hw => (h i m H' hw).imp (fun ⟨q1, q2⟩ => ⟨q1, fin Da H' q2⟩) id⟩
theorem c_same {f : Addr} {fd : FuncData} (F : Def K mg "_law_same" sSame f fd) (b : Binds K fd ["_law_found", "_law_due"] []) (T : Blt2 mg) : ∀ n : Nat, Cal P w K mg base (1 + n) "_law_same" (spSameN n) []
  | 0 => by
    have no : ∀ {vs H Q E}, spSameN 0 vs H Q E → False := fun ⟨_, _, _, h, _⟩ => h
    exact cal0 F b .nil scSame (fun vs H Q E h => (no h).elim) (fun cdv A outer s H vs Q E hr h => (no h).elim)
  | n + 1 => same_step F b T (c_same F b T n)
end
end KB

namespace KB
open PySem PySem.Spec PyProof.Rows L2 C8 XE XD XI
/-! _law_labels of rows that are lists or tuples -/
def RowsX (F : Addr → Prop) (H : Hp) (l : Addr) (rs : List Rw) : Prop := ∃ us, (H l = some (.lst us) ∨ H l = some (.tup us)) ∧ Paired (RowX F H) us rs
def gOr (g g' : TG) : TG := fun v σ H Q => g v σ H Q ∨ g' v σ H Q
theorem PG.or2 {X : Cx} {tg : Expr} {g g' : TG} (h : PG X tg g) (h' : PG X tg g') : PG X tg (gOr g g') := PG.or h h'
def spLabels2 : Sp := fun vs H Q _ => ∃ (l : Addr) (rs : List Rw) (F : Addr → Prop), vs = [.ref l] ∧ RowsX F H l rs ∧ rs.length ≤ 1000 ∧ ∀ q H', H q = none → Same H H' → H' q = some (.lst ((labs rs).map V.str)) → Q (.ref q) H'
section
variable {P : Program} {w : World} {K : PySem.W.Frag} {mg : Str → Option Value} {base : Heap}
theorem c_labels2 {f : Addr} {fd : FuncData} (F : Def K mg "_law_labels" sLabels f fd) (b : Binds K fd ["_law_rows_here"] []) (T : Blt4 mg) : Cal P w K mg base 1 "_law_labels" spLabels2 [] := by
  refine cal0 F b .nil scLabels (fun vs H Q E h => ?_) (fun cdv A outer s H vs Q E hr h => ?_)
  · obtain ⟨l, rs, F, rfl, _⟩ := h
    rfl
  · obtain ⟨l, rs, G, rfl, ⟨us, hl, hp⟩, hok, k⟩ := h
    have nd := scLabels.nd
    refine ⟨_, pss_one (ps_ret (pe_op op_cat (pe_lc (own := [("_law_label", 1), ("_law_many", 2)]) (g := gOr (gTup K 2 (gCons (gName 1) (gCons (gName 2) gNil))) (gLst K 2 (gCons (gName 1) (gCons (gName 2) gNil)))) (tt := tYes) rfl nd (PI.or (pi_list (pv 0)) (pi_tup (pv 0))) (blkOk_by (N := NLab) (sc := fnScope sLabels) (by decide +kernel))
        (fun _ _ _ _ _ => PG.or2 (pg_tup rfl (pgs_cons (pg_name (i := 1) nd rfl (Or.inl rfl)) (pgs_cons (pg_name (i := 2) nd rfl (Or.inl rfl)) pgs_nil))) (pg_lst rfl (pgs_cons (pg_name (i := 1) nd rfl (Or.inl rfl)) (pgs_cons (pg_name (i := 2) nd rfl (Or.inl rfl)) pgs_nil)))) (fun _ _ _ _ _ => pts_nil) (fun _ _ _ _ _ => pv 1)) (pe_lst (pa_cons pe_str pa_nil)))), ?_⟩
    have hlen := Paired.length hp
    refine lt_walk (a := l) (vs := us) rfl hl.symm fun J jgo jst jyl => ?_
    intro D nD
    have stay : ∀ {H'}, Same H H' → H' l = H l := fun sm => by
      rcases hl with e | e
      · rw [e]; exact sm _ _ e
      · rw [e]; exact sm _ _ e
    refine lc_gen (J := J) rs.length (fun i H' => H' D = some (.lst ((rs.take i).map fun r => V.str r.1)) ∧ Same H H') ⟨upd_same, same_upd nD⟩ (fun i H' hi ⟨_, sm⟩ => jgo i H' (by omega) (stay sm))
      (fun H' ⟨_, sm⟩ => by rw [← hlen]; exact jst H' (stay sm)) (fun i H' v H'' hi ⟨hD, sm⟩ yl => ?_) (fun H' ⟨hD, sm⟩ => ?_)
    · obtain ⟨rfl, hx⟩ := jyl i H' v H'' (stay sm) yl
      obtain ⟨r, hr, t, rfl, ht⟩ := paired_get hp hx
      have rest : tYes (((wipe (start NLab [V.ref l]) [1, 2]).set 1 (some (.str r.1))).set 2 (some (.int r.2))) H'' fun b H3 => if b = true then tVar 1 (((wipe (start NLab [V.ref l]) [1, 2]).set 1 (some (.str r.1))).set 2 (some (.int r.2))) H3 fun y H4 => ∃ acc, H4 D = some (.lst acc) ∧ acc.length < sizeLine ∧ (upd H4 D (.lst (acc ++ [y]))) D = some (.lst ((rs.take (i + 1)).map fun r => V.str r.1)) ∧ Same H (upd H4 D (.lst (acc ++ [y]))) else H3 D = some (.lst ((rs.take (i + 1)).map fun r => V.str r.1)) ∧ Same H H3 := by
        unfold tYes
        dsimp only
        rw [if_pos rfl]
        refine ⟨_, rfl, _, hD, by rw [List.length_map, List.length_take, sizeLine_eq]; omega, ?_, fun b o e => by rw [upd_ne (ne_of_none e nD)]; exact sm _ _ e⟩
        obtain ⟨hlt, e⟩ := List.getElem?_eq_some_iff.mp hr
        rw [upd_same, List.take_succ_eq_append_getElem hlt, List.map_append, e]
        rfl
      rcases ht with ht | ⟨_, ht⟩
      · exact .inl ⟨t, [.str r.1, .int r.2], rfl, SqT.of (sm _ _ ht), rfl, .str r.1, [.int r.2], rfl, .int r.2, [], rfl, rfl, rfl, rest⟩
      · exact .inr ⟨t, [.str r.1, .int r.2], rfl, SqL.of (sm _ _ ht), rfl, .str r.1, [.int r.2], rfl, .int r.2, [], rfl, rfl, rfl, rest⟩
    · rw [List.take_of_length_le (Nat.le_refl _)] at hD
      refine ⟨(by show 1 ≤ sizeLine; decide), fun q nq => ⟨D, q, _, _, rfl, rfl, by rw [upd_ne (ne_of_none hD nq)]; exact hD, upd_same, by rw [List.length_map, sizeLine_eq]; simp; omega, fun c nc => ?_⟩⟩
      have s2 : Same H _ := sm.trans ((same_upd nq (o := .lst [.str "keep"])).trans (same_upd nc (o := .lst ((rs.map fun r => V.str r.1) ++ [.str "keep"]))))
      refine k c _ (same_free (sm.trans (same_upd nq)) nc) s2 (by rw [upd_same]; unfold labs nums; rw [List.map_append, List.map_append, List.map_map]; rfl)
end
end KB

namespace KB
open PySem PySem.Spec PyProof.Rows L2 C8 XE XD XI
/-! lemmas for the law -/
structure RowsW (rs : List Rw) : Prop where
  len : rs.length ≤ 1000
  nd : (rs.map (·.1)).Nodup
  mem : ∀ r ∈ rs, wordS r.1 = true ∧ r.1 ≠ "keep" ∧ 0 ≤ r.2 ∧ r.2 ≤ 2
  leaf : ∃ r ∈ rs, r.2 = 0
theorem menu_word : ∀ z ∈ menu, wordS z = true ∧ z ≠ "keep" ∧ z ≠ "qq" := by decide +kernel
theorem RowsOk.w {rs : List Rw} (h : RowsOk rs) : RowsW rs where
  len := by have := h.len; omega
  nd := h.nd
  mem := fun r hr => by
    obtain ⟨h1, h2, h3⟩ := h.mem r hr
    obtain ⟨h4, h5, _⟩ := menu_word _ h1
    exact ⟨h4, h5, h2, h3⟩
  leaf := h.leaf
theorem labB_row {r : Rw} (h : wordS r.1 = true ∧ r.1 ≠ "keep" ∧ 0 ≤ r.2 ∧ r.2 ≤ 2) : labB (rowD r) = true := by
  show ((wordS r.1 && !decide (r.1 = ("keep" : Str))) && (decide (0 ≤ r.2) && decide (r.2 ≤ 2))) = true
  rw [h.1, decide_eq_false h.2.1, decide_eq_true h.2.2.1, decide_eq_true h.2.2.2]
  rfl
theorem fb_none : ∀ (rs : List Rw) (kn : List Str) (i : Nat), (∀ r ∈ rs, wordS r.1 = true ∧ r.1 ≠ "keep" ∧ 0 ≤ r.2 ∧ r.2 ≤ 2) → (rs.map (·.1)).Nodup → (∀ r ∈ rs, r.1 ∉ kn) → fb kn i (rs.map rowD) = none
  | [], _, _, _, _, _ => rfl
  | r :: rs, kn, i, h, nd, hk => by
    rw [List.map_cons, List.nodup_cons] at nd
    show (if okRow kn (rowD r) = true then fb (kn ++ [labD (rowD r)]) (i + 1) (rs.map rowD) else some i) = none
    rw [if_pos (by unfold okRow; rw [labB_row (h r List.mem_cons_self), show labD (rowD r) = r.1 from rfl, decide_eq_false (hk r List.mem_cons_self)]; rfl)]
    refine fb_none rs _ _ (fun q hq => h q (List.mem_cons_of_mem _ hq)) nd.2 fun q hq hm => ?_
    rcases List.mem_append.mp hm with hm | hm
    · exact hk q (List.mem_cons_of_mem _ hq) hm
    · have e : q.1 = r.1 := List.mem_singleton.mp hm
      exact nd.1 (by rw [← e]; exact List.mem_map_of_mem hq)
theorem RowsW.wrong {rs : List Rw} (h : RowsW rs) : wrongV (.sq (rs.map rowD)) = .non := by
  show (match fb [] 0 (rs.map rowD) with | some k => V.int (k : Nat) | none => if zeroIn (rs.map rowD) = true then V.non else .int ((rs.map rowD).length : Nat)) = .non
  rw [fb_none rs [] 0 h.mem h.nd fun _ _ => List.not_mem_nil]
  dsimp only
  rw [if_pos]
  obtain ⟨r, hr, r0⟩ := h.leaf
  exact List.any_eq_true.mpr ⟨rowD r, List.mem_map_of_mem hr, by show decide (r.2 = 0) = true; exact decide_eq_true r0⟩
theorem RowsW.g {rs : List Rw} (h : RowsW rs) : RowsG rs where
  len := h.len
  nd := by
    unfold labs nums
    rw [List.map_append]
    refine List.nodup_append.mpr ⟨h.nd, by simp, fun a ha b hb e => ?_⟩
    obtain ⟨r, hr, rfl⟩ := List.mem_map.mp ha
    have hb := List.mem_singleton.mp hb
    subst hb
    exact (h.mem r hr).2.1 e
  num := fun r hr => (h.mem r hr).2.2
  wrd := fun r hr => (h.mem r hr).1
theorem RowsW.short {rs : List Rw} (h : RowsW rs) : shortAll (.sq (rs.map rowD)) = true := by
  show ((rs.map rowD).all shortD && decide ((rs.map rowD).length ≤ 1000)) = true
  have hl := h.len
  rw [List.length_map, decide_eq_true hl, Bool.and_true]
  refine List.all_eq_true.mpr fun d hd => ?_
  obtain ⟨r, hr, rfl⟩ := List.mem_map.mp hd
  have hw := (h.mem r hr).1
  unfold wordS at hw
  rw [Bool.and_eq_true, Bool.and_eq_true] at hw
  have := of_decide_eq_true hw.2.1
  exact decide_eq_true (by omega)
theorem ok_shortAll {ds : List D} (h : okDs ds = true) (hl : ds.length ≤ 1000) : shortAll (.sq ds) = true := by
  show (ds.all shortD && decide (ds.length ≤ 1000)) = true
  rw [decide_eq_true hl, Bool.and_true]
  exact List.all_eq_true.mpr fun d hd => ok_short (okDs_mem h hd)
theorem rows_inj : ∀ {rs qs : List Rw}, rs.map rowD = qs.map rowD → rs = qs
  | [], [], _ => rfl
  | r :: rs, q :: qs, h => by
    rw [List.map_cons, List.map_cons] at h
    injection h with h1 h2
    rw [rows_inj h2]
    have : r = q := by
      obtain ⟨a, b⟩ := r
      obtain ⟨c, d⟩ := q
      unfold rowD at h1
      injection h1 with h1
      injection h1 with h1 h3
      injection h1 with h1
      injection h1 with h1
      injection h3 with h3 _
      injection h3 with h3
      injection h3 with h3
      exact Prod.ext h1 h3
    rw [this]
  | [], _ :: _, h => by cases h
  | _ :: _, [], h => by cases h
theorem sq_inj {rs qs : List Rw} (h : D.sq (rs.map rowD) = .sq (qs.map rowD)) : rs = qs := by
  injection h with h
  exact rows_inj h
/-- the rows with the last one exchanged -/
theorem RowsOk.other {rs : List Rw} (h : RowsOk rs) : RowsW (rs.dropLast ++ [(("qq" : Str), (0 : Int))]) ∧ rs ≠ rs.dropLast ++ [(("qq" : Str), (0 : Int))] := by
  have hsub : ∀ r ∈ rs.dropLast, r ∈ rs := fun r hr => (List.dropLast_sublist _).subset hr
  refine ⟨⟨?_, ?_, ?_, ⟨(("qq" : Str), (0 : Int)), List.mem_append_right _ (List.mem_singleton.mpr rfl), rfl⟩⟩, fun e => ?_⟩
  · have := h.len
    simp
    omega
  · rw [List.map_append]
    refine List.nodup_append.mpr ⟨?_, by simp, fun a ha b hb e => ?_⟩
    · exact h.nd.sublist (List.Sublist.map _ (List.dropLast_sublist _))
    · obtain ⟨r, hr, rfl⟩ := List.mem_map.mp ha
      have hb := List.mem_singleton.mp hb
      subst hb
      exact (menu_word _ (h.mem r (hsub r hr)).1).2.2 e
  · intro r hr
    rcases List.mem_append.mp hr with hr | hr
    · exact h.w.mem r (hsub r hr)
    · rw [List.mem_singleton.mp hr]
      decide +kernel
  · have hm : ((("qq" : Str), (0 : Int)) : Rw) ∈ rs := by
      rw [e]
      exact List.mem_append_right _ (List.mem_singleton.mpr rfl)
    exact (menu_word _ (h.mem _ hm).1).2.2 rfl
theorem two_w {a b : Str} (ha : a ∈ menu) (hb : b ∈ menu) (ne : a ≠ b) {k : Int} (h0 : 0 ≤ k) (h2 : k ≤ 2) : RowsW ([(a, (0 : Int)), (b, k)] : List Rw) where
  len := by simp
  nd := by simp [ne]
  mem := fun r hr => by
    have wa := menu_word _ ha
    have wb := menu_word _ hb
    simp only [List.mem_cons, List.mem_nil_iff, or_false] at hr
    rcases hr with rfl | rfl
    · exact ⟨wa.1, wa.2.1, (by show (0 : Int) ≤ 0; decide), (by show (0 : Int) ≤ 2; decide)⟩
    · exact ⟨wb.1, wb.2.1, h0, h2⟩
  leaf := ⟨(a, 0), List.mem_cons_self, rfl⟩
/-- what one list holds may change -/
theorem LangAt.but1 {H H' : Hp} {p x C : Addr} {xs : List V} {rs : List Rw} (hp : H p = some (.lst xs)) (hb : But p H H') (h : LangAt H x C rs) : LangAt H' x C rs := by
  obtain ⟨dx, rt, nt, lt, ws, e1, e2, hw, e3, e4⟩ := h
  refine ⟨dx, rt, nt, lt, ws, hb _ _ e1 (ne_of e1 hp (by intro z; cases z)), hb _ _ e2 (ne_of e2 hp (by intro z; cases z)), Paired.mono (fun v r q => ?_) hw, hb _ _ e3 (ne_of e3 hp (by intro z; cases z)), hb _ _ e4 (ne_of e4 hp (by intro z; cases z))⟩
  obtain ⟨t, e, q⟩ := q
  exact ⟨t, e, hb _ _ q (ne_of q hp (by intro z; cases z))⟩
theorem RowsAt.but1 {H H' : Hp} {p l : Addr} {xs : List V} {rs : List Rw} (hp : H p = some (.lst xs)) (hb : But p H H') (ne : l ≠ p) (h : RowsAt H l rs) : RowsAt H' l rs := by
  obtain ⟨vs, e, q⟩ := h
  refine ⟨vs, hb _ _ e ne, Paired.mono (fun v r q => ?_) q⟩
  obtain ⟨t, e, q⟩ := q
  exact ⟨t, e, hb _ _ q (ne_of q hp (by intro z; cases z))⟩
theorem but_upd {H : Hp} {p : Addr} {o : HO} : But p H (upd H p o) := fun b u e n => by rw [upd_ne n]; exact e
theorem LangAt.same {H H' : Hp} {x C : Addr} {rs : List Rw} (s : Same H H') (h : LangAt H x C rs) : LangAt H' x C rs := by
  obtain ⟨dx, rt, nt, lt, ws, e1, e2, hw, e3, e4⟩ := h
  exact ⟨dx, rt, nt, lt, ws, s _ _ e1, s _ _ e2, Paired.mono (fun _ _ q => q.same s) hw, s _ _ e3, s _ _ e4⟩
theorem StAt.lst {B : Nat} {H : Hp} {st cl : Addr} (h : StAt B H st cl) : ∃ xs, H st = some (.lst xs) := by
  obtain ⟨ns, i, c, h0, n, e, _⟩ := h
  exact ⟨_, e⟩
theorem StAt.lst2 {B : Nat} {H : Hp} {st cl : Addr} (h : StAt B H st cl) : ∃ xs, H cl = some (.lst xs) := by
  obtain ⟨ns, i, c, h0, n, _, e, _⟩ := h
  exact ⟨_, e⟩
/-- equal data of one kind -/
theorem eq_leaf {H : Hp} {n : Nat} {x : V} (h : flatV x = true) : EqN H (n + 1) x x := .inl ⟨rfl, .inl h⟩
theorem eq_all {H : Hp} {n : Nat} : ∀ {xs : List V}, (∀ x ∈ xs, flatV x = true) → Paired (EqN H (n + 1)) xs xs
  | [], _ => .nil
  | x :: xs, h => .cons (eq_leaf (h x List.mem_cons_self)) (eq_all fun y hy => h y (List.mem_cons_of_mem _ hy))
theorem eq_strs {H : Hp} {n : Nat} (ls : List Str) : Paired (EqN H (n + 1)) (ls.map V.str) (ls.map V.str) := eq_all fun x hx => by
  obtain ⟨z, _, rfl⟩ := List.mem_map.mp hx
  rfl
theorem eq_ints {H : Hp} {n : Nat} (ls : List Rw) : Paired (EqN H (n + 1)) (ls.map fun r => V.int r.2) (ls.map fun r => V.int r.2) := eq_all fun x hx => by
  obtain ⟨z, _, rfl⟩ := List.mem_map.mp hx
  rfl
theorem eq_tup {H : Hp} {n : Nat} {a b : Addr} {xs ys : List V} (ha : H a = some (.tup xs)) (hb : H b = some (.tup ys)) (p : Paired (EqN H n) xs ys) (l : xs.length ≤ 100000) : EqN H (n + 1) (.ref a) (.ref b) := .inr ⟨true, a, b, xs, ys, rfl, rfl, ha, hb, p, l⟩
theorem eq_lst {H : Hp} {n : Nat} {a b : Addr} {xs ys : List V} (ha : H a = some (.lst xs)) (hb : H b = some (.lst ys)) (p : Paired (EqN H n) xs ys) (l : xs.length ≤ 100000) : EqN H (n + 1) (.ref a) (.ref b) := .inr ⟨false, a, b, xs, ys, rfl, rfl, ha, hb, p, l⟩
theorem eq_tried {H : Hp} {p q : Addr} {d : D} (h : triedAt H p d) (h' : triedAt H q d) : EqN H 10 (.ref p) (.ref q) := by
  rcases h with ⟨rs, e, ok, hw, lt, nl, h1, h2, h3⟩ | ⟨hw, h1⟩
  · rcases h' with ⟨qs, e', ok', hw', lt', nl', h1', h2', h3'⟩ | ⟨hw', h1'⟩
    · have er := sq_inj (e.symm.trans e')
      subst er
      have hl := ok.len
      have hn : (nums rs).length = rs.length + 1 := by unfold nums; rw [List.length_append]; rfl
      refine eq_tup h1 h1' (.cons (eq_leaf rfl) (.cons (eq_tup h2 h2' (eq_strs _) ?_) (.cons (eq_lst h3 h3' (eq_ints _) ?_) (.cons (eq_leaf rfl) .nil)))) (by simp)
      · rw [List.length_map]
        unfold labs
        rw [List.length_map]
        omega
      · rw [List.length_map]
        omega
    · exact absurd hw hw'
  · rcases h' with ⟨qs, e', ok', hw', lt', nl', h1', h2', h3'⟩ | ⟨hw', h1'⟩
    · exact absurd hw' hw
    · refine eq_tup h1 h1' (.cons (eq_leaf rfl) (.cons (eq_leaf ?_) .nil)) (by simp)
      unfold wrongV
      split
      · split
        · rfl
        · split <;> rfl
      · rfl
/-- what repr of it is -/
def RP (K : PySem.W.Frag) (H : Hp) (v : V) (Z : Str) : Prop := (∃ e n, Dp K H v e ∧ Small e n ∧ n ≤ 400 ∧ Z = e.shown) ∨ ∃ a, v = .ref a ∧ H a = some (.dK []) ∧ Z = (PyData.dict []).shown
theorem RP.same {K : PySem.W.Frag} {H H' : Hp} {v : V} {Z : Str} (s : Same H H') (h : RP K H v Z) : RP K H' v Z := h.imp (fun ⟨e, n, a, b, c, q⟩ => ⟨e, n, Dp.same s _ a, b, c, q⟩) fun ⟨a, e, q, z⟩ => ⟨a, e, s _ _ q, z⟩
theorem RP.use {K : PySem.W.Frag} {H : Hp} {v : V} {Z : Str} {Q : VK} (h : RP K H v Z) (q : Q (.str Z) H) : rRepr K [v] H Q := ⟨v, rfl, h.imp (fun ⟨e, n, a, b, c, z⟩ => ⟨e, n, a, b, c, by rw [← z]; exact q⟩) fun ⟨a, e, p, z⟩ => ⟨a, e, p, by rw [← z]; exact q⟩⟩
theorem RP.of {K : PySem.W.Frag} {F : Addr → Prop} {H : Hp} {v : V} {d : D} (h : DAt F H v d) (o : okD d = true ∨ d = .emp) (hs : sz d ≤ 400) : ∃ Z, RP K H v Z := by
  rcases o with o | rfl
  · obtain ⟨e, h1, S⟩ := small_of (K := K) d o h
    exact ⟨_, .inl ⟨e, _, h1, S, hs, rfl⟩⟩
  · obtain ⟨a, rfl, q⟩ := h
    exact ⟨_, .inr ⟨a, rfl, q, rfl⟩⟩
theorem cutLast {xs : List V} : cutV xs none (some (-1)) = xs.dropLast := by
  unfold cutV HT.sIx
  dsimp only
  rw [if_pos (by decide), List.drop_zero, Nat.sub_zero, List.dropLast_eq_take]
  congr 1
  omega
end KB

/-! the end for a law whose own def asks more of its surroundings than room: it is called from callerA alone -/
namespace XW
open PySem PySem.Spec PySem.W PyProof.Rows L2
/-- a def called from callerA, with nothing around it -/
def Ran (P : Program) (w : World) (K : PySem.W.Frag) (mg : Str → Option Value) (base : Heap) (CX : CXT) (f : Addr) (fd : FuncData) (ps : List Str) (sp : Sp) : Prop :=
  ∀ (s : Shared) (H : Hp) (args : Args) (us : List Value) (vs : List V) (Q : VK) (E : XK), Env0 P w K mg base callerA [] s H → BindsTo s fd args (ps.zip us) → Vals vs us → sp vs H Q E → codeAny (model P w) callerA (.call (.ref f) args) (CR CX [] P w H s Q E) s
theorem ran_of {CX : CXT} {P : Program} {w : World} {K : PySem.W.Frag} {mg : Str → Option Value} {base : Heap} {k : Nat} {f : Addr} {name qual : Str} {params : Arguments} {body : List Stmt} {scope : Scope} {dV kV doc pm cdv ct oc : Value} {an od : Option Addr} {osl : Array (Option Value)} {N ps : List Str} {sp : Sp}
    (lk : K.lookup f = some ⟨oc, od, .func (PySem.W.fnOf name qual params body scope dV kV doc pm an cdv ct), osl⟩) (hcd : PySem.W.codeIn K cdv qual = true) (S : FnScope N ps scope) (len : ∀ vs H Q E, sp vs H Q E → vs.length = ps.length) (room : Room (k + 1) callerA)
    (hbody : ∀ (s : Shared) (H : Hp) (vs : List V) (Q : VK) (E : XK), Room k (callerA.deeper (envOfC qual scope s.heap.objs.size f cdv)) → (callerA.deeper (envOfC qual scope s.heap.objs.size f cdv)).guards = some [] → sp vs H Q E →
      ∃ t, PSs (cxOf CX P w K mg base N qual scope f cdv callerA [] s H E) body t ∧ t { nx := fun _ H' => Q .non H', rt := Q } (start N vs) H) :
    Ran P w K mg base CX f (PySem.W.fnOf name qual params body scope dV kV doc pm an cdv ct) ps sp := by
  intro s H args us vs Q E e0 hb r hsp
  have lim := e0.mod.nolimit.keeps fun b o e => (e0.bs b o e).1
  have KX : K.In s.heap := e0.mod.kin.keeps fun b o e => (e0.bs b o e).1
  have ksc : ∀ y ∈ ps.zip us, scope.names.lookup y.1 = some .local ∨ (scope.names.lookup y.1 = some .cell ∧ ((cellsFrom (s.heap.objs.size + 1) scope.names []).lookup y.1).isSome = true) := by
    rintro ⟨n, v⟩ hy
    exact (S.par n (List.of_mem_zip hy).1).imp id fun q => ⟨q, PySem.W.cellsFrom_some _ _ _ (.inl q)⟩
  refine codeAny_call_function room.depth (KX _ _ lk) rfl S.co S.gen rfl (PySem.W.codeRec_of KX hcd) (hb _ _ _ _ (wpAny_newFunctionEnv_cells S.kind ksc fun env he s1 x => ?_))
  subst he
  refine ⟨lim.keeps x.toInCall.keep, codeAny_func ?_⟩
  obtain ⟨t, ht, hq⟩ := hbody s H vs Q E (room.deeper _) rfl hsp
  have I : Inv (cxOf CX P w K mg base N qual scope f cdv callerA [] s H E) [] (start N vs) H s1 := inv_start S room.hd e0 (len _ _ _ _ hsp) r x
  refine wpAny_mono (ht.run [] s1 (start N vs) H _ I hq) (fun fl s' hs => ?_) fun e s' hs => hs
  cases fl with
  | ret u =>
    obtain ⟨v, σ', H', J, rv, q⟩ := hs
    exact ⟨v, H', J.os, J.bare, J.base, J.hok, rv, q⟩
  | next =>
    obtain ⟨σ', H', J, q⟩ := hs
    exact ⟨V.non, H', J.os, J.bare, J.base, J.hok, rfl, q⟩
  | brk => exact (let ⟨_, _, _, q⟩ := hs; q : False).elim
  | cont => exact (let ⟨_, _, _, q⟩ := hs; q : False).elim
theorem law_end {P : Program} {w : World} {K : PySem.W.Frag} {mg mb : Str → Option Value} {CX : CXT} {fa a : Addr} {fd : FuncData} {x : Str} {sp : Sp} {s1 : Shared} {vs : List Value} {ns : List Int} (KX : K.In s1.heap) (hns : s1.heap.Ns mainGlobals mg) (hb : s1.heap.Ns builtinsNs mb)
    (hbb : ∀ x : Str, x ≠ "__name__" → mb x = bootBuiltins x) (hlim : s1.heap.NoLimit) (hg : s1.gens = #[]) (ha : s1.heap.get? a = some { cls := .type "list", data := .seq vs.toArray }) (hi : IntsAre vs ns) (hl : ns.length ≤ sizeLine)
    (F : ∀ base : Heap, K.In base → base.Ns mainGlobals mg → Ran P w K mg base CX fa fd [x] sp) (hbind : ∀ (s : Shared) (u : Value), BindsTo s fd ⟨[u], []⟩ [(x, u)])
    (hsp : ∀ H : Hp, Only H → SqL K H a (ns.map V.int) → sp [.ref a] H (fun v _ => v = .bl true) fun _ _ _ => False) (hCX : ∀ H e s', CX [] H s1 (fun _ _ _ => False) e s' → False) :
    codeAny (model P w) callerA (.call (.ref fa) ⟨[.ref a], []⟩) (fun r s' => r = .ok (.ret (.bool true)) ∧ OldK s1.heap s'.heap ∧ s'.os = s1.os ∧ AllBare s'.gens) s1 := by
  have rv := vals_ints hi
  have lenV := hi.length
  have main : ∀ H : Hp, Only H → SqL K H a (ns.map V.int) → HOk P w H s1.heap → (∀ b, H b ≠ none → b = a) → (H a ≠ none → K.lookup a = none) →
      codeAny (model P w) callerA (.call (.ref fa) ⟨[.ref a], []⟩) (fun r s' => r = .ok (.ret (.bool true)) ∧ OldK s1.heap s'.heap ∧ s'.os = s1.os ∧ AllBare s'.gens) s1 := by
    intro H hO hS hok hA hK
    have only : ∀ {b : Addr} {u : HO}, H b = some u → b = a := fun {b u} q => hA b (by rw [q]; exact Option.some_ne_none u)
    have noA : ∀ {b : Addr} {o : Obj} {es : Array DictEntry} {ep : Nat}, s1.heap.get? b = some o → o.data = .dict es ep → H b = none := fun {b o es ep} e d => by
      cases q : H b with
      | none => rfl
      | some u =>
        obtain rfl := only q
        rw [ha] at e
        cases e
        exact absurd (show Data.seq vs.toArray _ = Data.dict es ep from d) (by intro z; cases z)
    have nsK : ∀ {b : Addr} {m : Str → Option Value}, s1.heap.Ns b m → (hidT s1.heap H).Ns b m := fun {b m} ⟨o, es, ep, e, d, r⟩ => ⟨o, es, ep, hidT_get e (noA e d), d, r⟩
    have hKb : K.In (hidT s1.heap H) := fun b o e => hidT_get (KX b o e) (by
      cases q : H b with
      | none => rfl
      | some u =>
        obtain rfl := only q
        rw [hK (by rw [q]; exact Option.some_ne_none u)] at e
        cases e)
    have hM : Mod K mg (hidT s1.heap H) := ⟨hKb, nsK hns, ⟨mb, nsK hb, hbb⟩, let ⟨mc, h1, h2⟩ := hlim; ⟨mc, nsK h1, h2⟩⟩
    have env : Env0 P w K mg (hidT s1.heap H) callerA [] s1 H := ⟨rfl, hM, fun b o e => of_hidT e, Nat.le_of_eq (hidT_size _ _), trivial, fun b hb => absurd (show b ∈ ([] : List Addr) from hb) (by simp), hok, .of_eq hg⟩
    refine codeAny_mono (F _ hKb (nsK hns) s1 H ⟨[.ref a], []⟩ [.ref a] [.ref a] _ _ env (hbind s1 (.ref a)) (.cons rfl .nil) (hsp H hO hS)) fun r s' h => ?_
    cases r with
    | error e => exact (hCX H e s' h).elim
    | ok fl =>
      cases fl with
      | next => exact h.elim
      | brk => exact h.elim
      | cont => exact h.elim
      | ret u =>
        obtain ⟨v, H', os, bare, un, hok', r', q⟩ := h
        obtain rfl : v = .bl true := q
        obtain rfl : u = Value.bool true := r'
        refine ⟨rfl, OldK.of_keep fun b o e => ?_, os, bare⟩
        rcases hO b with z | ⟨ob, xs, z⟩
        · exact un.keep b o e z (by intro z; exact absurd (show b ∈ ([] : List Addr) from z) (by simp)) (by simp)
        · obtain ⟨e1, _⟩ := hok b _ z
          obtain ⟨e2, _⟩ := hok' b _ (un.frzs b ob _ z)
          rw [e] at e1
          cases e1
          exact e2
  cases hk : K.lookup a with
  | some o =>
    have e := KX a o hk
    rw [ha] at e
    cases e
    exact main (fun _ => none) (fun _ => .inl rfl) (.inr ⟨_, vs.toArray, _, hk, rfl, rfl, rfl, by rw [List.size_toArray, lenV]; exact hl, by simpa using rv⟩) (fun b u z => nomatch (show (none : Option HO) = some u from z)) (fun b z => absurd rfl z) fun z => absurd rfl z
  | none =>
    refine main (fun b => if b = a then some (.frz { cls := .type "list", data := .seq vs.toArray } (.lst (ns.map V.int))) else none) (fun b => ?_) (.inl (.inr ⟨_, if_pos rfl⟩)) (fun b u z => ?_) (fun b z => ?_) fun _ => hk
    · by_cases hba : b = a
      · exact .inr ⟨_, _, if_pos hba⟩
      · exact .inl (if_neg hba)
    · by_cases hba : b = a
      · subst hba
        cases (if_pos rfl).symm.trans z
        exact ⟨ha, by rw [List.length_map]; exact hl, vs, _, rv, ha⟩
      · cases (if_neg hba).symm.trans z
    · by_cases hba : b = a
      · exact hba
      · exact absurd (if_neg hba) z
theorem walk_ran {l : PySem.W.OpenLaw} {n : Nat} {q : Program} {loose : List Str} {XP : (Str → Option Value) → Heap → Prop} {YP : World → Heap → Prop} {d : DefRec} {K : Params → PySem.W.Frag} {CX : World → CXT} {sp : World → Sp} {x : Str} (hn : l.most = some n) (hn2 : n ≤ sizeLine) (hdf : d.params.defaults = [])
    (hY : ∀ (w : World) (h : Heap), YP w h → (K w.params).In h)
    (F : ∀ (w : World) (mg : Str → Option Value) (fa : Addr) (h : Heap), (K w.params).In h → h.Ns mainGlobals mg → mg d.name = some (.ref fa) →
      ∃ fd : FuncData, (∀ (s : Shared) (u : Value), BindsTo s fd ⟨[u], []⟩ [(x, u)]) ∧ ∀ base : Heap, (K w.params).In base → base.Ns mainGlobals mg → Ran l.prog w (K w.params) mg base (CX w) fa fd [x] (sp w))
    (hsp : ∀ (w : World) (H : Hp) (a : Addr) (ns : List Int), ns.length ≤ n → Only H → SqL (K w.params) H a (ns.map V.int) → sp w [.ref a] H (fun v _ => v = .bl true) fun _ _ _ => False)
    (hCX : ∀ (w : World) (H : Hp) (s : Shared) (e : Value) (s' : Shared), CX w [] H s (fun _ _ _ => False) e s' → False) : PySem.W.WalkO q loose XP YP l.row.toRowW d [] (fun f vs => PySem.call f vs) := by
  refine Att.attach_call hn hdf fun w s0 s1 mg mb fa o pm cd doc a vs ns G Y ho hd hcd hmg hobj hints hlen hg => ?_
  obtain ⟨fd, hb, hF⟩ := F w mg fa _ (hY w _ Y) G.T.g hmg
  exact law_end (hY w _ Y) G.T.g G.T.b G.T.builtins G.T.nolimit hg hobj hints (Nat.le_trans hlen hn2) hF hb (fun H hO hS => hsp w H a ns hlen hO hS) fun H e s' => hCX w H s1 e s'
end XW

namespace KB
open PySem PySem.Spec PyProof.Rows L2 C8 XE XD XI
/-! law -/
abbrev sLaw : Stmt := top 33
abbrev NL : List Str := ["_law_script", "_law_state", "_law_turn", "_law_rows_here", "_law_things", "_law_row", "_law_thing", "_law_handed", "_law_due", "_law_kept", "_law_told", "_law_given", "_law_language", "_law_twin", "_law_one_here", "_law_other", "_law_some", "_law_many", "_law_odd"]
theorem scLaw : FnScope NL ["_law_script"] (fnScope sLaw) := fnScope_by (by decide +kernel)
structure Blt6 (mg : Str → Option Value) : Prop extends Blt4 mg where
  rep : mg "repr" = none
def rLst (K : PySem.W.Frag) : List V → Hp → VK → Prop := fun xs H Q => ∃ p ys, xs = [.ref p] ∧ (SqL K H p ys ∨ SqT K H p ys) ∧ ∀ l, H l = none → Q (.ref l) (upd H l (.lst ys))
abbrev SG (a st l : Addr) (n : Int) (t4 t6 t7 t8 t9 t10 t11 t12 t13 t14 t15 t16 t18 : Option V) : L2.St := [some (.ref a), some (.ref st), some (.int n), some (.ref l), t4, none, t6, t7, t8, t9, t10, t11, t12, t13, t14, t15, t16, none, t18]
/-- what a turn holds -/
structure Ho (st cl l : Addr) (rs : List Rw) (B : Nat) (H : Hp) : Prop where
  rows : RowsAt H l rs
  ok : RowsOk rs
  ne : l ≠ st ∧ l ≠ cl
  st : StAt B H st cl
theorem Ho.but {st cl l : Addr} {rs : List Rw} {B B' : Nat} {H H' : Hp} (h : Ho st cl l rs B H) (b : But st H H') (s : StAt B' H' st cl) : Ho st cl l rs B' H' := ⟨h.rows.but h.st b, h.ok, h.ne, s⟩
theorem Ho.same {st cl l : Addr} {rs : List Rw} {B : Nat} {H H' : Hp} (h : Ho st cl l rs B H) (s : Same H H') : Ho st cl l rs B H' := h.but (Same.but s) (h.st.same s)
theorem Ho.mono {st cl l : Addr} {rs : List Rw} {B B' : Nat} {H : Hp} (h : Ho st cl l rs B H) (le : B ≤ B') : Ho st cl l rs B' H := ⟨h.rows, h.ok, h.ne, h.st.mono le⟩
/-- a row as a list -/
def RowL (H : Hp) (v : V) (r : Rw) : Prop := ∃ t, v = .ref t ∧ H t = some (.lst [.str r.1, .int r.2])
theorem rowsL_dats {H : Hp} {us : List V} {rs : List Rw} (h : Paired (RowL H) us rs) : DAts (fun _ => True) H us (rs.map rowD) := by
  induction h with
  | nil => trivial
  | cons q _ ih =>
    obtain ⟨t, rfl, e⟩ := q
    exact ⟨⟨t, _, rfl, .inr ⟨trivial, e⟩, rfl, ⟨rfl, rfl⟩, ⟨rfl, rfl⟩, trivial⟩, ih⟩
structure NF (K : PySem.W.Frag) (C : Addr) : Prop where
  ty : ∀ T ∈ tys, PySem.W.notFirst K C (.type T) = true
  own : PySem.W.notFirst K C (.ref C) = true
theorem lang_ty {K : PySem.W.Frag} {C : Addr} (IL : IsL K C) {H : Hp} {y : Addr} {rs : List Rw} (h : LangAt H y C rs) : TyX K H (.ref y) (.ref C) := by
  obtain ⟨dx, rt, nt, lt, ws, hy, _⟩ := h
  exact .base (.ins hy IL.ins.cl IL.ins.ha IL.ins.hn IL.ins.htk IL.ins.hm)
theorem paired_dropLast {α β : Type} {R : α → β → Prop} : ∀ {a : List α} {b : List β}, Paired R a b → Paired R a.dropLast b.dropLast
  | [], [], _ => .nil
  | [_], [_], _ => .nil
  | x :: y :: a, u :: v :: b, h => by
    cases h with
    | cons q t => exact .cons q (paired_dropLast t)
theorem eq_rows_tail {H : Hp} {us : List V} {rs : List Rw} (h : Paired (RowV H) us rs) : Paired (EqN H 8) us us := by
  induction h with
  | nil => exact .nil
  | cons q _ ih =>
    obtain ⟨t, rfl, ht⟩ := q
    exact .cons (eq_tup ht ht (.cons (eq_leaf rfl) (.cons (eq_leaf rfl) .nil)) (by simp)) ih
theorem many_labG {rs : List Rw} {z : Str} {n : Int} (e : many rs z = some n) : z ∈ labs rs := many_some e
/-- two languages compared -/
theorem cmp_lang {K : PySem.W.Frag} {C : Addr} (IL : IsL K C) (N : NF K C) {H : Hp} {x y : Addr} {rs qs : List Rw} {neg : Bool} {Q : VK} (hx : LangAt H x C rs) (hy : LangAt H y C qs) (ok : RowsG rs) (ok' : RowsG qs) (q : Q (.bl (if neg = true then !decide (rs = qs) else decide (rs = qs))) H) : rOwnAny K C (spEqL C) C8.E0 neg (.ref x) (.ref y) H Q := by
  obtain ⟨dx, rt, nt, lt, ws, e, _⟩ := id hx
  exact ⟨x, dx, _, _, rfl, e, lang_ty IL hy, N.own, x, .ref y, rs, rfl, hx, ok, .inl ⟨y, qs, rfl, hy, ok', _, rfl, q⟩⟩
theorem cmp_odd {K : PySem.W.Frag} {C : Addr} (N : NF K C) {F : Addr → Prop} {H : Hp} {x : Addr} {v : V} {d : D} {rs : List Rw} {Q : VK} (hx : LangAt H x C rs) (hv : DAt F H v d) (ok : RowsG rs) (q : Q (.bl false) H) : rOwnAny K C (spEqL C) C8.E0 false (.ref x) v H Q := by
  obtain ⟨dx, rt, nt, lt, ws, e, _⟩ := id hx
  obtain ⟨T, hT, ty⟩ := d_ty3 (K := K) hv
  exact ⟨x, dx, _, _, rfl, e, ty, N.ty T hT, x, v, rs, rfl, hx, ok, .inr ⟨d, F, hv, _, rfl, q⟩⟩
def spLaw (K : PySem.W.Frag) : Sp := fun vs H Q _ => ∃ (a : Addr) (ns : List Int), vs = [.ref a] ∧ SqL K H a (ns.map V.int) ∧ ∀ H', Q (.bl true) H'
section
variable {P : Program} {w : World} {K : PySem.W.Frag} {mg : Str → Option Value} {base : Heap}
theorem c_law {C f fi fq fu BL UL : Addr} {fd fdi fdq : FuncData} (F : Def K mg "law" sLaw f fd) (T : Blt6 mg) (cFresh : Cal P w K mg base 1 "_law_fresh" (spFresh K) []) (cTake : Cal P w K mg base 1 "_law_take" spTake []) (cOne : Cal P w K mg base 2 "_law_one" spOne [])
    (cSame : Cal P w K mg base 11 "_law_same" (spSameN 10) []) (cWords : Cal P w K mg base 3 "_law_words" spWords []) (cRows : Cal P w K mg base 4 "_law_rows" spRows []) (cLabels : Cal P w K mg base 1 "_law_labels" spLabels2 []) (cLoose : Cal P w K mg base 202 "_law_loose" (spLoose 201) [])
    (cFault : Cal P w K mg base 2 "_law_fault" spWrong []) (cTried : Cal P w K mg base 7 "_law_tried" spTried []) (cUnk : Cal P w K mg base 6 "_law_unknown" (spUnk C) []) (cSp : Cal P w K mg base 3 "_law_spoilt" spSpoilt [])
    (hm : mg "Language" = some (.ref C)) (L : LC K mg C) (IL : IsL K C) (NFC : NF K C) (MI : Mk K C fi) (FI : FnOk P w K mg base (L2.CX P w) 4 fi fdi ["self", "rows"] (spInit C BL)) (bi : Binds K fdi ["self", "rows"] [])
    (hq : PySem.W.findIn K (.ref C) "__eq__" = some (some (.ref fq))) (hn : PySem.W.findIn K (.ref C) "__ne__" = some (some (.builtin "object.__ne__"))) (ho : PySem.W.mroIn K C (.type "object") = some true) (hfq : PySem.W.isFn K (.ref fq) = true)
    (FQ : FnOk P w K mg base C8.CX0 2 fq fdq ["self", "other"] (spEqL C)) (bq : Binds K fdq ["self", "other"] []) : XW.Ran P w K mg base C8.CX0 f fd ["_law_script"] (spLaw K) := by
  obtain ⟨oc, od, dV, kV, doc, pm, an, cdv, ct, osl, rfl, lk, hcd⟩ := F.fn.ex
  refine XW.ran_of (k := 210) lk hcd scLaw (fun vs H Q E h => ?_) ⟨rfl, by decide, by decide⟩ (fun s H vs Q E hr hg h => ?_)
  · obtain ⟨a, ns, rfl, _⟩ := h
    rfl
  · obtain ⟨a, ns, rfl, hS, k⟩ := h
    have nd := scLaw.nd
    have hu : (callerA.deeper (envOfC "law" (fnScope sLaw) s.heap.objs.size f cdv)).units + 500 < cLine := by have := hr.un; omega
    have hu64 : (callerA.deeper (envOfC "law" (fnScope sLaw) s.heap.objs.size f cdv)).units + 64 < cLine := by omega
    suffices hh : ∃ t, PSs (cxOf C8.CX0 P w K mg base NL "law" (fnScope sLaw) f cdv callerA [] s H E).nox (fnBody sLaw) t ∧ t { nx := fun _ H' => Q .non H', rt := Q } (start NL [.ref a]) H by
      obtain ⟨t, h, q⟩ := hh
      exact ⟨t, h.nox, q⟩
    refine ⟨_, pss_cons (ps_set (i := 1) nd rfl (by first | exact Or.inl rfl | exact Or.inr rfl) (pe_c cFresh hr (by decide) (by rfl) (pa_cons (pv 0) pa_nil)))
      (pss_cons (ps_for PassesOwn.never rfl (pi_range1 (by rfl) T.ran (pa_cons pe_int pa_nil)) (pg_name (i := 2) nd rfl (Or.inl rfl))
        (pss_cut (ps_set (i := 3) nd rfl (by first | exact Or.inl rfl | exact Or.inr rfl) (pe_c cRows hr (by decide) (by rfl) (pa_cons (pv 1) (pa_cons pe_int pa_nil))))
        (pss_cut (ps_set (i := 4) nd rfl (by first | exact Or.inl rfl | exact Or.inr rfl) (pe_ifExp (pt_cmp (pc_lt (pv 2) pe_int)) (pv 3)
            (pe_lc (own := [("_law_row", 5)]) (g := gName 5) (tt := _) rfl nd (pi_list (pv 3)) (blkOk_by (N := NL) (sc := fnScope sLaw) (by decide +kernel)) (fun _ _ _ _ _ => pg_name (i := 5) nd rfl (Or.inl rfl))
              (fun _ _ _ _ _ => pts_one (pt_cmp (pc_gt (pe_c cTake hr (by decide) (by rfl) (pa_cons (pv 1) (pa_cons pe_int pa_nil))) pe_int))) (fun _ _ _ _ _ => pv 5))))
        (pss_cut (ps_if (pw_and (pt_cmp (pc_gt (pv 2) pe_int)) (pw_and1 (pt_cmp (pc_gt (pe_c cTake hr (by decide) (by rfl) (pa_cons (pv 1) (pa_cons pe_int pa_nil))) pe_int)))).pt
            (pss_one (ps_set (i := 4) nd rfl (by first | exact Or.inl rfl | exact Or.inr rfl) (pe_c cSp hr (by decide) (by rfl) (pa_cons (pv 1) (pa_cons (pv 4) pa_nil))))) pss_nil)
        (pss_cut (ps_set (i := 6) nd rfl (by first | exact Or.inl rfl | exact Or.inr rfl) (pe_ifExp (pt_cmp (pc_gt (pe_c cTake hr (by decide) (by rfl) (pa_cons (pv 1) (pa_cons pe_int pa_nil))) pe_int)) (pv 4)
            (pe_c cOne hr (by decide) (by rfl) (pa_cons (pv 1) (pa_cons (pe_lst (pa_cons pe_non (pa_cons pe_int (pa_cons pe_str (pa_cons pe_dnewK (pa_cons pe_bl pa_nil)))))) pa_nil)))))
        (pss_cut (ps_par (i := 7) (j := 8) rfl nd rfl rfl (by decide) rfl rfl (pa_cons (pe_c cLoose hr (by decide) (by rfl) (pa_cons (pv 1) (pa_cons (pv 6) pa_nil))) (pa_cons (pe_c cFault hr (by decide) (by rfl) (pa_cons (pv 6) pa_nil)) pa_nil)) (by rfl))
        (pss_cut (ps_par (i := 9) (j := 10) rfl nd rfl rfl (by decide) rfl rfl (pa_cons (pe_callB (call_repr hg hu) (by rfl) T.rep (by decide +kernel) (pa_cons (pv 7) pa_nil)) (pa_cons (pe_tup (pa_cons pe_str (pa_cons (pv 8) pa_nil))) pa_nil)) (by rfl))
        (pss_cut (ps_if (pt_cmp (pc_isN (pv 8))) (pss_one (ps_set (i := 10) nd rfl (by first | exact Or.inl rfl | exact Or.inr rfl) (pe_tup (pa_cons pe_str (pa_cons (pe_callTy call_tuple_of (by rfl) T.tup (by decide +kernel) (pa_cons (pe_c cLabels hr (by decide) (by rfl) (pa_cons (pv 6) pa_nil)) pa_nil))
              (pa_cons (pe_op op_cat (pe_lc (own := [("_law_row", 5)]) (g := gName 5) (tt := tYes) rfl nd (PI.or (pi_list (pv 6)) (pi_tup (pv 6))) (blkOk_by (N := NL) (sc := fnScope sLaw) (by decide +kernel)) (fun _ _ _ _ _ => pg_name (i := 5) nd rfl (Or.inl rfl)) (fun _ _ _ _ _ => pts_nil) (fun _ _ _ _ _ => pe_ix (show IxR _ (rIx K) from ix_seq) (pv 5) pe_int fun _ _ => rfl)) (pe_lst (pa_cons pe_int pa_nil)))
              (pa_cons (pe_callB call_len_seq (by rfl) T.len PySem.boot_len (pa_cons (pv 6) pa_nil)) pa_nil))))))) pss_nil)
        (pss_cut (ps_if (pw_or (pt_not (pt_val (pe_c cSame hr (by decide) (by rfl) (pa_cons (pe_c cTried hr (by decide) (by rfl) (pa_cons (pv 7) pa_nil)) (pa_cons (pv 10) pa_nil))))) (pw_or1 (pt_cmpR op_ne (pe_callB (call_repr hg hu) (by rfl) T.rep (by decide +kernel) (pa_cons (pv 7) pa_nil)) (pv 9) (nomark _)))).pt pss_never pss_nil)
        (pss_cut (ps_setLc (i := 11) (own := [("_law_row", 5)]) (g := gName 5) (tt := tYes) rfl nd rfl rfl (by rfl) (pi_list (pv 3)) (blkOk_by (N := NL) (sc := fnScope sLaw) (by decide +kernel)) (fun _ _ _ _ _ => pg_name (i := 5) nd rfl (Or.inl rfl)) (fun _ _ _ _ _ => pts_nil)
            (fun _ _ _ _ _ => pe_callTy (show CallR _ (.type "list") (rLst K) from call_list_of) (by rfl) T.list (show bootBuiltins ("list" : Str) = some (.type "list") by decide +kernel) (pa_cons (pv 5) pa_nil)))
        (pss_cut (ps_par (i := 12) (j := 13) rfl nd rfl rfl (by decide) rfl rfl (pa_cons (pe_makeS (E := fun _ => C8.E0) MI FI (hr.mono (by decide)) (by rfl) hm bi (fun σ => noneAt σ) (pa_cons (pv 11) pa_nil)) (pa_cons (pe_makeS (E := fun _ => C8.E0) MI FI (hr.mono (by decide)) (by rfl) hm bi (fun σ => noneAt σ) (pa_cons (pe_callTy call_tuple_of (by rfl) T.tup (by decide +kernel) (pa_cons (pv 3) pa_nil)) pa_nil)) pa_nil)) (by rfl))
        (pss_cut (ps_expr (pe_bm PySem.F.plainAttrs_list PySem.F.slot_list_append PySem.F.type_list_append mt_append (pv 11) (pa_cons (pe_lst (pa_cons pe_str (pa_cons pe_int pa_nil))) pa_nil)))
        (pss_cut (ps_asg pe_str (pg_sub (pe_ix ix_list (pv 11) pe_int fun _ _ => rfl) pe_int set_list))
        (pss_cut (ps_if (pw_or (pt_not (pt_cmpR (op_eqOwn (E := C8.E0) hq hfq FQ bq (hr.mono (by decide)) C8.pass0) (pv 12) (pv 13) (nomark _))) (pw_or (pt_cmpR (op_neOwn (E := C8.E0) hq hn ho hfq FQ bq (hr.mono (by decide)) C8.pass0) (pv 12) (pv 13) (nomark _))
            (pw_or1 (pt_cmpR (op_eqOwn (E := C8.E0) hq hfq FQ bq (hr.mono (by decide)) C8.pass0) (pv 12) (pe_makeS (E := fun _ => C8.E0) MI FI (hr.mono (by decide)) (by rfl) hm bi (fun σ => noneAt σ) (pa_cons (pe_op op_cat (pe_slice sl_list (pv 3) po_none (po_some (pe_un un_neg pe_int))) (pe_lst (pa_cons (pe_tup (pa_cons pe_str (pa_cons pe_int pa_nil))) pa_nil))) pa_nil)) (nomark _))))).pt pss_never pss_nil)
        (pss_cut (ps_if (pt_not (pt_val (pe_c cSame hr (by decide) (by rfl) (pa_cons (pe_fld (pv 12) rfl) (pa_cons (pe_callTy call_tuple_of (by rfl) T.tup (by decide +kernel) (pa_cons (pe_c cLabels hr (by decide) (by rfl) (pa_cons (pv 3) pa_nil)) pa_nil)) pa_nil))))) pss_never pss_nil)
        (pss_cut (ps_asg (pe_c cWords hr (by decide) (by rfl) (pa_cons (pv 1) (pa_cons pe_int pa_nil))) (pg_lst rfl (pgs_cons (pg_name (i := 14) nd rfl (by first | exact Or.inl rfl | exact Or.inr rfl)) (pgs_cons (pg_name (i := 15) nd rfl (by first | exact Or.inl rfl | exact Or.inr rfl)) pgs_nil))))
        (pss_cut (ps_setLc (i := 16) (own := [("_law_many", 17)]) (g := gName 17) (tt := tYes) rfl nd rfl rfl (by rfl) (pi_range1 (by rfl) T.ran (pa_cons pe_int pa_nil)) (blkOk_by (N := NL) (sc := fnScope sLaw) (by decide +kernel)) (fun _ _ _ _ _ => pg_name (i := 17) nd rfl (Or.inl rfl)) (fun _ _ _ _ _ => pts_nil)
            (fun _ _ _ _ _ => pe_makeS (E := fun _ => C8.E0) MI FI (hr.mono (by decide)) (by rfl) hm bi (fun σ => noneAt σ) (pa_cons (pe_lst (pa_cons (pe_tup (pa_cons (pv 14) (pa_cons pe_int pa_nil))) (pa_cons (pe_tup (pa_cons (pv 15) (pa_cons (pv 17) pa_nil))) pa_nil))) pa_nil)))
        (pss_cut (ps_if (pw_or (pt_cmpR (op_eqOwn (E := C8.E0) hq hfq FQ bq (hr.mono (by decide)) C8.pass0) (pe_ix ix_list (pv 16) pe_int fun _ _ => rfl) (pe_ix ix_list (pv 16) pe_int fun _ _ => rfl) (nomark _))
            (pw_or (pt_cmpR (op_eqOwn (E := C8.E0) hq hfq FQ bq (hr.mono (by decide)) C8.pass0) (pe_ix ix_list (pv 16) pe_int fun _ _ => rfl) (pe_ix ix_list (pv 16) pe_int fun _ _ => rfl) (nomark _))
            (pw_or (pt_cmpR (op_eqOwn (E := C8.E0) hq hfq FQ bq (hr.mono (by decide)) C8.pass0) (pe_ix ix_list (pv 16) pe_int fun _ _ => rfl) (pe_ix ix_list (pv 16) pe_int fun _ _ => rfl) (nomark _))
            (pw_or1 (pt_not (pt_cmpR (op_neOwn (E := C8.E0) hq hn ho hfq FQ bq (hr.mono (by decide)) C8.pass0) (pe_ix ix_list (pv 16) pe_int fun _ _ => rfl) (pe_ix ix_list (pv 16) pe_int fun _ _ => rfl) (nomark _))))))).pt pss_never pss_nil)
        (pss_one (ps_for PassesOwn.never rfl (pi_list (pe_lst (pa_cons pe_non (pa_cons pe_int (pa_cons pe_str (pa_cons pe_str (pa_cons (pe_lst (pa_cons pe_str pa_nil)) (pa_cons (pe_tup pa_nil) (pa_cons pe_dnewK (pa_cons pe_bl (pa_cons pe_str (pa_cons (pv 3) pa_nil)))))))))))) (pg_name (i := 18) nd rfl (Or.inl rfl))
          (pss_one (ps_if (pw_or (pt_not (pt_val (pe_c cSame hr (by decide) (by rfl) (pa_cons (pe_c cUnk hr (by decide) (by rfl) (pa_cons (pv 12) (pa_cons (pv 18) pa_nil))) (pa_cons (pe_tup (pa_cons pe_str (pa_cons (pv 18) pa_nil))) pa_nil)))))
            (pw_or1 (pt_cmpR (op_eqOwn (E := C8.E0) hq hfq FQ bq (hr.mono (by decide)) C8.pass0) (pv 12) (pv 18) (nomark _)))).pt pss_never pss_nil))))))))))))))))))))))
      (pss_one (ps_ret pe_bl))), ?_⟩
    refine ⟨_, rfl, a, ns, rfl, hS, fun st cl H0 nst ncl s0 hst0 => ?_⟩
    refine ⟨8, rfl, by decide, by decide, for_gen (J := Itr 0 8) 8 (fun i σ H' => ∃ v2 v3 v4 v6 v7 v8 v9 v10 v11 v12 v13 v14 v15 v16 v18 : Option V, σ = [some (.ref a), some (.ref st), v2, v3, v4, none, v6, v7, v8, v9, v10, v11, v12, v13, v14, v15, v16, none, v18] ∧ StAt (400 * i) H' st cl) ⟨_, _, _, _, _, _, _, _, _, _, _, _, _, _, _, rfl, hst0⟩
      (fun i σ H' hi _ => hi) (fun σ H' _ => Nat.le_refl _) ?_ (fun σ H' _ => k H')⟩
    rintro i σ H1 v H2 hi ⟨v2, v3, v4, v6, v7, v8, v9, v10, v11, v12, v13, v14, v15, v16, v18, rfl, hst⟩ ⟨rfl, rfl⟩
    generalize hB : 400 * i = B at hst
    have hB1 : B ≤ 2800 := by omega
    -- rows
    refine ⟨fun σ H' => ∃ (l : Addr) (rs : List Rw), σ = SG a st l (0 + (i : Nat)) v4 v6 v7 v8 v9 v10 v11 v12 v13 v14 v15 v16 v18 ∧ Ho st cl l rs (B + 50) H', ?_, ?_⟩
    · refine ⟨_, rfl, st, 4, B, cl, rfl, by decide, by decide, hst, by omega, fun l rs H1 nl hR ok hs1 b1 => ⟨l, rs, rfl, hR, ok, hst.new nl, hs1⟩⟩
    rintro σ H1 ⟨l, rs, rfl, h1⟩
    -- things
    refine ⟨fun σ H' => ∃ (t : Addr) (qs : List Rw), σ = SG a st l (0 + (i : Nat)) (some (.ref t)) v6 v7 v8 v9 v10 v11 v12 v13 v14 v15 v16 v18 ∧ Ho st cl l rs (B + 70) H' ∧ RowsAt H' t qs ∧ qs.length ≤ 14 ∧ (∀ r ∈ qs, r ∈ rs) ∧ t ≠ st, ?_, ?_⟩
    · have hlen := h1.ok.len
      refine ⟨_, rfl, _, 4, rfl, rfl, _, rfl, ite2 (fun _ => ?_) (fun _ => ?_)⟩
      · exact ⟨_, rfl, l, rs, rfl, h1.mono (by omega), h1.rows, hlen, fun r hr => hr, h1.ne.1⟩
      obtain ⟨us, hl, hp⟩ := id h1.rows
      have hul := Paired.length hp
      refine ⟨_, rfl, l, rfl, ⟨_, SqL.of hl⟩, fun Da nDa => ?_⟩
      obtain ⟨Ds, Dc⟩ := h1.st.new nDa
      refine lc_gen (J := Itl K l) rs.length (fun j H' => ∃ (ws : List V) (qs : List Rw), H' Da = some (.lst ws) ∧ Paired (RowV H') ws qs ∧ (∀ r ∈ qs, r ∈ rs) ∧ qs.length ≤ j ∧ StAt (B + 50 + j) H' st cl ∧ But st H1 H' ∧ Da ≠ l) ⟨[], [], upd_same, .nil, (fun r hr => by cases hr), Nat.le_refl _, h1.st.put Ds Dc, Same.but (same_upd nDa), (ne_of_none hl nDa).symm⟩
        (fun j H' hj ⟨_, _, _, _, _, _, _, b, _⟩ => ⟨us, us.getD j .non, SqL.of (b _ _ hl h1.ne.1), getD_at (by omega)⟩) (fun H' ⟨_, _, _, _, _, _, _, b, _⟩ => ⟨us, SqL.of (b _ _ hl h1.ne.1), by omega⟩) (fun j H' x H'' hj ⟨ws, qs, hD, hq, hm, hql, hs, b, nDl⟩ yl => ?_) (fun H' ⟨ws, qs, hD, hq, hm, hql, hs, b, nDl⟩ => ?_)
      · obtain ⟨rfl, hx⟩ := yl
        have hx := hx _ (SqL.of (b _ _ hl h1.ne.1))
        obtain ⟨r, hr, hxr⟩ := paired_get hp hx
        have hwl := Paired.length hq
        refine ⟨rfl, ?_⟩
        refine ⟨_, rfl, st, 4, B + 50 + j, cl, rfl, by decide, by decide, hs, by omega, fun d H3 d0 d1 hs3 b3 => ⟨d, 0, rfl, rfl, _, rfl, ?_⟩⟩
        have hD3 := b3 _ _ hD Ds
        have hq3 : Paired (RowV H3) ws qs := Paired.mono (fun _ _ q => q.but hs b3) hq
        refine ite2 (fun _ => ?_) (fun _ => ⟨ws, qs, hD3, hq3, hm, by omega, hs3, b.trans b3, nDl⟩)
        refine ⟨_, rfl, ws, hD3, by rw [sizeLine_eq]; omega, ws ++ [x], qs ++ [r], upd_same, ?_, ?_, by simp; omega, hs3.put Ds Dc, (b.trans b3).upd nDa, nDl⟩
        · have ku : ∀ {v : V} {r : Rw}, RowV H3 v r → RowV (upd H3 Da (.lst (ws ++ [x]))) v r := fun ⟨t, e, q⟩ => ⟨t, e, by rw [upd_ne (ne_of q hD3 (by intro z; cases z))]; exact q⟩
          exact paired_app (Paired.mono (fun _ _ q => ku q) hq3) (.cons (ku ((hxr.but h1.st b).but hs b3)) .nil)
        · intro q hq
          rcases List.mem_append.mp hq with hq | hq
          · exact hm q hq
          · rw [List.mem_singleton.mp hq]; exact List.mem_of_getElem? hr
      · exact ⟨Da, qs, rfl, (h1.but b (hs.mono (by omega))), ⟨ws, hD, hq⟩, by omega, hm, Ds⟩
    rintro σ H2 ⟨t, qs, rfl, h2, hqs, hql, hqm, nt⟩
    have menu_of : ∀ r ∈ qs, r.1 ∈ menu ∧ 0 ≤ r.2 ∧ r.2 ≤ 2 := fun r hr => h2.ok.mem r (hqm r hr)
    -- spoilt
    refine ⟨fun σ H' => ∃ (t : Addr) (vs : List V) (ds : List D), σ = SG a st l (0 + (i : Nat)) (some (.ref t)) v6 v7 v8 v9 v10 v11 v12 v13 v14 v15 v16 v18 ∧ Ho st cl l rs (B + 91) H' ∧ H' t = some (.lst vs) ∧ DAts (oth st) H' vs ds ∧ okDs ds = true ∧ szs ds ≤ 200 ∧ ds.length ≤ 15 ∧ t ≠ st, ?_, ?_⟩
    · have stay : ∀ H', Same H2 H' ∨ But st H2 H' → StAt (B + 91) H' st cl → ∃ (t' : Addr) (vs : List V) (ds : List D), SG a st l (0 + (i : Nat)) (some (.ref t)) v6 v7 v8 v9 v10 v11 v12 v13 v14 v15 v16 v18 = SG a st l (0 + (i : Nat)) (some (.ref t')) v6 v7 v8 v9 v10 v11 v12 v13 v14 v15 v16 v18 ∧ Ho st cl l rs (B + 91) H' ∧ H' t' = some (.lst vs) ∧ DAts (oth st) H' vs ds ∧ okDs ds = true ∧ szs ds ≤ 200 ∧ ds.length ≤ 15 ∧ t' ≠ st := fun H' b hs => by
        have b : But st H2 H' := b.elim (fun s => Same.but s) id
        obtain ⟨us, hl, hp⟩ := hqs
        refine ⟨t, us, qs.map rowD, rfl, h2.but b hs, b _ _ hl nt, DAts.hold (.but h2.st b fun a g => g) _ (rows_dats hp), okDs_rows menu_of, by rw [szs_rows]; omega, by rw [List.length_map]; omega, nt⟩
      refine ⟨_, rfl, _, 3, rfl, rfl, _, rfl, ite2 (fun _ => ?_) (fun _ => iteF (stay H2 (.inr .refl) (h2.st.mono (by omega))))⟩
      refine ⟨_, rfl, st, 3, _, cl, rfl, by decide, by decide, h2.st, by omega, fun d H3 d0 d1 hs3 b3 => ⟨d, 0, rfl, rfl, _, rfl, ite2 (fun _ => ?_) (fun _ => stay H3 (.inr b3) (hs3.mono (by omega)))⟩⟩
      have h3 := h2.but b3 hs3
      refine ⟨_, rfl, _, rfl, st, t, qs, _, cl, rfl, hqs.but h2.st b3, hql, menu_of, hs3, by omega, fun p vs ds H4 hp hv _ hdl hok hsz np hs4 b4 => ⟨p, vs, ds, rfl, h3.but b4 (hs4.mono (by omega)), hp, hv, hok, hsz, hdl, (hs3.new np).1⟩⟩
    rintro σ H3 ⟨t, vs, ds, rfl, h3, ht, hvs, hok, hsz, hdl, nt⟩
    -- thing
    refine ⟨fun σ H' => ∃ (v4' : Option V) (v : V) (d : D), σ = SG a st l (0 + (i : Nat)) v4' (some v) v7 v8 v9 v10 v11 v12 v13 v14 v15 v16 v18 ∧ Ho st cl l rs (B + 93) H' ∧ DAt (oth st) H' v d ∧ (okD d = true ∨ d = .emp) ∧ sz d ≤ 201 ∧ shortAll d = true, ?_, ?_⟩
    · refine ⟨_, rfl, st, 12, _, cl, rfl, by decide, by decide, h3.st, by omega, fun d H4 d0 d1 hs4 b4 => ⟨d, 0, rfl, rfl, _, rfl, ?_⟩⟩
      have h4 := h3.but b4 hs4
      refine ite2 (fun _ => ?_) (fun _ => ?_)
      · exact ⟨_, rfl, _, .ref t, .sq ds, rfl, h4.mono (by omega), ⟨t, vs, rfl, .inr ⟨nt, b4 _ _ ht nt⟩, hdOk_ok hok, DAts.hold (.but h3.st b4 fun a g => g) _ hvs⟩, .inl hok, by rw [sz]; omega, ok_shortAll hok (by omega)⟩
      · refine ⟨_, rfl, fun e ne => ⟨(by show 5 ≤ sizeLine; decide), fun p np => ?_⟩⟩
        have s5 : Same H4 (upd (upd H4 e (.dK [])) p (.lst [.non, .int 5, .str "ab", .ref e, .bl true])) := (same_upd ne).trans (same_upd np)
        have he : (upd (upd H4 e (.dK [])) p (.lst [.non, .int 5, .str "ab", .ref e, .bl true])) e = some (.dK []) := by rw [upd_ne (ne_of_none upd_same np)]; exact upd_same
        have h5 := h4.same s5
        refine ⟨st, p, _, _, cl, rfl, .inl upd_same, (h4.st.new (same_free (same_upd ne) np)).1, by simp, by simp, h5.st, by omega, fun v H6 hv hs6 b6 => ⟨some (.ref t), v, ?_⟩⟩
        have h6 := h5.but b6 (hs6.mono (show _ ≤ B + 93 by omega))
        have c5 : v = .non ∨ v = .int 5 ∨ v = .str "ab" ∨ v = .ref e ∨ v = .bl true := by simpa using hv
        have nste : e ≠ st := (h4.st.new ne).1
        rcases c5 with rfl | rfl | rfl | rfl | rfl
        · exact ⟨.fl .non, rfl, h6, ⟨rfl, rfl⟩, .inl rfl, by decide, rfl⟩
        · exact ⟨.fl (.int 5), rfl, h6, ⟨rfl, rfl⟩, .inl rfl, by decide, rfl⟩
        · exact ⟨.fl (.str "ab"), rfl, h6, ⟨rfl, rfl⟩, .inl (by decide +kernel), by decide, rfl⟩
        · exact ⟨.emp, rfl, h6, ⟨e, rfl, b6 _ _ he nste⟩, .inr rfl, by decide, rfl⟩
        · exact ⟨.fl (.bl true), rfl, h6, ⟨rfl, rfl⟩, .inl rfl, by decide, rfl⟩
    rintro σ H4 ⟨v4', v, d, rfl, h4, hv, hok, hsz, hsh⟩
    -- handed, due
    refine ⟨fun σ H' => ∃ (v' : V), σ = SG a st l (0 + (i : Nat)) v4' (some v) (some v') (some (wrongV d)) v9 v10 v11 v12 v13 v14 v15 v16 v18 ∧ Ho st cl l rs (B + 294) H' ∧ DAt (oth st) H' v d ∧ DAt (oth st) H' v' d, ?_, ?_⟩
    · refine ⟨_, rfl, _, rfl, st, v, d, _, cl, rfl, hv, by omega, by omega, h4.st, by omega, fun v' H5 hv' hs5 b5 => ?_⟩
      have h5 := h4.but b5 (hs5.mono (show _ ≤ B + 294 by omega))
      have hv5 := DAt.hold (.but h4.st b5 fun a g => g) _ hv
      refine ⟨_, rfl, v, d, oth st, rfl, hv5, hsh, fun H6 s6 => ⟨_, _, rfl, v', rfl, h5.same s6, DAt.hold (.same s6) _ hv5, DAt.hold (.same s6) _ (DAt.weak (fun a g => (h4.st.new g).1) _ hv')⟩⟩
    rintro σ H5 ⟨v', rfl, h5, hv5, hv'⟩
    obtain ⟨Z, hZ⟩ := RP.of (K := K) hv' hok (by omega)
    -- kept, told
    refine ⟨fun σ H' => ∃ (p : Addr), σ = SG a st l (0 + (i : Nat)) v4' (some v) (some v') (some (wrongV d)) (some (.str Z)) (some (.ref p)) v11 v12 v13 v14 v15 v16 v18 ∧ Same H5 H' ∧ H' p = some (.tup [.str "bad", wrongV d]), ?_, ?_⟩
    · rcases hZ with ⟨e, n, a1, a2, a3, rfl⟩ | ⟨e, rfl, q, rfl⟩
      · exact ⟨_, rfl, _, rfl, .inl ⟨e, n, a1, a2, a3, _, rfl, (by show 2 ≤ sizeLine; decide), fun p np => ⟨_, _, rfl, p, rfl, same_upd np, upd_same⟩⟩⟩
      · exact ⟨_, rfl, _, rfl, .inr ⟨e, rfl, q, _, rfl, (by show 2 ≤ sizeLine; decide), fun p np => ⟨_, _, rfl, p, rfl, same_upd np, upd_same⟩⟩⟩
    rintro σ H6 ⟨p, rfl, s6, hp6⟩
    -- made
    refine ⟨fun σ H' => ∃ (p : Addr), σ = SG a st l (0 + (i : Nat)) v4' (some v) (some v') (some (wrongV d)) (some (.str Z)) (some (.ref p)) v11 v12 v13 v14 v15 v16 v18 ∧ Same H5 H' ∧ triedAt H' p d, ?_, ?_⟩
    · refine ⟨_, rfl, ?_⟩
      by_cases hw : wrongV d = .non
      · refine ⟨_, rfl, iteBt (decide_eq_true hw) ?_⟩
        obtain ⟨qs, rfl, ok⟩ := wrong_inv hw hsh
        have hql := ok.len
        obtain ⟨e, us, rfl, q, _, hus⟩ := DAt.hold (.same s6) _ hv5
        have hp : Paired (RowX (oth st) H6) us qs := rowsX hus
        have hul := Paired.length hp
        have q' : H6 e = some (.tup us) ∨ H6 e = some (.lst us) := q.imp id And.right
        refine ⟨_, rfl, e, qs, oth st, rfl, ⟨us, q'.symm, hp⟩, hql, fun lb H7 _ s7 hlb => ⟨lb, _, rfl, .inl ⟨SqL.of hlb, fun lt nlt => ?_⟩⟩⟩
        have s8 : Same H6 (upd H7 lt (.tup ((labs qs).map V.str))) := s7.trans (same_upd nlt)
        have hlt : (upd H7 lt (.tup ((labs qs).map V.str))) lt = some (.tup ((labs qs).map V.str)) := upd_same
        generalize upd H7 lt (.tup ((labs qs).map V.str)) = H8 at s8 hlt
        have stay : ∀ {H'}, Same H8 H' → H' e = H8 e := fun sm => by
          rcases q' with z | z
          · rw [s8 _ _ z]; exact sm _ _ (s8 _ _ z)
          · rw [s8 _ _ z]; exact sm _ _ (s8 _ _ z)
        refine lt_walk (a := e) (vs := us) rfl (q'.imp (s8 _ _) (s8 _ _)) fun J jgo jst jyl => ?_
        intro Da nDa
        refine lc_gen (J := J) qs.length (fun j H' => H' Da = some (.lst ((qs.take j).map fun r => V.int r.2)) ∧ Same H8 H') ⟨upd_same, same_upd nDa⟩ (fun j H' hj ⟨_, sm⟩ => jgo j H' (by omega) (stay sm)) (fun H' ⟨_, sm⟩ => by rw [← hul]; exact jst H' (stay sm)) (fun j H' x H'' hj ⟨hD, sm⟩ yl => ?_) (fun H' ⟨hD, sm⟩ => ?_)
        · obtain ⟨rfl, hx⟩ := jyl j H' x H'' (stay sm) yl
          obtain ⟨r, hr, t2, rfl, ht2⟩ := paired_get hp hx
          refine ⟨rfl, ?_⟩
          unfold tYes
          dsimp only
          rw [if_pos rfl]
          refine ⟨_, rfl, (row_ix (u1 := .str r.1) (u2 := .int r.2) (ht2.imp (fun z => sm _ _ (s8 _ _ z)) (fun z => sm _ _ (s8 _ _ z.2)))).2 ?_⟩
          refine ⟨_, hD, by rw [List.length_map, List.length_take, sizeLine_eq]; omega, ?_, fun b o z => by rw [upd_ne (ne_of_none z nDa)]; exact sm _ _ z⟩
          obtain ⟨hlt2, ee⟩ := List.getElem?_eq_some_iff.mp hr
          rw [upd_same, List.take_succ_eq_append_getElem hlt2, List.map_append, ee]
          rfl
        · rw [List.take_of_length_le (Nat.le_refl _)] at hD
          refine ⟨(by show 1 ≤ sizeLine; decide), fun o1 n1 => ⟨Da, o1, qs.map (fun r => V.int r.2), [.int 1], rfl, rfl, by rw [upd_ne (ne_of_none hD n1)]; exact hD, upd_same, by rw [List.length_map, sizeLine_eq]; simp; omega, fun nl nnl => ?_⟩⟩
          have s9 : Same H8 (upd (upd H' o1 (.lst [.int 1])) nl (.lst (qs.map (fun r => V.int r.2) ++ [.int 1]))) := sm.trans ((same_upd n1).trans (same_upd nnl))
          have hnl : (upd (upd H' o1 (.lst [.int 1])) nl (.lst (qs.map (fun r => V.int r.2) ++ [.int 1]))) nl = some (.lst ((nums qs).map fun r => V.int r.2)) := by rw [upd_same]; unfold nums; rw [List.map_append]; rfl
          generalize upd (upd H' o1 (.lst [.int 1])) nl (.lst (qs.map (fun r => V.int r.2) ++ [.int 1])) = H9 at s9 hnl
          have sq9 : SqL K H9 e us ∨ SqT K H9 e us := q'.symm.imp (fun z => SqL.of (s9 _ _ (s8 _ _ z))) (fun z => SqT.of (s9 _ _ (s8 _ _ z)))
          refine ⟨_, rfl, e, us, rfl, sq9, (by show 4 ≤ sizeLine; decide), fun tp ntp => ?_⟩
          refine ⟨tp, rfl, s6.trans (s8.trans (s9.trans (same_upd ntp))), .inl ⟨qs, rfl, ok, hw, lt, nl, by rw [upd_same, hul], by rw [upd_ne (ne_of_none (s9 _ _ hlt) ntp)]; exact s9 _ _ hlt, by rw [upd_ne (ne_of_none hnl ntp)]; exact hnl⟩⟩
      · exact ⟨_, rfl, iteBf (decide_eq_false hw) ⟨p, rfl, s6, .inr ⟨hw, hp6⟩⟩⟩
    rintro σ H7 ⟨p, rfl, s7, hp7⟩
    have hv7 := DAt.hold (.same s7) _ hv'
    have hZ7 := RP.same s7 hZ
    have h7 := h5.same s7
    -- the same
    refine ⟨fun σ H' => σ = SG a st l (0 + (i : Nat)) v4' (some v) (some v') (some (wrongV d)) (some (.str Z)) (some (.ref p)) v11 v12 v13 v14 v15 v16 v18 ∧ Ho st cl l rs (B + 294) H', ?_, ?_⟩
    · refine ⟨_, rfl, v', d, _, rfl, hv7, hsh, fun p2 H8 s8 hp8 => ⟨_, rfl, .ref p2, .ref p, rfl, eq_tried hp8 ?_, fun H9 s9 => ⟨true, rfl, iteBf rfl ?_⟩⟩⟩
      · rcases hp7 with ⟨qs, e, ok, hw, lt, nl, z1, z2, z3⟩ | ⟨hw, z1⟩
        · exact .inl ⟨qs, e, ok, hw, lt, nl, s8 _ _ z1, s8 _ _ z2, s8 _ _ z3⟩
        · exact .inr ⟨hw, s8 _ _ z1⟩
      · rcases RP.same (s8.trans s9) hZ7 with ⟨e, n, a1, a2, a3, rfl⟩ | ⟨e, rfl, q, rfl⟩
        · exact ⟨_, rfl, _, rfl, .inl ⟨e, n, a1, a2, a3, _, rfl, rfl, _, rfl, iteBf (by rw [decide_eq_true rfl]; rfl) ⟨rfl, h7.same (s8.trans s9)⟩⟩⟩
        · exact ⟨_, rfl, _, rfl, .inr ⟨e, rfl, q, _, rfl, rfl, _, rfl, iteBf (by rw [decide_eq_true rfl]; rfl) ⟨rfl, h7.same (s8.trans s9)⟩⟩⟩
    rintro σ H8 ⟨rfl, h8⟩
    clear hv hv' hv5 hv7 hZ hZ7 hp7 hok hsh h4 h5 h7 hvs
    have w8 := h8.ok.w
    have g8 := w8.g
    have hl8 := h8.ok.len
    -- given
    refine ⟨fun σ H' => ∃ (g : Addr) (gs : List V), σ = SG a st l (0 + (i : Nat)) v4' (some v) (some v') (some (wrongV d)) (some (.str Z)) (some (.ref p)) (some (.ref g)) v12 v13 v14 v15 v16 v18 ∧ Same H8 H' ∧ H8 g = none ∧ H' g = some (.lst gs) ∧ Paired (RowL H') gs rs ∧ ∀ u ∈ gs, ∃ t, u = .ref t ∧ H8 t = none ∧ t ≠ g, ?_, ?_⟩
    · obtain ⟨us, hl, hp⟩ := id h8.rows
      have hul := Paired.length hp
      refine ⟨_, rfl, l, rfl, ⟨_, SqL.of hl⟩, fun Da nDa => ?_⟩
      refine lc_gen (J := Itl K l) rs.length (fun j H' => ∃ gs, H' Da = some (.lst gs) ∧ Paired (RowL H') gs (rs.take j) ∧ (∀ u ∈ gs, ∃ t, u = .ref t ∧ H8 t = none ∧ t ≠ Da) ∧ Same H8 H') ⟨[], upd_same, .nil, (fun u hu => by cases hu), same_upd nDa⟩
        (fun j H' hj ⟨_, _, _, _, sm⟩ => ⟨us, us.getD j .non, SqL.of (sm _ _ hl), getD_at (by omega)⟩) (fun H' ⟨_, _, _, _, sm⟩ => ⟨us, SqL.of (sm _ _ hl), by omega⟩) (fun j H' x H'' hj ⟨gs, hD, hg, hu, sm⟩ yl => ?_) (fun H' ⟨gs, hD, hg, hu, sm⟩ => ?_)
      · obtain ⟨rfl, hx⟩ := yl
        have hx := hx _ (SqL.of (sm _ _ hl))
        obtain ⟨r, hr, t, rfl, ht⟩ := paired_get hp hx
        have hgl := Paired.length hg
        rw [List.length_take] at hgl
        refine ⟨rfl, ?_⟩
        unfold tYes
        dsimp only
        rw [if_pos rfl]
        refine ⟨_, rfl, t, _, rfl, .inr (SqT.of (sm _ _ ht)), fun q nq => ?_⟩
        have hDq : Da ≠ q := ne_of_none hD nq
        refine ⟨gs, by rw [upd_ne hDq]; exact hD, by rw [sizeLine_eq]; omega, gs ++ [.ref q], upd_same, ?_, ?_, fun b o z => by rw [upd_ne (ne_of_none z nDa), upd_ne (ne_of_none (sm _ _ z) nq)]; exact sm _ _ z⟩
        · obtain ⟨hlt2, ee⟩ := List.getElem?_eq_some_iff.mp hr
          rw [List.take_succ_eq_append_getElem hlt2, ee]
          refine paired_app ?_ (.cons ⟨q, rfl, by rw [upd_ne hDq.symm]; exact upd_same⟩ .nil)
          have hmem : ∀ u ∈ gs, ∃ t, u = .ref t ∧ t ≠ Da := fun u hu' => by obtain ⟨t, e, _, n⟩ := hu u hu'; exact ⟨t, e, n⟩
          clear hgl hD hu
          revert hmem
          generalize HO.lst (gs ++ [V.ref q]) = oo
          generalize rs.take j = ts at hg
          induction hg with
          | nil => intro _; exact .nil
          | cons z _ ih =>
            intro hmem
            obtain ⟨t', e, h⟩ := z
            obtain ⟨t2, e2, n2⟩ := hmem _ List.mem_cons_self
            have : t' = t2 := by rw [e] at e2; exact V.ref.inj e2
            subst this
            exact .cons ⟨t', e, by rw [upd_ne n2, upd_ne (ne_of_none h nq)]; exact h⟩ (ih fun u hu => hmem u (List.mem_cons_of_mem _ hu))
        · intro u hu'
          rcases List.mem_append.mp hu' with hu' | hu'
          · exact hu u hu'
          · rw [List.mem_singleton.mp hu']
            exact ⟨q, rfl, same_free sm nq, hDq.symm⟩
      · rw [List.take_of_length_le (Nat.le_refl _)] at hg
        exact ⟨Da, gs, rfl, sm, nDa, hD, hg, hu⟩
    rintro σ H9 ⟨g, gs, rfl, s9, ng, hg, hgs, hgu⟩
    have h9 := h8.same s9
    -- the languages
    refine ⟨fun σ H' => ∃ (x y : Addr), σ = SG a st l (0 + (i : Nat)) v4' (some v) (some v') (some (wrongV d)) (some (.str Z)) (some (.ref p)) (some (.ref g)) (some (.ref x)) (some (.ref y)) v14 v15 v16 v18 ∧ Same H9 H' ∧ LangAt H' x C rs ∧ LangAt H' y C rs, ?_, ?_⟩
    · refine ⟨_, rfl, fun x dx nx ndx ne => ?_⟩
      have sx : Same H9 (upd (upd H9 dx (.own x)) x (.ins C dx [])) := fun b o q => by rw [upd_ne (ne_of_none q nx), upd_ne (ne_of_none q ndx)]; exact q
      have hd : DAt (fun _ => True) (upd (upd H9 dx (.own x)) x (.ins C dx [])) (.ref g) (.sq (rs.map rowD)) := DAt.hold (.same sx) _ ⟨g, gs, rfl, .inr ⟨trivial, hg⟩, by cases rs <;> rfl, rowsL_dats hgs⟩
      refine ⟨x, dx, .ref g, _, _, rfl, upd_same, hd, w8.short, fun hw => (hw w8.wrong).elim, fun rs' H10 e ok hw kp hL => ⟨rfl, ?_⟩⟩
      have er := sq_inj e
      subst er
      have s10 : Same H9 H10 := fun c o q => kp c o (sx c o q) (ne_of_none q nx)
      obtain ⟨us, hl, hp⟩ := (h9.same s10).rows
      refine ⟨_, rfl, l, us, rfl, .inl ⟨SqL.of hl, fun q nq => ?_⟩⟩
      have s11 : Same H10 (upd H10 q (.tup us)) := same_upd nq
      intro y dy ny ndy ney
      have sy : Same (upd H10 q (.tup us)) (upd (upd (upd H10 q (.tup us)) dy (.own y)) y (.ins C dy [])) := fun b o z => by rw [upd_ne (ne_of_none z ny), upd_ne (ne_of_none z ndy)]; exact z
      have hd2 : DAt (fun _ => True) (upd (upd (upd H10 q (.tup us)) dy (.own y)) y (.ins C dy [])) (.ref q) (.sq (rs.map rowD)) := DAt.hold (.same sy) _ ⟨q, us, rfl, .inl upd_same, by cases rs <;> rfl, DAts.hold (.same s11) _ (rows_dats hp)⟩
      refine ⟨y, dy, .ref q, _, _, rfl, upd_same, hd2, w8.short, fun hw => (hw w8.wrong).elim, fun rs2 H12 e2 ok2 hw2 kp2 hL2 => ⟨rfl, _, _, rfl, x, y, rfl, ?_⟩⟩
      have er := sq_inj e2
      subst er
      have s12 : Same H10 H12 := fun c o z => kp2 c o (sy c o (s11 c o z)) (ne_of_none (s11 c o z) ny)
      exact ⟨s10.trans s12, hL.same s12, hL2⟩
    rintro σ H10 ⟨x, y, rfl, s10, hx, hy⟩
    have h10 := h9.same s10
    have hg10 := s10 _ _ hg
    have gst : g ≠ st ∧ g ≠ cl := h8.st.new ng
    have gl : l ≠ g := by
      obtain ⟨us, hl, _⟩ := h8.rows
      exact ne_of_none hl ng
    obtain ⟨r0, hr0⟩ : ∃ r0, rs[0]? = some r0 := by
      obtain ⟨r, hr, _⟩ := h8.ok.leaf
      cases rs with
      | nil => cases hr
      | cons q _ => exact ⟨q, rfl⟩
    obtain ⟨u0, gs', egs, g0, eu0, hg0⟩ : ∃ u0 gs', gs = u0 :: gs' ∧ ∃ g0, u0 = .ref g0 ∧ H10 g0 = some (.lst [.str r0.1, .int r0.2]) := by
      cases hgs with
      | nil => cases hr0
      | cons q _ =>
        cases hr0
        obtain ⟨t, e, h⟩ := q
        exact ⟨_, _, rfl, t, e, s10 _ _ h⟩
    subst eu0
    subst egs
    obtain ⟨t0, e0, n0, ne0⟩ := hgu _ List.mem_cons_self
    obtain rfl := V.ref.inj e0
    have g0st : g0 ≠ st ∧ g0 ≠ cl := h8.st.new n0
    have g0l : l ≠ g0 := by
      obtain ⟨us, hl, _⟩ := h8.rows
      exact ne_of_none hl n0
    have hgl : gs'.length + 1 = rs.length := Paired.length hgs
    -- given.append
    refine ⟨fun σ H' => ∃ (us : List V), σ = SG a st l (0 + (i : Nat)) v4' (some v) (some v') (some (wrongV d)) (some (.str Z)) (some (.ref p)) (some (.ref g)) (some (.ref x)) (some (.ref y)) v14 v15 v16 v18 ∧ Ho st cl l rs (B + 294) H' ∧ LangAt H' x C rs ∧ LangAt H' y C rs ∧ H' g = some (.lst (.ref g0 :: us)) ∧ H' g0 = some (.lst [.str r0.1, .int r0.2]), ?_, ?_⟩
    · refine ⟨_, rfl, .inl ⟨rfl, _, SqL.of hg10⟩, (by show 2 ≤ sizeLine; decide), fun q nq => ?_⟩
      have s11 : Same H10 (upd H10 q (.lst [.str "more", .int 0])) := same_upd nq
      generalize upd H10 q (.lst [.str "more", .int 0]) = H11 at s11
      have hg11 := s11 _ _ hg10
      refine ⟨g, _, _, rfl, rfl, hg11, by rw [sizeLine_eq, List.length_cons]; omega, gs' ++ [.ref q], rfl, ?_, (hx.same s11).but1 hg11 but_upd, (hy.same s11).but1 hg11 but_upd, upd_same, by rw [upd_ne ne0]; exact s11 _ _ hg0⟩
      have h11 := h10.same s11
      exact ⟨h11.rows.but1 hg11 but_upd gl, h11.ok, h11.ne, h11.st.put gst.1 gst.2⟩
    rintro σ H11 ⟨us, rfl, h11, hx11, hy11, hg11, hg011⟩
    -- given[0][0]
    refine ⟨fun σ H' => σ = SG a st l (0 + (i : Nat)) v4' (some v) (some v') (some (wrongV d)) (some (.str Z)) (some (.ref p)) (some (.ref g)) (some (.ref x)) (some (.ref y)) v14 v15 v16 v18 ∧ Ho st cl l rs (B + 294) H' ∧ LangAt H' x C rs ∧ LangAt H' y C rs, ?_, ?_⟩
    · refine ⟨_, rfl, g, _, 0, .ref g0, rfl, rfl, SqL.of hg11, at_of (j := 0) (by omega) rfl, g0, _, 0, 0, rfl, rfl, hg011, rfl, rfl, ?_, hx11.but1 hg011 but_upd, hy11.but1 hg011 but_upd⟩
      exact ⟨h11.rows.but1 hg011 but_upd g0l, h11.ok, h11.ne, h11.st.put g0st.1 g0st.2⟩
    rintro σ H12 ⟨rfl, h12, hx12, hy12⟩
    -- compared
    refine ⟨fun σ H' => σ = SG a st l (0 + (i : Nat)) v4' (some v) (some v') (some (wrongV d)) (some (.str Z)) (some (.ref p)) (some (.ref g)) (some (.ref x)) (some (.ref y)) v14 v15 v16 v18 ∧ Same H12 H', ?_, ?_⟩
    · obtain ⟨wo, no⟩ := h12.ok.other
      obtain ⟨us, hl, hp⟩ := id h12.rows
      have hul := Paired.length hp
      refine ⟨_, rfl, _, rfl, cmp_lang IL NFC hx12 hy12 g8 g8 ⟨_, rfl, iteBf (by rw [decide_eq_true rfl]; rfl) ?_⟩⟩
      refine ⟨_, rfl, _, rfl, cmp_lang IL NFC hx12 hy12 g8 g8 ⟨_, rfl, iteBf (by rw [decide_eq_true rfl]; rfl) ?_⟩⟩
      refine ⟨_, rfl, _, rfl, 1, rfl, _, rfl, l, us, rfl, SqL.of hl, fun e ne => ⟨(by show 2 ≤ sizeLine; decide), fun t nt => ⟨(by show 1 ≤ sizeLine; decide), fun q nq => ?_⟩⟩⟩
      have cl1 : cutV us none (some (-1)) = us.dropLast := cutLast
      rw [cl1] at nt nq ⊢
      have et : e ≠ t := ne_of_none upd_same nt
      have hte : (upd (upd H12 e (.lst us.dropLast)) t (.tup [.str "qq", .int 0])) e = some (.lst us.dropLast) := by rw [upd_ne et]; exact upd_same
      have eq : e ≠ q := ne_of_none hte nq
      have tq : t ≠ q := ne_of_none upd_same nq
      refine ⟨e, q, us.dropLast, [.ref t], rfl, rfl, by rw [upd_ne eq]; exact hte, upd_same, by rw [sizeLine_eq]; simp; omega, fun z nz => ?_⟩
      have s13 : Same H12 (upd (upd (upd (upd H12 e (.lst us.dropLast)) t (.tup [.str "qq", .int 0])) q (.lst [.ref t])) z (.lst (us.dropLast ++ [.ref t]))) := (same_upd ne).trans ((same_upd nt).trans ((same_upd nq).trans (same_upd nz)))
      have hz13 : (upd (upd (upd (upd H12 e (.lst us.dropLast)) t (.tup [.str "qq", .int 0])) q (.lst [.ref t])) z (.lst (us.dropLast ++ [.ref t]))) z = some (.lst (us.dropLast ++ [.ref t])) := upd_same
      have ht13 : (upd (upd (upd (upd H12 e (.lst us.dropLast)) t (.tup [.str "qq", .int 0])) q (.lst [.ref t])) z (.lst (us.dropLast ++ [.ref t]))) t = some (.tup [.str "qq", .int 0]) := by
        have h1 : (upd (upd (upd H12 e (.lst us.dropLast)) t (.tup [.str "qq", .int 0])) q (.lst [.ref t])) t = some (.tup [.str "qq", .int 0]) := by rw [upd_ne tq]; exact upd_same
        rw [upd_ne (ne_of_none h1 nz)]
        exact h1
      generalize upd (upd (upd (upd H12 e (.lst us.dropLast)) t (.tup [.str "qq", .int 0])) q (.lst [.ref t])) z (.lst (us.dropLast ++ [.ref t])) = H13 at s13 hz13 ht13
      intro u du nu ndu neu
      have su : Same H13 (upd (upd H13 du (.own u)) u (.ins C du [])) := fun b o w => by rw [upd_ne (ne_of_none w nu), upd_ne (ne_of_none w ndu)]; exact w
      have hr : Paired (RowV H13) us.dropLast rs.dropLast := by
        have := Paired.mono (fun _ _ w => RowV.same s13 w) hp
        exact paired_dropLast this
      have hd : DAt (fun _ => True) (upd (upd H13 du (.own u)) u (.ins C du [])) (.ref z) (.sq ((rs.dropLast ++ [(("qq" : Str), (0 : Int))]).map rowD)) := by
        refine DAt.hold (.same su) _ ⟨z, _, rfl, .inr ⟨trivial, hz13⟩, ?_, rows_dats (paired_app hr (.cons ⟨t, rfl, ht13⟩ .nil))⟩
        cases rs.dropLast <;> rfl
      refine ⟨u, du, .ref z, _, _, rfl, upd_same, hd, wo.short, fun hw => (hw wo.wrong).elim, fun rs2 H14 e2 ok2 hw2 kp2 hL2 => ⟨rfl, ?_⟩⟩
      have er := sq_inj e2
      subst er
      have s14 : Same H12 H14 := fun c o w => kp2 c o (su c o (s13 c o w)) (ne_of_none (s13 c o w) nu)
      exact cmp_lang IL NFC (hx12.same s14) hL2 g8 wo.g ⟨_, rfl, iteBf (by rw [if_neg Bool.false_ne_true, decide_eq_false no]) ⟨rfl, s14⟩⟩
    rintro σ H13 ⟨rfl, s13⟩
    have h13 := h12.same s13
    have hx13 := hx12.same s13
    -- the labels
    refine ⟨fun σ H' => σ = SG a st l (0 + (i : Nat)) v4' (some v) (some v') (some (wrongV d)) (some (.str Z)) (some (.ref p)) (some (.ref g)) (some (.ref x)) (some (.ref y)) v14 v15 v16 v18 ∧ Same H13 H', ?_, ?_⟩
    · obtain ⟨us, hl, hp⟩ := id h13.rows
      obtain ⟨dx, rt, nt, lt, ws, e1, e2, hw, e3, e4⟩ := id hx13
      refine ⟨_, rfl, x, C, dx, _, _, rfl, e1, L.cls, L.labels, rfl, _, rfl, l, rs, fun _ => True, rfl, ⟨us, .inl hl, Paired.mono (fun _ _ ⟨t, a, b⟩ => ⟨t, a, .inl b⟩) hp⟩, by omega, fun q H14 nq s14 hq => ⟨q, _, rfl, .inl ⟨SqL.of hq, fun t nt => ?_⟩⟩⟩
      have s15 := s14.trans (same_upd nt (o := .tup ((labs rs).map V.str)))
      refine ⟨.ref lt, .ref t, rfl, eq_tup (s15 _ _ e4) upd_same (eq_strs _) ?_, fun H15 s16 => ⟨true, rfl, iteBf rfl ⟨rfl, s15.trans s16⟩⟩⟩
      rw [List.length_map]
      unfold labs nums
      rw [List.length_map, List.length_append]
      simp
      omega
    rintro σ H14 ⟨rfl, s14⟩
    have h14 := h13.same s14
    have hx14 := hx13.same s14
    -- two words
    refine ⟨fun σ H' => ∃ (z1 z2 : Str), σ = SG a st l (0 + (i : Nat)) v4' (some v) (some v') (some (wrongV d)) (some (.str Z)) (some (.ref p)) (some (.ref g)) (some (.ref x)) (some (.ref y)) (some (.str z1)) (some (.str z2)) v16 v18 ∧ Ho st cl l rs (B + 308) H' ∧ LangAt H' x C rs ∧ z1 ∈ menu ∧ z2 ∈ menu ∧ z1 ≠ z2, ?_, ?_⟩
    · refine ⟨_, rfl, st, 2, _, cl, rfl, by decide, by decide, h14.st, by omega, fun q ws H15 nq hq hwl hnd hmm hs15 b15 => ?_⟩
      match ws, hwl, hnd, hmm, hq with
      | [z1, z2], _, hnd, hmm, hq =>
        obtain ⟨xs, hxs⟩ := h14.st.lst
        refine ⟨q, _, rfl, SqL.of hq, rfl, .str z1, [.str z2], rfl, .str z2, [], rfl, rfl, z1, z2, rfl, h14.but b15 hs15, hx14.but1 hxs b15, hmm _ List.mem_cons_self, hmm _ (List.mem_cons_of_mem _ List.mem_cons_self), ?_⟩
        intro e
        rw [e] at hnd
        simp at hnd
    rintro σ H15 ⟨z1, z2, rfl, h15, hx15, m1, m2, mne⟩
    -- three languages
    refine ⟨fun σ H' => ∃ (sl x0 x1 x2 : Addr), σ = SG a st l (0 + (i : Nat)) v4' (some v) (some v') (some (wrongV d)) (some (.str Z)) (some (.ref p)) (some (.ref g)) (some (.ref x)) (some (.ref y)) (some (.str z1)) (some (.str z2)) (some (.ref sl)) v18 ∧ Same H15 H' ∧ H' sl = some (.lst [.ref x0, .ref x1, .ref x2]) ∧ LangAt H' x0 C [(z1, 0), (z2, 0)] ∧ LangAt H' x1 C [(z1, 0), (z2, 1)] ∧ LangAt H' x2 C [(z1, 0), (z2, 2)], ?_, ?_⟩
    · refine ⟨3, rfl, by decide, by decide, fun Da nDa => ?_⟩
      refine lc_gen (J := Itr 0 3) 3 (fun j H' => ∃ xs : List Addr, H' Da = some (.lst (xs.map V.ref)) ∧ Paired (fun x (k : Nat) => LangAt H' x C [(z1, 0), (z2, (k : Int))]) xs (List.range j) ∧ Same H15 H') ⟨[], upd_same, .nil, same_upd nDa⟩
        (fun j H' hj _ => hj) (fun H' _ => Nat.le_refl _) (fun j H' w H'' hj ⟨xs, hD, hxs, sm⟩ yl => ?_) (fun H' ⟨xs, hD, hxs, sm⟩ => ?_)
      · obtain ⟨rfl, rfl⟩ := yl
        have hxl := Paired.length hxs
        rw [List.length_range] at hxl
        refine ⟨rfl, ?_⟩
        unfold tYes
        dsimp only
        rw [if_pos rfl]
        have wj := two_w m1 m2 mne (k := (j : Nat)) (by omega) (by omega)
        refine ⟨_, rfl, (by show 2 ≤ sizeLine; decide), fun t1 n1 => ⟨_, rfl, _, rfl, (by show 2 ≤ sizeLine; decide), fun t2 n2 => ⟨(by show 2 ≤ sizeLine; decide), fun q nq => ?_⟩⟩⟩
        have e0 : (0 + (j : Nat) : Int) = (j : Nat) := by omega
        rw [e0] at nq ⊢
        have t12 : t1 ≠ t2 := ne_of_none upd_same n2
        have ht2 : (upd (upd H'' t1 (.tup [.str z1, .int 0])) t2 (.tup [.str z2, .int (j : Nat)])) t2 = some (.tup [.str z2, .int (j : Nat)]) := upd_same
        have ht1 : (upd (upd H'' t1 (.tup [.str z1, .int 0])) t2 (.tup [.str z2, .int (j : Nat)])) t1 = some (.tup [.str z1, .int 0]) := by rw [upd_ne t12]; exact upd_same
        have s2 : Same H'' (upd (upd H'' t1 (.tup [.str z1, .int 0])) t2 (.tup [.str z2, .int (j : Nat)])) := (same_upd n1).trans (same_upd n2)
        generalize upd (upd H'' t1 (.tup [.str z1, .int 0])) t2 (.tup [.str z2, .int (j : Nat)]) = H2 at s2 ht1 ht2 nq
        have s3 : Same H2 (upd H2 q (.lst [.ref t1, .ref t2])) := same_upd nq
        have hq3 : (upd H2 q (.lst [.ref t1, .ref t2])) q = some (.lst [.ref t1, .ref t2]) := upd_same
        have ht1 := s3 _ _ ht1
        have ht2 := s3 _ _ ht2
        generalize upd H2 q (.lst [.ref t1, .ref t2]) = H3 at s3 hq3 ht1 ht2
        intro u du nu ndu neu
        have su : Same H3 (upd (upd H3 du (.own u)) u (.ins C du [])) := fun b o w => by rw [upd_ne (ne_of_none w nu), upd_ne (ne_of_none w ndu)]; exact w
        have hd : DAt (fun _ => True) (upd (upd H3 du (.own u)) u (.ins C du [])) (.ref q) (.sq (([(z1, (0 : Int)), (z2, (j : Int))] : List Rw).map rowD)) := DAt.hold (.same su) _ ⟨q, _, rfl, .inr ⟨trivial, hq3⟩, rfl, rows_dats (rs := [(z1, (0 : Int)), (z2, (j : Int))]) (.cons ⟨t1, rfl, ht1⟩ (.cons ⟨t2, rfl, ht2⟩ .nil))⟩
        refine ⟨u, du, .ref q, _, _, rfl, upd_same, hd, wj.short, fun hw => (hw wj.wrong).elim, fun rs2 H4 e2 ok2 hw2 kp2 hL2 => ⟨rfl, ?_⟩⟩
        have er := sq_inj e2
        subst er
        have s4 : Same H3 H4 := fun c o w => kp2 c o (su c o w) (ne_of_none w nu)
        have sA : Same H'' H4 := s2.trans (s3.trans s4)
        refine ⟨xs.map V.ref, sA _ _ hD, by rw [List.length_map, sizeLine_eq]; omega, xs ++ [u], by rw [upd_same, List.map_append]; rfl, ?_, fun b o w => by rw [upd_ne (ne_of_none w nDa)]; exact sA _ _ (sm _ _ w)⟩
        rw [List.range_succ]
        have hD4 := sA _ _ hD
        exact paired_app (Paired.mono (fun _ _ h => (h.same sA).but1 hD4 but_upd) hxs) (.cons (hL2.but1 hD4 but_upd) .nil)
      · match xs, hxs, hD with
        | [x0, x1, x2], hxs, hD =>
          have r3 : List.range 3 = [0, 1, 2] := rfl
          rw [r3] at hxs
          cases hxs with
          | cons a0 t => cases t with
            | cons a1 t => cases t with
              | cons a2 t => exact ⟨Da, x0, x1, x2, rfl, sm, hD, a0, a1, a2⟩
        | [], hxs, _ => cases hxs
        | [_], hxs, _ => cases hxs with
          | cons _ t => cases t
        | [_, _], hxs, _ => cases hxs with
          | cons _ t => cases t with
            | cons _ t => cases t
        | _ :: _ :: _ :: _ :: _, hxs, _ => cases hxs with
          | cons _ t => cases t with
            | cons _ t => cases t with
              | cons _ t => cases t
    rintro σ H16 ⟨sl, x0, x1, x2, rfl, s16, hsl, hx0, hx1, hx2⟩
    have h16 := h15.same s16
    have hx16 := hx15.same s16
    have gg : ∀ {k : Int}, 0 ≤ k → k ≤ 2 → RowsG ([(z1, (0 : Int)), (z2, k)] : List Rw) := fun a b => (two_w m1 m2 mne a b).g
    have ne3 : ∀ {j k : Int}, j ≠ k → ([(z1, (0 : Int)), (z2, j)] : List Rw) ≠ [(z1, (0 : Int)), (z2, k)] := fun h e => by
      injection e with _ e
      injection e with e _
      injection e with _ e
      exact h e
    -- three compared
    refine ⟨fun σ H' => ∃ w16, σ = SG a st l (0 + (i : Nat)) v4' (some v) (some v') (some (wrongV d)) (some (.str Z)) (some (.ref p)) (some (.ref g)) (some (.ref x)) (some (.ref y)) (some (.str z1)) (some (.str z2)) w16 v18 ∧ H' = H16, ?_, ?_⟩
    · have ix : ∀ {σ : L2.St} {k : Nat} {xk : Addr} {Q : VK}, σ[16]? = some (some (.ref sl)) → ([V.ref x0, .ref x1, .ref x2] : List V)[k]? = some (.ref xk) → Q (.ref xk) H16 → tOp (rIxL K) (tVar 16) (tC (.int (k : Nat))) σ H16 Q :=
        fun h1 h2 q => ⟨_, h1, sl, _, _, _, rfl, rfl, SqL.of hsl, at_of rfl h2, q⟩
      refine ix (k := 0) rfl rfl (ix (k := 1) rfl rfl (cmp_lang IL NFC hx0 hx1 (gg (by decide) (by decide)) (gg (by decide) (by decide)) ⟨_, rfl, iteBf (by rw [if_neg Bool.false_ne_true, decide_eq_false (ne3 (by decide))]) ?_⟩))
      refine ix (k := 1) rfl rfl (ix (k := 2) rfl rfl (cmp_lang IL NFC hx1 hx2 (gg (by decide) (by decide)) (gg (by decide) (by decide)) ⟨_, rfl, iteBf (by rw [if_neg Bool.false_ne_true, decide_eq_false (ne3 (by decide))]) ?_⟩))
      refine ix (k := 0) rfl rfl (ix (k := 2) rfl rfl (cmp_lang IL NFC hx0 hx2 (gg (by decide) (by decide)) (gg (by decide) (by decide)) ⟨_, rfl, iteBf (by rw [if_neg Bool.false_ne_true, decide_eq_false (ne3 (by decide))]) ?_⟩))
      exact ix (k := 2) rfl rfl (ix (k := 1) rfl rfl (cmp_lang IL NFC hx2 hx1 (gg (by decide) (by decide)) (gg (by decide) (by decide)) ⟨_, rfl, iteBf (by rw [if_pos rfl, decide_eq_false (ne3 (by decide))]; rfl) ⟨_, rfl, rfl⟩⟩))
    rintro σ H17 ⟨w16, rfl, rfl⟩
    -- things that are odd
    obtain ⟨us, hl, hp⟩ := id h16.rows
    have hul := Paired.length hp
    refine ⟨(by show 1 ≤ sizeLine; decide), fun e1 n1 => ⟨(by show 0 ≤ sizeLine; decide), fun e2 n2 => fun e3 n3 => ⟨_, rfl, (by show 10 ≤ sizeLine; decide), fun e4 n4 => ?_⟩⟩⟩
    have s2 := same_upd n1 (o := .lst [.str "a"])
    have q1 : (upd H17 e1 (.lst [.str "a"])) e1 = some (.lst [.str "a"]) := upd_same
    generalize upd H17 e1 (.lst [.str "a"]) = H18 at s2 q1 n2 n3 n4 ⊢
    have s3 := same_upd n2 (o := .tup [])
    have q2 : (upd H18 e2 (.tup [])) e2 = some (.tup []) := upd_same
    generalize upd H18 e2 (.tup []) = H19 at s3 q2 n3 n4 ⊢
    have s4 := same_upd n3 (o := .dK [])
    have q3 : (upd H19 e3 (.dK [])) e3 = some (.dK []) := upd_same
    generalize upd H19 e3 (.dK []) = H20 at s4 q3 n4 ⊢
    have s5 := same_upd n4 (o := .lst [.non, .int 5, .str "", .str "qq", .ref e1, .ref e2, .ref e3, .bl true, .str "Keep", .ref l])
    have q4 : (upd H20 e4 (.lst [.non, .int 5, .str "", .str "qq", .ref e1, .ref e2, .ref e3, .bl true, .str "Keep", .ref l])) e4 = some (.lst [.non, .int 5, .str "", .str "qq", .ref e1, .ref e2, .ref e3, .bl true, .str "Keep", .ref l]) := upd_same
    generalize upd H20 e4 (.lst [.non, .int 5, .str "", .str "qq", .ref e1, .ref e2, .ref e3, .bl true, .str "Keep", .ref l]) = H21 at s5 q4 ⊢
    have q3 := s5 _ _ q3
    have q2 := s5 _ _ (s4 _ _ q2)
    have q1 := s5 _ _ (s4 _ _ (s3 _ _ q1))
    have t21 : Same H17 H21 := s2.trans (s3.trans (s4.trans s5))
    have hl21 := t21 _ _ hl
    have hp21 : Paired (RowV H21) us rs := Paired.mono (fun _ _ q => q.same t21) hp
    have h21 := h16.same t21
    have hx21 := hx16.same t21
    have labs_no : ∀ z : Str, z ∉ menu → z ≠ "keep" → isOf (.str z) (labs rs) = false := fun z hz hk => by
      cases hh : isOf (.str z) (labs rs) with
      | false => rfl
      | true =>
        obtain ⟨z', e, hm⟩ := isOf_lab hh
        injection e with e
        subst e
        unfold labs nums at hm
        rw [List.map_append] at hm
        rcases List.mem_append.mp hm with hm | hm
        · obtain ⟨r, hr, e⟩ := List.mem_map.mp hm
          exact absurd (h16.ok.mem r hr).1 (by rw [e]; exact hz)
        · exact absurd (List.mem_singleton.mp hm) hk
    have odd : ∀ v ∈ ([.non, .int 5, .str "", .str "qq", .ref e1, .ref e2, .ref e3, .bl true, .str "Keep", .ref l] : List V), ∃ d : D, DAt (fun _ => True) H21 v d ∧ isOf v (labs rs) = false ∧ EqN H21 9 v v := by
      intro v hv
      have c10 : v = .non ∨ v = .int 5 ∨ v = .str "" ∨ v = .str "qq" ∨ v = .ref e1 ∨ v = .ref e2 ∨ v = .ref e3 ∨ v = .bl true ∨ v = .str "Keep" ∨ v = .ref l := by simpa using hv
      rcases c10 with rfl | rfl | rfl | rfl | rfl | rfl | rfl | rfl | rfl | rfl
      · exact ⟨.fl .non, ⟨rfl, rfl⟩, rfl, eq_leaf rfl⟩
      · exact ⟨.fl (.int 5), ⟨rfl, rfl⟩, rfl, eq_leaf rfl⟩
      · exact ⟨.fl (.str ""), ⟨rfl, rfl⟩, labs_no _ (by decide +kernel) (by decide +kernel), eq_leaf rfl⟩
      · exact ⟨.fl (.str "qq"), ⟨rfl, rfl⟩, labs_no _ (by decide +kernel) (by decide +kernel), eq_leaf rfl⟩
      · exact ⟨.sq [.fl (.str "a")], ⟨e1, _, rfl, .inr ⟨trivial, q1⟩, rfl, ⟨rfl, rfl⟩, trivial⟩, rfl, eq_lst q1 q1 (.cons (eq_leaf rfl) .nil) (by simp)⟩
      · exact ⟨.sq [], ⟨e2, _, rfl, .inl q2, rfl, trivial⟩, rfl, eq_tup q2 q2 .nil (by simp)⟩
      · exact ⟨.emp, ⟨e3, rfl, q3⟩, rfl, .inl ⟨rfl, .inr ⟨e3, [], rfl, q3, fun p hp => by cases hp⟩⟩⟩
      · exact ⟨.fl (.bl true), ⟨rfl, rfl⟩, rfl, eq_leaf rfl⟩
      · exact ⟨.fl (.str "Keep"), ⟨rfl, rfl⟩, labs_no _ (by decide +kernel) (by decide +kernel), eq_leaf rfl⟩
      · refine ⟨.sq (rs.map rowD), ⟨l, us, rfl, .inr ⟨trivial, hl21⟩, by cases rs <;> rfl, rows_dats hp21⟩, rfl, eq_lst hl21 hl21 (eq_rows_tail hp21) (by omega)⟩
    refine ⟨e4, rfl, ⟨_, SqL.of q4⟩, for_gen (J := Itl K e4) 10 (fun j σ H' => ∃ v18 : Option V, σ = SG a st l (0 + (i : Nat)) v4' (some v) (some v') (some (wrongV d)) (some (.str Z)) (some (.ref p)) (some (.ref g)) (some (.ref x)) (some (.ref y)) (some (.str z1)) (some (.str z2)) w16 v18 ∧ Same H21 H') ⟨_, rfl, Same.refl _⟩
      (fun j σ H' hj ⟨_, _, sm⟩ => ⟨_, _, SqL.of (sm _ _ q4), getD_at hj⟩) (fun σ H' ⟨_, _, sm⟩ => ⟨_, SqL.of (sm _ _ q4), Nat.le_refl _⟩) ?_ (fun σ H' ⟨v18, e, sm⟩ => ⟨_, _, _, _, _, _, _, _, _, _, _, _, _, _, _, e, (h21.st.same sm).mono (by omega)⟩)⟩
    rintro j σ H22 w H23 hj ⟨v18', rfl, sm⟩ ⟨rfl, hw⟩
    have hw := hw _ (SqL.of (sm _ _ q4))
    obtain ⟨dd, hd, hno, heq⟩ := odd w (List.mem_of_getElem? hw)
    have hd22 := DAt.hold (.same sm) _ hd
    refine ⟨_, rfl, _, rfl, x, w, dd, _, rs, rfl, hx21.same sm, hd22, fun _ pp H24 s24 hpp => ⟨_, rfl, (by show 2 ≤ sizeLine; decide), fun qq nqq => ?_⟩, fun z n e hmn => ?_⟩
    · have s25 := s24.trans (same_upd nqq (o := .tup [.str "unknown", w]))
      have hpp2 : (upd H24 qq (.tup [.str "unknown", w])) pp = some (.tup [.str "unknown", w]) := by rw [upd_ne (ne_of_none hpp nqq)]; exact hpp
      refine ⟨.ref pp, .ref qq, rfl, eq_tup hpp2 upd_same (.cons (eq_leaf rfl) (.cons (EqN.same (sm.trans s25) heq) .nil)) (by simp), fun H26 s26 => ⟨true, rfl, iteBf rfl ?_⟩⟩
      have s27 := s25.trans s26
      exact ⟨_, rfl, _, rfl, cmp_odd NFC ((hx21.same sm).same s27) (DAt.hold (.same s27) _ hd22) g8 ⟨_, rfl, iteBf rfl ⟨_, rfl, sm.trans s27⟩⟩⟩
    · subst e
      have : isOf (.str z) (labs rs) = true := List.any_eq_true.mpr ⟨z, many_labG hmn, beq_self_eq_true z⟩
      rw [hno] at this
      cases this
end
end KB

namespace KB
open PySem PySem.Spec PyProof.Rows L2 C8 XE XD XI
theorem two {A B : Prop} (a : A) (f : A → B) : B := f a
theorem def_mk {K : PySem.W.Frag} {mg : Str → Option Value} {h : Heap} {x : Str} {st : Stmt} {f : Addr} {oc kV doc pm cdv ct : Value} {od an : Option Addr} {osl : Array (Option Value)} (X : K.In h) (G : h.Ns mainGlobals mg)
    (a : PySem.W.nsIn K mainGlobals x = some (some (.ref f))) (l : K.lookup f = some ⟨oc, od, .func (PySem.W.fnOf x x (fnArgs st) (fnBody st) (fnScope st) .none kV doc pm an cdv ct), osl⟩)
    (c : PySem.W.codeIn K cdv x = true) (k : PySem.W.keepIn K (.ref f) = true) : Def K mg x st f (PySem.W.fnOf x x (fnArgs st) (fnBody st) (fnScope st) .none kV doc pm an cdv ct) :=
  ⟨⟨oc, od, .none, kV, doc, pm, an, cdv, ct, osl, rfl, l, c⟩, PySem.W.mg_of X G a, k⟩
theorem fun_mk {K : PySem.W.Frag} {x qual : Str} {st : Stmt} {f : Addr} {oc kV doc pm cdv ct : Value} {od an : Option Addr} {osl : Array (Option Value)}
    (l : K.lookup f = some ⟨oc, od, .func (PySem.W.fnOf x qual (fnArgs st) (fnBody st) (fnScope st) .none kV doc pm an cdv ct), osl⟩) (c : PySem.W.codeIn K cdv qual = true) : C8.Fun K x qual st f (PySem.W.fnOf x qual (fnArgs st) (fnBody st) (fnScope st) .none kV doc pm an cdv ct) :=
  ⟨oc, od, .none, kV, doc, pm, an, cdv, ct, osl, rfl, l, c⟩
theorem ns_mk {K : PySem.W.Frag} {mg : Str → Option Value} {h : Heap} {x : Str} {C : Addr} (X : K.In h) (G : h.Ns mainGlobals mg) (a : PySem.W.nsIn K mainGlobals x = some (some (.ref C))) : mg x = some (.ref C) := PySem.W.mg_of X G a
theorem cn_mk {K : PySem.W.Frag} {mg : Str → Option Value} {h : Heap} {x : Str} {u : Value} (X : K.In h) (G : h.Ns mainGlobals mg) (a : PySem.W.nsIn K mainGlobals x = some (some u)) : mg x = some u := PySem.W.mg_of X G a
theorem mk_mk {K : PySem.W.Frag} {mg : Str → Option Value} {x : Str} {C f : Addr} {h : Heap} (X : K.In h) (hC : mg x = some (.ref C)) (a : PySem.W.makesIn K C = true) (b : PySem.W.findIn K (.ref C) "__init__" = some (some (.ref f))) (c : PySem.W.isFn K (.ref f) = true) (d : PySem.W.keepIn K (.ref C) = true) : Mk K C f := ⟨a, b, c, d⟩
theorem me_mk {K : PySem.W.Frag} {mg : Str → Option Value} {x m : Str} {C f : Addr} {h : Heap} (X : K.In h) (hC : mg x = some (.ref C)) (b : PySem.W.findIn K (.ref C) m = some (some (.ref f))) (c : PySem.W.isFn K (.ref f) = true) (d : PySem.W.keepIn K (.ref f) = true) : Meth K C m f := ⟨b, c, d⟩
theorem fi_mk {K : PySem.W.Frag} {x qual : Str} {st : Stmt} {C f : Addr} {oc kV doc pm cdv ct : Value} {od an : Option Addr} {osl : Array (Option Value)} (M : Mk K C f)
    (l : K.lookup f = some ⟨oc, od, .func (PySem.W.fnOf x qual (fnArgs st) (fnBody st) (fnScope st) .none kV doc pm an cdv ct), osl⟩) (c : PySem.W.codeIn K cdv qual = true) : C8.Fun K x qual st f (PySem.W.fnOf x qual (fnArgs st) (fnBody st) (fnScope st) .none kV doc pm an cdv ct) := fun_mk l c
theorem fm_mk {K : PySem.W.Frag} {x qual : Str} {st : Stmt} {C f : Addr} {oc kV doc pm cdv ct : Value} {od an : Option Addr} {osl : Array (Option Value)} (M : Meth K C x f)
    (l : K.lookup f = some ⟨oc, od, .func (PySem.W.fnOf x qual (fnArgs st) (fnBody st) (fnScope st) .none kV doc pm an cdv ct), osl⟩) (c : PySem.W.codeIn K cdv qual = true) : C8.Fun K x qual st f (PySem.W.fnOf x qual (fnArgs st) (fnBody st) (fnScope st) .none kV doc pm an cdv ct) := fun_mk l c
theorem xf_mk {K : PySem.W.Frag} {mg : Str → Option Value} {x : Str} {C : Addr} {h : Heap} (X : K.In h) (hC : mg x = some (.ref C)) (a : PySem.W.findIn K (.ref C) "__getattribute__" = some (some (.builtin "BaseException.__getattribute__"))) (b : PySem.W.findIn K (.ref C) "__getattr__" = some none)
    (c : PySem.W.subIn K (.ref C) (.type "BaseException") = some true) (d : PySem.W.hasDictIn K C = true) : XfC K C := ⟨a, b, c, d⟩
theorem fact_mk {K : PySem.W.Frag} {mg : Str → Option Value} {x : Str} {C : Addr} {h : Heap} {A : Prop} (X : K.In h) (hC : mg x = some (.ref C)) (a : A) : A := a

theorem lc_mk {K : PySem.W.Frag} {mg : Str → Option Value} {x : Str} {C : Addr} {h : Heap} (X : K.In h) (hC : mg x = some (.ref C)) (a : PySem.W.plainGet K C Str.empty = true) (b : PySem.W.hasDictIn K C = true) (c : PySem.W.plainOver K C = true) (d : PySem.W.findIn K (.ref C) "__setattr__" = some (some (.builtin "object.__setattr__")))
    (e : PySem.W.findIn K (.ref C) "rows" = some none) (f : PySem.W.findIn K (.ref C) "numbers" = some none) (g : PySem.W.findIn K (.ref C) "labels" = some none) : LC K mg C := ⟨⟨a, b, c, d⟩, e, f, g⟩
theorem isl_mk {K : PySem.W.Frag} {mg : Str → Option Value} {C : Addr} {h : Heap} (X : K.In h) (L : LC K mg C) (a : PySem.W.findIn K (.ref C) "__class__" = some (some (.builtin "object.__class__"))) (b : PySem.W.specialIn K (.builtin "object.__class__") "__get__" = some (some (.builtin "getset_descriptor.__get__")))
    (c : PySem.W.takesIn K (.builtin "object.__class__") = some true) (d : PySem.W.mroIn K C (.type "object") = some true) (ci : PySem.W.isClsIn K C = true) (ty : PySem.W.typeIn K (.ref C) = some (.type "type"))
    (t1 : PySem.W.subIn K (.type "NoneType") (.ref C) = some false) (t2 : PySem.W.subIn K (.type "bool") (.ref C) = some false) (t3 : PySem.W.subIn K (.type "int") (.ref C) = some false) (t4 : PySem.W.subIn K (.type "str") (.ref C) = some false) (t5 : PySem.W.subIn K (.type "dict") (.ref C) = some false) (t6 : PySem.W.subIn K (.type "list") (.ref C) = some false) (t7 : PySem.W.subIn K (.type "tuple") (.ref C) = some false) : IsL K C :=
  ⟨⟨L.cls, a, b, c, d, by unfold PySem.W.kitOne; rw [if_pos (beq_self_eq_true _)]⟩, fun T hT => by
    have go : ∀ T, PySem.W.subIn K (.type T) (.ref C) = some false → PySem.W.kitOne K (.type T) (.ref C) = some false := fun T h => by
      unfold PySem.W.kitOne
      rw [if_neg (by simp)]
      show (if ((PySem.W.clsIn K C).isSome && PySem.W.typeIn K (.ref C) == some (.type "type")) = true then PySem.W.subIn K (.type T) (.ref C) else none) = some false
      have ci : (PySem.W.clsIn K C).isSome = true := ci
      rw [if_pos (by rw [ci, ty]; rfl), h]
    simp only [tys, List.mem_cons, List.mem_nil_iff, or_false] at hT
    rcases hT with rfl | rfl | rfl | rfl | rfl | rfl | rfl
    · exact go _ t1
    · exact go _ t2
    · exact go _ t3
    · exact go _ t4
    · exact go _ t5
    · exact go _ t6
    · exact go _ t7⟩
theorem nf_mk {K : PySem.W.Frag} {mg : Str → Option Value} {C : Addr} {h : Heap} (X : K.In h) (L : LC K mg C)
    (t1 : PySem.W.notFirst K C (.type "NoneType") = true) (t2 : PySem.W.notFirst K C (.type "bool") = true) (t3 : PySem.W.notFirst K C (.type "int") = true) (t4 : PySem.W.notFirst K C (.type "str") = true) (t5 : PySem.W.notFirst K C (.type "dict") = true) (t6 : PySem.W.notFirst K C (.type "list") = true) (t7 : PySem.W.notFirst K C (.type "tuple") = true) (t8 : PySem.W.notFirst K C (.ref C) = true) : NF K C :=
  ⟨fun T hT => by
    simp only [tys, List.mem_cons, List.mem_nil_iff, or_false] at hT
    rcases hT with rfl | rfl | rfl | rfl | rfl | rfl | rfl
    · exact t1
    · exact t2
    · exact t3
    · exact t4
    · exact t5
    · exact t6
    · exact t7, t8⟩
theorem ne_mk {K : PySem.W.Frag} {mg : Str → Option Value} {C : Addr} {h : Heap} (X : K.In h) (L : LC K mg C) (a : PySem.W.findIn K (.ref C) "__ne__" = some (some (.builtin "object.__ne__"))) : PySem.W.findIn K (.ref C) "__ne__" = some (some (.builtin "object.__ne__")) := a
theorem exm_own {K : PySem.W.Frag} {C : Addr} (a : PySem.W.subIn K (.ref C) (.type "BaseException") = some true) (ci : PySem.W.isClsIn K C = true) (ty : PySem.W.typeIn K (.ref C) = some (.type "type")) (su : PySem.W.subIn K (.ref C) (.ref C) = some true) : PySem.W.exmOne K (.ref C) (.ref C) = some true := by
  unfold PySem.W.exmOne
  rw [if_pos (by rw [a]; rfl)]
  show (if ((PySem.W.clsIn K C).isSome && PySem.W.typeIn K (.ref C) == some (.type "type")) = true then PySem.W.subIn K (.ref C) (.ref C) else none) = some true
  have ci : (PySem.W.clsIn K C).isSome = true := ci
  rw [if_pos (by rw [ci, ty]; rfl), su]
theorem xx_mk {P : Program} {K : PySem.W.Frag} {mg : Str → Option Value} {x f : Str} {C : Addr} {h : Heap} (X : K.In h) (E : EC P K mg x C [f]) (a : PySem.W.findIn K (.ref C) f = some none) (ci : PySem.W.isClsIn K C = true) (su : PySem.W.subIn K (.ref C) (.ref C) = some true) : XX K mg x f C := ⟨⟨E.is.1, E.is.2, E.oex.exC, E.is.4⟩, a, exm_own E.oex.exC ci E.oex.tyC su, E.gC⟩
theorem all_ok {P : Program} {w : World} {K : PySem.W.Frag} {mg : Str → Option Value} {h : Heap} {fa C BL UL : Addr} (X : K.In h) (G : h.Ns mainGlobals mg) (hfa : mg "law" = some (.ref fa)) (T : Blt6 mg) (Gl : Gs mg) (L : LC K mg C) (hC : mg "Language" = some (.ref C)) (IL : IsL K C) (NFC : NF K C) (hn : PySem.W.findIn K (.ref C) "__ne__" = some (some (.builtin "object.__ne__")))
    (EB : EC P K mg "BadLanguage" BL ["index"]) (EU : EC P K mg "UnknownLabel" UL ["label"]) (XB : XX K mg "BadLanguage" "index" BL) (XU : XX K mg "UnknownLabel" "label" UL)
    {f0 f1 f2 f3 f4 f5 f6 f7 f8 f9 f10 f11 f12 f13 f14 f15 f16 f17 f18 fL g0 g1 g2 g3 : Addr} {d0 d1 d2 d3 d4 d5 d6 d7 d8 d9 d10 d11 d12 d13 d14 d15 d16 d17 d18 h0 h1 h2 h3 : FuncData} {kV8 dc8 pm8 cd8 ct8 : Value} {an8 : Option Addr} (D0 : Def K mg "is_number" sNum f0 d0) (D1 : Def K mg "is_row" sRow f1 d1) (D2 : Def K mg "is_word" sWord f2 d2) (D3 : Def K mg "is_label_row" sLab f3 d3) (D4 : Def K mg "wrong_row" sWrong f4 d4) (D5 : Def K mg "_law_fresh" sFresh f5 d5) (D6 : Def K mg "_law_take" sTake f6 d6) (D7 : Def K mg "_law_one" sOne f7 d7) (D8 : Def K mg "_law_mix" sMix f8 d8) (D9 : Def K mg "_law_same" sSame f9 d9) (D10 : Def K mg "_law_words" sWords f10 d10) (D11 : Def K mg "_law_rows" sRows f11 d11) (D12 : Def K mg "_law_labels" sLabels f12 d12) (D13 : Def K mg "_law_loose" sLoose f13 d13) (D14 : Def K mg "_law_is_word" sLWord f14 d14) (D15 : Def K mg "_law_fault" sFault f15 d15) (D16 : Def K mg "_law_tried" sTried f16 d16) (D17 : Def K mg "_law_unknown" sUnk f17 d17) (D18 : Def K mg "_law_spoilt" sSpoilt f18 d18)
    (DL : Def K mg "law" sLaw fL (PySem.W.fnOf "law" "law" (fnArgs sLaw) (fnBody sLaw) (fnScope sLaw) .none kV8 dc8 pm8 an8 cd8 ct8)) (M0 : C8.Fun K "__init__" "Language.__init__" sInit g0 h0) (M1 : C8.Fun K "__len__" "Language.__len__" sLen g1 h1) (M2 : C8.Fun K "__eq__" "Language.__eq__" sEq g2 h2) (M3 : C8.Fun K "children" "Language.children" sCh g3 h3) (Mk0 : Mk K C g0) (Me1 : Meth K C "__len__" g1) (Me2 : Meth K C "__eq__" g2) (Me3 : Meth K C "children" g3)
    (e0 : d0.defaults = .none) (e1 : d1.defaults = .none) (e2 : d2.defaults = .none) (e3 : d3.defaults = .none) (e4 : d4.defaults = .none) (e5 : d5.defaults = .none) (e6 : d6.defaults = .none) (e7 : d7.defaults = .none) (e8 : d8.defaults = .none) (e9 : d9.defaults = .none) (e10 : d10.defaults = .none) (e11 : d11.defaults = .none) (e12 : d12.defaults = .none) (e13 : d13.defaults = .none) (e14 : d14.defaults = .none) (e15 : d15.defaults = .none) (e16 : d16.defaults = .none) (e17 : d17.defaults = .none) (e18 : d18.defaults = .none) (y0 : h0.defaults = .none) (y1 : h1.defaults = .none) (y2 : h2.defaults = .none) (y3 : h3.defaults = .none) :
    ∃ fd : FuncData, (∀ (s : Shared) (v : Value), BindsTo s fd ⟨[v], []⟩ [("_law_script", v)]) ∧ ∀ base : Heap, K.In base → base.Ns mainGlobals mg → XW.Ran P w K mg base C8.CX0 fa fd ["_law_script"] (spLaw K) := by
  have e := hfa.symm.trans DL.mgf
  cases e
  refine ⟨PySem.W.fnOf "law" "law" (fnArgs sLaw) (fnBody sLaw) (fnScope sLaw) .none kV8 dc8 pm8 an8 cd8 ct8, fun s v => .of_eq rfl, fun base _ _ => ?_⟩
  have b0 := D0.fn.binds (ps := ["thing"]) e0 fun _ _ _ _ _ _ us hl => match us, hl with | [_], _ => rfl
  have b1 := D1.fn.binds (ps := ["thing"]) e1 fun _ _ _ _ _ _ us hl => match us, hl with | [_], _ => rfl
  have b2 := D2.fn.binds (ps := ["thing"]) e2 fun _ _ _ _ _ _ us hl => match us, hl with | [_], _ => rfl
  have b3 := D3.fn.binds (ps := ["row"]) e3 fun _ _ _ _ _ _ us hl => match us, hl with | [_], _ => rfl
  have b4 := D4.fn.binds (ps := ["rows"]) e4 fun _ _ _ _ _ _ us hl => match us, hl with | [_], _ => rfl
  have b5 := D5.fn.binds (ps := ["_law_script"]) e5 fun _ _ _ _ _ _ us hl => match us, hl with | [_], _ => rfl
  have b6 := D6.fn.binds (ps := ["_law_state", "_law_many"]) e6 fun _ _ _ _ _ _ us hl => match us, hl with | [_, _], _ => rfl
  have b7 := D7.fn.binds (ps := ["_law_state", "_law_things"]) e7 fun _ _ _ _ _ _ us hl => match us, hl with | [_, _], _ => rfl
  have b8 := D8.fn.binds (ps := ["_law_state", "_law_things"]) e8 fun _ _ _ _ _ _ us hl => match us, hl with | [_, _], _ => rfl
  have b9 := D9.fn.binds (ps := ["_law_found", "_law_due"]) e9 fun _ _ _ _ _ _ us hl => match us, hl with | [_, _], _ => rfl
  have b10 := D10.fn.binds (ps := ["_law_state", "_law_many"]) e10 fun _ _ _ _ _ _ us hl => match us, hl with | [_, _], _ => rfl
  have b11 := D11.fn.binds (ps := ["_law_state", "_law_most"]) e11 fun _ _ _ _ _ _ us hl => match us, hl with | [_, _], _ => rfl
  have b12 := D12.fn.binds (ps := ["_law_rows_here"]) e12 fun _ _ _ _ _ _ us hl => match us, hl with | [_], _ => rfl
  have b13 := D13.fn.binds (ps := ["_law_state", "_law_thing"]) e13 fun _ _ _ _ _ _ us hl => match us, hl with | [_, _], _ => rfl
  have b14 := D14.fn.binds (ps := ["_law_x"]) e14 fun _ _ _ _ _ _ us hl => match us, hl with | [_], _ => rfl
  have b15 := D15.fn.binds (ps := ["_law_rows_here"]) e15 fun _ _ _ _ _ _ us hl => match us, hl with | [_], _ => rfl
  have b16 := D16.fn.binds (ps := ["_law_rows_here"]) e16 fun _ _ _ _ _ _ us hl => match us, hl with | [_], _ => rfl
  have b17 := D17.fn.binds (ps := ["_law_language", "_law_thing"]) e17 fun _ _ _ _ _ _ us hl => match us, hl with | [_, _], _ => rfl
  have b18 := D18.fn.binds (ps := ["_law_state", "_law_rows_here"]) e18 fun _ _ _ _ _ _ us hl => match us, hl with | [_, _], _ => rfl
  have m0 := M0.binds (ps := ["self", "rows"]) y0 fun _ _ _ _ _ _ us hl => match us, hl with | [_, _], _ => rfl
  have m1 := M1.binds (ps := ["self"]) y1 fun _ _ _ _ _ _ us hl => match us, hl with | [_], _ => rfl
  have m2 := M2.binds (ps := ["self", "other"]) y2 fun _ _ _ _ _ _ us hl => match us, hl with | [_, _], _ => rfl
  have m3 := M3.binds (ps := ["self", "label"]) y3 fun _ _ _ _ _ _ us hl => match us, hl with | [_, _], _ => rfl
  have c0 : Cal P w K mg base 1 "is_number" spNum [] := c_num D0 b0 T.toBlt4
  have c1 : Cal P w K mg base 1 "is_row" spRow [] := c_row D1 b1 T.toBlt4
  have c2 : Cal P w K mg base 1 "is_word" spWord [] := c_word D2 b2 T.toBlt4 Gl
  have c3 : Cal P w K mg base 2 "is_label_row" spLab [] := c_lab D3 b3 T.toBlt4 Gl c1 c2 c0
  have c4 : Cal P w K mg base 3 "wrong_row" spWrong [] := c_wrong D4 b4 T.toBlt4 c1 c3
  have c5 : Cal P w K mg base 1 "_law_fresh" (spFresh K) [] := c_fresh D5 b5 T.toBlt
  have c6 : Cal P w K mg base 1 "_law_take" spTake [] := c_take D6 b6 T.toBlt
  have c7 : Cal P w K mg base 2 "_law_one" spOne [] := c_one D7 b7 T.toBlt c6
  have c8 : Cal P w K mg base 2 "_law_mix" spMix [] := c_mix D8 b8 T.toBlt c6
  have c9 := c_same (P := P) (w := w) (base := base) D9 b9 T.toBlt2 10
  have c10 : Cal P w K mg base 3 "_law_words" spWords [] := c_words D10 b10 T.toBlt c8
  have c11 : Cal P w K mg base 4 "_law_rows" spRows [] := c_rows D11 b11 T.toBlt4 c6 c8 c10
  have c12 : Cal P w K mg base 1 "_law_labels" spLabels2 [] := c_labels2 D12 b12 T.toBlt4
  have c13 := c_loose (P := P) (w := w) (base := base) D13 b13 T.toBlt4 c6 201
  have c14 : Cal P w K mg base 1 "_law_is_word" spWord [] := c_lword D14 b14 T.toBlt4
  have c15 : Cal P w K mg base 2 "_law_fault" spWrong [] := c_fault D15 b15 T.toBlt4 c14
  have FI := c_init (P := P) (w := w) (base := base) M0 T.toBlt4 Gl L EB c4
  have FN := c_len (P := P) (w := w) (base := base) Me1 M1 m1 T.toBlt4 L
  have FQ := c_eq (P := P) (w := w) (base := base) M2 T.toBlt4 hC L IL
  have FC := c_ch (P := P) (w := w) (base := base) M3 T.toBlt4 L EU
  have c16 : Cal P w K mg base 7 "_law_tried" spTried [] := c_tried D16 b16 T.toBlt4 L hC Mk0 FI m0 Me3 FC m3 Me1.at_ Me1.fn FN m1 XB
  have c17 : Cal P w K mg base 6 "_law_unknown" (spUnk C) [] := c_unk D17 b17 T.toBlt4 L.cls Me3 FC m3 XU
  have c18 : Cal P w K mg base 3 "_law_spoilt" spSpoilt [] := c_spoilt D18 b18 T.toBlt4 c6 c7
  exact c_law (BL := BL) (UL := UL) (fu := fa) DL T c5 c6 c7 c9 c10 c11 c12 c13 c15 c16 c17 c18 hC L IL NFC Mk0 FI m0 Me2.at_ hn IL.ins.hm Me2.fn FQ m2
theorem walk {l : PySem.W.OpenLaw} {q : Program} {loose : List Str} {XP : (Str → Option Value) → Heap → Prop} {YP : World → Heap → Prop} {d : DefRec} {K : Params → PySem.W.Frag} (hn : l.most = some 63) (hdf : d.params.defaults = [])
    (hY : ∀ (w : World) (h : Heap), YP w h → (K w.params).In h)
    (F : ∀ (w : World) (mg : Str → Option Value) (fa : Addr) (h : Heap), (K w.params).In h → h.Ns mainGlobals mg → mg d.name = some (.ref fa) →
      ∃ fd : FuncData, (∀ (s : Shared) (u : Value), BindsTo s fd ⟨[u], []⟩ [("_law_script", u)]) ∧ ∀ base : Heap, (K w.params).In base → base.Ns mainGlobals mg → XW.Ran l.prog w (K w.params) mg base C8.CX0 fa fd ["_law_script"] (spLaw (K w.params))) :
    PySem.W.WalkO q loose XP YP l.row.toRowW d [] (fun f vs => PySem.call f vs) :=
  XW.walk_ran (n := 63) (x := "_law_script") (CX := fun _ => C8.CX0) (sp := fun w => spLaw (K w.params)) hn (by decide) hdf hY F (fun _ _ a ns _ _ hS => ⟨a, ns, rfl, hS, fun _ => rfl⟩) fun _ _ _ _ _ z => z
end KB

open PySem PySem.W PyProof.Rows
set_option maxRecDepth 100000 in
set_option maxHeartbeats 0 in
theorem PySem.Challenge.cw_secondruns_k02_languages_made_holds : PySem.Challenge.rw_secondruns_k02_languages_made.Holds := by
  w_on
  o_law
  k_head
  (case hw => w_witness2)
  k_fill
  refine KB.walk (l := PySem.Challenge.rw_secondruns_k02_languages_made) rfl rfl (fun w h Y => PySem.W.kIn_of Y) ?F
  case F =>
    intro w mg fa h KX G hmg
    refine' KB.two (KB.def_mk (x := "is_number") (st := KB.sNum) KX G ?a1 ?l1 ?c1 ?k1) (fun D0 => ?_)
    case a1 => k_is
    case l1 => k_is
    case c1 => k_is
    case k1 => k_is
    refine' KB.two (KB.def_mk (x := "is_row") (st := KB.sRow) KX G ?a2 ?l2 ?c2 ?k2) (fun D1 => ?_)
    case a2 => k_is
    case l2 => k_is
    case c2 => k_is
    case k2 => k_is
    refine' KB.two (KB.def_mk (x := "is_word") (st := KB.sWord) KX G ?a3 ?l3 ?c3 ?k3) (fun D2 => ?_)
    case a3 => k_is
    case l3 => k_is
    case c3 => k_is
    case k3 => k_is
    refine' KB.two (KB.def_mk (x := "is_label_row") (st := KB.sLab) KX G ?a4 ?l4 ?c4 ?k4) (fun D3 => ?_)
    case a4 => k_is
    case l4 => k_is
    case c4 => k_is
    case k4 => k_is
    refine' KB.two (KB.def_mk (x := "wrong_row") (st := KB.sWrong) KX G ?a5 ?l5 ?c5 ?k5) (fun D4 => ?_)
    case a5 => k_is
    case l5 => k_is
    case c5 => k_is
    case k5 => k_is
    refine' KB.two (KB.def_mk (x := "_law_fresh") (st := KB.sFresh) KX G ?a6 ?l6 ?c6 ?k6) (fun D5 => ?_)
    case a6 => k_is
    case l6 => k_is
    case c6 => k_is
    case k6 => k_is
    refine' KB.two (KB.def_mk (x := "_law_take") (st := KB.sTake) KX G ?a7 ?l7 ?c7 ?k7) (fun D6 => ?_)
    case a7 => k_is
    case l7 => k_is
    case c7 => k_is
    case k7 => k_is
    refine' KB.two (KB.def_mk (x := "_law_one") (st := KB.sOne) KX G ?a8 ?l8 ?c8 ?k8) (fun D7 => ?_)
    case a8 => k_is
    case l8 => k_is
    case c8 => k_is
    case k8 => k_is
    refine' KB.two (KB.def_mk (x := "_law_mix") (st := KB.sMix) KX G ?a9 ?l9 ?c9 ?k9) (fun D8 => ?_)
    case a9 => k_is
    case l9 => k_is
    case c9 => k_is
    case k9 => k_is
    refine' KB.two (KB.def_mk (x := "_law_same") (st := KB.sSame) KX G ?a10 ?l10 ?c10 ?k10) (fun D9 => ?_)
    case a10 => k_is
    case l10 => k_is
    case c10 => k_is
    case k10 => k_is
    refine' KB.two (KB.def_mk (x := "_law_words") (st := KB.sWords) KX G ?a11 ?l11 ?c11 ?k11) (fun D10 => ?_)
    case a11 => k_is
    case l11 => k_is
    case c11 => k_is
    case k11 => k_is
    refine' KB.two (KB.def_mk (x := "_law_rows") (st := KB.sRows) KX G ?a12 ?l12 ?c12 ?k12) (fun D11 => ?_)
    case a12 => k_is
    case l12 => k_is
    case c12 => k_is
    case k12 => k_is
    refine' KB.two (KB.def_mk (x := "_law_labels") (st := KB.sLabels) KX G ?a13 ?l13 ?c13 ?k13) (fun D12 => ?_)
    case a13 => k_is
    case l13 => k_is
    case c13 => k_is
    case k13 => k_is
    refine' KB.two (KB.def_mk (x := "_law_loose") (st := KB.sLoose) KX G ?a14 ?l14 ?c14 ?k14) (fun D13 => ?_)
    case a14 => k_is
    case l14 => k_is
    case c14 => k_is
    case k14 => k_is
    refine' KB.two (KB.def_mk (x := "_law_is_word") (st := KB.sLWord) KX G ?a15 ?l15 ?c15 ?k15) (fun D14 => ?_)
    case a15 => k_is
    case l15 => k_is
    case c15 => k_is
    case k15 => k_is
    refine' KB.two (KB.def_mk (x := "_law_fault") (st := KB.sFault) KX G ?a16 ?l16 ?c16 ?k16) (fun D15 => ?_)
    case a16 => k_is
    case l16 => k_is
    case c16 => k_is
    case k16 => k_is
    refine' KB.two (KB.def_mk (x := "_law_tried") (st := KB.sTried) KX G ?a17 ?l17 ?c17 ?k17) (fun D16 => ?_)
    case a17 => k_is
    case l17 => k_is
    case c17 => k_is
    case k17 => k_is
    refine' KB.two (KB.def_mk (x := "_law_unknown") (st := KB.sUnk) KX G ?a18 ?l18 ?c18 ?k18) (fun D17 => ?_)
    case a18 => k_is
    case l18 => k_is
    case c18 => k_is
    case k18 => k_is
    refine' KB.two (KB.def_mk (x := "_law_spoilt") (st := KB.sSpoilt) KX G ?a19 ?l19 ?c19 ?k19) (fun D18 => ?_)
    case a19 => k_is
    case l19 => k_is
    case c19 => k_is
    case k19 => k_is
    refine' KB.two (KB.def_mk (x := "law") (st := KB.sLaw) KX G ?a20 ?l20 ?c20 ?k20) (fun DL => ?_)
    case a20 => k_is
    case l20 => k_is
    case c20 => k_is
    case k20 => k_is
    refine' KB.two (KB.ns_mk (x := "Language") KX G ?h21) (fun hC => ?_)
    case h21 => k_is
    refine' KB.two (KB.mk_mk KX hC ?m22a ?m22b ?m22c ?m22d) (fun Mk0 => ?_)
    case m22a => k_is
    case m22b => k_is
    case m22c => k_is
    case m22d => k_is
    refine' KB.two (KB.fi_mk (x := "__init__") (qual := "Language.__init__") (st := KB.sInit) Mk0 ?n22a ?n22b) (fun M0 => ?_)
    case n22a => k_is
    case n22b => k_is
    refine' KB.two (KB.me_mk (m := "__len__") KX hC ?m23a ?m23b ?m23c) (fun Me1 => ?_)
    case m23a => k_is
    case m23b => k_is
    case m23c => k_is
    refine' KB.two (KB.fm_mk (x := "__len__") (qual := "Language.__len__") (st := KB.sLen) Me1 ?n23a ?n23b) (fun M1 => ?_)
    case n23a => k_is
    case n23b => k_is
    refine' KB.two (KB.me_mk (m := "__eq__") KX hC ?m24a ?m24b ?m24c) (fun Me2 => ?_)
    case m24a => k_is
    case m24b => k_is
    case m24c => k_is
    refine' KB.two (KB.fm_mk (x := "__eq__") (qual := "Language.__eq__") (st := KB.sEq) Me2 ?n24a ?n24b) (fun M2 => ?_)
    case n24a => k_is
    case n24b => k_is
    refine' KB.two (KB.me_mk (m := "children") KX hC ?m25a ?m25b ?m25c) (fun Me3 => ?_)
    case m25a => k_is
    case m25b => k_is
    case m25c => k_is
    refine' KB.two (KB.fm_mk (x := "children") (qual := "Language.children") (st := KB.sCh) Me3 ?n25a ?n25b) (fun M3 => ?_)
    case n25a => k_is
    case n25b => k_is
    refine' KB.two (KB.lc_mk KX hC ?f26_0 ?f26_1 ?f26_2 ?f26_3 ?f26_4 ?f26_5 ?f26_6) (fun L => ?_)
    case f26_0 => k_is
    case f26_1 => k_is
    case f26_2 => k_is
    case f26_3 => k_is
    case f26_4 => k_is
    case f26_5 => k_is
    case f26_6 => k_is
    refine' KB.two (KB.isl_mk KX L ?f27_0 ?f27_1 ?f27_2 ?f27_3 ?f27_4 ?f27_5 ?f27_6 ?f27_7 ?f27_8 ?f27_9 ?f27_10 ?f27_11 ?f27_12) (fun IL => ?_)
    case f27_0 => k_is
    case f27_1 => k_is
    case f27_2 => k_is
    case f27_3 => k_is
    case f27_4 => k_is
    case f27_5 => k_is
    case f27_6 => k_is
    case f27_7 => k_is
    case f27_8 => k_is
    case f27_9 => k_is
    case f27_10 => k_is
    case f27_11 => k_is
    case f27_12 => k_is
    refine' KB.two (KB.nf_mk KX L ?f28_0 ?f28_1 ?f28_2 ?f28_3 ?f28_4 ?f28_5 ?f28_6 ?f28_7) (fun NFC => ?_)
    case f28_0 => k_is
    case f28_1 => k_is
    case f28_2 => k_is
    case f28_3 => k_is
    case f28_4 => k_is
    case f28_5 => k_is
    case f28_6 => k_is
    case f28_7 => k_is
    refine' KB.two (KB.ne_mk KX L ?f29_0) (fun hn => ?_)
    case f29_0 => k_is
    refine' KB.two (A := XI.EC PySem.Challenge.rw_secondruns_k02_languages_made.prog _ mg "BadLanguage" ?BL ["index"]) ?e30 (fun EB => ?_)
    case e30 =>
      refine' KB.ec_mk KB.txt_BadLanguage KX G ?aC ?lC ?ini ?lI ?lc ?ld ?hbm ?hv ?hfile ?htop ?su ?cI ?sa ?exC ?tyC ?kC ?hg ?hk ?hd ?ha ?hn ?ht ?hm ?sup ?ity ?opa ?suB ?suC ?nf
      (case aC => k_is); (case lC => k_is); (case ini => k_is); (case lI => k_is); (case lc => k_is); (case ld => k_is); (case hbm => decide +kernel); (case hv => rfl); (case hfile => decide +kernel); (case htop => decide +kernel)
      (case su => k_is); (case cI => k_is); (case sa => k_is); (case exC => k_is); (case tyC => k_is); (case kC => k_is); (case hg => k_is); (case hk => k_is); (case hd => k_is); (case ha => k_is); (case hn => k_is); (case ht => k_is); (case hm => k_is); (case sup => ks_is); (case ity => k_is); (case opa => k_is); (case suB => k_is); (case suC => k_is)
      case nf => (intro f hf; obtain rfl := List.mem_singleton.mp hf; k_is)
    refine' KB.two (A := XI.EC PySem.Challenge.rw_secondruns_k02_languages_made.prog _ mg "UnknownLabel" ?UL ["label"]) ?e31 (fun EU => ?_)
    case e31 =>
      refine' KB.ec_mk KB.txt_UnknownLabel KX G ?aC ?lC ?ini ?lI ?lc ?ld ?hbm ?hv ?hfile ?htop ?su ?cI ?sa ?exC ?tyC ?kC ?hg ?hk ?hd ?ha ?hn ?ht ?hm ?sup ?ity ?opa ?suB ?suC ?nf
      (case aC => k_is); (case lC => k_is); (case ini => k_is); (case lI => k_is); (case lc => k_is); (case ld => k_is); (case hbm => decide +kernel); (case hv => rfl); (case hfile => decide +kernel); (case htop => decide +kernel)
      (case su => k_is); (case cI => k_is); (case sa => k_is); (case exC => k_is); (case tyC => k_is); (case kC => k_is); (case hg => k_is); (case hk => k_is); (case hd => k_is); (case ha => k_is); (case hn => k_is); (case ht => k_is); (case hm => k_is); (case sup => ks_is); (case ity => k_is); (case opa => k_is); (case suB => k_is); (case suC => k_is)
      case nf => (intro f hf; obtain rfl := List.mem_singleton.mp hf; k_is)
    refine' KB.two (KB.xx_mk KX EB ?f32_0 ?f32_1 ?f32_2) (fun XB => ?_)
    case f32_0 => k_is
    case f32_1 => k_is
    case f32_2 => k_is
    refine' KB.two (KB.xx_mk KX EU ?f33_0 ?f33_1 ?f33_2) (fun XU => ?_)
    case f33_0 => k_is
    case f33_1 => k_is
    case f33_2 => k_is
    have T : KB.Blt6 mg := { len := PySem.W.mg_none_of KX G (by k_is), abs := PySem.W.mg_none_of KX G (by k_is), int := PySem.W.mg_none_of KX G (by k_is), list := PySem.W.mg_none_of KX G (by k_is), isi := PySem.W.mg_none_of KX G (by k_is), tup := PySem.W.mg_none_of KX G (by k_is), boo := PySem.W.mg_none_of KX G (by k_is), all := PySem.W.mg_none_of KX G (by k_is), zip := PySem.W.mg_none_of KX G (by k_is), ran := PySem.W.mg_none_of KX G (by k_is), enu := PySem.W.mg_none_of KX G (by k_is), str := PySem.W.mg_none_of KX G (by k_is), dic := PySem.W.mg_none_of KX G (by k_is), rep := PySem.W.mg_none_of KX G (by k_is) }
    refine' KB.two (KB.cn_mk (x := "LETTERS") KX G ?q34) (fun g1 => ?_)
    case q34 => k_is
    refine' KB.two (KB.cn_mk (x := "LONGEST_WORD") KX G ?q35) (fun g2 => ?_)
    case q35 => k_is
    refine' KB.two (KB.cn_mk (x := "KEEP") KX G ?q36) (fun g3 => ?_)
    case q36 => k_is
    exact KB.all_ok KX G hmg T ⟨⟨_, g1, ⟨_, rfl⟩⟩, ⟨_, g2, ⟨_, rfl⟩⟩, ⟨_, g3, ⟨_, rfl⟩⟩⟩ L hC IL NFC hn EB EU XB XU D0 D1 D2 D3 D4 D5 D6 D7 D8 D9 D10 D11 D12 D13 D14 D15 D16 D17 D18 DL M0 M1 M2 M3 Mk0 Me1 Me2 Me3 rfl rfl rfl rfl rfl rfl rfl rfl rfl rfl rfl rfl rfl rfl rfl rfl rfl rfl rfl rfl rfl rfl rfl
