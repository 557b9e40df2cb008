import PyProof.Rows.All
import Wide.All
import OpenK.AllK
import Wide.FinOn
import HandS.ForMost
import HandS.Exc
import HandS.TryOnly
import HandS.ExcOwn
import HandS.WordsExc
import HandS.Wide
import PySem.Challenge.RW_latequestions_k01_errors_made
import PyProof.ExcBaseAll.ValueError
import PyProof.ExcBaseAll.LookupError
import PyProof.ExcBaseAll.RuntimeError
import KE.KExcInit
import HandS.ExcInit
import HandS.ExcCtx
import HandS.HotCalls
import HandS.ExcIs
import HandS.ExcField
import HandS.Comp
import HandS.Iter
import HandS.Ends
import HandS.HeadEnd
import PyProof.ReprRoads
import HandS.IsInst
import HandS.Walk
import HandS.Head0
import HandS.Head1
import HandS.Head2
import HandS.HeadHook1
import HandS.HeadHook2
import HandS.HeadHook4
set_option Elab.async false
set_option linter.all false
set_option maxRecDepth 100000
set_option maxHeartbeats 4000000
namespace Lq
open PySem L2
def topS (i : Nat) : Stmt := PySem.Challenge.pw_latequestions_k01_errors_made.main.body.getD i (.Pass ⟨0, 0, 0, 0⟩)
abbrev sBegin : Stmt := topS 28
abbrev sDraw : Stmt := topS 29
abbrev sOf : Stmt := topS 30
/-- a source: what is left of the great number, the seed, the turn -/
structure Src (g s t : Int) : Prop where
  g0 : 0 ≤ g
  s0 : 0 ≤ s
  s1 : s < 2147483629
  t0 : 0 ≤ t
  t1 : t ≤ 100000
def srcL (g s t : Int) : List V := [.int g, .int s, .int t]
/-- a draw from the source at a, of many: a number below many, the source goes on by at most one turn -/
def spDraw : Sp := fun vs H Q _ => ∃ (a : Addr) (g s t many : Int), vs = [.ref a, .int many] ∧ H a = some (.lst (srcL g s t)) ∧ Src g s t ∧ t < 100000 ∧ 0 < many ∧ many.natAbs < 2 ^ 200 ∧
  ∀ (r g' t' : Int), 0 ≤ r → r < many → Src g' s t' → t' ≤ t + 1 → Q (.int r) (upd H a (.lst (srcL g' s t')))
section
variable {P : Program} {w : World} {K : PySem.W.Frag} {mg : Str → Option Value} {base : Heap}
theorem scDraw : FnScope ["source", "many", "found", "turn", "mixed"] ["source", "many"] (defScope sDraw) := ⟨rfl, rfl, rfl, by decide +kernel, rfl, by decide +kernel, by decide +kernel⟩
theorem ok_draw {f : Addr} {fd : FuncData} (F : Fun K "_law_draw" "_law_draw" sDraw f fd) (hint : mg "int" = none) : FnOk P w K mg base CX0 1 f fd ["source", "many"] spDraw := by
  refine F.ok scDraw (fun vs H Q E h => ?_) (fun cdv A outer s H vs Q E hr h => ?_)
  · obtain ⟨a, g, s, t, many, rfl, _⟩ := h
    rfl
  · obtain ⟨a, g, sd, t, many, rfl, ha, S, ht, hm0, hm1, k⟩ := h
    refine ⟨_, pss_cons (ps_if (pt_cmpR op_gt (pe_ix ix_list (pv 0) pe_int (fun _ _ => rfl)) pe_int (nomark _))
        (pss_cons (ps_set (i := 2) scDraw.nd rfl (Or.inl rfl) (pe_op op_mod (pe_callTy call_int1 (by rfl) hint PyProof.Rows.boot_int (pa_cons (pe_ix ix_list (pv 0) pe_int (fun _ _ => rfl)) pa_nil)) (pv 1)))
        (pss_cons (ps_asg (pe_op op_fdivW (pe_ix ix_list (pv 0) pe_int (fun _ _ => rfl)) (pv 1)) (pg_sub (pv 0) pe_int set_list))
        (pss_one (ps_ret (pv 2))))) pss_nil)
      (pss_cons (ps_asg (pe_op op_add (pe_ix ix_list (pv 0) pe_int (fun _ _ => rfl)) pe_int) (pg_sub (pv 0) pe_int set_list))
      (pss_cons (ps_set (i := 3) scDraw.nd rfl (Or.inl rfl) (pe_ix ix_list (pv 0) pe_int (fun _ _ => rfl)))
      (pss_cons (ps_set (i := 4) scDraw.nd rfl (Or.inl rfl) (pe_op op_mod (pe_callTy call_int1 (by rfl) hint PyProof.Rows.boot_int (pa_cons
          (pe_op op_add (pe_op op_mul (pe_op op_add (pe_ix ix_list (pv 0) pe_int (fun _ _ => rfl)) (pe_op op_mul pe_int (pv 3))) pe_int) (pe_op op_mul (pe_op op_mul pe_int (pv 3)) (pv 3))) pa_nil)) pe_int))
      (pss_cons (ps_set (i := 4) scDraw.nd rfl (Or.inl rfl) (pe_op op_mod (pe_callTy call_int1 (by rfl) hint PyProof.Rows.boot_int (pa_cons
          (pe_op op_add (pe_op op_mul (pv 4) (pv 4)) (pe_op op_mul pe_int (pv 3))) pa_nil)) pe_int))
      (pss_one (ps_ret (pe_op op_mod (pe_callTy call_int1 (by rfl) hint PyProof.Rows.boot_int (pa_cons (pe_op op_fdiv (pv 4) pe_int) pa_nil)) (pv 1)))))))), ?_⟩
    have e0 : atI (srcL g sd t) 0 = some (V.int g) := rfl
    refine ⟨_, rfl, a, _, _, _, rfl, rfl, SqL.of ha, e0, _, _, rfl, rfl, _, rfl, ?_⟩
    refine ite2 (fun hg => ?_) (fun hg => ?_)
    · -- the great number
      have hg' : (0 : Int) < g := of_decide_eq_true hg
      refine ⟨_, rfl, a, _, _, _, rfl, rfl, SqL.of ha, e0, .inl ⟨_, rfl, _, rfl, _, _, rfl, rfl, hm0, ?_⟩⟩
      refine ⟨_, rfl, a, _, _, _, rfl, rfl, SqL.of ha, e0, _, rfl, _, _, rfl, rfl, wide_div hm0 hm1 (by decide) (by decide), ?_⟩
      refine ⟨_, rfl, a, _, _, 0, rfl, rfl, ha, rfl, ?_⟩
      refine ⟨_, rfl, ?_⟩
      exact k (g % many) (g / many) t (Int.emod_nonneg _ (by omega)) (Int.emod_lt_of_pos _ hm0) ⟨Int.ediv_nonneg S.g0 (by omega), S.s0, S.s1, S.t0, S.t1⟩ (by omega)
    · have hg' : g = 0 := by
        have h1 : ¬ (0 : Int) < g := fun z => hg (decide_eq_true z)
        have := S.g0
        omega
      subst hg'
      have h0 := S.s0
      have h1 := S.s1
      have h2 := S.t0
      refine ⟨_, rfl, a, _, _, _, rfl, rfl, SqL.of ha, (rfl : atI (srcL 0 sd t) 2 = some (V.int t)), _, _, rfl, rfl, ?_⟩
      refine ⟨_, rfl, a, _, _, 2, rfl, rfl, ha, rfl, ?_⟩
      have ha1 : upd H a (.lst (srcL 0 sd (t + 1))) a = some (.lst (srcL 0 sd (t + 1))) := upd_same
      refine ⟨_, rfl, a, _, _, _, rfl, rfl, SqL.of ha1, (rfl : atI (srcL 0 sd (t + 1)) 2 = some (V.int (t + 1))), ?_⟩
      refine ⟨_, rfl, a, _, _, _, rfl, rfl, SqL.of ha1, (rfl : atI (srcL 0 sd (t + 1)) 1 = some (V.int sd)), _, rfl, _, _, rfl, rfl, .inl ⟨by decide, by decide⟩, ?_⟩
      refine ⟨_, _, rfl, rfl, _, _, rfl, rfl, .inl ⟨by omega, by omega⟩, ?_⟩
      refine ⟨_, rfl, _, _, rfl, rfl, .inl ⟨by decide, by decide⟩, _, rfl, _, _, rfl, rfl, .inl ⟨by omega, by omega⟩, ?_⟩
      refine ⟨_, _, rfl, rfl, .inl ⟨_, rfl, _, _, rfl, rfl, (by show (0 : Int) < 2147483629; decide), ?_⟩⟩
      generalize hx : ((sd + 7919 * (t + 1)) * 48271 + 31 * (t + 1) * (t + 1)) % 2147483629 = x
      have x0 : 0 ≤ x := by rw [← hx]; exact Int.emod_nonneg _ (by decide)
      have x1 : x < 2147483629 := by rw [← hx]; exact Int.emod_lt_of_pos _ (by decide)
      refine ⟨_, rfl, _, rfl, _, _, rfl, rfl, .inl ⟨by omega, by omega⟩, _, rfl, _, _, rfl, rfl, .inl ⟨by decide, by decide⟩, ?_⟩
      refine ⟨_, _, rfl, rfl, .inl ⟨_, rfl, _, _, rfl, rfl, (by show (0 : Int) < 2147483587; decide), ?_⟩⟩
      refine ⟨_, rfl, _, _, rfl, rfl, ⟨by decide, by decide⟩, .inl ⟨_, rfl, _, rfl, _, _, rfl, rfl, hm0, ?_⟩⟩
      exact k _ 0 (t + 1) (Int.emod_nonneg _ (by omega)) (Int.emod_lt_of_pos _ hm0) ⟨by omega, h0, h1, by omega, by omega⟩ (by omega)
/-! _law_of(source, some): an item of the list some -/
def spOf (K : PySem.W.Frag) : Sp := fun vs H Q _ => ∃ (a b : Addr) (g s t : Int) (xs : List V), vs = [.ref a, .ref b] ∧ H a = some (.lst (srcL g s t)) ∧ Src g s t ∧ t < 100000 ∧ SqL K H b xs ∧ a ≠ b ∧ 0 < xs.length ∧ xs.length ≤ 1000 ∧
  ∀ (i : Nat) (v : V) (g' t' : Int), xs[i]? = some v → Src g' s t' → t' ≤ t + 1 → Q v (upd H a (.lst (srcL g' s t')))
theorem scOf : FnScope ["source", "some"] ["source", "some"] (defScope sOf) := ⟨rfl, rfl, rfl, by decide +kernel, rfl, by decide +kernel, by decide +kernel⟩
theorem sq_upd {H : Hp} {a b : Addr} {o : HO} {xs : List V} (h : SqL K H b xs) (ne : a ≠ b) : SqL K (upd H a o) b xs := by
  rcases h with (h | ⟨u, h⟩) | h
  · exact .inl (.inl (by rw [upd_ne (Ne.symm ne)]; exact h))
  · exact .inl (.inr ⟨u, by rw [upd_ne (Ne.symm ne)]; exact h⟩)
  · exact .inr h
theorem ok_of {f fD : Addr} {fd fdD : FuncData} (F : Fun K "_law_of" "_law_of" sOf f fd) (GD : FnOk P w K mg base CX0 1 fD fdD ["source", "many"] spDraw) (bD : Binds K fdD ["source", "many"] []) (kD : PySem.W.keepIn K (.ref fD) = true)
    (mD : mg "_law_draw" = some (.ref fD)) (hlen : mg "len" = none) : FnOk P w K mg base CX0 2 f fd ["source", "some"] (spOf K) := by
  refine F.ok scOf (fun vs H Q E h => ?_) (fun cdv A outer s H vs Q E hr h => ?_)
  · obtain ⟨a, b, g, s, t, xs, rfl, _⟩ := h
    rfl
  · obtain ⟨a, b, g, sd, t, xs, rfl, ha, S, ht, hb, ne, hl0, hl1, k⟩ := h
    refine ⟨_, pss_one (ps_ret (pe_ix ix_list (pv 1) (pe_call GD hr (by rfl) mD kD bD .nil pass0 (pa_cons (pv 0) (pa_cons (pe_callB call_len_seq (by rfl) hlen PySem.boot_len (pa_cons (pv 1) pa_nil)) pa_nil))) (fun _ _ => rfl))), ?_⟩
    refine ⟨_, rfl, _, rfl, _, rfl, b, _, rfl, .inl hb, ?_⟩
    refine ⟨a, g, sd, t, _, rfl, ha, S, ht, by omega, ?_, fun r g' t' r0 r1 S' h' => ?_⟩
    · show (xs.length : Int).natAbs < 2 ^ 200
      exact Nat.lt_of_le_of_lt (show (xs.length : Int).natAbs ≤ 1000 by omega) (by decide)
    · have hi : r.toNat < xs.length := by omega
      have e : xs[r.toNat]? = some (xs[r.toNat]) := List.getElem?_eq_getElem hi
      exact ⟨b, xs, r, _, rfl, rfl, sq_upd hb ne, at_of (by omega) e, k r.toNat _ g' t' e S' h'⟩
/-! _law_begin(script, at): the source of a cell -/
def spBegin (K : PySem.W.Frag) : Sp := fun vs H Q _ => ∃ (a : Addr) (ns : List Int) (at_ : Int), vs = [.ref a, .int at_] ∧ SqL K H a (ns.map V.int) ∧ 0 ≤ at_ ∧ at_ ≤ 63 ∧
  ∀ (p : Addr) (g s : Int), H p = none → Src g s (17 * at_ + 5) → Q (.ref p) (upd H p (.lst (srcL g s (17 * at_ + 5))))
theorem scBegin : FnScope ["script", "at", "cell", "great"] ["script", "at"] (defScope sBegin) := ⟨rfl, rfl, rfl, by decide +kernel, rfl, by decide +kernel, by decide +kernel⟩
theorem ok_begin {f : Addr} {fd : FuncData} (F : Fun K "_law_begin" "_law_begin" sBegin f fd) (hint : mg "int" = none) (hlen : mg "len" = none) (habs : mg "abs" = none) : FnOk P w K mg base CX0 1 f fd ["script", "at"] (spBegin K) := by
  refine F.ok scBegin (fun vs H Q E h => ?_) (fun cdv A outer s H vs Q E hr h => ?_)
  · obtain ⟨a, ns, at_, rfl, _⟩ := h
    rfl
  · obtain ⟨a, ns, at_, rfl, ha, h0, h1, k⟩ := h
    refine ⟨_, pss_cons (ps_set (i := 2) scBegin.nd rfl (Or.inl rfl) (pe_ifExp (pt_cmpR op_lt (pv 1) (pe_callB call_len_seq (by rfl) hlen PySem.boot_len (pa_cons (pv 0) pa_nil)) (nomark _)) (pe_ix ix_list (pv 0) (pv 1) (fun _ _ => rfl)) pe_int))
      (pss_cons (ps_set (i := 3) scBegin.nd rfl (Or.inl rfl) (pe_ifExp (pt_cmpR op_ge (pe_callB call_abs (by rfl) habs PyProof.Rows.boot_abs (pa_cons (pv 2) pa_nil)) (pe_op op_pow pe_int pe_int) (nomark _)) (pe_callB call_abs (by rfl) habs PyProof.Rows.boot_abs (pa_cons (pv 2) pa_nil)) pe_int))
      (pss_one (ps_ret (pe_lst (pa_cons (pv 3) (pa_cons (pe_op op_mod (pe_callTy call_int1 (by rfl) hint PyProof.Rows.boot_int (pa_cons (pv 2) pa_nil)) pe_int) (pa_cons (pe_op op_add (pe_op op_mul pe_int (pv 1)) pe_int) pa_nil))))))), ?_⟩
    have fin : ∀ c : Int, ∀ H0 : Hp, H0 = H → tSeq (tAsg (tIf (tB (tOp (rI0 fun i j => .bl (decide (j ≤ i))) (tCB (fun xs H Q => ∃ i, xs = [.int i] ∧ Q (.int (if i < 0 then -i else i)) H) (tCons (tVar 2) tNil)) (tOp (rI CPow fun i j => .int (i ^ j.toNat)) (tC (.int 10)) (tC (.int 18))))) (tCB (fun xs H Q => ∃ i, xs = [.int i] ∧ Q (.int (if i < 0 then -i else i)) H) (tCons (tVar 2) tNil)) (tC (.int 0))) (gName 3)) (tRet (tLst (tCons (tVar 3) (tCons (tOp (rI (fun _ j => 0 < j) fun i j => .int (i % j)) (tCB (fun xs H Q => (∃ i, xs = [.int i] ∧ Q (.int i) H) ∨ ∃ k, xs = [.bl k] ∧ Q (.int (if k then 1 else 0)) H) (tCons (tVar 2) tNil)) (tC (.int 2147483629))) (tCons (tOp (rI0 fun i j => .int (i + j)) (tOp (rI CMul fun i j => .int (i * j)) (tC (.int 17)) (tVar 1)) (tC (.int 5))) tNil)))))
        { nx := fun _ H' => Q .non H', rt := Q } [some (.ref a), some (.int at_), some (.int c), none] H0 := by
      intro c H0 e
      subst e
      have last : ∀ g : Int, 0 ≤ g → ∀ p, H0 p = none → Q (.ref p) (upd H0 p (.lst [.int g, .int (c % 2147483629), .int (17 * at_ + 5)])) := fun g hg p np =>
        k p g (c % 2147483629) np ⟨hg, Int.emod_nonneg _ (by decide), Int.emod_lt_of_pos _ (by decide), by omega, by omega⟩
      refine ⟨_, rfl, _, rfl, _, _, rfl, rfl, ⟨by decide, by decide, by decide⟩, _, _, rfl, rfl, _, rfl, ?_⟩
      have ab : (0 : Int) ≤ if c < 0 then -c else c := by split <;> omega
      refine ite2 (fun _ => ?_) (fun _ => ?_)
      · refine ⟨_, rfl, _, rfl, ?_⟩
        refine ⟨_, rfl, _, rfl, .inl ⟨_, rfl, _, _, rfl, rfl, (by show (0 : Int) < 2147483629; decide), _, rfl, _, _, rfl, rfl, .inl ⟨by decide, by decide⟩, _, _, rfl, rfl, (by show 3 ≤ sizeLine; decide), fun p np => last _ ab p np⟩⟩
      · refine ⟨_, rfl, _, rfl, .inl ⟨_, rfl, _, _, rfl, rfl, (by show (0 : Int) < 2147483629; decide), _, rfl, _, _, rfl, rfl, .inl ⟨by decide, by decide⟩, _, _, rfl, rfl, (by show 3 ≤ sizeLine; decide), fun p np => last _ (Int.le_refl 0) p np⟩⟩
    refine ⟨_, rfl, _, rfl, a, _, rfl, .inl ha, _, _, rfl, rfl, _, rfl, ?_⟩
    refine ite2 (fun hc => ?_) (fun _ => ?_)
    · have hc' : at_ < ((ns.map V.int).length : Int) := of_decide_eq_true hc
      rw [List.length_map] at hc'
      have hi : at_.toNat < ns.length := by omega
      have e : (ns.map V.int)[at_.toNat]? = some (V.int ns[at_.toNat]) := by rw [List.getElem?_map, List.getElem?_eq_getElem hi] <;> rfl
      exact ⟨_, rfl, _, rfl, a, _, _, _, rfl, rfl, ha, at_of (by omega) e, fin _ H rfl⟩
    · exact fin 0 H rfl
end
end Lq


set_option Elab.async false
set_option linter.all false
set_option maxRecDepth 100000
set_option maxHeartbeats 4000000
/-! Own exceptions whose __init__ stores one field, over any built-in base -/
namespace PySem
namespace LqX
/-- the list of a class's bases: it makes by B's __new__, it is an error, no AttributeError, no NameError, an object, and lets names be stored -/
structure Tl (B : String) (bm : List Value) : Prop where
  b : bm.contains (.type B) = true
  a : bm.contains (.type "AttributeError") = false
  n : bm.contains (.type "NameError") = false
  o : bm.contains (.type "object") = true
  ne : bm.isEmpty = false
  pass : ∀ self : Value, refuseLoop self "__setattr__" bm = pure ()
theorem Tl.cons {B : String} {bm : List Value} {c : Addr} (h : Tl B bm) : Tl B (.ref c :: bm) where
  b := by rw [List.contains_cons, h.b, Bool.or_true]
  a := by rw [List.contains_cons, h.a]; rfl
  n := by rw [List.contains_cons, h.n]; rfl
  o := by rw [List.contains_cons, h.o, Bool.or_true]
  ne := rfl
  pass := fun self => by rw [refuseLoop_ref]; exact h.pass self
theorem tl_value : Tl "ValueError" [.type "ValueError", .type "Exception", .type "BaseException", .type "object"] := ⟨by decide +kernel, by decide +kernel, by decide +kernel, by decide +kernel, rfl, F.store_ValueError.passes⟩
theorem tl_lookup : Tl "LookupError" [.type "LookupError", .type "Exception", .type "BaseException", .type "object"] := ⟨by decide +kernel, by decide +kernel, by decide +kernel, by decide +kernel, rfl, F.store_LookupError.passes⟩
theorem tl_run : Tl "RuntimeError" [.type "RuntimeError", .type "Exception", .type "BaseException", .type "object"] := ⟨by decide +kernel, by decide +kernel, by decide +kernel, by decide +kernel, rfl, F.store_RuntimeError.passes⟩
theorem tl_key : Tl "LookupError" [.type "KeyError", .type "LookupError", .type "Exception", .type "BaseException", .type "object"] := ⟨by decide +kernel, by decide +kernel, by decide +kernel, by decide +kernel, rfl, fun self => by kernel_rfl⟩
section
variable {prog : Program} {w : World} {A : Around} {R : Result → Shared → Prop} {E : Value → Shared → Prop} {h : Heap} {g : Array GenState} {d : Drawn} {t : Nat} {os : OsState}
variable {nm q : Str} {C N : Addr} {bs bm bB : List Value} {hdct : Bool} {sn : List Str} {sub : List Value} {ab : Bool} {col : Option Bool} {dd : Option Addr} {k0 k1 k2 k3 k5 : Option Value} {B newId initId : String}
/-- B.__new__(C, ..): the arguments' tuple, the new exception -/
theorem new_run (F : ExcBaseFacts B newId initId bB) (T : Tl B bm) {rest : List Value} (hC : h.get? C = some (excClassObj nm q C N bs bm hdct sn sub ab col dd k0 k1 k2 k3 k5 newId)) (hz : rest.length ≤ sizeLine)
    (k : R (.ok (.ret (.ref (h.objs.size + 1)))) ⟨(h.push (W.kdv_tup rest)).push (PySem.HandSPX.excO C h.objs.size), g, d, t, os⟩) : codeAny (model prog w) A (.builtin newId ⟨.ref C :: rest, []⟩) R ⟨h, g, d, t, os⟩ := by
  have e := F.ends
  have T1 : Tl B (.ref C :: bm) := T.cons
  have b1 := T1.b
  have b2 := T1.a
  have b3 := T1.n
  refine codeAny_builtinAt F.entry ?_
  unfold Builtin.«BaseException.__new__»
  refine wpAt_bind ?_
  show wpAt _ _ _ (stack >>= _) _ _ _
  refine wpAt_bind (wpAt_stack fun p0 lower => wpAt_of_wpAny ?_)
  wp_walk
  refine wpAt_of_wpAny ?_
  rw [F.owner]
  repeat (first | with_reducible refine wpAny_madeHere_exc F.canon hC ?_ | with_reducible refine wpAny_loadPart_at hC ?_ | (with_reducible refine wpAny_isSubtype_exc hC ?_; first | rw [b1] | rw [b2] | rw [b3]) | wp_step)
  show R _ _
  rw [Heap.size_push]
  exact k
theorem check_run {M : Model} (F : ExcBaseFacts B newId initId bB) (T : Tl B bm) {rest : List Value} {Q : Unit → Shared → Prop} (hC : h.get? C = some (excClassObj nm q C N bs bm hdct sn sub ab col dd k0 k1 k2 k3 k5 newId)) (k : Q () ⟨h, g, d, t, os⟩) :
    wpAny M A (checkBuiltinCall newId ⟨.ref C :: rest, []⟩) Q E ⟨h, g, d, t, os⟩ := by
  have T1 : Tl B (.ref C :: bm) := T.cons
  have b1 := T1.b
  have z := F.noStar
  simp only [checkBuiltinCall, F.newKind, F.newSplit, F.newRow]
  repeat (first | refine wpAny_loadPart_at hC ?_ | (refine wpAny_isSubtype_exc hC ?_; rw [b1]) | refine wpAny_staticBase_exc hC ?_ | refine wpAny_madeBy_exc hC ?_ | simp only [bne_self_eq_false, Bool.false_eq_true, if_false] | wp_step)
  exact k
theorem typeCall_run (F : ExcBaseFacts B newId initId bB) (T : Tl B bm) {rest : List Value} {fI : Addr} {Q : Fin → Shared → Prop} (hC : h.get? C = some (excClassObj nm q C N bs bm hdct sn sub ab col dd k0 k1 k2 k3 k5 newId))
    (hi : W.Looks (model prog w) h (typeLookup (.ref C) "__init__") (some (.ref fI))) (hb : ∀ self, W.Looks (model prog w) h (bindSpecial (.ref fI) self) (.ref fI, [self])) (hz : rest.length ≤ sizeLine)
    (k : codeAny (model prog w) A (.call (.ref fI) ⟨.ref (h.objs.size + 1) :: rest, []⟩)
      (fun r s' => match r with | .ok (.ret v) => v = .none ∧ Q (.done (.ret (.ref (h.objs.size + 1)))) s' | .ok _ => False | .error e => E e s') ⟨(h.push (W.kdv_tup rest)).push (PySem.HandSPX.excO C h.objs.size), g, d, t, os⟩) :
    wpAny (model prog w) A (Builtin.«type.__call__» ⟨.ref C :: rest, []⟩) Q E ⟨h, g, d, t, os⟩ := by
  repeat (first | with_reducible refine wpAny_loadPart_at hC ?_ | with_reducible refine wpAny_madeBy_exc hC ?_ | wp_step)
  refine codeAny_call_builtin_code (Code.quiet_builtin _ F.quiet) (check_run F T hC (new_run F T hC hz ?_))
  show wpAny _ _ _ _ _ _
  have kp : ∀ b o, h.get? b = some o → ((h.push (W.kdv_tup rest)).push (PySem.HandSPX.excO C h.objs.size)).get? b = some o := fun b o e => Heap.get?_push_of_some _ (Heap.get?_push_of_some _ e)
  have hC1 := kp _ _ hC
  have he : ((h.push (W.kdv_tup rest)).push (PySem.HandSPX.excO C h.objs.size)).get? (h.objs.size + 1) = some (PySem.HandSPX.excO C h.objs.size) := by heap_get
  have own : (Value.ref C :: bm).contains (.ref C) = true := by simp
  have i1 := hi.keeps kp
  have b1 := (hb (.ref (h.objs.size + 1))).keeps kp
  unfold isInstance
  repeat (first | with_reducible refine wpAny_loadPart_at he ?_ | (with_reducible refine wpAny_isSubtype_exc hC1 ?_; rw [own]) | wp_step)
  show wpAny _ _ (typeLookup (.ref C) _) _ _ _
  refine i1.at (wpAny_holding (wpAny_bind (b1.at (wpAny_bind (wpAny_call (codeAny_mono k fun r s' z => ?_))))))
  cases r with
  | error e => exact z
  | ok fl =>
    cases fl with
    | ret v =>
      obtain ⟨rfl, z⟩ := z
      first
        | exact wpAny_pure (wpAny_pure z)
        | (wp_walk; exact z)
    | next => exact z.elim
    | brk => exact z.elim
    | cont => exact z.elim
theorem make_run (F : ExcBaseFacts B newId initId bB) (T : Tl B bm) {rest : List Value} {fI : Addr} (hC : h.get? C = some (excClassObj nm q C N bs bm hdct sn sub ab col dd k0 k1 k2 k3 k5 newId))
    (hi : W.Looks (model prog w) h (typeLookup (.ref C) "__init__") (some (.ref fI))) (hb : ∀ self, W.Looks (model prog w) h (bindSpecial (.ref fI) self) (.ref fI, [self])) (hz : rest.length ≤ sizeLine)
    (k : codeAny (model prog w) (A.under (.builtin "type.__call__" ⟨.ref C :: rest, []⟩)) (.call (.ref fI) ⟨.ref (h.objs.size + 1) :: rest, []⟩) (W.InitBack (h.objs.size + 1) R) ⟨(h.push (W.kdv_tup rest)).push (PySem.HandSPX.excO C h.objs.size), g, d, t, os⟩) :
    codeAny (model prog w) A (.call (.ref C) ⟨rest, []⟩) R ⟨h, g, d, t, os⟩ := by
  have f1 := tc_lookup
  have f2 := tc_bind (.ref C)
  have ty : (⟨h, g, d, t, os⟩ : Shared).TypeIs (.ref C) "type" := ⟨_, hC, rfl⟩
  refine codeAny_of_tree ?_
  show wpAny _ _ (callAny (.ref C) _) _ _ _
  repeat (any_goals (first | assumption | with_reducible refine wpAny_loadPart_at hC ?_ | wp_step))
  refine ⟨rfl, codeAny_call_builtin_at (Code.quiet_builtin _ (by decide +kernel)) entry_typeCall (wpAny_check_type_call_sub hC (typeCall_run F T hC hi hb hz (codeAny_mono k fun r s' z => ?_)))⟩
  rcases r with e | (v | _ | _ | _) <;> exact z
end
end LqX
end PySem


set_option Elab.async false
set_option linter.all false
set_option maxRecDepth 100000
set_option maxHeartbeats 4000000
namespace PySem
namespace LqX
open Builtin Builtin.ObjectAttr
section
variable {prog : Program} {w : World} {A : Around} {R : Result → Shared → Prop} {hp : Heap} {g : Array GenState} {d : Drawn} {t : Nat} {os : OsState}
/-- e.name = v, the first field of the exception at x -/
theorem store_run {K : W.Frag} {B : String} {name : Str} {tk : Tok} {v : Value} {x C : Addr} {fv : Array Value} {cd : ClassData} (X : K.In hp) (hx : hp.get? x = some { cls := .ref C, data := .fields fv }) (hcd : W.clsIn K C = some cd) (T : Tl B cd.mro)
    (hh : cd.hasDict = true) (ha : W.findIn K (.ref C) name = some none)
    (k : ∀ h' tk' dx, (∀ b o, b ≠ x → hp.get? b = some o → h'.get? b = some o) → hp.objs.size ≤ dx → dx ≠ x → h'.get? x = some { cls := .ref C, dict := some dx, data := .fields fv } →
      h'.Ns1 dx (fun y => if y = name then some v else none) → R (.ok (.ret .none)) ⟨h', g, d, tk', os⟩) :
    codeAny (model prog w) A (.call (.builtin "object.__setattr__") ⟨[.ref x, .str name tk, v], []⟩) R ⟨hp, g, d, t, os⟩ := by
  have at_ : W.InstAt hp x { cls := .ref C, data := .fields fv } C none := ⟨hx, rfl, rfl, trivial⟩
  have S := F.store_object
  have nx : x ≠ hp.objs.size := Nat.ne_of_lt (Heap.lt_size hx)
  have io : W.Looks (model prog w) hp (isInstance (.ref x) (.type "object")) true := at_.type.andThen (W.looks_mroIn X (by unfold W.mroIn; rw [hcd, Option.bind_some, if_neg (by rw [T.ne]; decide), T.o]))
  have lm : W.Looks (model prog w) hp (mroOf (.ref C)) cd.mro := (W.looks_clsIn X hcd).andThen .now
  have l3 : W.Looks (model prog w) hp (storeTaker? none) none := .now
  have lc : W.Looks (model prog w) hp (classData C) cd := W.looks_clsIn X hcd
  refine codeAny_call_builtin S.slot.plain S.entry (@W.check_slot (model prog w) _ _ ⟨hp, g, d, t, os⟩ "object.__setattr__" "object" "__setattr__" (.ref x) [.str name tk, v] [] _ S.kind S.split io (S.args (.ref x) (.str name tk) v) ?_)
  rw [W.osa_eq, refuse_eq]
  refine wpAny_bind (wpAny_bind (at_.type.at (wpAny_bind (lm.at ?_))))
  rw [T.pass]
  refine wpAny_pure (wpAny_bind (at_.type.at (wpAny_bind ((W.looks_findIn X ha).at (wpAny_bind (l3.at ?_))))))
  show wpAny _ _ (storeInOwnDict (.ref x) (.ref C) (.str name tk) name v false) _ _ _
  obtain ⟨c1, c2, c3, c4, c5, c6, c7, c8, c9, c10, c11⟩ := cd
  dsimp only at hh
  subst hh
  unfold storeInOwnDict ownDictForStores
  repeat (first | with_reducible refine HandSPX.store_in_new ?_ ?_ | with_reducible refine wpAny_loadPart_at hx ?_ | with_reducible refine lc.at ?_ | wp_step)
  · exact ⟨_, #[], _, (Heap.get?_update_ne _ _ _ _ nx.symm).trans (Heap.get?_push_at rfl rfl), rfl, fun e he => absurd he (by simp), fun _ => rfl⟩
  · intro h2 tk2 ns2 sb
    have hx2 : (hp.push { cls := .type "dict", data := .dict #[] }).get? x = some { cls := .ref C, data := .fields fv } := Heap.get?_push_of_some _ hx
    refine k h2 tk2 hp.objs.size (fun b o nb ho => ?_) (Nat.le_refl _) nx.symm ((sb.2 x nx).trans (Heap.get?_update_self _ hx2 rfl)) ns2
    exact (sb.2 b (Nat.ne_of_lt (Heap.lt_size ho))).trans ((Heap.get?_update_ne _ _ _ _ nb).trans (Heap.get?_push_of_some _ ho))
end
end LqX
end PySem
namespace L2
namespace LqX
open PySem PySem.Spec PyProof.Rows
/-- what the written part says of an own exception class, made by newId, over B -/
structure XC (K : PySem.W.Frag) (C : Addr) (B newId : String) : Prop where
  cls : ∃ nm q N bs bm sn sub ab col dd k0 k1 k2 k3 k5, K.lookup C = some (excClassObj nm q C N bs bm true sn sub ab col dd k0 k1 k2 k3 k5 newId) ∧ PySem.LqX.Tl B bm
  sa : PySem.W.findIn K (.ref C) "__setattr__" = some (some (.builtin "object.__setattr__"))
  exC : PySem.W.subIn K (.ref C) (.type "BaseException") = some true
  tyC : PySem.W.typeIn K (.ref C) = some (.type "type")
  kC : PySem.W.keepIn K (.ref C) = true
section
variable {X : Cx} {pins : List (Addr × Obj)} {σ : St} {H : Hp} {s : Shared} {a C : Addr} {f : Str} {y : V} {u : Value} {A : Around} {B newId : String}
theorem set_first {Q : Unit → Shared → Prop} {E : Value → Shared → Prop} (T : XC X.K C B newId) (I : Inv X pins σ H s) (e : H a = some (exo a C none)) (hno : PySem.W.findIn X.K (.ref C) f = some none) (ry : RelV y u)
    (k : ∀ dx s', H dx = none → dx ≠ a → Inv X pins σ (upd (upd H dx (exd dx [(f, y)])) a (exo a C (some dx))) s' → Q () s') : wpAny (model X.prog X.w) A (setAttr (.ref a) f u) Q E s := by
  obtain ⟨nm, q, N, bs, bm, sn, sub, ab, col, dd, k0, k1, k2, k3, k5, hC, tl⟩ := T.cls
  have hcl : PySem.W.clsIn X.K C = some { name := nm, bases := bs, mro := .ref C :: bm, ns := N, qualname := q, hasDict := true, slotNames := sn, subclasses := sub, abstract := ab, collection := col, hasDel := false } := by
    unfold PySem.W.clsIn
    rw [hC] <;> rfl
  obtain ⟨t1, ho⟩ := exo_at I.hok e
  obtain ⟨hp, g, d, t, os⟩ := s
  refine PySem.W.set_plain I.kIn (ox := { cls := .ref C, dict := none, data := .fields #[.ref t1, .none, .none, .none, .bool false, .none] }) (od := none) ⟨ho, rfl, rfl, trivial⟩ T.sa ?_
  refine PySem.LqX.store_run (B := B) I.kIn ho hcl tl.cons rfl hno fun h2 tk2 dx kp dn dne hx2 ns2 => ?_
  have nd : H dx = none := I.hok.fresh dn
  have ne1 : ∀ {b : Addr} {o : Obj}, hp.get? b = some o → b ≠ dx := fun z => Nat.ne_of_lt (Nat.lt_of_lt_of_le (Heap.lt_size z) dn)
  have ne2 : ∀ {b : Addr}, H b = none → b ≠ a := fun {b} n z => by
    rw [z, e] at n
    cases n
  have U : Un X.fs [] H (upd (upd H dx (exd dx [(f, y)])) a (exo a C (some dx))) hp h2 :=
    ⟨fun b o z n _ _ => kp b o (ne2 n) z, fun b o z n _ _ => ⟨o.slots, kp b o (ne2 n) z⟩, fun b o z n _ => by rw [upd_ne (ne2 n), upd_ne (ne1 z)]; exact n, fun b o z _ => by
      by_cases hb : b = a
      · exact ⟨_, by rw [hb]; exact hx2⟩
      · exact ⟨o, kp b o hb z⟩, fun b xs z => by rw [upd_ne (at_ne e z exo_tup), upd_ne (ne_of_none z nd)]; exact z, fun b o v z => by rw [upd_ne (at_ne e z exo_frz), upd_ne (ne_of_none z nd)]; exact z,
      fun b ps z => ⟨#[], by rw [upd_ne (at_ne e z exo_tbl), upd_ne (ne_of_none z nd), z]; simp⟩⟩
  refine k dx _ nd dne (I.un (t' := tk2) U fun b o z => ?_)
  by_cases hb : b = a
  · subst hb
    rw [upd_same] at z
    cases z
    exact exo_ok hx2
  · rw [upd_ne hb] at z
    by_cases hd : b = dx
    · subst hd
      rw [upd_same] at z
      cases z
      exact exd_ok ns2 (relO_put (fs := []) ry fun _ => True.intro)
    · rw [upd_ne hd] at z
      refine (I.hok b o z).stay (fun c v hc q2 => kp c v ?_ q2) (fun c hc => by rw [upd_ne (at_ne e hc exo_own), upd_ne (ne_of_none hc nd)]; exact hc) fun c xs hc => by rw [upd_ne (at_ne e hc exo_tup), upd_ne (ne_of_none hc nd)]; exact hc
      rcases hc with hc | hc
      · rw [hc]
        exact hb
      · exact at_ne e hc exo_own
/-- self.f = e in such an __init__ -/
def tSetX (K : PySem.W.Frag) (C : Addr) (f : Str) (to te : TE) : TS := fun D σ H => te σ H fun y H1 => to σ H1 fun x H2 => ∃ a : Addr, x = .ref a ∧ H2 a = some (exo a C none) ∧ ∀ dx, H2 dx = none → dx ≠ a → D.nx σ (upd (upd H2 dx (exd dx [(f, y)])) a (exo a C (some dx)))
theorem ps_setX {o e : Expr} {to te : TE} {p' pos : Pos} (T : XC X.K C B newId) (hno : PySem.W.findIn X.K (.ref C) f = some none) (ho : PE X o to) (he : PE X e te) (hs : swapsWith e (some (.Attribute o f p')) pos.line X.env = pure false := by rfl) :
    PS X (.Assign [.Attribute o f p'] e pos) (tSetX X.K C f to te) := by
  refine ⟨fun pins s σ H D I h => ?_⟩
  refine plainObj_wpAny_Assign_Attribute (thn (he.run pins s σ H _ I h) fun v s1 ⟨y, H1, I1, r1, q1⟩ => thn (ho.run pins s1 σ H1 _ I1 q1) fun u s2 ⟨x, H2, I2, r2, a, ex, ea, q⟩ => ?_) hs
  subst ex
  obtain rfl : u = Value.ref a := r2
  exact set_first T I2 ea hno r1 fun dx s' n ne J => ⟨σ, _, J, q dx n ne⟩
/-- C(e): C's own __init__ keeps sp -/
theorem pmk_x {CX : CXT} {x : Str} {fI : Addr} {k : Nat} {fd : FuncData} {ps : List Str} {sp : Sp} {e : Expr} {es : List Expr} {ta : TA} {p pos : Pos} {bB : List Value} {initId : String} (FB : ExcBaseFacts B newId initId bB) (T : XC X.K C B newId)
    (iC : PySem.W.findIn X.K (.ref C) "__init__" = some (some (.ref fI))) (tI : PySem.W.typeIn X.K (.ref fI) = some (.type "function"))
    (F1 : FnOk X.prog X.w X.K X.mg X.base CX k fI fd ps sp) (hr : Room (k + 1) X.A) (hb : Binds X.K fd ps []) (hx : Passes CX X (fun _ _ _ => False)) (hg : Gl X x) (hm : X.mg x = some (.ref C)) (ha : PA X (e :: es) ta)
    (hdb : (x == ("__debug__" : Str)) = false := by decide) (he : starEach (e :: es) X.env = (false, eval e X.env) :: starEach es X.env := by rfl) (hpl : (backTo pos (starEach es X.env)).any (·.1) = false := by rfl) :
    L2N.PMk X (.Call (.Name x p) (e :: es) [] pos) (tMkO C sp [] ta) := by
  intro pins s σ H Q I h
  obtain ⟨nm, q, N, bs, bm, sn, sub, ab, col, dd, k0, k1, k2, k3, k5, hC, tl⟩ := T.cls
  refine wpAny_Call_Name_kw (ld_glob I hg hm ?_ hdb)
  refine PySem.W.callWith_K (h₀ := X.base) I.ok.mod.kin T.kC (thn (ha.run pos pins s σ H _ I h) fun us s1 ⟨vs, H1, I1, r1, hz, q1⟩ => ⟨I1.kIn, ?_⟩) he hpl
  show wpAny _ _ (call (.ref C) us) _ _ _
  obtain ⟨hp, g, dr, tk, os⟩ := s1
  have le1 : hp.objs.size ≤ hp.objs.size + 1 := Nat.le_succ _
  have hq := q1 (hp.objs.size + 1) (I1.hok.fresh le1)
  rw [List.append_nil] at hq
  have kp : ∀ b o, hp.get? b = some o → ((hp.push (PySem.W.kdv_tup us)).push (PySem.HandSPX.excO C hp.objs.size)).get? b = some o := fun b o z => Heap.get?_push_of_some _ (Heap.get?_push_of_some _ z)
  have hnew : ((hp.push (PySem.W.kdv_tup us)).push (PySem.HandSPX.excO C hp.objs.size)).get? (hp.objs.size + 1) = some (PySem.HandSPX.excO C hp.objs.size) := by heap_get
  have I2 : Inv X pins σ (upd H1 (hp.objs.size + 1) (exo (hp.objs.size + 1) C none)) ⟨(hp.push (PySem.W.kdv_tup us)).push (PySem.HandSPX.excO C hp.objs.size), g, dr, tk, os⟩ :=
    I1.laid (t' := tk) (a := hp.objs.size + 1) (o := exo (hp.objs.size + 1) C none) (h' := (hp.push (PySem.W.kdv_tup us)).push (PySem.HandSPX.excO C hp.objs.size)) kp le1 (exo_ok hnew)
  have r2 : Vals (V.ref (hp.objs.size + 1) :: vs) (Value.ref (hp.objs.size + 1) :: us) := .cons rfl r1
  have hl : (Value.ref (hp.objs.size + 1) :: us).length = ps.length := by
    rw [← r2.length]
    exact F1.len _ _ _ _ hq
  have bnd := hb _ (Value.ref (hp.objs.size + 1) :: us) I2.kIn (by rw [List.append_nil]; exact hl)
  rw [List.append_nil] at bnd
  refine wpAny_call (PySem.LqX.make_run FB tl (I1.kIn _ _ hC) (PySem.W.looks_findIn I1.kIn iC) (fun self => PySem.W.bind_fn I1.kIn self tI) (by rw [← Paired.length r1, sizeLine_eq]; omega)
    (codeAny_mono (F1.run _ X.stack _ _ ⟨Value.ref (hp.objs.size + 1) :: us, []⟩ (Value.ref (hp.objs.size + 1) :: us) _ _ (fun _ _ _ => False) (hr.make C us []) (I2.env0.make C us []) bnd r2 hq) fun r s' hq' => ?_))
  cases r with
  | error er => exact hx pins σ _ _ er s' I2 hq'
  | ok fl =>
    cases fl with
    | ret u =>
      obtain ⟨v, H2, os2, bare2, un2, hok2, rv, ev, d, fs, ea, ed, hd1, q2⟩ := hq'
      subst ev
      obtain ⟨h2, g2, d2, t2, os'⟩ := s'
      obtain ⟨t0, G, J, kG, ge, hoe, na⟩ := mk_end0 (d2 := d2) (t2 := t2) I1 le1 kp un2 hok2 os2 bare2 ea ed hd1
      exact ⟨rv, hp.objs.size + 1, _, _, ⟨G, g2, d2, t2, os'⟩, _, .ref C, some d, rfl, J, kG, ge, hoe, ⟨rfl, rfl, fun ws z => by cases z; rfl⟩, rfl, rfl, na, rfl, bare2, raises_own T.exC T.tyC, q2⟩
    | next => exact False.elim hq'
    | brk => exact False.elim hq'
    | cont => exact False.elim hq'
/-- C(), an own exception class without __init__ -/
theorem pmk_0 {bB : List Value} {initId : String} {x : Str} {p pos : Pos} (FB : ExcBaseFacts B newId initId bB) (q : PySem.W.excIn X.K C bB newId = true) (gC : X.mg x = some (.ref C)) (kC : PySem.W.keepIn X.K (.ref C) = true) (r : Raises X (.ref C)) (hg : Gl X x)
    (hdb : (x == ("__debug__" : Str)) = false := by decide) : L2N.PMk X (.Call (.Name x p) [] [] pos) (fun _ H Q => Q (.ref C) none H) := by
  intro pins s σ H Q I h
  refine wpAny_Call_Name_kw (ld_glob I hg gC ?_ hdb)
  refine PySem.W.callWith_K0 I.kIn kC ?_
  show wpAny _ _ (call (.ref C) []) _ _ _
  obtain ⟨bm, N, nm, qn, bs, hdct, sn, sub, ab, col, dd, k0, k1, k2, k3, k5, mN, hC, hN, hni, T⟩ := exc_obj I.kIn q
  exact wpAny_call_exc_subT FB T hC hN hni (fun h' e hm => L2N.mk_of I hm r h (I.hok.gone hm.new)) (Nat.zero_le _)
end
/-! ### several clauses, each with the same name -/
/-- what the clauses wish, one after the other; slot i is the name's -/
def wAll (K : PySem.W.Frag) (i : Nat) (Wout : WX) (D : Ends) : List (Value × (Addr → Value → Option Addr → TS)) → WX
  | [] => Wout
  | (c, ts) :: r => fun cls d σ H => ∃ b, PySem.W.exmOne K cls c = some b ∧ (b = true → ∀ a, H a = none → ts a cls d { nx := fun σ' H' => D.nx (σ'.set i none) H', rt := D.rt, bk := fun σ' H' => D.bk (σ'.set i none) H', ct := fun σ' H' => D.ct (σ'.set i none) H' } (σ.set i (some (.ref a))) H) ∧
      (b = false → wAll K i Wout D r cls d σ H)
inductive Hds (X : Cx) (n : Str) : List ExceptHandler → List (Value × (Addr → Value → Option Addr → TS)) → Prop
  | nil : Hds X n [] []
  | cons {x : Str} {c : Value} {ts : Addr → Value → Option Addr → TS} {b0 : Stmt} {suite : List Stmt} {np pos' : Pos} {hds : List ExceptHandler} {l : List (Value × (Addr → Value → Option Addr → TS))} (hc : Names X x c)
      (hsu : ∀ (a : Addr) (oe : Obj) (cls : Value) (d : Option Addr) (pn : List (Addr × Obj)), L2N.Zn cls d oe → (∃ vs, oe.data = .fields vs) → PSs (X.suite a ((a, oe) :: pn)) (b0 :: suite) (ts a cls d)) (r : Hds X n hds l) :
      Hds X n (.ExceptHandler (some (.Name x np)) (some n) (b0 :: suite) pos' :: hds) ((c, ts) :: l)
section
variable {X : Cx} {n : Str} {i : Nat} {body : List Stmt} {h0 : ExceptHandler} {hds : List ExceptHandler} {l : List (Value × (Addr → Value → Option Addr → TS))} {pos : Pos} {tb : WX → TS} {Wout : WX}
/-- an exception that has come to the ground, tried by the clauses -/
theorem clauses (hN : X.N.Nodup) (hi : X.N[i]? = some n) (hln : X.env.kindOf n = some .local) (hs : X.stack = X.env :: X.outer) (hf : X.env.frame = some X.env.locals) (tk : L2N.Takes X Wout) {D : Ends} {pins : List (Addr × Obj)} {σ : St} {H : Hp} {sI s' : Shared} {h3 B : Heap} {a : Addr} {cls : Value} {d : Option Addr}
    (J : Inv X pins σ H sI) (nb : ∀ b o, sI.heap.get? b = some o → b ∉ frs X.stack → B.get? b = some o) (fl : HandSPX.FlyingZ B (X.env :: X.outer) a (L2N.Zn cls d) h3) (up : sI.heap.UpToSlots h3) (os : s'.os = sI.os) (ag : AllBare s'.gens) (na : H a = none) :
    ∀ {hds : List ExceptHandler} {l : List (Value × (Addr → Value → Option Addr → TS))}, Hds X n hds l → wAll X.K i Wout D l cls d σ H → wpAny (model X.prog X.w) X.A (handleBy (.ref a) X.env hds) (SP X pins D) X.xe { s' with heap := h3 } := by
  have ok := J.ok
  have J3 : Inv X pins σ H { s' with heap := h3 } := J.landed nb fl.1 up os ag
  obtain ⟨oe3, vs3, he3, hz3, hd3⟩ := fl.there
  have nfr : a ∉ frs (X.env :: X.outer) := fun hm => by
    obtain ⟨_, o2, e2, hnf⟩ := fl.2.2.1.mem hm
    rw [he3] at e2
    cases e2
    exact hnf _ hd3
  have nL : a ≠ X.env.locals := fun z => nfr (List.mem_filterMap.mpr ⟨X.env, List.mem_cons_self, by rw [hf, z]⟩)
  have nF : a ∉ X.fs := fun hm => by
    obtain ⟨e, he, q⟩ := List.mem_filterMap.mp hm
    exact nfr (List.mem_filterMap.mpr ⟨e, List.mem_cons_of_mem _ he, q⟩)
  have S3 := J3.suite he3 hd3 na nL nF
  intro hds l hk
  induction hk with
  | nil =>
    intro w
    refine wpAny_handleBy_nil ?_
    obtain ⟨_, _, _, oe, vs, T, oT, ts', he, hz, hd, h1, _⟩ := id fl
    unfold PySem.passOn
    refine wpAny_bind (wpAny_field he hd h1 ?_)
    rw [if_neg (by simp : ¬ ((Value.ref T == Value.none) = true))]
    have fin : wpAny (model X.prog X.w) X.A (setFlight (.ref a) X.env.frame) (fun _ s4 => wpAny (model X.prog X.w) X.A (throw (.ref a) : Sem Flow) (SP X pins D) X.xe s4) X.xe { s' with heap := h3 } := by
      rw [hf]
      exact HandSPX.setFlight_upZ fl fun h4 hh4 up4 => wpAny_throw (tk _ _ ⟨a, B, sI, pins, σ, H, cls, d, rfl, J, nb, up.trans up4, .inr (.inr (by rw [hs]; exact hh4)), na, os, ag, w⟩)
    first
      | exact wpAny_bind (wpAny_pure (wpAny_bind fin))
      | exact wpAny_bind fin
  | @cons x c ts b0 suite np pos' hds2 l2 hc hsu r ih =>
    intro w
    obtain ⟨b, hb1, yes, no⟩ := w
    refine wpAny_handleBy_cons (codeAny_handlers_test ?_) (by intro q; cases q)
    have LT : PySem.W.Looks (model X.prog X.w) h3 (typeOf (.ref a)) cls := fun _ _ _ _ k q => wpAny_typeOf_ref (k _ _ he3) (by rw [hz3.1]; exact q)
    have LM := PySem.W.exm_one (M := model X.prog X.w) (J3.kIn) LT hb1
    have named : ∀ {Q : Value → Shared → Prop} {E : Value → Shared → Prop}, Q c { s' with heap := h3 } → wpAny (model X.prog X.w) (X.A.mark (some (.ref a))) (eval (.Name x np) X.env) Q E { s' with heap := h3 } := fun q => by
      obtain ⟨hg, hdbg, hm | ⟨hm, hv, hnn⟩⟩ := hc
      · exact ld_glob (X := X.suite a ((a, oe3) :: (X.pn ++ pins))) S3 hg hm q hdbg
      · exact ld_blt (X := X.suite a ((a, oe3) :: (X.pn ++ pins))) S3 hg hm hv q hnn hdbg
    refine named (LM.here ?_)
    cases b with
    | false => exact ih (no rfl)
    | true =>
      refine codeAny_handlers_suite_as (HandSPX.lands_againZ fl fun h4 fl4 up4 => ?_)
      have J4 : Inv X pins σ H { s' with heap := h4 } := J.landed nb fl4.1 (up.trans up4) os ag
      obtain ⟨oe4, vs4, he4, hz4, hd4⟩ := fl4.there
      refine store_ok (X := X.suite a ((a, oe4) :: (X.pn ++ pins))) (v := .ref a) (J4.suite he4 hd4 na nL nF) hN hi (.inl hln) rfl (fun s5 S5 => ?_) (.inr hln)
      refine wpAny_mono ((hsu a oe4 cls d (X.pn ++ pins) hz4 ⟨_, hd4⟩).run [] s5 _ H _ S5 (yes rfl a na)) (fun f s6 hsp => ?_) (fun _ _ z => False.elim z)
      have last : ∀ {σ6 : St} {H6 : Hp} {Q : Shared → Prop}, Inv (X.suite a ((a, oe4) :: (X.pn ++ pins))) [] σ6 H6 s6 → (∀ s7, Inv X pins (σ6.set i none) H6 s7 → Q s7) →
          wpAny (model X.prog X.w) X.A (do bindName X.env n .none; unbindBehindTheSuite X.env n pos') (fun _ s7 => Q s7) X.xe s6 := fun S6 hq => gone_ok (S6.unsuite ok) hN hi hln hq
      cases f with
      | ret u =>
        obtain ⟨v6, σ6, H6, S6, r6, q6⟩ := hsp
        exact last S6 fun s7 J7 => ⟨_, _, _, J7, r6, q6⟩
      | next =>
        obtain ⟨σ6, H6, S6, q6⟩ := hsp
        exact last S6 fun s7 J7 => ⟨_, _, J7, q6⟩
      | brk =>
        obtain ⟨σ6, H6, S6, q6⟩ := hsp
        exact last S6 fun s7 J7 => ⟨_, _, J7, q6⟩
      | cont =>
        obtain ⟨σ6, H6, S6, q6⟩ := hsp
        exact last S6 fun s7 J7 => ⟨_, _, J7, q6⟩
theorem ps_try_all (hs : X.stack = X.env :: X.outer) (hf : X.env.frame = some X.env.locals) (hN : X.N.Nodup) (hi : X.N[i]? = some n) (hln : X.env.kindOf n = some .local) (tk : L2N.Takes X Wout)
    (hb : ∀ (W : WX) (pn : List (Addr × Obj)) (xe : Value → Shared → Prop), L2N.Takes (X.tr pn xe) W → PassesOwn (model X.prog X.w) X.A X.env xe → PSs (X.tr pn xe) body (tb W))
    (hh : Hds X n (h0 :: hds) l) : PS X (.Try body (h0 :: hds) [] [] pos) (fun D σ H => tb (wAll X.K i Wout D l) D σ H) := by
  refine ⟨fun pins s σ H D I h => ?_⟩
  have ok := I.ok
  have hfr : X.A.frames = some (X.env :: X.outer) := by rw [ok.frames, hs]
  refine wpAny_Try_except (wpAny_mono ((hb (wAll X.K i Wout D l) (X.pn ++ pins) (fun e s₁ => wpAny (model X.prog X.w) X.A (noteFrame e X.env) (fun _ s₂ => wpAny (model X.prog X.w) X.A (setFlight e none) (fun _ s₃ =>
    wpAny (model X.prog X.w) X.A (handleBy e X.env (h0 :: hds)) (SP X pins D) X.xe s₃) X.xe s₂) X.xe s₁) (fun u s' xx => ?_) PassesOwn.looking).run [] s σ H D (I.toTry _) h) (fun f s1 hsp => ?_) (fun e s1 he => he))
  · obtain ⟨a, B, sI, pins', σ', H', cls, d, rfl, J', nb, up, sky, na, os, ag, w⟩ := xx
    show wpAny (model X.prog X.w) X.A (noteFrame (.ref a) X.env) _ _ _
    exact L2N.Sky.land L2N.Zn.steady hfr hf (by rw [← hs]; exact sky) fun h3 fl3 up3 => clauses hN hi hln hs hf tk (J'.ofTry ok) nb fl3 (up.trans up3) os ag na hh w
  · cases f with
    | ret u =>
      obtain ⟨v, σ', H', J', r, q⟩ := hsp
      exact ⟨v, σ', H', J'.ofTry ok, r, q⟩
    | next =>
      obtain ⟨σ', H', J', q⟩ := hsp
      exact wpAny_execs_nil ⟨σ', H', J'.ofTry ok, q⟩
    | brk =>
      obtain ⟨σ', H', J', q⟩ := hsp
      exact ⟨σ', H', J'.ofTry ok, q⟩
    | cont =>
      obtain ⟨σ', H', J', q⟩ := hsp
      exact ⟨σ', H', J'.ofTry ok, q⟩
end
end LqX
end L2


set_option Elab.async false
set_option linter.all false
set_option maxRecDepth 100000
set_option maxHeartbeats 4000000
namespace PySem
namespace LqX
open PySem.W PySem.Calls PyProof.Rows
section
variable {prog : Program} {w : World} {A : Around} {E : Value → Shared → Prop} {s : Shared} {K : Frag} {x D : Addr} {ox : Obj}
/-- e.__class__ of an exception, with or without a dict -/
theorem class_run {od : Option Obj} {Q : Option Value → Shared → Prop} (hga : findIn K (.ref D) "__getattribute__" = some (some (.builtin "BaseException.__getattribute__"))) (hgt : findIn K (.ref D) "__getattr__" = some none) (hsub : subIn K (.ref D) (.type "BaseException") = some true)
    (hdct : hasDictIn K D = true) (ha : findIn K (.ref D) "__class__" = some (some (.builtin "object.__class__"))) (hn : specialIn K (.builtin "object.__class__") "__get__" = some (some (.builtin "getset_descriptor.__get__"))) (htk : takesIn K (.builtin "object.__class__") = some true)
    (hm : mroIn K D (.type "object") = some true) (X : K.In s.heap) (I : W.InstAt s.heap x ox D od) (h : Q (some (.ref D)) { s with toks := s.toks + 1 }) : wpAny (model prog w) A (getAttr? (.ref x) "__class__") Q E s := by
  have hf : findObj K D od "__class__" = some (.bind (.builtin "getset_descriptor.__get__") (.builtin "object.__class__")) := by
    obtain ⟨cd, hc, _⟩ := any_some hdct
    unfold findObj
    rw [hc, Option.bind_some, ha, Option.bind_some]
    simp [hn, htk]
  obtain ⟨hp, g, d, t, os⟩ := s
  have l0 := I.type (M := model prog w)
  have l1 := looks_findIn (M := model prog w) X hga
  have l2 := looks_findIn (M := model prog w) X hgt
  have l3 := looks_find (M := model prog w) X I hf
  have sb : Looks (model prog w) hp (isInstance (.ref x) (.type "BaseException")) true := l0.andThen (looks_subIn X hsub)
  have n1 : (Value.builtin "BaseException.__getattribute__" == Value.builtin "object.__getattribute__") = false := by decide +kernel
  have n2 : (onTheHeap (Value.ref D) && Value.builtin "BaseException.__getattribute__" == Value.builtin "object.__getattribute__") = false := by rw [n1]; rfl
  have n3 : (false && onTheHeap (Value.builtin "BaseException.__getattribute__")) = false := rfl
  unfold getAttr? getAttrBy? getAttrBy
  refine wpAny_bind (wpAny_mkText (wpAny_bind (wpAny_attempt (wpAny_holding (wpAny_bind (l0.at (wpAny_bind (l1.at ?_))))))))
  show wpAny _ _ (if (onTheHeap (Value.ref D) && Value.builtin "BaseException.__getattribute__" == Value.builtin "object.__getattribute__") = true then _ else _) _ _ _
  rw [n2, if_neg Bool.false_ne_true]
  unfold getAttrByItsOwn hookBefore
  refine wpAny_bind ?_
  have n4 : onTheHeap (Value.ref D) = true := rfl
  rw [if_pos n4]
  refine l2.at (wpAny_bind (wpAny_attempt (wpAny_holding ?_)))
  unfold callGetattribute
  rw [n3, if_neg Bool.false_ne_true]
  unfold boundAndCalled
  rw [PySem.F.excAttr_ValueError.ga.bind (.ref x)]
  refine wpAny_bind (wpAny_pure ?_)
  show wpAny _ _ (call (.builtin "BaseException.__getattribute__") [.ref x, .str "__class__" t]) _ _ _
  refine wpAny_call (codeAny_call_builtin PySem.F.excAttr_ValueError.ga.plain PySem.F.entry_bexc_ga (@check_slot (model prog w) _ _ ⟨hp, g, d, t + 1, os⟩ "BaseException.__getattribute__" "BaseException" "__getattribute__" (.ref x) [.str "__class__" t] [] _ (by decide +kernel) (by decide +kernel) sb (PySem.F.args_bexc_ga (.ref x) (.str "__class__" t)) ?_))
  unfold Builtin.«object.__getattribute__»
  refine wpAny_bind (wpAny_of_eq (a := ((Value.ref x : Value), [Value.str "__class__" t])) (by first | rfl | (simp only [slotArgs]; rfl)) (wpAny_bind (wpAny_pure (wpAny_bind (l0.at (wpAny_bind (l3.at ?_)))))))
  show wpAny _ _ (holding [Value.builtin "object.__class__"] (call (.builtin "getset_descriptor.__get__") [.builtin "object.__class__", .ref x, .ref D]) >>= ret) _ _ _
  refine wpAny_bind (wpAny_holding (wpAny_call (class_get (s := ⟨hp, g, d, t + 1, os⟩) (ox := ox) (od := od) X I hm (wpAny_pure ?_))))
  show wpAny _ _ (handedOut (.ref D)) _ _ _
  rw [handedOut_of (v := .ref D) rfl]
  first
    | exact wpAny_pure (wpAny_pure h)
    | exact wpAny_pure h
    | exact wpAny_pure (wpAny_bind (wpAny_pure (wpAny_pure h)))
theorem kit_exc (hga : findIn K (.ref D) "__getattribute__" = some (some (.builtin "BaseException.__getattribute__"))) (hgt : findIn K (.ref D) "__getattr__" = some none) (hsub : subIn K (.ref D) (.type "BaseException") = some true) (hdct : hasDictIn K D = true)
    (ha : findIn K (.ref D) "__class__" = some (some (.builtin "object.__class__"))) (hn : specialIn K (.builtin "object.__class__") "__get__" = some (some (.builtin "getset_descriptor.__get__"))) (htk : takesIn K (.builtin "object.__class__") = some true)
    (hm : mroIn K D (.type "object") = some true) : KitX K (.ref x) (.ref D) (fun h => ∃ od, W.InstAt h x ox D od) := by
  have key := handS_kitx_exc (x := x) (ox := ox) hga hgt hsub hdct ha hn htk hm
  refine ⟨fun _ _ _ ⟨_, I⟩ => I.type, fun M h X ⟨_, I⟩ => ?_, key.ne, fun X ⟨_, I⟩ k => class_run hga hgt hsub hdct ha hn htk hm X I k⟩
  obtain ⟨cd, hc, _⟩ := any_some hdct
  unfold clsIn at hc
  split at hc
  · rename_i c' d' cd' sl' ho
    intro A' Q' E' s' k q
    unfold isType loadHead
    exact wpAny_bind (wpAny_loadPart (k _ _ (X _ _ ho)) (wpAny_pure q))
  · cases hc
end
end LqX
end PySem
/-! Defs that are called in an except suite and are handed the exception -/
namespace L2
namespace LqX
open PySem PySem.Spec PyProof.Rows L2H
/-- the exception at a, as the suite holds it -/
structure Hnd (A : Around) (a : Addr) (cls : Value) (d : Option Addr) (oe : Obj) : Prop where
  hot : Hot1 A (a, oe)
  z : L2N.Zn cls d oe
  fl : ∃ vs, oe.data = .fields vs
theorem hnd_suite {A : Around} {a : Addr} {cls : Value} {d : Option Addr} {oe : Obj} (z : L2N.Zn cls d oe) (fl : ∃ vs, oe.data = .fields vs) : Hnd (A.mark (some (.ref a))) a cls d oe := by
  obtain ⟨vs, e⟩ := fl
  exact ⟨⟨rfl, vs, e, z.2.2 vs e⟩, z, ⟨vs, e⟩⟩
/-- a def's promise while the exception at a (of the class cls, its dict d) is handled -/
structure FnE (P : Program) (w : World) (K : PySem.W.Frag) (mg : Str → Option Value) (base : Heap) (k : Nat) (f : Addr) (fd : FuncData) (ps : List Str) (a : Addr) (cls : Value) (d : Option Addr) (sp : Sp) : Prop where
  len : ∀ vs H Q E, sp vs H Q E → vs.length = ps.length
  run : ∀ (A : Around) (outer : List Env) (s : Shared) (H : Hp) (args : Args) (us : List Value) (vs : List V) (Q : VK) (E : XK) (oe : Obj), RoomH k A → Hnd A a cls d oe → PinOk outer H s (a, oe) → Env0 P w K mg base A outer s H →
    BindsTo s fd args (ps.zip us) → Vals vs us → sp vs H Q E → codeAny (model P w) A (.call (.ref f) args) (CR CX0 outer P w H s Q E) s
theorem Fun.okE {P : Program} {w : World} {K : PySem.W.Frag} {mg : Str → Option Value} {base : Heap} {x qual : Str} {st : Stmt} {f : Addr} {fd : FuncData} {N ps : List Str} {k : Nat} {a : Addr} {cls : Value} {d : Option Addr} {sp : Sp} (F : Fun K x qual st f fd) (S : FnScope N ps (defScope st))
    (len : ∀ vs H Q E, sp vs H Q E → vs.length = ps.length)
    (body : ∀ (cdv : Value) (A : Around) (outer : List Env) (s : Shared) (H : Hp) (vs : List V) (Q : VK) (E : XK) (oe : Obj), Hnd A a cls d oe → RoomH k (A.deeper (envOfC qual (defScope st) s.heap.objs.size f cdv)) → sp vs H Q E →
      ∃ t, PSs (cxH CX0 P w K mg base N qual (defScope st) f cdv A outer s H E (a, oe)).nox (defBody st) t ∧ t { nx := fun _ H' => Q .non H', rt := Q } (L2.start N vs) H) : FnE P w K mg base (k + 1) f fd ps a cls d sp := by
  obtain ⟨oc, od, kV, doc, pm, an, cdv, ct, osl, rfl, lk, hcd⟩ := F.ex
  refine ⟨len, fun A outer s H args us vs Q E oe hr hn pin e0 bnd r want => ?_⟩
  have KX : K.In s.heap := e0.mod.kin.keeps fun b o e => (e0.bs b o e).1
  have lim : s.heap.NoLimit := e0.mod.nolimit.keeps fun b o e => (e0.bs b o e).1
  have kinds : ∀ y ∈ ps.zip us, (defScope st).names.lookup y.1 = some .local ∨ ((defScope st).names.lookup y.1 = some .cell ∧ ((cellsFrom (s.heap.objs.size + 1) (defScope st).names []).lookup y.1).isSome = true) := by
    rintro ⟨n, v⟩ hy
    exact (S.par n (List.of_mem_zip hy).1).elim .inl fun q => .inr ⟨q, PySem.W.cellsFrom_some _ _ _ (.inl q)⟩
  refine codeAny_call_function hr.depth (KX _ _ lk) rfl S.co S.gen rfl (PySem.W.codeRec_of KX hcd) (bnd _ _ _ _ ?_)
  refine wpAny_newFunctionEnv_cells S.kind kinds fun env he s1 x => ?_
  subst he
  refine ⟨lim.keeps x.toInCall.keep, codeAny_func ?_⟩
  obtain ⟨t, ht, ok⟩ := body cdv A outer s H vs Q E oe hn (hr.deeper _) want
  have I : Inv (cxH CX0 P w K mg base N qual (defScope st) f cdv A outer s H E (a, oe)) [] (L2.start N vs) H s1 := inv_startH S pin e0 (len _ _ _ _ want) r x
  refine wpAny_mono (ht.nox.run [] s1 (L2.start N vs) H _ I ok) (fun fl s' hs => ?_) fun e s' hs => hs
  cases fl with
  | ret u =>
    obtain ⟨v, σ', H', J, rv, q⟩ := hs
    exact ⟨v, H', J.os, J.bare, J.base, J.hok, rv, q⟩
  | next =>
    obtain ⟨σ', H', J, q⟩ := hs
    exact ⟨V.non, H', J.os, J.bare, J.base, J.hok, rfl, q⟩
  | brk => exact hs.elim fun _ z => z.elim fun _ z => z.2.elim
  | cont => exact hs.elim fun _ z => z.elim fun _ z => z.2.elim
section
variable {X : Cx} {k : Nat} {f : Addr} {fd : FuncData} {ps : List Str} {sp : Sp} {x : Str} {q pos : Pos} {e : Expr} {es : List Expr} {t : TA} {a : Addr} {cls : Value} {d : Option Addr} {oe : Obj}
/-- f(e, ..) in the suite -/
theorem pe_callE (F : FnE X.prog X.w X.K X.mg X.base k f fd ps a cls d sp) (hr : RoomH k X.A) (hn : Hnd X.A a cls d oe) (hp : (a, oe) ∈ X.pn) (hg : Gl X x) (hm : X.mg x = some (.ref f)) (hk : PySem.W.keepIn X.K (.ref f) = true) (hb : Binds X.K fd ps [])
    (ha : PA X (e :: es) t) (hdb : (x == ("__debug__" : Str)) = false := by decide) (he : starEach (e :: es) X.env = (false, eval e X.env) :: starEach es X.env := by rfl) (hpl : (backTo pos (starEach es X.env)).any (·.1) = false := by rfl) :
    PE X (.Call (.Name x q) (e :: es) [] pos) (fun σ H Q => t σ H fun vs H1 => sp vs H1 Q E0) := by
  refine ⟨fun pins s σ H Q I h => ?_⟩
  refine wpAny_Call_Name_kw (ld_glob I hg hm ?_ hdb)
  refine PySem.W.callWith_K (h₀ := X.base) I.ok.mod.kin hk (thn (ha.run pos pins s σ H _ I h) fun us s1 ⟨vs, H1, I1, r, w⟩ => ⟨I1.kIn, ?_⟩) he hpl
  have hl : us.length = ps.length := by rw [← r.length]; exact F.len _ _ _ _ w
  have b := hb s1 us I1.kIn (by rw [List.append_nil]; exact hl)
  rw [List.append_nil] at b
  have P1 := I1.pin (a, oe) (List.mem_append_left _ hp)
  have pin : PinOk X.stack H1 s1 (a, oe) := ⟨P1.1, P1.2.1, fun hm => (List.mem_cons.mp (I1.stkSub a hm)).elim P1.2.2.1 P1.2.2.2.1, P1.2.2.2.2⟩
  refine wpAny_call (codeAny_mono (F.run X.A X.stack s1 H1 ⟨us, []⟩ us vs Q E0 oe hr hn pin I1.env0 b r w) fun r s' hq => ?_)
  cases r with
  | error e => exact False.elim hq
  | ok fl =>
    cases fl with
    | ret u => exact I1.after hq
    | next => exact False.elim hq
    | brk => exact False.elim hq
    | cont => exact False.elim hq
/-- its dict, if it has one, is tracked -/
def DAt (H : Hp) (d : Option Addr) : Prop := ∀ dd, d = some dd → ∃ fs, H dd = some (.xd fs)
theorem inst_at {pins : List (Addr × Obj)} {σ : St} {H : Hp} {s : Shared} {D : Addr} (I : Inv X pins σ H s) (hp : (a, oe) ∈ X.pn) (hz : Zc (.ref D) d oe) (hf : ∃ vs, oe.data = .fields vs) (hd : DAt H d) : ∃ od, PySem.W.InstAt s.heap a oe D od := by
  obtain ⟨hget, _⟩ := I.pin (a, oe) (List.mem_append_left _ hp)
  obtain ⟨vs, hv⟩ := hf
  obtain ⟨oc, od, oda, osl⟩ := oe
  obtain ⟨h1, h2⟩ := hz
  dsimp only at h1 h2 hv
  subst h1 h2 hv
  cases od with
  | none => exact ⟨none, hget, rfl, rfl, trivial⟩
  | some dd =>
    obtain ⟨fs, e⟩ := hd dd rfl
    have z : ObjOk X.prog X.w H s.heap dd (.xd fs) := I.hok dd _ e
    obtain ⟨mA, ⟨o2, _, _, ho2, _⟩, _⟩ := z
    exact ⟨some o2, hget, rfl, rfl, ho2⟩
/-- isinstance(e, c) of the exception at a, of the class at D -/
def rIsX (K : PySem.W.Frag) (D a : Addr) (d : Option Addr) : List V → Hp → VK → Prop := fun xs H Q => ∃ (c : V) (cv : Value) (b : Bool), xs = [.ref a, c] ∧ (∀ u, RelV c u → u = cv) ∧ DAt H d ∧ PySem.W.kitOne K (.ref D) cv = some b ∧ Q (.bl b) H
theorem call_isX {D : Addr} (C : ExcC X.K D) (hp : (a, oe) ∈ X.pn) (hz : Zc (.ref D) d oe) (hf : ∃ vs, oe.data = .fields vs) : CallR X (.builtin "isinstance") (rIsX X.K D a d) := by
  intro pins s σ H xs us Q I r h
  obtain ⟨c, cv, b, rfl, hcv, hd, e, q⟩ := h
  cases r with
  | cons rx rr =>
    cases rr with
    | cons rt rr =>
      cases rr
      cases rx
      have ec := hcv _ rt
      subst ec
      exact PySem.W.kia_one (PySem.LqX.kit_exc C.hg C.hk C.hs C.hd C.ha C.hn C.ht C.hm) I.kIn (inst_at I hp hz hf hd) e (fun z => nomatch z) fun tk => ⟨.bl b, H, I.kept (t' := tk) fun _ _ z => z, rfl, q⟩
/-- e.f of the exception at a -/
def tFldX (a : Addr) (d : Option Addr) (f : Str) (te : TE) : TE := fun σ H Q => te σ H fun x H1 => x = .ref a ∧ ∃ (dd : Addr) (fs : List (Str × V)) (v : V), d = some dd ∧ H1 dd = some (.xd fs) ∧ fs.lookup f = some v ∧ Q v H1
theorem pe_fldX {D : Addr} {n : Str} {te : TE} (T : XfC X.K D) (hno : PySem.W.findIn X.K (.ref D) n = some none) (hp : (a, oe) ∈ X.pn) (hz : Zc (.ref D) d oe) (hf : ∃ vs, oe.data = .fields vs) (he : PE X e te)
    (hb : attributeBase e n X.env (eval e X.env) = eval e X.env := by rfl) : PE X (.Attribute e n pos) (tFldX a d n te) := by
  refine ⟨fun pins s σ H Q I h => ?_⟩
  refine attr_of hb (thn (he.run pins s σ H _ I h) fun u s1 hh => ?_)
  obtain ⟨x, H1, I1, rx, ex, dd, fs, v, ed, ea, l, q⟩ := hh
  subst ex ed
  obtain rfl : u = Value.ref a := rx
  obtain ⟨ha, _⟩ := I1.pin (a, oe) (List.mem_append_left _ hp)
  obtain ⟨vs, hv⟩ := hf
  have hx : ObjOk X.prog X.w H1 s1.heap dd (.xd fs) := I1.hok dd _ ea
  obtain ⟨mA, hns, hr⟩ := hx
  obtain ⟨od, ho, hl⟩ := lookIn_ns hns
  obtain ⟨u, hu, ru⟩ := RelO.some_of (v := v) (o := mA n) (by rw [← l]; exact hr n)
  have J : PySem.W.InstAt s1.heap a oe D (some od) := ⟨ha, hz.1, by unfold PySem.W.notCls; rw [hv] <;> rfl, by rw [hz.2]; exact ho⟩
  exact HandSPX.exc_get I1.kIn J T.ga T.gg T.exC (PySem.W.findObj_own T.hdC hno rfl (by rw [hl, hu])) (handed_of ru) ⟨v, H1, I1.tok _, ru, q⟩
end
end LqX
end L2


set_option Elab.async false
set_option linter.all false
set_option maxRecDepth 100000
set_option maxHeartbeats 4000000
/-! Walks and a comprehension while an exception is handled -/
namespace PySem
namespace LqX
open HotX
section
variable {prog : Program} {w : World} {A : Around} {E : Value → Shared → Prop} {s : Shared} {x1 : Addr}
theorem stopNew {Q : Value → Shared → Prop} (k : ∀ h2 e vs, (∀ b o, s.heap.get? b = some o → h2.get? b = some o) → s.heap.objs.size ≤ e → h2.get? e = some { cls := .type "StopIteration", data := .fields vs } → 2 < vs.size → Q (.ref e) { s with heap := h2 }) :
    wpAny (model prog w) A (newExc (.type "StopIteration") []) Q E s := by
  simp only [newExc, newTuple]
  refine wpAny_bind (wpAny_newObj_type (wpAny_bind (m := firstArgMember _ _) (wpAny_of_eq (a := Value.none) (by first | rfl | (simp only [firstArgMember]; rfl)) (wpAny_newObj_type ?_ (by size_fits)))) (by size_fits))
  refine k _ _ _ (fun b o z => Heap.get?_push_of_some _ (Heap.get?_push_of_some _ z)) ?_ (Heap.get?_push_size _ rfl) (by first | (simp; done) | (simp; omega) | (simp only [Array.size_append]; simp; omega))
  rw [Heap.size_push]
  exact Nat.le_succ _
theorem stopHot {α : Type} {Q : α → Shared → Prop} (hot : HotAt A x1 s.heap) (k : ∀ h2 e, (∀ b o, s.heap.get? b = some o → h2.get? b = some o) → (∃ o, h2.get? e = some o ∧ o.cls = .type "StopIteration") → E (.ref e) { s with heap := h2 }) :
    wpAny (model prog w) A (newExc (.type "StopIteration") [] >>= fun x => (raiseNew x : Sem α)) Q E s := by
  obtain ⟨hh, o1, v1, g1, d1, c1⟩ := hot
  refine wpAny_bind (stopNew fun h2 e vs kp le ge sz => ?_)
  have ne : x1 ≠ e := Nat.ne_of_lt (Nat.lt_of_lt_of_le (Heap.lt_size g1) le)
  refine raiseNew_hot (s := { s with heap := h2 }) ⟨hh, o1, v1, kp _ _ g1, d1, c1⟩ ne ge rfl sz (k _ e (fun b o z => ?_) ⟨_, Heap.get?_update_self _ ge rfl, rfl⟩)
  rw [Heap.get?_update_other _ _ (Nat.ne_of_gt (Nat.lt_of_lt_of_le (Heap.lt_size z) le))]
  exact kp b o z
theorem hotAt_keep {h2 : Heap} (hot : HotAt A x1 s.heap) (kp : ∀ b o, b = x1 → s.heap.get? b = some o → h2.get? b = some o) : HotAt A x1 h2 := by
  obtain ⟨hh, o1, v1, g1, d1, c1⟩ := hot
  exact ⟨hh, o1, v1, kp _ _ rfl g1, d1, c1⟩
/-- a tuple's walk is at its end -/
theorem tupleEnd {it t : Addr} {i : Nat} {items} {Q : Option Value → Shared → Prop} (hot : HotAt A x1 s.heap) (hit : s.heap.IsTupleIter it t i) (ht : s.heap.IsTuple t items) (hx : items[i]? = none) (hne : x1 ≠ it)
    (k : ∀ h2, Heap.ExtBut it s.heap h2 → Q none { s with heap := h2 }) : wpAny (model prog w) A (pyNext (.ref it)) Q E s := by
  obtain ⟨o, ho, hc, hd⟩ := id hit
  obtain ⟨ol, hol, _, nl, hdl⟩ := ht
  unfold pyNext
  refine wpAny_bind (wpAny_attempt (wpAny_callSpecial?_slot (name := Str.ofString "__next__") hit.typeIs F.slot_tuple_iterator_next (wpAny_call_entry F.slot_tuple_iterator_next hit.typeIs F.entry_tuple_iterator_next ?_ (F.args_tuple_iterator_next_1 _))))
  show wpAny _ _ (field (.ref it) 0 >>= _) _ _ s
  refine wpAny_bind (wpAny_field ho hd (x := .ref t) rfl ?_)
  have nn : ¬ ((Value.ref t == Value.none) = true) := Bool.false_ne_true
  show wpAny _ _ (if (Value.ref t == Value.none) = true then _ else _) _ _ s
  rw [if_neg nn]
  show wpAny _ _ (field (.ref it) 1 >>= _) _ _ s
  refine wpAny_bind (wpAny_field ho hd (x := .int i 0) rfl ?_)
  show wpAny _ _ (seqItems? (.ref t) >>= _) _ _ s
  refine wpAny_bind (wpAny_seqItems hol hdl ?_)
  simp only [Int.toNat_natCast, hx]
  refine wpAny_bind (wpAny_rule (wpAny_bind (wpAny_setField ho hd (by simp) ?_)))
  show wpAny _ _ (newExc (.type "StopIteration") [] >>= _) _ _ _
  refine stopHot (x1 := x1) (hotAt_keep hot fun b u z e => ?_) fun h2 e kp ex => ?_
  · exact (Heap.get?_update_other _ _ (fun y => hne (z.symm.trans y.symm))).trans e
  · obtain ⟨o2, ho2, hc2⟩ := ex
    refine wpAny_bind (wpAny_isInstance (T := "StopIteration") (b := true) ⟨o2, ho2, hc2⟩ isSubtype_stop (wpAny_pure (k h2 fun b u nb e2 => kp b u ((Heap.get?_update_other _ _ (Ne.symm nb)).trans e2))))
theorem unpackHot {t : Addr} {items : Array Value} {Q : List Value → Shared → Prop} (hot : HotAt A x1 s.heap) (ht : s.heap.IsTuple t items)
    (k : ∀ h2, Heap.ExtBut s.heap.objs.size s.heap h2 → Q items.toList { s with heap := h2 }) : wpAny (model prog w) A (unpackItems (.ref t) items.size none) Q E s := by
  have nt : t ≠ s.heap.objs.size := by
    obtain ⟨o, ho, _⟩ := ht
    exact Nat.ne_of_lt (Heap.lt_size ho)
  have nx : x1 ≠ s.heap.objs.size := by
    obtain ⟨_, o, _, ho, _⟩ := hot
    exact Nat.ne_of_lt (Heap.lt_size ho)
  unfold unpackItems notIterableAtAll
  refine wpAny_bind (wpAny_bind (wpAny_specialOf ht.typeIs F.slot_tuple_iter.lookup (wpAny_pure ?_)))
  simp only [Bool.false_eq_true, if_false]
  refine wpAny_bind (wpAny_holding (wpAny_pyIter_tuple ht (wpAny_bind (wpAny_holding (wpAny_draw_tuple nt items.size 0 _ _ ⟨_, Heap.get?_push_size _ rfl, rfl, rfl⟩ (ht.push _) (by omega) fun h1 hit1 sb1 => ?_)))))
  have all : List.take items.size (List.drop 0 items.toList) = items.toList := by
    rw [List.drop_zero]
    exact List.take_of_length_le (by simp)
  rw [all, if_neg (by simp)]
  have hot1 : HotAt A x1 h1 := hotAt_keep hot fun b u z e => sb1.extBut b u (by rw [z]; exact nx) (Heap.get?_push_of_some _ e)
  refine wpAny_bind (wpAny_holding (tupleEnd (s := { s with heap := h1 }) hot1 hit1 ((ht.push _).extBut sb1.extBut nt) (by simp) nx fun h2 ext2 => ?_))
  simp only [Option.isSome_none, Bool.false_eq_true, if_false]
  exact wpAny_pure (k h2 fun b u nb e => ext2 b u nb (sb1.extBut b u nb (Heap.get?_push_of_some _ e)))
theorem assignHot {env : Env} {elts : List Expr} {y1} {pos : Pos} {t : Addr} {items : Array Value} {Q : Unit → Shared → Prop} (hot : HotAt A x1 s.heap) (ht : s.heap.IsTuple t items) (hn : (assignEach elts env).length = items.size) (hst : (assignEach elts env).findIdx? (·.1) = none)
    (k : ∀ h2, Heap.ExtBut s.heap.objs.size s.heap h2 → wpAny (model prog w) A (assignInOrder ((assignEach elts env).map (·.2)) items.toList) Q E { s with heap := h2 }) : wpAny (model prog w) A (assign (.Tuple elts y1 pos) env (.ref t)) Q E s := by
  rw [arm_assign_Tuple]
  refine wpAny_bind (wpAny_standAt ?_)
  unfold unpack
  rw [hn, hst]
  exact wpAny_bind (wpAny_holding (unpackHot hot ht k))
/-- a list's walk under enumerate is at its end -/
theorem enumEnd {e it l : Addr} {i : Nat} {items : Array Value} {old : Value} {Q : Option Value → Shared → Prop} (hot : HotAt A x1 s.heap) (he : IsEnum s.heap e it i old) (hit : s.heap.IsListIter it l i) (hl : s.heap.IsList l items) (hx : items[i]? = none) (hne : x1 ≠ it)
    (k : ∀ h2, Heap.ExtBut it s.heap h2 → Q none { s with heap := h2 }) : wpAny (model prog w) A (pyNext (.ref e)) Q E s := by
  have ty : s.TypeIs (.ref e) "enumerate" := ⟨_, he, rfl⟩
  obtain ⟨o, ho, hc, hd⟩ := id hit
  obtain ⟨ol, hol, _, nl, hdl⟩ := hl
  unfold pyNext
  refine wpAny_bind (wpAny_attempt (wpAny_callSpecial?_slot (name := Str.ofString "__next__") ty F.slot_enumerate_next (wpAny_call_entry F.slot_enumerate_next ty F.entry_enumerate_next ?_ (F.args_enumerate_next_1 _))))
  show wpAny _ _ (field (.ref e) 2 >>= _) _ _ _
  refine wpAny_bind (wpAny_field he rfl (x := .ref it) rfl (wpAny_bind ?_))
  unfold Builtin.SmallTypes.nextOf
  refine wpAny_bind (wpAny_callSpecial?_slot (name := Str.ofString "__next__") hit.typeIs slot_listiter_next (wpAny_call_entry slot_listiter_next hit.typeIs entry_listiter_next ?_ (args_listiter_next _)))
  show wpAny _ _ (field (.ref it) 0 >>= _) _ _ s
  refine wpAny_bind (wpAny_field ho hd (x := .ref l) rfl ?_)
  have nn : ¬ ((Value.ref l == Value.none) = true) := Bool.false_ne_true
  show wpAny _ _ (if (Value.ref l == Value.none) = true then _ else _) _ _ s
  rw [if_neg nn]
  show wpAny _ _ (field (.ref it) 1 >>= _) _ _ s
  refine wpAny_bind (wpAny_field ho hd (x := .int i 0) rfl ?_)
  show wpAny _ _ (seqItems? (.ref l) >>= _) _ _ s
  refine wpAny_bind (wpAny_seqItems hol hdl ?_)
  simp only [Int.toNat_natCast, hx]
  refine wpAny_bind (wpAny_rule (wpAny_bind (wpAny_setField ho hd (by simp) ?_)))
  show wpAny _ _ (newExc (.type "StopIteration") [] >>= _) _ _ _
  refine stopHot (x1 := x1) (hotAt_keep hot fun b u z e => ?_) fun h2 e2 kp ex => ?_
  · exact (Heap.get?_update_other _ _ (fun y => hne (z.symm.trans y.symm))).trans e
  · obtain ⟨o2, ho2, hc2⟩ := ex
    exact wpAny_bind (wpAny_isInstance (T := "StopIteration") (b := true) ⟨o2, ho2, hc2⟩ isSubtype_stop (wpAny_pure (k h2 fun b u nb e3 => kp b u ((Heap.get?_update_other _ _ (Ne.symm nb)).trans e3))))
end
end LqX
end PySem
namespace L2
namespace LqX
open PySem PySem.Spec PyProof.Rows L2H
/-- wherever the context's states are, the handled exception stands -/
def HotI (X : Cx) : Prop := ∀ (pins : List (Addr × Obj)) (σ : St) (H : Hp) (s : Shared), Inv X pins σ H s → ∃ x1, HotX.HotAt X.A x1 s.heap ∧ (∀ b, FpOk X pins H b → x1 ≠ b) ∧ H x1 = none ∧ x1 ∉ frs X.stack
theorem hotI_of {X : Cx} {a : Addr} {cls : Value} {d : Option Addr} {oe : Obj} (hn : Hnd X.A a cls d oe) (hp : (a, oe) ∈ X.pn) : HotI X := fun pins σ H s I => by
  obtain ⟨hh, vs, e, c⟩ := hn.hot
  have hm : (a, oe) ∈ X.pn ++ pins := List.mem_append_left _ hp
  have P := I.pin (a, oe) hm
  exact ⟨a, ⟨hh, oe, vs, P.1, e, c⟩, fun b f => f.2.2.2.2.2 (a, oe) hm, P.2.1, fun z => (List.mem_cons.mp (I.stkSub a z)).elim P.2.2.1 P.2.2.2.1⟩
section
variable {X : Cx} {pos : Pos}
/-- (a, b, ..) = a tuple -/
theorem pg_tupH {es : List Expr} {k : Nat} {t : TGs} {n : Nat} (hot : HotI X) (h : PGs X es t) (hn : (assignEach es X.env).length = n := by rfl) (hst : (assignEach es X.env).findIdx? (·.1) = none := by rfl) : PG X (.Tuple es k pos) (gTup X.K n t) := by
  refine ⟨fun pins s σ H v u Q I r w => ?_⟩
  obtain ⟨a, xs, ea, hq, hl, w⟩ := w
  subst ea
  cases r
  obtain ⟨its, rv, ht, hz⟩ := I.tuple hq
  obtain ⟨x1, ha, _⟩ := hot pins σ H s I
  refine PySem.LqX.assignHot ha (show s.heap.IsTuple a its.toArray from ht) (by simp [hn, ← hl, rv.length]) hst fun h2 ext => ?_
  have I1 : Inv X pins σ H { s with heap := h2 } := I.kept (t' := s.toks) fun b o e => ext b o (Nat.ne_of_lt (Heap.lt_size e)) e
  exact h.run pins _ σ H xs _ Q I1 (by simpa using rv) w
abbrev tnE (a e it : Addr) (i : Nat) (h : Heap) : Prop := (∃ old, IsEnum h e it ((i : Nat) : Int) old) ∧ h.IsListIter it a i ∧ e ≠ it
theorem enum_item {elts : List Expr} {kk : Nat} {tpos : Pos} {a e it : Addr} {i : Nat} {pins : List (Addr × Obj)} {s : Shared} {σ : St} {H : Hp} {E : Value → Shared → Prop} (I : Inv X pins σ H s) (hf : ∀ b ∈ [e, it], FpOk X pins H b) (st : tnE a e it i s.heap) (go : (Ite X.K a).go i H) :
    wpAny (model X.prog X.w) X.A (pyNext (.ref e)) (fun r s1 => ∃ u, r = some u ∧ wpAny (model X.prog X.w) X.A (letOwnedTupleGo (.Tuple elts kk tpos) (.ref e) u) (fun _ s2 => ∃ x H', Inv X pins σ H' s2 ∧ RelV x u ∧ (Ite X.K a).yld i H x H' ∧ tnE a e it (i + 1) s2.heap ∧ ∀ b ∈ [e, it], H' b = none) E s1) E s := by
  obtain ⟨⟨old, he⟩, hit, ne⟩ := st
  obtain ⟨xs, x, hq, hx⟩ := go
  obtain ⟨its, rv, pl, hz⟩ := I.list hq
  obtain ⟨u, hu, ru⟩ := rv.get hx
  have le : e < s.heap.objs.size := Heap.lt_size he
  have li : it < s.heap.objs.size := by
    obtain ⟨_, z, _⟩ := hit
    exact Heap.lt_size z
  refine wpAny_pyNext_enum_item he hit pl.isList (x := u) (by simpa using hu) ne fun h1 out hit1 tup sz kp => ⟨_, rfl, wpAny_letOwnedTupleGo_enum (s := { s with heap := h1, toks := s.toks + 1 }) out fun h2 he2 sb => ?_⟩
  have tup2 := (sb.2 _ (Nat.ne_of_gt le)).trans tup
  have J : Inv X pins σ (upd H s.heap.objs.size (.tup [.int (i : Nat), x])) { s with heap := h2, toks := s.toks + 1 } := by
    refine I.turnedNew (ch := [e, it]) (fun b ob nb z => (sb.2 b (fun y => nb (by simp [y]))).trans (kp b ob (fun y => nb (by simp [y])) (fun y => nb (by simp [y])) z)) hf (Nat.le_refl _) ?_
    exact ⟨by show 2 ≤ sizeLine; decide, [.int i s.toks, u], .cons ⟨_, rfl⟩ (.cons ru .nil), ⟨_, tup2, rfl, _, rfl⟩⟩
  refine ⟨.ref s.heap.objs.size, _, J, rfl, ⟨_, x, rfl, I.hok.fresh (Nat.le_refl _), rfl, fun ys hy => by rw [I.list_inj hy hq]; exact hx⟩, ⟨⟨u, ?_⟩, hit1.at fun o z => (sb.2 it (Ne.symm ne)).trans z, ne⟩, fun b hb => ?_⟩
  · rw [show ((i + 1 : Nat) : Int) = (i : Int) + 1 by omega]
    exact he2
  · have lb : b < s.heap.objs.size := by
      rcases List.mem_cons.mp hb with z | z
      · rw [z]
        exact le
      · rw [List.mem_singleton.mp z]
        exact li
    rw [upd_ne (Nat.ne_of_lt lb)]
    exact (hf b hb).1
theorem enum_done {a e it : Addr} {i : Nat} {pins : List (Addr × Obj)} {s : Shared} {σ : St} {H : Hp} {E : Value → Shared → Prop} (hot : HotI X) (I : Inv X pins σ H s) (hf : ∀ b ∈ [e, it], FpOk X pins H b) (st : tnE a e it i s.heap) (stop : (Ite X.K a).stop i H) :
    wpAny (model X.prog X.w) X.A (pyNext (.ref e)) (fun r s1 => r = none ∧ Inv X pins σ H s1) E s := by
  obtain ⟨⟨old, he⟩, hit, ne⟩ := st
  obtain ⟨xs, hq, hx⟩ := stop
  obtain ⟨its, rv, pl, hz⟩ := I.list hq
  have fi := hf it (by simp)
  obtain ⟨x1, ha, nx, _⟩ := hot pins σ H s I
  have hl := rv.length
  exact PySem.LqX.enumEnd ha he hit pl.isList (by simp; omega) (nx it fi) fun h2 ext => ⟨rfl, I.turned (t' := s.toks) (fun b o nb z => ext b o nb z) fi.1 fi.2.1 fi.2.2.2.1 fi.2.2.2.2.1 fi.2.2.2.2.2⟩
/-- within a comprehension's block -/
theorem hotI_blk {pins : List (Addr × Obj)} {σ : St} {H : Hp} {s : Shared} {scope : Scope} {cenv : Env} {fp : List Addr} (hot : HotI X) (I : Inv X pins σ H s) (hf : ∀ b ∈ fp, FpOk X pins H b) : HotI (X.blk s H scope cenv fp) := fun pins' σ' H' s' I' => by
  obtain ⟨x1, ha, nx, hn, nf⟩ := hot pins σ H s I
  obtain ⟨hh, o, vs, e, d, c⟩ := ha
  have ne : x1 ∉ fp := fun z => nx x1 (hf x1 z) rfl
  refine ⟨x1, ⟨hh, o, vs, I'.base.keep x1 o e hn nf ne, d, c⟩, fun b f => ?_, I'.base.free x1 o e hn ne, nf⟩
  rcases f.2.2.2.1 with z | z
  · exact fun y => ne (y ▸ z)
  · exact Nat.ne_of_lt (Nat.lt_of_lt_of_le (Heap.lt_size e) z)
/-- [elt for a, b in enumerate(e) if ..] while an exception is handled -/
theorem pe_lcE {elt e : Expr} {elts : List Expr} {kk : Nat} {tpos p posE : Pos} {ifs : List Expr} {scope : Scope} {own : List (Str × Nat)} {ta : TA} {g : TG} {tt : TT} {te : TE} (hot : HotI X) (hN : X.N.Nodup) (gl : Gl X "enumerate") (mm : X.mg "enumerate" = none) (ha : PA X [e] ta)
    (ok : BlkOk X.N X.env.scope scope own)
    (hg : ∀ (s : Shared) (H : Hp) (C : Addr) (cl : List (Str × Addr)) (fp : List Addr), HotI (X.blk s H scope (compEnvC scope cl C X.env) fp) → PG (X.blk s H scope (compEnvC scope cl C X.env) fp) (.Tuple elts kk tpos) g)
    (ht : ∀ (s : Shared) (H : Hp) (C : Addr) (cl : List (Str × Addr)) (fp : List Addr), PTs (X.blk s H scope (compEnvC scope cl C X.env) fp) ifs tt)
    (he : ∀ (s : Shared) (H : Hp) (C : Addr) (cl : List (Str × Addr)) (fp : List Addr), PE (X.blk s H scope (compEnvC scope cl C X.env) fp) elt te)
    (hs : ∀ x, foldedSetIterable (.Call (.Name "enumerate" p) [e] [] posE) X.env x = pure x := by intro _; rfl) (hst : starEach [e] X.env = [(false, eval e X.env)] := by rfl) :
    PE X (.ListComp elt [⟨.Tuple elts kk tpos, .Call (.Name "enumerate" p) [e] [] posE, ifs, 0⟩] scope pos) (tLc (iEnum X.K ta) g tt te (own.map (·.2))) := by
  refine ⟨fun pins s σ H Q I h => ?_⟩
  rw [eval_ListComp]
  have hfree : ∀ y ∈ scope.names, y.2 = .free → ∃ c, X.env.cells.lookup y.1 = some c := fun y hy z => (ok.free y hy z).elim (fun q => I.ok.has _ (.inl q)) fun q => I.ok.has _ (.inr q)
  refine wpAny_comprehension_free (use := none) rfl hs (closure_ok hfree) ok.kind (fun y hy z => by rw [ok.uniq y hy, z])
    (Call_ (ld_blt I gl mm boot_enumerate (PyProof.Rows.callWith_type1 (thn (ha.run posE pins s σ H _ I h) fun us s1 ⟨vs, H2, I1, r1, q1⟩ => ?_) hst rfl)))
  obtain ⟨a, xs, ex, hq, q⟩ := q1
  subst ex
  cases r1 with
  | cons r rr =>
  cases rr
  cases r
  obtain ⟨its, rv, pl, hz⟩ := I1.list hq
  refine call_enumerate_list pl.isList fun h1 en li sz kp => wpAny_pyIter_enum en ?_
  have I2 : Inv X pins σ H2 { s1 with heap := h1 } := I1.kept (t' := s1.toks) kp
  generalize hs2 : ({ s1 with heap := h1 } : Shared) = s2 at I2 ⊢
  have hs2h : s2.heap = h1 := by rw [← hs2]
  have tn0 : tnE a (s1.heap.objs.size + 1) s1.heap.objs.size 0 s2.heap := by
    rw [hs2h]
    exact ⟨⟨.none, en⟩, li, Nat.succ_ne_self _⟩
  have f2 : ∀ b ∈ [s1.heap.objs.size + 1, s1.heap.objs.size], FpOk X pins H2 b := fun b hb => by
    have hle : s1.heap.objs.size ≤ b := by
      rcases List.mem_cons.mp hb with z | z
      · rw [z]
        exact Nat.le_add_right _ _
      · exact Nat.le_of_eq (List.mem_singleton.mp z).symm
    exact I1.fpOk hle (I1.hok.fresh hle)
  clear kp li en
  clear sz
  generalize s1.heap.objs.size = i0 at tn0 f2 ⊢
  generalize i0 + 1 = e0 at tn0 f2 ⊢
  have T := turn_enum (P := X.prog) (w := X.w) (K := X.K) (elts := elts) (kk := kk) (tpos := tpos) a e0 i0
  refine wpAny_newObj_type (newEnv_comp ?_) (by show 0 ≤ sizeLine; decide)
  generalize hD : s2.heap.objs.size = D
  obtain ⟨W, ⟨m0, w0⟩, turn⟩ := q D (I2.hok.fresh (Nat.le_of_eq hD))
  generalize hs3 : ({ s2 with heap := s2.heap.push { cls := .type "list", data := .seq ([] : List Value).toArray } } : Shared) = s3
  have h3 : s3.heap = s2.heap.push { cls := .type "list", data := .seq ([] : List Value).toArray } := by rw [← hs3]
  have I3 : Inv X pins σ (upd H2 D (.lst [])) s3 := by
    rw [← hs3]
    refine I2.laid (t' := s2.toks) (fun b o z => Heap.get?_push_of_some _ z) (Nat.le_of_eq hD) ⟨Nat.zero_le _, [], 0, .nil, ?_⟩
    rw [← hD]
    exact Heap.get?_push_size _ rfl
  have lt2 : ∀ b ∈ [e0, i0], b < s2.heap.objs.size := fun b hb => by
    obtain ⟨o, z, _⟩ := T.obj _ _ tn0 b hb
    exact Heap.lt_size z
  have f3 : ∀ b ∈ [e0, i0], FpOk X pins (upd H2 D (.lst [])) b := fun b hb => ⟨by rw [upd_ne (by rw [← hD]; exact Nat.ne_of_lt (lt2 b hb))]; exact (f2 b hb).1, (f2 b hb).2⟩
  have lt3 : ∀ b ∈ [e0, i0], b < s3.heap.objs.size := fun b hb => by
    rw [h3, Heap.size_push]
    exact Nat.lt_succ_of_lt (lt2 b hb)
  have tn3 : tnE a e0 i0 0 s3.heap := T.keep _ _ _ tn0 fun b _ o z => by rw [h3]; exact Heap.get?_push_of_some _ z
  have I4 := block_start I3 ok hN fun b hb => ⟨f3 b hb, lt3 b hb⟩
  show codeAny _ _ (.compStart (.ListComp elt [⟨.Tuple elts kk tpos, .Call (.Name "enumerate" p) [e] [] posE, ifs, 0⟩] scope pos) 0 (.ref e0) (.ref D) (compEnvC scope (cellsFrom (s3.heap.objs.size + 1) scope.names (cloFrom X.env.cells scope.names [])) s3.heap.objs.size X.env)) (compPost (model X.prog X.w) X.A X.xe none _ (.ref D) s3.heap.objs.size) { s3 with heap := pushCells (s3.heap.push { cls := .type "dict", data := .dict #[] }) scope.names }
  have pt := ht s3 (upd H2 D (.lst [])) s3.heap.objs.size (cellsFrom (s3.heap.objs.size + 1) scope.names (cloFrom X.env.cells scope.names [])) [e0, i0]
  have pe := he s3 (upd H2 D (.lst [])) s3.heap.objs.size (cellsFrom (s3.heap.objs.size + 1) scope.names (cloFrom X.env.cells scope.names [])) [e0, i0]
  have hotB : HotI (X.blk s3 (upd H2 D (.lst [])) scope (compEnvC scope (cellsFrom (s3.heap.objs.size + 1) scope.names (cloFrom X.env.cells scope.names [])) s3.heap.objs.size X.env) [e0, i0]) := hotI_blk hot I3 f3
  have pg := hg s3 (upd H2 D (.lst [])) s3.heap.objs.size (cellsFrom (s3.heap.objs.size + 1) scope.names (cloFrom X.env.cells scope.names [])) [e0, i0] hotB
  have nfp : ∀ b ∈ [e0, i0], (upd H2 D (.lst [])) b = none := fun b hb => (f3 b hb).1
  generalize hce : compEnvC scope (cellsFrom (s3.heap.objs.size + 1) scope.names (cloFrom X.env.cells scope.names [])) s3.heap.objs.size X.env = ce at I4 pg pt pe hotB ⊢
  have cL : ce.locals = s3.heap.objs.size := by
    subst hce
    rfl
  generalize hH3 : upd H2 D (.lst []) = H3 at I3 I4 pg pt pe w0 nfp f3 hotB
  generalize hs4 : ({ s3 with heap := pushCells (s3.heap.push { cls := .type "dict", data := .dict #[] }) scope.names } : Shared) = s4 at I4 ⊢
  have tn4 : tnE a e0 i0 0 s4.heap := T.keep _ _ _ tn3 fun b _ o z => by
    rw [← hs4]
    exact pushCells_keeps _ _ _ _ (Heap.get?_push_of_some _ z)
  have stat : ∀ {σ' : St} {H' : Hp} {s' : Shared}, Inv (X.blk s3 H3 scope ce [e0, i0]) [] σ' H' s' → (∀ b ∈ [e0, i0], H' b = none) → ∀ b ∈ [e0, i0], FpOk (X.blk s3 H3 scope ce [e0, i0]) [] H' b := fun J n b hb =>
    ⟨n b hb, (J.ok.exf b hb).1, J.ok.exfs b hb, .inl hb, fun x c z => (J.ok.exf b hb).2 x c z, fun y hy => absurd (show y ∈ ([] : List (Addr × Obj)) ++ [] from hy) (by simp)⟩
  have loop : codeAny (model X.prog X.w) X.A (.compLoop (.ListComp elt [⟨.Tuple elts kk tpos, .Call (.Name "enumerate" p) [e] [] posE, ifs, 0⟩] scope pos) 0 (.ref e0) (.ref D) ce) (compPost (model X.prog X.w) X.A X.xe none (EP X pins σ Q) (.ref D) s3.heap.objs.size) s4 := by
    refine compLoop_any (fun n s' => ∃ i H', Inv (X.blk s3 H3 scope ce [e0, i0]) [] (wipe σ (own.map (·.2))) H' s' ∧ tnE a e0 i0 i s'.heap ∧ (∀ b ∈ [e0, i0], H' b = none) ∧ W i n H') ?_ m0 ⟨0, H3, I4, tn4, nfp, w0⟩
    rintro n s5 ⟨i, H5, I5, tn5, n5, w5⟩
    rcases turn i n H5 w5 with ⟨stop, qq⟩ | ⟨go, Nx, hNx, step⟩
    · refine thnF (enum_done (X := X.blk s3 H3 scope ce [e0, i0]) (E := fun _ _ => False) hotB I5 (stat I5 n5) tn5 stop) fun r s6 ⟨hr, I6⟩ => ?_
      subst hr
      have I7 : Inv X pins σ H5 s6 := I3.call' (ch := [e0, i0]) I6.os I6.base I6.hok I6.bare fun b hb => ⟨(f3 b hb).2.2.2.1, (f3 b hb).2.1, (f3 b hb).2.2.2.2.1, (f3 b hb).2.2.2.2.2⟩
      have nC : H5 s3.heap.objs.size = none := by
        have z : H5 ce.locals = none := I6.free
        rw [cL] at z
        exact z
      obtain ⟨m, hn, _⟩ := I6.loc
      have hn2 : s6.heap.Ns ce.locals m := hn
      rw [cL] at hn2
      obtain ⟨g0, g1, g2, g3, g4, g5⟩ := I3.fpOk (Nat.le_refl _) nC
      exact ⟨m, hn2, fun h9 sb => ⟨.ref D, H5, I7.turned (t' := s6.toks) (fun b o nb z => (sb.2 b nb).trans z) g0 g1 g3 g4 g5, rfl, qq⟩⟩
    · refine thnF (enum_item (X := X.blk s3 H3 scope ce [e0, i0]) (E := fun _ _ => False) (elts := elts) (kk := kk) (tpos := tpos) I5 (stat I5 n5) tn5 go) fun r s6 ⟨u, hr, h6⟩ => ?_
      subst hr
      refine thnF h6 fun _ s7 ⟨x, H7, I7, r7, y7, tn7, n7⟩ => ?_
      have I7' := I7.pinned (stat I7 n7) (T.obj _ _ tn7)
      refine thnF (pg.run _ s7 _ H7 x u _ I7' r7 (step x H7 y7)) fun _ s8 ⟨σ8, H8, I8, hw8, q8⟩ => ?_
      refine thnF (pt.run _ s8 σ8 H8 _ I8 q8) fun b s9 ⟨H9, I9, q9⟩ => ?_
      have fin : ∀ {s' : Shared} {H' : Hp}, Inv (X.blk s3 H3 scope ce [e0, i0]) ([] ++ pinsAt [e0, i0] s7.heap) σ8 H' s' → Nx H' → ∃ m, m < n ∧ ∃ i H', Inv (X.blk s3 H3 scope ce [e0, i0]) [] (wipe σ (own.map (·.2))) H' s' ∧ tnE a e0 i0 i s'.heap ∧ (∀ b ∈ [e0, i0], H' b = none) ∧ W i m H' := fun {s' H'} J nx => by
        obtain ⟨m', hm, w'⟩ := hNx H' nx
        have pin : ∀ b ∈ [e0, i0], ∀ o, s7.heap.get? b = some o → s'.heap.get? b = some o ∧ H' b = none := fun b hb o z =>
          let y := J.pin (b, o) (List.mem_append_right _ (List.mem_append_right _ (mem_pinsAt hb z)))
          ⟨y.1, y.2.1⟩
        refine ⟨m', hm, i + 1, H', (J.unpinned (pins := [])).weak (by rw [← hw8, wipe_length]) (fun j v z => ?_), T.keep _ _ _ tn7 fun b hb o z => (pin b hb o z).1, fun b hb => ?_, w'⟩
        · rw [← hw8] at z
          exact (wipe_some z).1
        · obtain ⟨o, z, _⟩ := T.obj _ _ tn7 b hb
          exact (pin b hb o z).2
      cases b with
      | false =>
        simp only [Bool.false_eq_true, if_false] at q9 ⊢
        exact fin I9 q9
      | true =>
        simp only [if_true] at q9 ⊢
        refine thnF (pe.run _ s9 σ8 H9 _ I9 q9) fun z s10 ⟨yv, H10, I10, r10, acc, hD10, hz10, nx⟩ => ?_
        exact app_ok (X := X.blk s3 H3 scope ce [e0, i0]) I10 hD10 hz10 r10 fun s11 I11 => fin I11 nx
  exact codeAny_compStart_list loop (T.self X.A 0 _ _ _ tn4 loop)
end
end LqX
end L2


set_option Elab.async false
set_option linter.all false
set_option maxRecDepth 100000
set_option maxHeartbeats 4000000
/-! repr of data; the end of a law whose own def calls repr -/
namespace L2
namespace LqX
open PySem PySem.Spec PyProof.Rows
/-- repr(v), v a list or a tuple of data -/
def rRepr (K : PySem.W.Frag) : List V → Hp → VK → Prop := fun xs H Q => ∃ (a : Addr) (d : PyData), xs = [.ref a] ∧ Dp K H (.ref a) d ∧ d.showable = true ∧ d.hasDict = false ∧ d.depth ≤ 40 ∧ d.shown.length ≤ sizeLine ∧ Q (.str d.shown) H
theorem call_repr {X : Cx} (hg : X.A.guards = some []) (hu : X.A.units + 64 < cLine) : CallR X (.builtin "repr") (rRepr X.K) := by
  intro pins s σ H xs us Q I r h
  obtain ⟨a, d, rfl, hd, sh, nd, dp, sz, q⟩ := h
  cases r with
  | cons rx rr =>
    cases rr
    cases rx
    obtain ⟨as, rd⟩ := Dp.reads I d (.ref a) (.ref a) hd rfl
    exact repr_of_reads' rd sh (fun z => by rw [nd] at z; cases z) hg (by omega) (fun _ _ z => z) (fun h2 u tk kp => ⟨.str d.shown, H, I.kept (t' := tk) kp, ⟨u, rfl⟩, q⟩) sz
/-- what a law's def must do when it is called by itself -/
def LawRun (P : Program) (w : World) (K : PySem.W.Frag) (mg : Str → Option Value) (fa a : Addr) (s1 : Shared) (ns : List Int) : Prop :=
  ∀ (base : Heap) (H : Hp), K.In base → base.Ns mainGlobals mg → Env0 P w K mg base callerA [] s1 H → Only H → SqL K H a (ns.map V.int) →
    codeAny (model P w) callerA (.call (.ref fa) ⟨[.ref a], []⟩) (CR CX0 [] P w H s1 (fun v _ => v = .bl true) E0) s1
theorem law_end {P : Program} {w : World} {K : PySem.W.Frag} {mg mb : Str → Option Value} {fa a : Addr} {s1 : Shared} {vs : List Value} {ns : List Int} (KX : K.In s1.heap) (gs : s1.heap.Ns mainGlobals mg) (bs : s1.heap.Ns builtinsNs mb) (bb : ∀ x : Str, x ≠ "__name__" → mb x = bootBuiltins x)
    (nl : s1.heap.NoLimit) (hg : s1.gens = #[]) (ha : s1.heap.get? a = some { cls := .type "list", data := .seq vs.toArray }) (hi : IntsAre vs ns) (hl : ns.length ≤ sizeLine) (F : LawRun P w K mg fa a s1 ns) :
    codeAny (model P w) callerA (.call (.ref fa) ⟨[.ref a], []⟩) (fun r s' => r = .ok (.ret (.bool true)) ∧ OldK s1.heap s'.heap ∧ s'.os = s1.os ∧ AllBare s'.gens) s1 := by
  have rv := vals_ints hi
  have ln := hi.length
  have main : ∀ H : Hp, Only H → SqL K H a (ns.map V.int) → HOk P w H s1.heap → (∀ b, H b ≠ none → b = a ∧ K.lookup a = none) →
      codeAny (model P w) callerA (.call (.ref fa) ⟨[.ref a], []⟩) (fun r s' => r = .ok (.ret (.bool true)) ∧ OldK s1.heap s'.heap ∧ s'.os = s1.os ∧ AllBare s'.gens) s1 := by
    intro H only sq hok own
    have free : ∀ {b : Addr} {o : Obj} {es : Array DictEntry} {n : Nat}, s1.heap.get? b = some o → o.data = .dict es n → H b = none := fun {b o es n} z dd => by
      cases q : H b with
      | none => rfl
      | some u =>
        have e := (own b (by rw [q]; simp)).1
        subst e
        rw [ha] at z
        cases z
        cases (show Data.seq vs.toArray _ = Data.dict es n from dd)
    have ns_ : ∀ {b : Addr} {m : Str → Option Value}, s1.heap.Ns b m → (hidT s1.heap H).Ns b m := fun ⟨o, es, n, z, dd, r⟩ => ⟨o, es, n, hidT_get z (free z dd), dd, r⟩
    have kb : K.In (hidT s1.heap H) := fun b o z => hidT_get (KX b o z) (by
      cases q : H b with
      | none => rfl
      | some u =>
        obtain ⟨e, lk⟩ := own b (by rw [q]; simp)
        subst e
        rw [lk] at z
        cases z)
    have env : Env0 P w K mg (hidT s1.heap H) callerA [] s1 H := by
      obtain ⟨mc, h1, h2⟩ := nl
      exact ⟨rfl, ⟨kb, ns_ gs, ⟨mb, ns_ bs, bb⟩, ⟨mc, ns_ h1, h2⟩⟩, fun b o z => of_hidT z, Nat.le_of_eq (hidT_size _ _), trivial, fun b hb => absurd (show b ∈ ([] : List Addr) from hb) (by simp), hok, .of_eq hg⟩
    refine codeAny_mono (F _ H kb (ns_ gs) env only sq) fun r s' h => ?_
    cases r with
    | error e => exact False.elim h
    | ok fl =>
      cases fl with
      | next => exact False.elim h
      | brk => exact False.elim h
      | cont => exact False.elim h
      | ret u =>
        obtain ⟨v, H', os, bare, un, hok', rr, ev⟩ := h
        have ev2 : v = .bl true := ev
        subst ev2
        obtain rfl : u = Value.bool true := rr
        refine ⟨rfl, OldK.of_keep fun b o z => ?_, os, bare⟩
        cases q : H b with
        | none => exact un.keep b o z q (fun y => absurd (show b ∈ ([] : List Addr) from y) (by simp)) (by simp)
        | some u =>
          rcases only b with y | ⟨ob, xs, y⟩
          · rw [q] at y
            cases y
          · obtain ⟨e1, _⟩ := hok b _ y
            obtain ⟨e2, _⟩ := hok' b _ (un.frzs b ob _ y)
            rw [z] at e1
            cases e1
            exact e2
  cases hk : K.lookup a with
  | some o =>
    have z := KX a o hk
    rw [ha] at z
    cases z
    exact main (fun _ => none) (fun _ => .inl rfl) (.inr ⟨_, vs.toArray, _, hk, rfl, rfl, rfl, by rw [List.size_toArray, ln]; exact hl, by simpa using rv⟩) (fun b u z => by cases (show (none : Option HO) = some u from z)) fun b z => absurd rfl z
  | none =>
    refine main (fun b => if b = a then some (.frz { cls := .type "list", data := .seq vs.toArray } (.lst (ns.map V.int))) else none) (fun b => ?_) (.inl (.inr ⟨{ cls := .type "list", data := .seq vs.toArray }, if_pos rfl⟩)) (fun b u z => ?_) fun b z => ?_
    · by_cases hb : b = a
      · exact .inr ⟨_, _, if_pos hb⟩
      · exact .inl (if_neg hb)
    · by_cases hb : b = a
      · cases (if_pos hb).symm.trans z
        subst hb
        exact ⟨ha, by rw [List.length_map]; exact hl, vs, _, rv, ha⟩
      · cases (if_neg hb).symm.trans z
    · by_cases hb : b = a
      · exact ⟨hb, hk⟩
      · exact absurd (if_neg hb) z
/-- a def's body run where the law is called -/
theorem Fun.lawRun {P : Program} {w : World} {K : PySem.W.Frag} {mg : Str → Option Value} {qual x y : Str} {st : Stmt} {fa a : Addr} {fd : FuncData} {N : List Str} {s1 : Shared} {ns : List Int} (F : Fun K x qual st fa fd) (S : FnScope N [y] (defScope st)) (hr : Room 1 callerA) (hb : ∀ (s : Shared) (u : Value), BindsTo s fd ⟨[u], []⟩ [(y, u)])
    (body : ∀ (cdv : Value) (base : Heap) (H : Hp), K.In base → base.Ns mainGlobals mg → Only H → SqL K H a (ns.map V.int) →
      ∃ t, PSs (cxOf CX0 P w K mg base N qual (defScope st) fa cdv callerA [] s1 H E0).nox (defBody st) t ∧ t { nx := fun _ H' => False, rt := fun v _ => v = .bl true } (start N [.ref a]) H) : LawRun P w K mg fa a s1 ns := by
  intro base H kb nb e0 only sq
  obtain ⟨oc, od, kV, doc, pm, an, cdv, ct, osl, rfl, lk, hcd⟩ := F.ex
  have KX : K.In s1.heap := kb.keeps fun b o z => (e0.bs b o z).1
  have lim : s1.heap.NoLimit := e0.mod.nolimit.keeps fun b o z => (e0.bs b o z).1
  have kinds : ∀ z ∈ [y].zip [Value.ref a], (defScope st).names.lookup z.1 = some .local ∨ ((defScope st).names.lookup z.1 = some .cell ∧ ((cellsFrom (s1.heap.objs.size + 1) (defScope st).names []).lookup z.1).isSome = true) := by
    rintro ⟨n, v⟩ hz
    exact (S.par n (List.of_mem_zip hz).1).elim .inl fun q => .inr ⟨q, PySem.W.cellsFrom_some _ _ _ (.inl q)⟩
  refine codeAny_call_function hr.depth (KX _ _ lk) rfl S.co S.gen rfl (PySem.W.codeRec_of KX hcd) (hb s1 (.ref a) _ _ _ _ ?_)
  refine wpAny_newFunctionEnv_cells S.kind kinds fun env he s2 x => ?_
  subst he
  refine ⟨lim.keeps x.toInCall.keep, codeAny_func ?_⟩
  obtain ⟨t, ht, ok⟩ := body cdv base H kb nb only sq
  have I : Inv (cxOf CX0 P w K mg base N qual (defScope st) fa cdv callerA [] s1 H E0) [] (start N [.ref a]) H s2 := inv_start S rfl e0 rfl (.cons rfl .nil) x
  refine wpAny_mono (ht.nox.run [] s2 (start N [.ref a]) H _ I ok) (fun fl s' hs => ?_) fun e s' hs => hs
  cases fl with
  | ret u =>
    obtain ⟨v, σ', H', J, rv, q⟩ := hs
    exact ⟨v, H', J.os, J.bare, J.base, J.hok, rv, q⟩
  | next =>
    obtain ⟨σ', H', J, q⟩ := hs
    exact q.elim
  | brk => exact hs.elim fun _ z => z.elim fun _ z => z.2.elim
  | cont => exact hs.elim fun _ z => z.elim fun _ z => z.2.elim
/-- the law's row from such a run -/
theorem walk_law {l : PySem.W.OpenLaw} {n : Nat} {q : Program} {loose : List Str} {XP : (Str → Option Value) → Heap → Prop} {YP : World → Heap → Prop} {d : DefRec} (hn : l.most = some n) (hn2 : n ≤ sizeLine) (hdf : d.params.defaults = [])
    (F : ∀ (w : World) (mg : Str → Option Value) (fa : Addr) (h : Heap), YP w h → h.Ns mainGlobals mg → mg d.name = some (.ref fa) →
      ∃ K : PySem.W.Frag, K.In h ∧ ∀ (s1 : Shared) (a : Addr) (ns : List Int), ns.length ≤ n → LawRun l.prog w K mg fa a s1 ns) : PySem.W.WalkO q loose XP YP l.row.toRowW d [] (fun f vs => PySem.call f vs) := by
  refine Att.attach_call hn hdf fun w s₀ s₁ mg mb fa o pm cd doc a vs ns G Y ho hd hcd hmg hobj hints hlen hg => ?_
  obtain ⟨K, KX, hF⟩ := F w mg fa _ Y G.T.g hmg
  exact law_end KX G.T.g G.T.b G.T.builtins G.T.nolimit hg hobj hints (Nat.le_trans hlen hn2) (hF s₁ a ns hlen)
end LqX
end L2


set_option Elab.async false
set_option linter.all false
set_option maxRecDepth 100000
set_option maxHeartbeats 4000000
/-! Data that stand in the heap; copied(thing) -/
namespace L2
namespace LqX
open PySem PySem.Spec PyProof.Rows
theorem same_tup {K : PySem.W.Frag} {H H' : Hp} {a : Addr} {xs : List V} (e : Same H H') (h : SqT K H a xs) : SqT K H' a xs := by
  rcases h with (h | ⟨o, h⟩) | h
  · exact .inl (.inl (e _ _ h))
  · exact .inl (.inr ⟨o, e _ _ h⟩)
  · exact .inr h
mutual
theorem dp_same {K : PySem.W.Frag} {H H' : Hp} (e : Same H H') : ∀ {v : V} {d : PyData}, Dp K H v d → Dp K H' v d
  | _, _, .non => .non
  | _, _, .bl b => .bl b
  | _, _, .int i => .int i
  | _, _, .str x => .str x
  | _, _, .lst h k => .lst (e.seq h) (dpl_same e k)
  | _, _, .tup h k => .tup (same_tup e h) (dpl_same e k)
theorem dpl_same {K : PySem.W.Frag} {H H' : Hp} (e : Same H H') : ∀ {vs : List V} {ds : List PyData}, DpAll K H vs ds → DpAll K H' vs ds
  | _, _, .nil => .nil
  | _, _, .cons h k => .cons (dp_same e h) (dpl_same e k)
end
theorem dpl_len {K : PySem.W.Frag} {H : Hp} : ∀ {vs : List V} {ds : List PyData}, DpAll K H vs ds → vs.length = ds.length
  | _, _, .nil => rfl
  | _, _, .cons _ k => by rw [List.length_cons, List.length_cons, dpl_len k]
theorem dpl_get {K : PySem.W.Frag} {H : Hp} : ∀ {vs : List V} {ds : List PyData} {i : Nat} {v : V}, DpAll K H vs ds → vs[i]? = some v → ∃ d, ds[i]? = some d ∧ Dp K H v d
  | _, _, 0, _, .cons h _, e => ⟨_, rfl, by cases e; exact h⟩
  | _, _, i + 1, _, .cons _ k, e => dpl_get (i := i) k e
theorem dpl_snoc {K : PySem.W.Frag} {H : Hp} : ∀ {vs : List V} {ds : List PyData} {v : V} {d : PyData}, DpAll K H vs ds → Dp K H v d → DpAll K H (vs ++ [v]) (ds ++ [d])
  | _, _, _, _, .nil, h => .cons h .nil
  | _, _, _, _, .cons g k, h => .cons g (dpl_snoc k h)
mutual
/-- no list or tuple in it is longer than n -/
def short (n : Nat) : PyData → Prop
  | .list xs => xs.length ≤ n ∧ shortAll n xs
  | .tuple xs => xs.length ≤ n ∧ shortAll n xs
  | _ => True
def shortAll (n : Nat) : List PyData → Prop
  | [] => True
  | d :: ds => short n d ∧ shortAll n ds
end
theorem shortAll_get {n : Nat} : ∀ {ds : List PyData} {i : Nat} {d : PyData}, shortAll n ds → ds[i]? = some d → short n d
  | d :: ds, 0, _, h, e => by cases e; exact h.1
  | d :: ds, i + 1, _, h, e => shortAll_get (i := i) h.2 e
theorem depth_get : ∀ {ds : List PyData} {i : Nat} {d : PyData}, ds[i]? = some d → d.depth ≤ PyData.depthAll ds
  | x :: ds, 0, _, e => by
    cases e
    simp only [PyData.depthAll]
    exact Nat.le_max_left _ _
  | x :: ds, i + 1, d, e => by
    simp only [PyData.depthAll]
    exact Nat.le_trans (depth_get (i := i) e) (Nat.le_max_right _ _)
/-- what H' has beyond H -/
def newp (H H' : Hp) : Hp := fun b => match H b with
  | none => H' b
  | some _ => none
theorem newp_free {H H' : Hp} {b : Addr} (h : H b = none) : newp H H' b = H' b := by
  unfold newp
  rw [h]
theorem newp_some {H H' : Hp} {b : Addr} {o : HO} (h : newp H H' b = some o) : H b = none ∧ H' b = some o := by
  unfold newp at h
  cases q : H b with
  | none =>
    rw [q] at h
    exact ⟨rfl, h⟩
  | some u =>
    rw [q] at h
    cases h
theorem newp_same {H H' : Hp} : Same (newp H H') H' := fun b o h => (newp_some h).2
theorem ty_list {K : PySem.W.Frag} {H : Hp} {a : Addr} {xs : List V} (h : SqL K H a xs) : TyX K H (.ref a) (.type "list") := by
  rcases h with (h | ⟨o, h⟩) | ⟨o, its, n, h, c, _⟩
  · exact .base (.lst h)
  · exact .base (.frz h)
  · exact .kList h c
theorem ty_tup {K : PySem.W.Frag} {H : Hp} {a : Addr} {xs : List V} (h : SqT K H a xs) : TyX K H (.ref a) (.type "tuple") := by
  rcases h with (h | ⟨o, h⟩) | ⟨o, its, n, h, c, _⟩
  · exact .base (.tup h)
  · exact .fTuple h
  · exact .kTuple h c
end LqX
end L2
namespace Lq
open PySem L2 L2.LqX
abbrev sCopied : Stmt := topS 1
/-- copied(thing): new lists and tuples throughout -/
def spCopied (K : PySem.W.Frag) (n : Nat) : Sp := fun vs H Q _ => ∃ (v : V) (d : PyData), vs = [v] ∧ Dp K H v d ∧ d.depth ≤ n ∧ short 1000 d ∧ ∀ (v' : V) (H' : Hp), Same H H' → Dp K (newp H H') v' d → Q v' H'
section
variable {P : Program} {w : World} {K : PySem.W.Frag} {mg : Str → Option Value} {base : Heap}
theorem scCopied : FnScope ["thing", "part"] ["thing"] (defScope sCopied) := ⟨rfl, rfl, rfl, by decide +kernel, rfl, by decide +kernel, by decide +kernel⟩
/-- the comprehension's turns, from the promise of one level less -/
theorem copy_all {n : Nat} {a D : Addr} {xs : List V} {ds : List PyData} {H : Hp} {σ : St} {Qd : Hp → Prop} (hD : H D = none) (sq : SqL K H a xs) (hd : DpAll K H xs ds) (hdep : PyData.depthAll ds ≤ n) (hsh : shortAll 1000 ds) (hlen : ds.length ≤ 1000) (hσ : σ.length = 2)
    (k : ∀ (H' : Hp) (ys : List V), Same H H' → H' D = some (.lst ys) → DpAll K (newp (upd H D (.lst [])) H') ys ds → Qd H') :
    ∃ W : Nat → Nat → Hp → Prop, (∃ m, W 0 m (upd H D (.lst []))) ∧ ∀ i m H', W i m H' →
      ((Itl K a).stop i H' ∧ Qd H') ∨ ((Itl K a).go i H' ∧ ∃ Nx : Hp → Prop, (∀ H', Nx H' → ∃ m', m' < m ∧ W (i + 1) m' H') ∧ ∀ x H2, (Itl K a).yld i H' x H2 → gName 1 x (wipe σ [1]) H2 fun σ2 H2 => wipe σ2 [1] = wipe σ [1] ∧ tYes σ2 H2 fun b H3 =>
        if b = true then tCall (spCopied K n) [] E0 (tCons (tVar 1) tNil) σ2 H3 fun y H4 => ∃ acc, H4 D = some (.lst acc) ∧ acc.length < sizeLine ∧ Nx (upd H4 D (.lst (acc ++ [y]))) else Nx H3) := by
  have hl := dpl_len hd
  refine lc_list (K := K) (a := a) (xs := xs) (fun i H' => ∃ ys, Same H H' ∧ H' D = some (.lst ys) ∧ DpAll K (newp (upd H D (.lst [])) H') ys (ds.take i)) ⟨[], fun b o h => by rw [upd_ne (ne_of_none h hD)]; exact h, upd_same, .nil⟩ (fun i H' _ ⟨_, e, _⟩ => e.seq sq) ?_ ?_
  · rintro i x H' hx ⟨ys, e, eD, hy⟩
    obtain ⟨d, hdi, hdx⟩ := dpl_get hd hx
    have hi : i < xs.length := (List.getElem?_eq_some_iff.mp hx).1
    have ly := dpl_len hy
    rw [List.length_take] at ly
    refine ⟨?_, ?_⟩
    rotate_left
    unfold tYes
    dsimp only
    rw [if_pos rfl]
    refine ⟨x, ?_, x, d, rfl, dp_same e hdx, Nat.le_trans (depth_get hdi) hdep, shortAll_get hsh hdi, fun v' H4 e4 n4 => ⟨ys, e4 _ _ eD, small1000 (by omega), ys ++ [v'], ?_, upd_same, ?_⟩⟩
    rotate_right
    · rw [show wipe ((wipe σ [1]).set 1 (some x)) [1] = ((wipe σ [1]).set 1 (some x)).set 1 none from rfl, show wipe σ [1] = σ.set 1 none from rfl, List.set_set, List.set_set]
    · rw [List.getElem?_set_self (by rw [wipe_length]; omega)]
    · intro b o h
      rw [upd_ne (ne_of_none h hD)]
      exact e4 _ _ (e _ _ h)
    · have et : ds.take (i + 1) = ds.take i ++ [d] := by rw [List.take_add_one, hdi] <;> rfl
      rw [et]
      have nD : ∀ {b : Addr} {o : HO}, newp (upd H D (.lst [])) H' b = some o → b ≠ D := fun {b o} z y => by
        have := (newp_some z).1
        rw [y, upd_same] at this
        cases this
      refine dpl_snoc (dpl_same (fun b o z => ?_) hy) (dp_same (fun b o z => ?_) n4)
      · rw [newp_free (newp_some z).1, upd_ne (nD z)]
        exact e4 _ _ (newp_some z).2
      · obtain ⟨z1, z2⟩ := newp_some z
        have bD : b ≠ D := fun y => by
          rw [y, eD] at z1
          cases z1
        have zH : upd H D (.lst []) b = none := by
          rw [upd_ne bD]
          exact e.free z1
        rw [newp_free zH, upd_ne bD]
        exact z2
  · rintro H' ⟨ys, e, eD, hy⟩
    rw [hl, List.take_length] at hy
    exact k H' ys e eD hy
/-- the same over a tuple -/
theorem copy_allT {n : Nat} {a D : Addr} {xs : List V} {ds : List PyData} {H : Hp} {σ : St} {Qd : Hp → Prop} (hD : H D = none) (sq : SqT K H a xs) (hd : DpAll K H xs ds) (hdep : PyData.depthAll ds ≤ n) (hsh : shortAll 1000 ds) (hlen : ds.length ≤ 1000) (hσ : σ.length = 2)
    (k : ∀ (H' : Hp) (ys : List V), Same H H' → H' D = some (.lst ys) → DpAll K (newp (upd H D (.lst [])) H') ys ds → Qd H') :
    ∃ W : Nat → Nat → Hp → Prop, (∃ m, W 0 m (upd H D (.lst []))) ∧ ∀ i m H', W i m H' →
      ((Itt K a).stop i H' ∧ Qd H') ∨ ((Itt K a).go i H' ∧ ∃ Nx : Hp → Prop, (∀ H', Nx H' → ∃ m', m' < m ∧ W (i + 1) m' H') ∧ ∀ x H2, (Itt K a).yld i H' x H2 → gName 1 x (wipe σ [1]) H2 fun σ2 H2 => wipe σ2 [1] = wipe σ [1] ∧ tYes σ2 H2 fun b H3 =>
        if b = true then tCall (spCopied K n) [] E0 (tCons (tVar 1) tNil) σ2 H3 fun y H4 => ∃ acc, H4 D = some (.lst acc) ∧ acc.length < sizeLine ∧ Nx (upd H4 D (.lst (acc ++ [y]))) else Nx H3) := by
  have hl := dpl_len hd
  refine lc_tup (K := K) (a := a) (xs := xs) (fun i H' => ∃ ys, Same H H' ∧ H' D = some (.lst ys) ∧ DpAll K (newp (upd H D (.lst [])) H') ys (ds.take i)) ⟨[], fun b o h => by rw [upd_ne (ne_of_none h hD)]; exact h, upd_same, .nil⟩ (fun i H' _ ⟨_, e, _⟩ => same_tup e sq) ?_ ?_
  · rintro i x H' hx ⟨ys, e, eD, hy⟩
    obtain ⟨d, hdi, hdx⟩ := dpl_get hd hx
    have hi : i < xs.length := (List.getElem?_eq_some_iff.mp hx).1
    have ly := dpl_len hy
    rw [List.length_take] at ly
    refine ⟨?_, ?_⟩
    rotate_left
    unfold tYes
    dsimp only
    rw [if_pos rfl]
    refine ⟨x, ?_, x, d, rfl, dp_same e hdx, Nat.le_trans (depth_get hdi) hdep, shortAll_get hsh hdi, fun v' H4 e4 n4 => ⟨ys, e4 _ _ eD, small1000 (by omega), ys ++ [v'], ?_, upd_same, ?_⟩⟩
    rotate_right
    · rw [show wipe ((wipe σ [1]).set 1 (some x)) [1] = ((wipe σ [1]).set 1 (some x)).set 1 none from rfl, show wipe σ [1] = σ.set 1 none from rfl, List.set_set, List.set_set]
    · rw [List.getElem?_set_self (by rw [wipe_length]; omega)]
    · intro b o h
      rw [upd_ne (ne_of_none h hD)]
      exact e4 _ _ (e _ _ h)
    · have et : ds.take (i + 1) = ds.take i ++ [d] := by rw [List.take_add_one, hdi] <;> rfl
      rw [et]
      have nD : ∀ {b : Addr} {o : HO}, newp (upd H D (.lst [])) H' b = some o → b ≠ D := fun {b o} z y => by
        have := (newp_some z).1
        rw [y, upd_same] at this
        cases this
      refine dpl_snoc (dpl_same (fun b o z => ?_) hy) (dp_same (fun b o z => ?_) n4)
      · rw [newp_free (newp_some z).1, upd_ne (nD z)]
        exact e4 _ _ (newp_some z).2
      · obtain ⟨z1, z2⟩ := newp_some z
        have bD : b ≠ D := fun y => by
          rw [y, eD] at z1
          cases z1
        have zH : upd H D (.lst []) b = none := by
          rw [upd_ne bD]
          exact e.free z1
        rw [newp_free zH, upd_ne bD]
        exact z2
  · rintro H' ⟨ys, e, eD, hy⟩
    rw [hl, List.take_length] at hy
    exact k H' ys e eD hy
/-- a leaf's data hang on no heap -/
theorem leaf_any {H H' : Hp} {v : V} {d : PyData} (h : Dp K H v d) (h0 : d.depth = 0) : Dp K H' v d := by
  cases h with
  | non => exact .non
  | bl b => exact .bl b
  | int i => exact .int i
  | str x => exact .str x
  | lst _ _ => simp [PyData.depth] at h0
  | tup _ _ => simp [PyData.depth] at h0
theorem leaf_ty {H : Hp} {v : V} {d : PyData} (h : Dp K H v d) (h0 : d.depth = 0) : ∃ tn : String, TyX K H v (.type tn) ∧ kitB tn "list" = some false ∧ kitB tn "tuple" = some false := by
  cases h with
  | non => exact ⟨"NoneType", .base .non, by decide +kernel, by decide +kernel⟩
  | bl b => exact ⟨"bool", .base (.bl b), by decide +kernel, by decide +kernel⟩
  | int i => exact ⟨"int", .base (.int i), by decide +kernel, by decide +kernel⟩
  | str x => exact ⟨"str", .base (.str x), by decide +kernel, by decide +kernel⟩
  | lst _ _ => simp [PyData.depth] at h0
  | tup _ _ => simp [PyData.depth] at h0
theorem ok_copied {f : Addr} {fd : FuncData} (F : Fun K "copied" "copied" sCopied f fd) (b : Binds K fd ["thing"] []) (mc : mg "copied" = some (.ref f)) (hii : mg "isinstance" = none) (hli : mg "list" = none) (htu : mg "tuple" = none) :
    ∀ n : Nat, FnOk P w K mg base CX0 (n + 1) f fd ["thing"] (spCopied K n) := by
  intro n
  induction n with
  | zero => 
    refine F.ok scCopied (fun vs H Q E h => ?_) (fun cdv A outer s H vs Q E hr h => ?_)
    · obtain ⟨v, d, rfl, _⟩ := h
      rfl
    · obtain ⟨v, d, rfl, hd, hdep, hsh, k⟩ := h
      obtain ⟨tn, ty, k1, k2⟩ := leaf_ty hd (Nat.le_zero.mp hdep)
      refine ⟨_, pss_cons (ps_if (pt_val (pe_callB call_isi (by rfl) hii PyProof.Rows.boot_isinstance (pa_cons (pv 0) (pa_cons (pe_bltn (by rfl) hli PyProof.Rows.boot_list (v := .ty "list") rfl) pa_nil)))) (pss_one ps_never) pss_nil)
        (pss_cons (ps_if (pt_val (pe_callB call_isi (by rfl) hii PyProof.Rows.boot_isinstance (pa_cons (pv 0) (pa_cons (pe_bltn (by rfl) htu PyProof.Rows.boot_tuple (v := .ty "tuple") rfl) pa_nil)))) (pss_one ps_never) pss_nil)
        (pss_one (ps_ret (pv 0)))), ?_⟩
      exact ⟨v, rfl, v, .ty "list", _, _, false, rfl, .ty _, ty, kit_ty k1, false, rfl, iteF ⟨v, rfl, v, .ty "tuple", _, _, false, rfl, .ty _, ty, kit_ty k2, false, rfl, iteF ⟨v, rfl, k v H (Same.refl H) (leaf_any hd (Nat.le_zero.mp hdep))⟩⟩⟩
  | succ n ih =>
    refine F.ok scCopied (fun vs H Q E h => ?_) (fun cdv A outer s H vs Q E hr h => ?_)
    · obtain ⟨v, d, rfl, _⟩ := h
      rfl
    · obtain ⟨v, d, rfl, hd, hdep, hsh, k⟩ := h
      refine ⟨_, pss_cons (ps_if (pt_val (pe_callB call_isi (by rfl) hii PyProof.Rows.boot_isinstance (pa_cons (pv 0) (pa_cons (pe_bltn (by rfl) hli PyProof.Rows.boot_list (v := .ty "list") rfl) pa_nil))))
          (pss_one (ps_ret (pe_lc (own := [("part", 1)]) (g := gName 1) (tt := tYes) rfl scCopied.nd (pi_list (pv 0)) (blkOk_by (own := [("part", 1)]) (N := ["thing", "part"]) (sc := defScope sCopied) (by decide +kernel))
            (fun _ _ _ _ _ => pg_name (i := 1) scCopied.nd rfl (Or.inl rfl)) (fun _ _ _ _ _ => pts_nil) (fun _ _ _ _ _ => pe_call ih hr (by rfl) mc F.kp b .nil pass0 (pa_cons (pv 1) pa_nil))))) pss_nil)
        (pss_cons (ps_if (pt_val (pe_callB call_isi (by rfl) hii PyProof.Rows.boot_isinstance (pa_cons (pv 0) (pa_cons (pe_bltn (by rfl) htu PyProof.Rows.boot_tuple (v := .ty "tuple") rfl) pa_nil))))
          (pss_one (ps_ret (pe_callTy call_tuple_of (by rfl) htu PyProof.Rows.boot_tuple (pa_cons (pe_lc (own := [("part", 1)]) (g := gName 1) (tt := tYes) rfl scCopied.nd (pi_tup (pv 0)) (blkOk_by (own := [("part", 1)]) (N := ["thing", "part"]) (sc := defScope sCopied) (by decide +kernel))
            (fun _ _ _ _ _ => pg_name (i := 1) scCopied.nd rfl (Or.inl rfl)) (fun _ _ _ _ _ => pts_nil) (fun _ _ _ _ _ => pe_call ih hr (by rfl) mc F.kp b .nil pass0 (pa_cons (pv 1) pa_nil))) pa_nil)))) pss_nil)
        (pss_one (ps_ret (pv 0)))), ?_⟩
      by_cases hz : d.depth = 0
      · obtain ⟨tn, ty, k1, k2⟩ := leaf_ty hd hz
        exact ⟨v, rfl, v, .ty "list", _, _, false, rfl, .ty _, ty, kit_ty k1, false, rfl, iteF ⟨v, rfl, v, .ty "tuple", _, _, false, rfl, .ty _, ty, kit_ty k2, false, rfl, iteF ⟨v, rfl, k v H (Same.refl H) (leaf_any hd hz)⟩⟩⟩
      · cases hd with
        | non => exact absurd (by simp [PyData.depth]) hz
        | bl b => exact absurd (by simp [PyData.depth]) hz
        | int i => exact absurd (by simp [PyData.depth]) hz
        | str x => exact absurd (by simp [PyData.depth]) hz
        | @lst a xs ds sq ha =>
          simp only [PyData.depth] at hdep
          simp only [short] at hsh
          refine ⟨.ref a, rfl, .ref a, .ty "list", _, _, true, rfl, .ty _, ty_list sq, kit_ty (by decide +kernel), true, rfl, iteT ?_⟩
          refine ⟨.ref a, rfl, a, rfl, ⟨_, sq⟩, fun D hD => copy_all hD sq ha (by omega) hsh.2 hsh.1 rfl fun H' ys e eD hy => ?_⟩
          refine k (.ref D) H' e (.lst (xs := ys) (.of (by rw [newp_free hD]; exact eD)) (dpl_same (fun b o z => ?_) hy))
          obtain ⟨z1, z2⟩ := newp_some z
          have bD : b ≠ D := fun y => by
            rw [y, upd_same] at z1
            cases z1
          rw [upd_ne bD] at z1
          rw [newp_free z1]
          exact z2
        | @tup a xs ds sq ha =>
          simp only [PyData.depth] at hdep
          simp only [short] at hsh
          refine ⟨.ref a, rfl, .ref a, .ty "list", _, _, false, rfl, .ty _, ty_tup sq, kit_ty (by decide +kernel), false, rfl, iteF ?_⟩
          refine ⟨.ref a, rfl, .ref a, .ty "tuple", _, _, true, rfl, .ty _, ty_tup sq, kit_ty (by decide +kernel), true, rfl, iteT ?_⟩
          refine ⟨.ref a, rfl, a, rfl, ⟨_, sq⟩, fun D hD => copy_allT hD sq ha (by omega) hsh.2 hsh.1 rfl fun H' ys e eD hy => ?_⟩
          refine ⟨D, ys, rfl, .inl ⟨.of eD, fun T hT => ?_⟩⟩
          have eT : Same H' (upd H' T (.tup ys)) := fun b o z => by
            rw [upd_ne (ne_of_none z hT)]
            exact z
          refine k (.ref T) _ (e.trans eT) (.tup (xs := ys) (.of (by rw [newp_free (e.free hT), upd_same])) (dpl_same (fun b o z => ?_) hy))
          obtain ⟨z1, z2⟩ := newp_some z
          have bD : b ≠ D := fun y => by
            rw [y, upd_same] at z1
            cases z1
          rw [upd_ne bD] at z1
          rw [newp_free z1]
          exact eT _ _ z2
end
end Lq


set_option Elab.async false
set_option linter.all false
set_option maxRecDepth 100000
set_option maxHeartbeats 4000000
/-! The errors: made, raised -/
namespace Lq
open PySem L2 L2.LqX
/-- __init__(self, thing): self.f = copied(thing) -/
def spInit (K : PySem.W.Frag) (C : Addr) (f : Str) (n : Nat) : Sp := fun vs H Q _ => ∃ (a : Addr) (v : V) (d : PyData), vs = [.ref a, v] ∧ H a = some (exo a C none) ∧ Dp K H v d ∧ d.depth ≤ n ∧ short 1000 d ∧
  ∀ (dx : Addr) (v' : V) (H1 : Hp), Same H H1 → Dp K (newp H H1) v' d → H1 dx = none → dx ≠ a → Q .non (upd (upd H1 dx (exd dx [(f, v')])) a (exo a C (some dx)))
section
variable {P : Program} {w : World} {K : PySem.W.Frag} {mg : Str → Option Value} {base : Heap}
theorem ok_init {st : Stmt} {fI C fC : Addr} {fd fdC : FuncData} {qual arg f : Str} {n : Nat} {B newId : String} {p1 p2 p3 p4 p5 p6 : Pos} (F : Fun K "__init__" qual st fI fd) (S : FnScope ["self", arg] ["self", arg] (defScope st))
    (hb : defBody st = [.Assign [.Attribute (.Name "self" p1) f p2] (.Call (.Name "copied" p3) [.Name arg p4] [] p5) p6]) (l0 : (defScope st).names.lookup ("self" : Str) = some .local) (l1 : (defScope st).names.lookup arg = some .local) (lg : (defScope st).names.lookup ("copied" : Str) = some .globalImplicit)
    (na : (arg == ("__debug__" : Str)) = false) (nc : (arg == ("__classdict__" : Str)) = false) (T : XC K C B newId) (hno : PySem.W.findIn K (.ref C) f = some none)
    (GC : FnOk P w K mg base CX0 (n + 1) fC fdC ["thing"] (spCopied K n)) (bC : Binds K fdC ["thing"] []) (kC : PySem.W.keepIn K (.ref fC) = true) (mC : mg "copied" = some (.ref fC)) : FnOk P w K mg base CX0 (n + 2) fI fd ["self", arg] (spInit K C f n) := by
  refine F.ok S (fun vs H Q E h => ?_) (fun cdv A outer s H vs Q E hr h => ?_)
  · obtain ⟨a, v, d, rfl, _⟩ := h
    rfl
  · obtain ⟨a, v, d, rfl, ha, hd, hdep, hsh, k⟩ := h
    refine ⟨tSetX K C f (tVar 0) (tCall (spCopied K n) [] E0 (tCons (tVar 1) tNil)), ?_, ?_⟩
    · rw [hb]
      exact pss_one (ps_setX T hno (pe_var (i := 0) rfl (.inl l0)) (pe_call GC hr lg mC kC bC .nil pass0 (pa_cons (pe_var (i := 1) rfl (.inl l1) na nc) pa_nil)))
    · refine ⟨v, rfl, v, d, rfl, hd, hdep, hsh, fun v' H1 e1 n1 => ⟨_, rfl, a, rfl, e1 _ _ ha, fun dx nx ne => k dx v' H1 e1 n1 nx ne⟩⟩
/-- what a raise of such an error leaves: its dict with the copied field -/
theorem raised {C : Addr} {f : Str} {n : Nat} {i : Nat} {σ : L2.St} {H : Hp} {Qx : XK} {v : V} {d : PyData} (hi : σ[i]? = some (some v)) (hd : Dp K H v d) (hdep : d.depth ≤ n) (hsh : short 1000 d)
    (k : ∀ (dx : Addr) (v' : V) (H' : Hp), Same H H' → H dx = none → H' dx = some (.xd [(f, v')]) → Dp K H' v' d → Qx (.ref C) (some dx) H') : tMkO C (spInit K C f n) [] (tCons (tVar i) tNil) σ H Qx := by
  refine ⟨v, hi, (by show 1 ≤ 1000; decide), fun a na => ?_⟩
  have s0 : Same H (upd H a (exo a C none)) := fun b o z => by
    rw [upd_ne (ne_of_none z na)]
    exact z
  refine ⟨a, v, d, rfl, upd_same, dp_same s0 hd, hdep, hsh, fun dx v' H1 e1 n1 nx ne => ⟨rfl, dx, [(f, v')], upd_same, by rw [upd_ne ne, upd_same], ?_, ?_⟩⟩
  · have := e1.free nx
    rw [upd_ne ne] at this
    exact this
  · have ndx : H dx = none := by
      have := e1.free nx
      rw [upd_ne ne] at this
      exact this
    have fin : ∀ b o, b ≠ a → b ≠ dx → H1 b = some o → (upd (del (upd (upd H1 dx (exd dx [(f, v')])) a (exo a C (some dx))) a) dx (.xd [(f, v')])) b = some o := fun b o ba bd z => by
      rw [upd_ne bd, del_ne ba, upd_ne ba, upd_ne bd]
      exact z
    refine k dx v' _ (fun b o z => fin b o (ne_of_none z na) (ne_of_none z ndx) (e1 _ _ (s0 _ _ z))) ndx upd_same (dp_same (fun b o z => ?_) n1)
    obtain ⟨z1, z2⟩ := newp_some z
    have ba : b ≠ a := fun y => by
      rw [y, upd_same] at z1
      cases z1
    exact fin b o ba (ne_of_none z2 nx) z2
end
end Lq


set_option Elab.async false
set_option linter.all false
set_option maxRecDepth 100000
set_option maxHeartbeats 4000000
/-! The classes of the errors; what is told of a caught error -/
namespace Lq
open PySem L2 L2.LqX L2H

def names : List Str := ["BadForm", "BadCondition", "BadBook", "BadRow", "BadDeed", "BadPick", "BadGoal", "BadStart", "BadLabel", "NoTurn", "TooMany", "OtherForm", "NotAlong", "NoField", "NoFilter", "NoRow", "Gone", "NoName", "NoLook", "NoWorld", "Held", "Over", "Waiting"]
def flds : List Str := ["thing", "at", "thing", "at", "deed", "pick", "goal", "start", "label", "row", "what", "-none-", "-none-", "field", "name", "key", "key", "name", "look", "world", "key", "-none-", "at"]
def nm (i : Nat) : Str := names.getD i ""
def fl (i : Nat) : Str := flds.getD i ""
/-- what the written part says of the classes: cs i is where the i-th stands, cL where LateError stands -/
structure CF (K : PySem.W.Frag) (mg : Str → Option Value) (cs : Nat → Addr) (cL : Addr) : Prop where
  g : ∀ i, i < 23 → mg (nm i) = some (.ref (cs i))
  gL : mg "LateError" = some (.ref cL)
  own : ∀ i j, i < 23 → j < 23 → PySem.W.kitOne K (.ref (cs j)) (.ref (cs i)) = some (decide (i = j))
  late : ∀ j, j < 23 → PySem.W.kitOne K (.ref (cs j)) (.ref cL) = some (decide (j < 13))
  ve : ∀ j, j < 23 → PySem.W.kitOne K (.ref (cs j)) (.type "ValueError") = some (decide (j < 13))
  ke : ∀ j, j < 23 → PySem.W.kitOne K (.ref (cs j)) (.type "KeyError") = some (decide (13 ≤ j ∧ j < 15))
  le : ∀ j, j < 23 → PySem.W.kitOne K (.ref (cs j)) (.type "LookupError") = some (decide (13 ≤ j ∧ j < 20))
  re : ∀ j, j < 23 → PySem.W.kitOne K (.ref (cs j)) (.type "RuntimeError") = some (decide (20 ≤ j))
  ae : ∀ j, j < 23 → PySem.W.kitOne K (.ref (cs j)) (.type "ArithmeticError") = some false
  ie : ∀ j, j < 23 → PySem.W.kitOne K (.ref (cs j)) (.type "IndexError") = some false
  ex : ∀ j, j < 23 → ExcC K (cs j)
  xf : ∀ j, j < 23 → XfC K (cs j)
  no : ∀ j i, j < 23 → i < 23 → PySem.W.findIn K (.ref (cs j)) (fl i) = some none
theorem dAt_same {H H' : Hp} {d : Option Addr} (e : Same H H') (h : DAt H d) : DAt H' d := fun dd z => by
  obtain ⟨fs, q⟩ := h dd z
  exact ⟨fs, e _ _ q⟩
theorem same_new {H : Hp} {p : Addr} {o : HO} (h : H p = none) : Same H (upd H p o) := fun b u z => by
  rw [upd_ne (ne_of_none z h)]
  exact z
abbrev sOwn : Stmt := topS 31
abbrev sAbove : Stmt := topS 32
abbrev sField : Stmt := topS 35
/-- the list of tests: which of the classes it is -/
def tests (j : Nat) : List V := (List.range 23).map fun i => .bl (decide (i = j))
theorem tests_len (j : Nat) : (tests j).length = 23 := by
  unfold tests
  rw [List.length_map, List.length_range]
theorem tests_get {j i : Nat} (h : i < 23) : (tests j)[i]? = some (.bl (decide (i = j))) := by
  unfold tests
  rw [List.getElem?_map, List.getElem?_range h] <;> rfl
/-- _law_own(e): [its number] -/
def spOwn (a : Addr) (d : Option Addr) (j : Nat) : Sp := fun vs H Q _ => vs = [.ref a] ∧ DAt H d ∧ ∀ (p : Addr) (H' : Hp), Same H H' → H p = none → H' p = some (.lst [.int j]) → Q (.ref p) H'
section
variable {P : Program} {w : World} {K : PySem.W.Frag} {mg : Str → Option Value} {base : Heap}
theorem scOwn : FnScope ["e", "found", "k", "good"] ["e"] (defScope sOwn) := ⟨rfl, rfl, rfl, by decide +kernel, rfl, by decide +kernel, by decide +kernel⟩
theorem tests_eq (j : Nat) : ([V.bl (decide (0 = j)), V.bl (decide (1 = j)), V.bl (decide (2 = j)), V.bl (decide (3 = j))] ++ [V.bl (decide (4 = j)), V.bl (decide (5 = j)), V.bl (decide (6 = j)), V.bl (decide (7 = j))] ++ [V.bl (decide (8 = j)), V.bl (decide (9 = j)), V.bl (decide (10 = j)), V.bl (decide (11 = j))] ++
    [V.bl (decide (12 = j)), V.bl (decide (13 = j)), V.bl (decide (14 = j)), V.bl (decide (15 = j))] ++ [V.bl (decide (16 = j)), V.bl (decide (17 = j)), V.bl (decide (18 = j)), V.bl (decide (19 = j))] ++ [V.bl (decide (20 = j)), V.bl (decide (21 = j)), V.bl (decide (22 = j))] : List V) = tests j := rfl
/-- what the comprehension has gathered behind i turns -/
def got (j i : Nat) : List V := if j < i then [.int j] else []
theorem own_comp {H H1 : Hp} {p a : Addr} {j : Nat} {Q : VK} (hj : j < 23) (e : Same H H1) (l : H1 p = some (.lst (tests j))) (k : ∀ (p : Addr) (H' : Hp), Same H H' → H p = none → H' p = some (.lst [.int j]) → Q (.ref p) H') :
    tLc (iEnum K (tCons (tVar 1) tNil)) (gTup K 2 (gCons (gName 2) (gCons (gName 3) gNil))) (tB (tVar 3)) (tVar 2) [2, 3] [some (.ref a), some (.ref p), none, none] H1 Q := by
  refine ⟨_, rfl, p, tests j, rfl, .of l, fun D hD => lc_it (walk_enum (K := K) (a := p) (xs := tests j)) (fun i H' => Same H1 H' ∧ H' D = some (.lst (got j i))) ⟨same_new hD, upd_same⟩ (fun i H' _ z => .of (z.1 _ _ l)) ?_ ?_⟩
  · rintro i x H2 H3 hi ⟨e2, l2⟩ ⟨T, x1, y1, rfl, hT, rfl, ex, ey⟩
    rw [tests_len] at hi
    have ey2 := (tests_get hi).symm.trans ey
    cases ex
    cases ey2
    have lD : (upd H2 T (.tup [.int (i : Nat), .bl (decide (i = j))])) D = some (.lst (got j i)) := same_new hT _ _ l2
    have e3 : Same H1 (upd H2 T (.tup [.int (i : Nat), .bl (decide (i = j))])) := e2.trans (same_new hT)
    refine ⟨T, _, rfl, .of upd_same, rfl, _, _, rfl, _, _, rfl, rfl, rfl, _, rfl, _, rfl, ?_⟩
    dsimp only
    by_cases hij : i = j
    · rw [if_pos (decide_eq_true hij)]
      refine ⟨_, rfl, _, lD, ?_, ?_, ?_⟩
      · unfold got
        rw [if_neg (by omega)]
        decide
      · intro b o z
        rw [upd_ne (ne_of_none z hD)]
        exact e3 _ _ z
      · unfold got
        rw [if_neg (by omega), if_pos (by omega), hij]
        exact upd_same
    · rw [if_neg (by rw [decide_eq_false hij]; exact Bool.false_ne_true)]
      refine ⟨e3, ?_⟩
      rw [lD]
      unfold got
      by_cases h2 : j < i
      · rw [if_pos h2, if_pos (by omega)]
      · rw [if_neg h2, if_neg (by omega)]
  · rintro H' ⟨e2, l2⟩
    rw [tests_len] at l2
    unfold got at l2
    rw [if_pos hj] at l2
    exact k D H' (e.trans e2) (e.free hD) l2
theorem ok_own {f : Addr} {fd : FuncData} {cs : Nat → Addr} {cL a : Addr} {d : Option Addr} {j : Nat} (F : Fun K "_law_own" "_law_own" sOwn f fd) (C : CF K mg cs cL) (hj : j < 23) (hii : mg "isinstance" = none) (hen : mg "enumerate" = none) : FnE P w K mg base 1 f fd ["e"] a (.ref (cs j)) d (spOwn a d j) := by
  refine Fun.okE F scOwn (fun vs H Q E h => ?_) (fun cdv A outer s H vs Q E oe hn hr h => ?_)
  · obtain ⟨rfl, _⟩ := h
    rfl
  · obtain ⟨rfl, hD, k⟩ := h
    have cr := call_isX (X := (cxH CX0 P w K mg base ["e", "found", "k", "good"] "_law_own" (defScope sOwn) f cdv A outer s H E (a, oe)).nox) (a := a) (oe := oe) (C.ex j hj) List.mem_cons_self hn.z.zc hn.fl
    have hot : HotI (cxH CX0 P w K mg base ["e", "found", "k", "good"] "_law_own" (defScope sOwn) f cdv A outer s H E (a, oe)).nox := hotI_of (X := (cxH CX0 P w K mg base ["e", "found", "k", "good"] "_law_own" (defScope sOwn) f cdv A outer s H E (a, oe)).nox) (a := a) (oe := oe) ⟨hn.hot, hn.z, hn.fl⟩ List.mem_cons_self

    refine ⟨_, (pss_cons (ps_set (i := 1) scOwn.nd rfl (Or.inl rfl) (pe_lst (pa_cons (pe_callB cr (by rfl) hii PyProof.Rows.boot_isinstance (pa_cons (pv 0) (pa_cons (pe_glob (v := .ref (cs 0)) (by rfl) (C.g 0 (by decide)) rfl) pa_nil))) (pa_cons (pe_callB cr (by rfl) hii PyProof.Rows.boot_isinstance (pa_cons (pv 0) (pa_cons (pe_glob (v := .ref (cs 1)) (by rfl) (C.g 1 (by decide)) rfl) pa_nil))) (pa_cons (pe_callB cr (by rfl) hii PyProof.Rows.boot_isinstance (pa_cons (pv 0) (pa_cons (pe_glob (v := .ref (cs 2)) (by rfl) (C.g 2 (by decide)) rfl) pa_nil))) (pa_cons (pe_callB cr (by rfl) hii PyProof.Rows.boot_isinstance (pa_cons (pv 0) (pa_cons (pe_glob (v := .ref (cs 3)) (by rfl) (C.g 3 (by decide)) rfl) pa_nil))) pa_nil))))))
      (pss_cons (ps_set (i := 1) scOwn.nd rfl (Or.inl rfl) (pe_op op_cat (pv 1) (pe_lst (pa_cons (pe_callB cr (by rfl) hii PyProof.Rows.boot_isinstance (pa_cons (pv 0) (pa_cons (pe_glob (v := .ref (cs 4)) (by rfl) (C.g 4 (by decide)) rfl) pa_nil))) (pa_cons (pe_callB cr (by rfl) hii PyProof.Rows.boot_isinstance (pa_cons (pv 0) (pa_cons (pe_glob (v := .ref (cs 5)) (by rfl) (C.g 5 (by decide)) rfl) pa_nil))) (pa_cons (pe_callB cr (by rfl) hii PyProof.Rows.boot_isinstance (pa_cons (pv 0) (pa_cons (pe_glob (v := .ref (cs 6)) (by rfl) (C.g 6 (by decide)) rfl) pa_nil))) (pa_cons (pe_callB cr (by rfl) hii PyProof.Rows.boot_isinstance (pa_cons (pv 0) (pa_cons (pe_glob (v := .ref (cs 7)) (by rfl) (C.g 7 (by decide)) rfl) pa_nil))) pa_nil)))))))
      (pss_cons (ps_set (i := 1) scOwn.nd rfl (Or.inl rfl) (pe_op op_cat (pv 1) (pe_lst (pa_cons (pe_callB cr (by rfl) hii PyProof.Rows.boot_isinstance (pa_cons (pv 0) (pa_cons (pe_glob (v := .ref (cs 8)) (by rfl) (C.g 8 (by decide)) rfl) pa_nil))) (pa_cons (pe_callB cr (by rfl) hii PyProof.Rows.boot_isinstance (pa_cons (pv 0) (pa_cons (pe_glob (v := .ref (cs 9)) (by rfl) (C.g 9 (by decide)) rfl) pa_nil))) (pa_cons (pe_callB cr (by rfl) hii PyProof.Rows.boot_isinstance (pa_cons (pv 0) (pa_cons (pe_glob (v := .ref (cs 10)) (by rfl) (C.g 10 (by decide)) rfl) pa_nil))) (pa_cons (pe_callB cr (by rfl) hii PyProof.Rows.boot_isinstance (pa_cons (pv 0) (pa_cons (pe_glob (v := .ref (cs 11)) (by rfl) (C.g 11 (by decide)) rfl) pa_nil))) pa_nil)))))))
      (pss_cons (ps_set (i := 1) scOwn.nd rfl (Or.inl rfl) (pe_op op_cat (pv 1) (pe_lst (pa_cons (pe_callB cr (by rfl) hii PyProof.Rows.boot_isinstance (pa_cons (pv 0) (pa_cons (pe_glob (v := .ref (cs 12)) (by rfl) (C.g 12 (by decide)) rfl) pa_nil))) (pa_cons (pe_callB cr (by rfl) hii PyProof.Rows.boot_isinstance (pa_cons (pv 0) (pa_cons (pe_glob (v := .ref (cs 13)) (by rfl) (C.g 13 (by decide)) rfl) pa_nil))) (pa_cons (pe_callB cr (by rfl) hii PyProof.Rows.boot_isinstance (pa_cons (pv 0) (pa_cons (pe_glob (v := .ref (cs 14)) (by rfl) (C.g 14 (by decide)) rfl) pa_nil))) (pa_cons (pe_callB cr (by rfl) hii PyProof.Rows.boot_isinstance (pa_cons (pv 0) (pa_cons (pe_glob (v := .ref (cs 15)) (by rfl) (C.g 15 (by decide)) rfl) pa_nil))) pa_nil)))))))
      (pss_cons (ps_set (i := 1) scOwn.nd rfl (Or.inl rfl) (pe_op op_cat (pv 1) (pe_lst (pa_cons (pe_callB cr (by rfl) hii PyProof.Rows.boot_isinstance (pa_cons (pv 0) (pa_cons (pe_glob (v := .ref (cs 16)) (by rfl) (C.g 16 (by decide)) rfl) pa_nil))) (pa_cons (pe_callB cr (by rfl) hii PyProof.Rows.boot_isinstance (pa_cons (pv 0) (pa_cons (pe_glob (v := .ref (cs 17)) (by rfl) (C.g 17 (by decide)) rfl) pa_nil))) (pa_cons (pe_callB cr (by rfl) hii PyProof.Rows.boot_isinstance (pa_cons (pv 0) (pa_cons (pe_glob (v := .ref (cs 18)) (by rfl) (C.g 18 (by decide)) rfl) pa_nil))) (pa_cons (pe_callB cr (by rfl) hii PyProof.Rows.boot_isinstance (pa_cons (pv 0) (pa_cons (pe_glob (v := .ref (cs 19)) (by rfl) (C.g 19 (by decide)) rfl) pa_nil))) pa_nil)))))))
      (pss_cons (ps_set (i := 1) scOwn.nd rfl (Or.inl rfl) (pe_op op_cat (pv 1) (pe_lst (pa_cons (pe_callB cr (by rfl) hii PyProof.Rows.boot_isinstance (pa_cons (pv 0) (pa_cons (pe_glob (v := .ref (cs 20)) (by rfl) (C.g 20 (by decide)) rfl) pa_nil))) (pa_cons (pe_callB cr (by rfl) hii PyProof.Rows.boot_isinstance (pa_cons (pv 0) (pa_cons (pe_glob (v := .ref (cs 21)) (by rfl) (C.g 21 (by decide)) rfl) pa_nil))) (pa_cons (pe_callB cr (by rfl) hii PyProof.Rows.boot_isinstance (pa_cons (pv 0) (pa_cons (pe_glob (v := .ref (cs 22)) (by rfl) (C.g 22 (by decide)) rfl) pa_nil))) pa_nil))))))
      (pss_one (ps_ret (pe_lcE (own := [("k", 2), ("good", 3)]) (g := gTup K 2 (gCons (gName 2) (gCons (gName 3) gNil))) (tt := tB (tVar 3)) hot scOwn.nd (by rfl) hen (pa_cons (pv 1) pa_nil)
        (blkOk_by (own := [("k", 2), ("good", 3)]) (N := ["e", "found", "k", "good"]) (sc := defScope sOwn) (by decide +kernel)) (fun _ _ _ _ _ hb => pg_tupH hb (pgs_cons (pg_name (i := 2) scOwn.nd rfl (Or.inl rfl)) (pgs_cons (pg_name (i := 3) scOwn.nd rfl (Or.inl rfl)) pgs_nil)))
        (fun _ _ _ _ _ => pts_one (pt_val (pv 3))) (fun _ _ _ _ _ => pv 2)))))))))), ?_⟩
    refine ⟨_, rfl, .ref (cs 0), .ref (cs 0), decide (0 = j), rfl, (fun _ r => r), hD, C.own 0 j (by decide) hj, _, rfl, .ref (cs 1), .ref (cs 1), decide (1 = j), rfl, (fun _ r => r), hD, C.own 1 j (by decide) hj, _, rfl, .ref (cs 2), .ref (cs 2), decide (2 = j), rfl, (fun _ r => r), hD, C.own 2 j (by decide) hj, _, rfl, .ref (cs 3), .ref (cs 3), decide (3 = j), rfl, (fun _ r => r), hD, C.own 3 j (by decide) hj, (by show 4 ≤ sizeLine; decide), fun p0 n0 => ?_⟩
    refine ⟨_, rfl, _, rfl, .ref (cs 4), .ref (cs 4), decide (4 = j), rfl, (fun _ r => r), (dAt_same (same_new n0) hD), C.own 4 j (by decide) hj, _, rfl, .ref (cs 5), .ref (cs 5), decide (5 = j), rfl, (fun _ r => r), (dAt_same (same_new n0) hD), C.own 5 j (by decide) hj, _, rfl, .ref (cs 6), .ref (cs 6), decide (6 = j), rfl, (fun _ r => r), (dAt_same (same_new n0) hD), C.own 6 j (by decide) hj, _, rfl, .ref (cs 7), .ref (cs 7), decide (7 = j), rfl, (fun _ r => r), (dAt_same (same_new n0) hD), C.own 7 j (by decide) hj, (by show 4 ≤ sizeLine; decide), fun q1 m1 => ?_⟩
    refine ⟨_, _, _, _, rfl, rfl, same_new m1 _ _ upd_same, upd_same, (by show 8 ≤ sizeLine; decide), fun p1 n1 => ?_⟩
    refine ⟨_, rfl, _, rfl, .ref (cs 8), .ref (cs 8), decide (8 = j), rfl, (fun _ r => r), (dAt_same (Same.trans (Same.trans (same_new n0) (same_new m1)) (same_new n1)) hD), C.own 8 j (by decide) hj, _, rfl, .ref (cs 9), .ref (cs 9), decide (9 = j), rfl, (fun _ r => r), (dAt_same (Same.trans (Same.trans (same_new n0) (same_new m1)) (same_new n1)) hD), C.own 9 j (by decide) hj, _, rfl, .ref (cs 10), .ref (cs 10), decide (10 = j), rfl, (fun _ r => r), (dAt_same (Same.trans (Same.trans (same_new n0) (same_new m1)) (same_new n1)) hD), C.own 10 j (by decide) hj, _, rfl, .ref (cs 11), .ref (cs 11), decide (11 = j), rfl, (fun _ r => r), (dAt_same (Same.trans (Same.trans (same_new n0) (same_new m1)) (same_new n1)) hD), C.own 11 j (by decide) hj, (by show 4 ≤ sizeLine; decide), fun q2 m2 => ?_⟩
    refine ⟨_, _, _, _, rfl, rfl, same_new m2 _ _ upd_same, upd_same, (by show 12 ≤ sizeLine; decide), fun p2 n2 => ?_⟩
    refine ⟨_, rfl, _, rfl, .ref (cs 12), .ref (cs 12), decide (12 = j), rfl, (fun _ r => r), (dAt_same (Same.trans (Same.trans (Same.trans (Same.trans (same_new n0) (same_new m1)) (same_new n1)) (same_new m2)) (same_new n2)) hD), C.own 12 j (by decide) hj, _, rfl, .ref (cs 13), .ref (cs 13), decide (13 = j), rfl, (fun _ r => r), (dAt_same (Same.trans (Same.trans (Same.trans (Same.trans (same_new n0) (same_new m1)) (same_new n1)) (same_new m2)) (same_new n2)) hD), C.own 13 j (by decide) hj, _, rfl, .ref (cs 14), .ref (cs 14), decide (14 = j), rfl, (fun _ r => r), (dAt_same (Same.trans (Same.trans (Same.trans (Same.trans (same_new n0) (same_new m1)) (same_new n1)) (same_new m2)) (same_new n2)) hD), C.own 14 j (by decide) hj, _, rfl, .ref (cs 15), .ref (cs 15), decide (15 = j), rfl, (fun _ r => r), (dAt_same (Same.trans (Same.trans (Same.trans (Same.trans (same_new n0) (same_new m1)) (same_new n1)) (same_new m2)) (same_new n2)) hD), C.own 15 j (by decide) hj, (by show 4 ≤ sizeLine; decide), fun q3 m3 => ?_⟩
    refine ⟨_, _, _, _, rfl, rfl, same_new m3 _ _ upd_same, upd_same, (by show 16 ≤ sizeLine; decide), fun p3 n3 => ?_⟩
    refine ⟨_, rfl, _, rfl, .ref (cs 16), .ref (cs 16), decide (16 = j), rfl, (fun _ r => r), (dAt_same (Same.trans (Same.trans (Same.trans (Same.trans (Same.trans (Same.trans (same_new n0) (same_new m1)) (same_new n1)) (same_new m2)) (same_new n2)) (same_new m3)) (same_new n3)) hD), C.own 16 j (by decide) hj, _, rfl, .ref (cs 17), .ref (cs 17), decide (17 = j), rfl, (fun _ r => r), (dAt_same (Same.trans (Same.trans (Same.trans (Same.trans (Same.trans (Same.trans (same_new n0) (same_new m1)) (same_new n1)) (same_new m2)) (same_new n2)) (same_new m3)) (same_new n3)) hD), C.own 17 j (by decide) hj, _, rfl, .ref (cs 18), .ref (cs 18), decide (18 = j), rfl, (fun _ r => r), (dAt_same (Same.trans (Same.trans (Same.trans (Same.trans (Same.trans (Same.trans (same_new n0) (same_new m1)) (same_new n1)) (same_new m2)) (same_new n2)) (same_new m3)) (same_new n3)) hD), C.own 18 j (by decide) hj, _, rfl, .ref (cs 19), .ref (cs 19), decide (19 = j), rfl, (fun _ r => r), (dAt_same (Same.trans (Same.trans (Same.trans (Same.trans (Same.trans (Same.trans (same_new n0) (same_new m1)) (same_new n1)) (same_new m2)) (same_new n2)) (same_new m3)) (same_new n3)) hD), C.own 19 j (by decide) hj, (by show 4 ≤ sizeLine; decide), fun q4 m4 => ?_⟩
    refine ⟨_, _, _, _, rfl, rfl, same_new m4 _ _ upd_same, upd_same, (by show 20 ≤ sizeLine; decide), fun p4 n4 => ?_⟩
    refine ⟨_, rfl, _, rfl, .ref (cs 20), .ref (cs 20), decide (20 = j), rfl, (fun _ r => r), (dAt_same (Same.trans (Same.trans (Same.trans (Same.trans (Same.trans (Same.trans (Same.trans (Same.trans (same_new n0) (same_new m1)) (same_new n1)) (same_new m2)) (same_new n2)) (same_new m3)) (same_new n3)) (same_new m4)) (same_new n4)) hD), C.own 20 j (by decide) hj, _, rfl, .ref (cs 21), .ref (cs 21), decide (21 = j), rfl, (fun _ r => r), (dAt_same (Same.trans (Same.trans (Same.trans (Same.trans (Same.trans (Same.trans (Same.trans (Same.trans (same_new n0) (same_new m1)) (same_new n1)) (same_new m2)) (same_new n2)) (same_new m3)) (same_new n3)) (same_new m4)) (same_new n4)) hD), C.own 21 j (by decide) hj, _, rfl, .ref (cs 22), .ref (cs 22), decide (22 = j), rfl, (fun _ r => r), (dAt_same (Same.trans (Same.trans (Same.trans (Same.trans (Same.trans (Same.trans (Same.trans (Same.trans (same_new n0) (same_new m1)) (same_new n1)) (same_new m2)) (same_new n2)) (same_new m3)) (same_new n3)) (same_new m4)) (same_new n4)) hD), C.own 22 j (by decide) hj, (by show 3 ≤ sizeLine; decide), fun q5 m5 => ?_⟩
    refine ⟨_, _, _, _, rfl, rfl, same_new m5 _ _ upd_same, upd_same, (by show 23 ≤ sizeLine; decide), fun p5 n5 => ?_⟩
    exact own_comp hj (Same.trans (Same.trans (Same.trans (Same.trans (Same.trans (Same.trans (Same.trans (Same.trans (Same.trans (Same.trans (same_new n0) (same_new m1)) (same_new n1)) (same_new m2)) (same_new n2)) (same_new m3)) (same_new n3)) (same_new m4)) (same_new n4)) (same_new m5)) (same_new n5)) (upd_same.trans (congrArg (fun l => some (HO.lst l)) (tests_eq j))) k
end
end Lq


set_option Elab.async false
set_option linter.all false
set_option maxRecDepth 100000
set_option maxHeartbeats 4000000
namespace Lq
open PySem L2 L2.LqX L2H
def aboveV (j : Nat) : List V := [.bl (decide (j < 13)), .bl (decide (j < 13)), .bl (decide (13 ≤ j ∧ j < 15)), .bl (decide (13 ≤ j ∧ j < 20)), .bl (decide (20 ≤ j)), .bl false, .bl false]
/-- no built-in class's name is taken by the module -/
structure BN (mg : Str → Option Value) : Prop where
  ve : mg "ValueError" = none
  ke : mg "KeyError" = none
  le : mg "LookupError" = none
  re : mg "RuntimeError" = none
  ae : mg "ArithmeticError" = none
  ie : mg "IndexError" = none
/-- _law_above(e): under which classes it is -/
def spAbove (a : Addr) (d : Option Addr) (j : Nat) : Sp := fun vs H Q _ => vs = [.ref a] ∧ DAt H d ∧ ∀ (p : Addr) (H' : Hp), Same H H' → H p = none → H' p = some (.lst (aboveV j)) → Q (.ref p) H'
/-- _law_field(e): its field, of the first eleven -/
def spField (a : Addr) (d : Option Addr) (j : Nat) : Sp := fun vs H Q _ => ∃ (dd : Addr) (v : V), vs = [.ref a] ∧ d = some dd ∧ H dd = some (.xd [(fl j, v)]) ∧ Q v H
section
variable {P : Program} {w : World} {K : PySem.W.Frag} {mg : Str → Option Value} {base : Heap}
theorem scAbove : FnScope ["e", "found"] ["e"] (defScope sAbove) := ⟨rfl, rfl, rfl, by decide +kernel, rfl, by decide +kernel, by decide +kernel⟩
theorem ok_above {f : Addr} {fd : FuncData} {cs : Nat → Addr} {cL a : Addr} {d : Option Addr} {j : Nat} (F : Fun K "_law_above" "_law_above" sAbove f fd) (C : CF K mg cs cL) (hj : j < 23) (hii : mg "isinstance" = none) (B : BN mg) : FnE P w K mg base 1 f fd ["e"] a (.ref (cs j)) d (spAbove a d j) := by
  refine Fun.okE F scAbove (fun vs H Q E h => ?_) (fun cdv A outer s H vs Q E oe hn hr h => ?_)
  · obtain ⟨rfl, _⟩ := h
    rfl
  · obtain ⟨rfl, hD, k⟩ := h
    have cr := call_isX (X := (cxH CX0 P w K mg base ["e", "found"] "_law_above" (defScope sAbove) f cdv A outer s H E (a, oe)).nox) (a := a) (oe := oe) (C.ex j hj) List.mem_cons_self hn.z.zc hn.fl
    refine ⟨_, pss_cons (ps_set (i := 1) scAbove.nd rfl (Or.inl rfl) (pe_lst (pa_cons (pe_callB cr (by rfl) hii PyProof.Rows.boot_isinstance (pa_cons (pv 0) (pa_cons (pe_glob (v := .ref cL) (by rfl) C.gL rfl) pa_nil))) (pa_cons (pe_callB cr (by rfl) hii PyProof.Rows.boot_isinstance (pa_cons (pv 0) (pa_cons (pe_bltn (by rfl) B.ve (by decide +kernel : bootBuiltins "ValueError" = some (.type "ValueError")) (v := .ty "ValueError") rfl) pa_nil))) (pa_cons (pe_callB cr (by rfl) hii PyProof.Rows.boot_isinstance (pa_cons (pv 0) (pa_cons (pe_bltn (by rfl) B.ke (by decide +kernel : bootBuiltins "KeyError" = some (.type "KeyError")) (v := .ty "KeyError") rfl) pa_nil))) (pa_cons (pe_callB cr (by rfl) hii PyProof.Rows.boot_isinstance (pa_cons (pv 0) (pa_cons (pe_bltn (by rfl) B.le (by decide +kernel : bootBuiltins "LookupError" = some (.type "LookupError")) (v := .ty "LookupError") rfl) pa_nil))) pa_nil))))))
      (pss_one (ps_ret (pe_op op_cat (pv 1) (pe_lst (pa_cons (pe_callB cr (by rfl) hii PyProof.Rows.boot_isinstance (pa_cons (pv 0) (pa_cons (pe_bltn (by rfl) B.re (by decide +kernel : bootBuiltins "RuntimeError" = some (.type "RuntimeError")) (v := .ty "RuntimeError") rfl) pa_nil))) (pa_cons (pe_callB cr (by rfl) hii PyProof.Rows.boot_isinstance (pa_cons (pv 0) (pa_cons (pe_bltn (by rfl) B.ae (by decide +kernel : bootBuiltins "ArithmeticError" = some (.type "ArithmeticError")) (v := .ty "ArithmeticError") rfl) pa_nil))) (pa_cons (pe_callB cr (by rfl) hii PyProof.Rows.boot_isinstance (pa_cons (pv 0) (pa_cons (pe_bltn (by rfl) B.ie (by decide +kernel : bootBuiltins "IndexError" = some (.type "IndexError")) (v := .ty "IndexError") rfl) pa_nil))) pa_nil))))))), ?_⟩
    refine ⟨_, rfl, .ref cL, .ref cL, decide (j < 13), rfl, (fun _ r => r), hD, C.late j hj, _, rfl, .ty "ValueError", .type "ValueError", decide (j < 13), rfl, (fun _ r => r), hD, C.ve j hj, _, rfl, .ty "KeyError", .type "KeyError", decide (13 ≤ j ∧ j < 15), rfl, (fun _ r => r), hD, C.ke j hj, _, rfl, .ty "LookupError", .type "LookupError", decide (13 ≤ j ∧ j < 20), rfl, (fun _ r => r), hD, C.le j hj, (by show 4 ≤ sizeLine; decide), fun p0 n0 => ?_⟩
    refine ⟨_, rfl, _, rfl, .ty "RuntimeError", .type "RuntimeError", decide (20 ≤ j), rfl, (fun _ r => r), (dAt_same (same_new n0) hD), C.re j hj, _, rfl, .ty "ArithmeticError", .type "ArithmeticError", false, rfl, (fun _ r => r), (dAt_same (same_new n0) hD), C.ae j hj, _, rfl, .ty "IndexError", .type "IndexError", false, rfl, (fun _ r => r), (dAt_same (same_new n0) hD), C.ie j hj, (by show 3 ≤ sizeLine; decide), fun q1 m1 => ?_⟩
    refine ⟨_, _, _, _, rfl, rfl, same_new m1 _ _ upd_same, upd_same, (by show 7 ≤ sizeLine; decide), fun p1 n1 => ?_⟩
    exact k p1 _ (Same.trans (Same.trans (same_new n0) (same_new m1)) (same_new n1)) ((same_new n0).free ((same_new m1).free n1)) upd_same
theorem scField : FnScope ["e"] ["e"] (defScope sField) := ⟨rfl, rfl, rfl, by decide +kernel, rfl, by decide +kernel, by decide +kernel⟩
theorem look1 {f : Str} {v : V} : ([(f, v)] : List (Str × V)).lookup f = some v := by
  rw [lookup_put, if_pos rfl]
theorem ok_field {f : Addr} {fd : FuncData} {cs : Nat → Addr} {cL a : Addr} {d : Option Addr} {j : Nat} (F : Fun K "_law_field" "_law_field" sField f fd) (C : CF K mg cs cL) (hj : j < 11) (hii : mg "isinstance" = none) : FnE P w K mg base 1 f fd ["e"] a (.ref (cs j)) d (spField a d j) := by
  have hj' : j < 23 := by omega
  refine Fun.okE F scField (fun vs H Q E h => ?_) (fun cdv A outer s H vs Q E oe hn hr h => ?_)
  · obtain ⟨_, _, rfl, _⟩ := h
    rfl
  · obtain ⟨dd, v, rfl, rfl, hd, k⟩ := h
    have hD : DAt H (some dd) := fun x z => by
      cases z
      exact ⟨_, hd⟩
    have cr := call_isX (X := (cxH CX0 P w K mg base ["e"] "_law_field" (defScope sField) f cdv A outer s H E (a, oe)).nox) (a := a) (oe := oe) (C.ex j hj') List.mem_cons_self hn.z.zc hn.fl
    refine ⟨_, (pss_cons (ps_if (PW.pt (pw_or (pt_val (pe_callB cr (by rfl) hii PyProof.Rows.boot_isinstance (pa_cons (pv 0) (pa_cons (pe_glob (v := .ref (cs 0)) (by rfl) (C.g 0 (by decide)) rfl) pa_nil)))) (pw_or1 (pt_val (pe_callB cr (by rfl) hii PyProof.Rows.boot_isinstance (pa_cons (pv 0) (pa_cons (pe_glob (v := .ref (cs 2)) (by rfl) (C.g 2 (by decide)) rfl) pa_nil))))))) (pss_one (ps_ret (pe_fldX (C.xf j hj') (C.no j 0 hj' (by decide)) List.mem_cons_self hn.z.zc hn.fl (pv 0)))) pss_nil)
      (pss_cons (ps_if (PW.pt (pw_or (pt_val (pe_callB cr (by rfl) hii PyProof.Rows.boot_isinstance (pa_cons (pv 0) (pa_cons (pe_glob (v := .ref (cs 1)) (by rfl) (C.g 1 (by decide)) rfl) pa_nil)))) (pw_or1 (pt_val (pe_callB cr (by rfl) hii PyProof.Rows.boot_isinstance (pa_cons (pv 0) (pa_cons (pe_glob (v := .ref (cs 3)) (by rfl) (C.g 3 (by decide)) rfl) pa_nil))))))) (pss_one (ps_ret (pe_fldX (C.xf j hj') (C.no j 1 hj' (by decide)) List.mem_cons_self hn.z.zc hn.fl (pv 0)))) pss_nil)
      (pss_cons (ps_if (pt_val (pe_callB cr (by rfl) hii PyProof.Rows.boot_isinstance (pa_cons (pv 0) (pa_cons (pe_glob (v := .ref (cs 4)) (by rfl) (C.g 4 (by decide)) rfl) pa_nil)))) (pss_one (ps_ret (pe_fldX (C.xf j hj') (C.no j 4 hj' (by decide)) List.mem_cons_self hn.z.zc hn.fl (pv 0)))) pss_nil)
      (pss_cons (ps_if (pt_val (pe_callB cr (by rfl) hii PyProof.Rows.boot_isinstance (pa_cons (pv 0) (pa_cons (pe_glob (v := .ref (cs 5)) (by rfl) (C.g 5 (by decide)) rfl) pa_nil)))) (pss_one (ps_ret (pe_fldX (C.xf j hj') (C.no j 5 hj' (by decide)) List.mem_cons_self hn.z.zc hn.fl (pv 0)))) pss_nil)
      (pss_cons (ps_if (pt_val (pe_callB cr (by rfl) hii PyProof.Rows.boot_isinstance (pa_cons (pv 0) (pa_cons (pe_glob (v := .ref (cs 6)) (by rfl) (C.g 6 (by decide)) rfl) pa_nil)))) (pss_one (ps_ret (pe_fldX (C.xf j hj') (C.no j 6 hj' (by decide)) List.mem_cons_self hn.z.zc hn.fl (pv 0)))) pss_nil)
      (pss_cons (ps_if (pt_val (pe_callB cr (by rfl) hii PyProof.Rows.boot_isinstance (pa_cons (pv 0) (pa_cons (pe_glob (v := .ref (cs 7)) (by rfl) (C.g 7 (by decide)) rfl) pa_nil)))) (pss_one (ps_ret (pe_fldX (C.xf j hj') (C.no j 7 hj' (by decide)) List.mem_cons_self hn.z.zc hn.fl (pv 0)))) pss_nil)
      (pss_cons (ps_if (pt_val (pe_callB cr (by rfl) hii PyProof.Rows.boot_isinstance (pa_cons (pv 0) (pa_cons (pe_glob (v := .ref (cs 8)) (by rfl) (C.g 8 (by decide)) rfl) pa_nil)))) (pss_one (ps_ret (pe_fldX (C.xf j hj') (C.no j 8 hj' (by decide)) List.mem_cons_self hn.z.zc hn.fl (pv 0)))) pss_nil)
      (pss_one (ps_ret (pe_ifExp (pt_val (pe_callB cr (by rfl) hii PyProof.Rows.boot_isinstance (pa_cons (pv 0) (pa_cons (pe_glob (v := .ref (cs 9)) (by rfl) (C.g 9 (by decide)) rfl) pa_nil)))) (pe_fldX (C.xf j hj') (C.no j 9 hj' (by decide)) List.mem_cons_self hn.z.zc hn.fl (pv 0)) (pe_fldX (C.xf j hj') (C.no j 10 hj' (by decide)) List.mem_cons_self hn.z.zc hn.fl (pv 0)))))))))))), ?_⟩
    have T : ∀ i : Nat, i = j → decide (i = j) = true := fun i h => decide_eq_true h
    have N : ∀ i : Nat, ¬ i = j → ¬ decide (i = j) = true := fun i h => by rw [decide_eq_false h]; exact Bool.false_ne_true
    refine ⟨_, rfl, .ref (cs 0), .ref (cs 0), decide (0 = j), rfl, (fun _ r => r), hD, C.own 0 j (by decide) hj', _, rfl, ite2 (fun h => ite2 (fun _ => ?_) (fun z => absurd rfl z)) (fun n0 => ⟨_, rfl, .ref (cs 2), .ref (cs 2), decide (2 = j), rfl, (fun _ r => r), hD, C.own 2 j (by decide) hj', _, rfl, ite2 (fun h => ?_) (fun n2 => ?_)⟩)⟩
    · have h := of_decide_eq_true h
      subst h
      exact ⟨_, rfl, rfl, dd, _, v, rfl, hd, look1, k⟩
    · have h := of_decide_eq_true h
      subst h
      exact ⟨_, rfl, rfl, dd, _, v, rfl, hd, look1, k⟩
    refine ⟨_, rfl, .ref (cs 1), .ref (cs 1), decide (1 = j), rfl, (fun _ r => r), hD, C.own 1 j (by decide) hj', _, rfl, ite2 (fun h => ite2 (fun _ => ?_) (fun z => absurd rfl z)) (fun n1 => ⟨_, rfl, .ref (cs 3), .ref (cs 3), decide (3 = j), rfl, (fun _ r => r), hD, C.own 3 j (by decide) hj', _, rfl, ite2 (fun h => ?_) (fun n3 => ?_)⟩)⟩
    · have h := of_decide_eq_true h
      subst h
      exact ⟨_, rfl, rfl, dd, _, v, rfl, hd, look1, k⟩
    · have h := of_decide_eq_true h
      subst h
      exact ⟨_, rfl, rfl, dd, _, v, rfl, hd, look1, k⟩
    refine ⟨_, rfl, .ref (cs 4), .ref (cs 4), decide (4 = j), rfl, (fun _ r => r), hD, C.own 4 j (by decide) hj', _, rfl, ite2 (fun h => ?_) (fun n4 => ?_)⟩
    · have h := of_decide_eq_true h
      subst h
      exact ⟨_, rfl, rfl, dd, _, v, rfl, hd, look1, k⟩
    refine ⟨_, rfl, .ref (cs 5), .ref (cs 5), decide (5 = j), rfl, (fun _ r => r), hD, C.own 5 j (by decide) hj', _, rfl, ite2 (fun h => ?_) (fun n5 => ?_)⟩
    · have h := of_decide_eq_true h
      subst h
      exact ⟨_, rfl, rfl, dd, _, v, rfl, hd, look1, k⟩
    refine ⟨_, rfl, .ref (cs 6), .ref (cs 6), decide (6 = j), rfl, (fun _ r => r), hD, C.own 6 j (by decide) hj', _, rfl, ite2 (fun h => ?_) (fun n6 => ?_)⟩
    · have h := of_decide_eq_true h
      subst h
      exact ⟨_, rfl, rfl, dd, _, v, rfl, hd, look1, k⟩
    refine ⟨_, rfl, .ref (cs 7), .ref (cs 7), decide (7 = j), rfl, (fun _ r => r), hD, C.own 7 j (by decide) hj', _, rfl, ite2 (fun h => ?_) (fun n7 => ?_)⟩
    · have h := of_decide_eq_true h
      subst h
      exact ⟨_, rfl, rfl, dd, _, v, rfl, hd, look1, k⟩
    refine ⟨_, rfl, .ref (cs 8), .ref (cs 8), decide (8 = j), rfl, (fun _ r => r), hD, C.own 8 j (by decide) hj', _, rfl, ite2 (fun h => ?_) (fun n8 => ?_)⟩
    · have h := of_decide_eq_true h
      subst h
      exact ⟨_, rfl, rfl, dd, _, v, rfl, hd, look1, k⟩
    refine ⟨_, rfl, .ref (cs 9), .ref (cs 9), decide (9 = j), rfl, (fun _ r => r), hD, C.own 9 j (by decide) hj', _, rfl, ite2 (fun h => ?_) (fun n9 => ?_)⟩
    · have h := of_decide_eq_true h
      subst h
      exact ⟨_, rfl, rfl, dd, _, v, rfl, hd, look1, k⟩
    · have e : j = 10 := by
        have U : ∀ i : Nat, ¬ decide (i = j) = true → i ≠ j := fun i h z => h (decide_eq_true z)
        have := U 0 n0
        have := U 1 n1
        have := U 2 n2
        have := U 3 n3
        have := U 4 n4
        have := U 5 n5
        have := U 6 n6
        have := U 7 n7
        have := U 8 n8
        have := U 9 n9
        omega
      subst e
      exact ⟨_, rfl, rfl, dd, _, v, rfl, hd, look1, k⟩
end
end Lq


set_option Elab.async false
set_option linter.all false
set_option maxRecDepth 100000
set_option maxHeartbeats 8000000
namespace Lq
open PySem L2 L2.LqX L2H
abbrev sFirst : Stmt := topS 33
abbrev sSecond : Stmt := topS 34
abbrev sThird : Stmt := topS 36
abbrev sFourth : Stmt := topS 37
def aboveD (j : Nat) : List PyData := [.bool (decide (j < 13)), .bool (decide (j < 13)), .bool (decide (13 ≤ j ∧ j < 15)), .bool (decide (13 ≤ j ∧ j < 20)), .bool (decide (20 ≤ j)), .bool false, .bool false]
/-- what is told of the j-th error, made with d -/
def dueD (j : Nat) (d : PyData) : PyData := .tuple [.list [.int j], .list (aboveD j), d]
theorem takesN0 {X : Cx} : L2N.Takes X (fun _ _ _ _ => False) := fun _ _ x => by
  obtain ⟨_, _, _, _, _, _, _, _, _, _, _, _, _, _, _, _, z⟩ := x
  exact z.elim
theorem roomH {k : Nat} {A : Around} (r : Room k A) (h : Option Value) : RoomH k (A.mark h) := ⟨r.dp, r.un⟩
/-- a promise for each class, as one for any class -/
def spAny (cs : Nat → Addr) (cls : Value) (n : Nat) (sp : Nat → Sp) : Sp := fun vs H Q E => ∃ j, j < n ∧ cls = .ref (cs j) ∧ sp j vs H Q E
section
variable {P : Program} {w : World} {K : PySem.W.Frag} {mg : Str → Option Value} {base : Heap}
theorem anyE {k n : Nat} {f : Addr} {fd : FuncData} {ps : List Str} {a : Addr} {cls : Value} {d : Option Addr} {cs : Nat → Addr} {sp : Nat → Sp} (h : ∀ j, j < n → FnE P w K mg base k f fd ps a (.ref (cs j)) d (sp j)) : FnE P w K mg base k f fd ps a cls d (spAny cs cls n sp) where
  len := fun vs H Q E ⟨j, hj, _, z⟩ => (h j hj).len vs H Q E z
  run := by
    intro A outer s H args us vs Q E oe hr hn pin e0 b r ⟨j, hj, ec, z⟩
    subst ec
    exact (h j hj).run A outer s H args us vs Q E oe hr hn pin e0 b r z
theorem dueDp {H : Hp} {p1 p2 p3 : Addr} {v : V} {d : PyData} {j : Nat} (h1 : H p1 = some (.lst [.int j])) (h2 : H p2 = some (.lst (aboveV j))) (h3 : Dp K H v d) (n : H p3 = none) : Dp K (upd H p3 (.tup [.ref p1, .ref p2, v])) (.ref p3) (dueD j d) :=
  .tup (.of upd_same) (.cons (.lst (.of (same_new n _ _ h1)) (.cons (.int _) .nil)) (.cons (.lst (.of (same_new n _ _ h2)) (.cons (.bl _) (.cons (.bl _) (.cons (.bl _) (.cons (.bl _) (.cons (.bl _) (.cons (.bl _) (.cons (.bl _) .nil)))))))) (.cons (dp_same (same_new n) h3) .nil)))
/-- the defs that tell of a caught error -/
structure Told (P : Program) (w : World) (K : PySem.W.Frag) (mg : Str → Option Value) (base : Heap) (cs : Nat → Addr) (fO fA fF : Addr) (fdO fdA fdF : FuncData) : Prop where
  own : ∀ (a : Addr) (d : Option Addr) (j : Nat), j < 23 → FnE P w K mg base 1 fO fdO ["e"] a (.ref (cs j)) d (spOwn a d j)
  above : ∀ (a : Addr) (d : Option Addr) (j : Nat), j < 23 → FnE P w K mg base 1 fA fdA ["e"] a (.ref (cs j)) d (spAbove a d j)
  field : ∀ (a : Addr) (d : Option Addr) (j : Nat), j < 11 → FnE P w K mg base 1 fF fdF ["e"] a (.ref (cs j)) d (spField a d j)
  kO : PySem.W.keepIn K (.ref fO) = true
  kA : PySem.W.keepIn K (.ref fA) = true
  kF : PySem.W.keepIn K (.ref fF) = true
  bO : Binds K fdO ["e"] []
  bA : Binds K fdA ["e"] []
  bF : Binds K fdF ["e"] []
  mO : mg "_law_own" = some (.ref fO)
  mA : mg "_law_above" = some (.ref fA)
  mF : mg "_law_field" = some (.ref fF)
/-- how the errors are made -/
structure MK (P : Program) (w : World) (K : PySem.W.Frag) (mg : Str → Option Value) (base : Heap) (cs : Nat → Addr) (cL : Addr) : Prop where
  m1 : ∀ j, j < 23 → j ≠ 11 → j ≠ 12 → j ≠ 21 → ∃ (B newId initId : String) (bB : List Value) (ps : List Str) (fI : Addr) (fdI : FuncData), ExcBaseFacts B newId initId bB ∧ XC K (cs j) B newId ∧ PySem.W.findIn K (.ref (cs j)) "__init__" = some (some (.ref fI)) ∧
    PySem.W.typeIn K (.ref fI) = some (.type "function") ∧ FnOk P w K mg base CX0 6 fI fdI ps (spInit K (cs j) (fl j) 4) ∧ Binds K fdI ps []
  m0 : ∀ j, j = 11 ∨ j = 12 ∨ j = 21 → ∃ (B newId initId : String) (bB : List Value), ExcBaseFacts B newId initId bB ∧ PySem.W.excIn K (cs j) bB newId = true ∧ PySem.W.keepIn K (.ref (cs j)) = true ∧ PySem.W.subIn K (.ref (cs j)) (.type "BaseException") = some true ∧
    PySem.W.typeIn K (.ref (cs j)) = some (.type "type")
  exL : ∀ j, j < 13 → PySem.W.exmOne K (.ref (cs j)) (.ref cL) = some true
  exO : ∀ i j, i < 23 → j < 23 → PySem.W.exmOne K (.ref (cs j)) (.ref (cs i)) = some (decide (i = j))

/-- a call in the suite, as it is read -/
abbrev tCE (sp : Sp) : TE := fun σ H Q => tCons (tVar 2) tNil σ H fun vs H1 => sp vs H1 Q E0
theorem suite_two {cs : Nat → Addr} {j : Nat} (hj : j < 23) {a : Addr} {dx : Option Addr} {σ : L2.St} (hσ : σ[2]? = some (some (.ref a))) {H : Hp} {d : PyData} {te : TE} {Q : VK} (hD : DAt H dx)
    (third : ∀ H1, Same H H1 → ∀ Q', (∀ v', Dp K H1 v' d → Q' v' H1) → te σ H1 Q') (k : ∀ (p : Addr) (H' : Hp), Same H H' → Dp K H' (.ref p) (dueD j d) → Q (.ref p) H') :
    tTup (tCons (tCE (spAny cs (.ref (cs j)) 23 (spOwn a dx))) (tCons (tCE (spAny cs (.ref (cs j)) 23 (spAbove a dx))) (tCons te tNil))) σ H Q := by
  refine ⟨_, hσ, j, hj, rfl, rfl, hD, fun p1 H1 e1 n1 l1 => ⟨_, hσ, j, hj, rfl, rfl, dAt_same e1 hD, fun p2 H2 e2 n2 l2 => third H2 (e1.trans e2) _ fun v' hv => ⟨(by show 3 ≤ sizeLine; decide), fun p3 n3 => ?_⟩⟩⟩
  exact k p3 _ ((e1.trans e2).trans (same_new n3)) (dueDp (e2 _ _ l1) l2 hv n3)
theorem third_field {cs : Nat → Addr} {j : Nat} (hj : j < 11) {a dx : Addr} {σ : L2.St} (hσ : σ[2]? = some (some (.ref a))) {H : Hp} {d : PyData} {v : V} (l : H dx = some (.xd [(fl j, v)])) (hd : Dp K H v d) :
    ∀ H1, Same H H1 → ∀ Q', (∀ v', Dp K H1 v' d → Q' v' H1) → tCE (spAny cs (.ref (cs j)) 11 (spField a (some dx))) σ H1 Q' := fun H1 e1 Q' k => ⟨_, hσ, j, hj, rfl, dx, v, rfl, rfl, e1 _ _ l, k v (dp_same e1 hd)⟩
theorem dAt_some {H : Hp} {dx : Addr} {fs : List (Str × V)} (l : H dx = some (.xd fs)) : DAt H (some dx) := fun y z => by
  cases z
  exact ⟨fs, l⟩
theorem pmk_j {X : Cx} (K0 : PySem.W.Frag) (eK : K0 = X.K) {cs : Nat → Addr} {cL : Addr} {j : Nat} {x : Str} {e : Expr} {es : List Expr} {ta : TA} {p pos : Pos} (M : MK X.prog X.w X.K X.mg X.base cs cL) (hj : j < 23) (n1 : j ≠ 11) (n2 : j ≠ 12) (n3 : j ≠ 21) (hr : Room 7 X.A) (hg : Gl X x) (hm : X.mg x = some (.ref (cs j))) (ha : PA X (e :: es) ta)
    (hdb : (x == ("__debug__" : Str)) = false := by decide) (he : starEach (e :: es) X.env = (false, eval e X.env) :: starEach es X.env := by rfl) (hpl : (backTo pos (starEach es X.env)).any (·.1) = false := by rfl) : L2N.PMk X (.Call (.Name x p) (e :: es) [] pos) (tMkO (cs j) (spInit K0 (cs j) (fl j) 4) [] ta) := by
  subst eK
  obtain ⟨B, newId, initId, bB, ps, fI, fdI, FB, T, iC, tI, F1, hb⟩ := M.m1 j hj n1 n2 n3
  exact pmk_x FB T iC tI F1 hr hb pass0 hg hm ha hdb he hpl
theorem pmk_j0 {X : Cx} {cs : Nat → Addr} {cL : Addr} {j : Nat} {x : Str} {p pos : Pos} (M : MK X.prog X.w X.K X.mg X.base cs cL) (hj : j = 11 ∨ j = 12 ∨ j = 21) (hg : Gl X x) (hm : X.mg x = some (.ref (cs j))) (hdb : (x == ("__debug__" : Str)) = false := by decide) : L2N.PMk X (.Call (.Name x p) [] [] pos) (fun _ H Q => Q (.ref (cs j)) none H) := by
  obtain ⟨B, newId, initId, bB, FB, q, kC, s1, t1⟩ := M.m0 j hj
  exact pmk_0 FB q hm kC (raises_own s1 t1) hg hdb
/-- the promise of _law_first .. _law_fourth: of the errors lo .. hi - 1 -/
def spRaise (K : PySem.W.Frag) (lo hi : Nat) : Sp := fun vs H Q _ => ∃ (v : V) (d : PyData) (j : Nat), vs = [v, .int j] ∧ Dp K H v d ∧ d.depth ≤ 4 ∧ short 1000 d ∧ lo ≤ j ∧ j < hi ∧ ∀ (p : Addr) (H' : Hp), Same H H' → Dp K H' (.ref p) (dueD j d) → Q (.ref p) H'
theorem scFirst : FnScope ["thing", "k", "e"] ["thing", "k"] (defScope sFirst) := ⟨rfl, rfl, rfl, by decide +kernel, rfl, by decide +kernel, by decide +kernel⟩
theorem ok_first {f : Addr} {fd : FuncData} {cs : Nat → Addr} {cL fO fA fF : Addr} {fdO fdA fdF : FuncData} (F : Fun K "_law_first" "_law_first" sFirst f fd) (C : CF K mg cs cL) (M : MK P w K mg base cs cL) (T : Told P w K mg base cs fO fA fF fdO fdA fdF) : FnOk P w K mg base CX0 8 f fd ["thing", "k"] (spRaise K 0 7) := by
  refine F.ok scFirst (fun vs H Q E h => ?_) (fun cdv A outer s H vs Q E hr h => ?_)
  · obtain ⟨_, _, _, rfl, _⟩ := h
    rfl
  · obtain ⟨v, d, j, rfl, hd, hdep, hsh, hlo, hhi, k⟩ := h
    refine ⟨_, pss_one (L2N.ps_try_as (i := 2) rfl rfl scFirst.nd rfl rfl ⟨rfl, by decide, .inl C.gL⟩ takesN0 (fun W pn xe tk _ =>
        (pss_cons (ps_if (pt_cmpR op_eq (pv 1) pe_int (nomark _)) (pss_one (L2N.ps_raise rfl tk (pmk_j K rfl (j := 0) M (by decide) (by decide) (by decide) (by decide) hr (by rfl) (C.g 0 (by decide)) (pa_cons (pv 0) pa_nil)))) pss_nil)
        (pss_cons (ps_if (pt_cmpR op_eq (pv 1) pe_int (nomark _)) (pss_one (L2N.ps_raise rfl tk (pmk_j K rfl (j := 1) M (by decide) (by decide) (by decide) (by decide) hr (by rfl) (C.g 1 (by decide)) (pa_cons (pv 0) pa_nil)))) pss_nil)
        (pss_cons (ps_if (pt_cmpR op_eq (pv 1) pe_int (nomark _)) (pss_one (L2N.ps_raise rfl tk (pmk_j K rfl (j := 2) M (by decide) (by decide) (by decide) (by decide) hr (by rfl) (C.g 2 (by decide)) (pa_cons (pv 0) pa_nil)))) pss_nil)
        (pss_cons (ps_if (pt_cmpR op_eq (pv 1) pe_int (nomark _)) (pss_one (L2N.ps_raise rfl tk (pmk_j K rfl (j := 3) M (by decide) (by decide) (by decide) (by decide) hr (by rfl) (C.g 3 (by decide)) (pa_cons (pv 0) pa_nil)))) pss_nil)
        (pss_cons (ps_if (pt_cmpR op_eq (pv 1) pe_int (nomark _)) (pss_one (L2N.ps_raise rfl tk (pmk_j K rfl (j := 4) M (by decide) (by decide) (by decide) (by decide) hr (by rfl) (C.g 4 (by decide)) (pa_cons (pv 0) pa_nil)))) pss_nil)
        (pss_cons (ps_if (pt_cmpR op_eq (pv 1) pe_int (nomark _)) (pss_one (L2N.ps_raise rfl tk (pmk_j K rfl (j := 5) M (by decide) (by decide) (by decide) (by decide) hr (by rfl) (C.g 5 (by decide)) (pa_cons (pv 0) pa_nil)))) pss_nil)
        (pss_one (L2N.ps_raise rfl tk (pmk_j K rfl (j := 6) M (by decide) (by decide) (by decide) (by decide) hr (by rfl) (C.g 6 (by decide)) (pa_cons (pv 0) pa_nil)))))))))))
      (fun a oe cls d pn hz hf => (pss_one (ps_ret (pe_tup (pa_cons (pe_callE (anyE (T.own a d)) (roomH (hr.mono (by decide)) _) (hnd_suite hz hf) List.mem_cons_self (by rfl) T.mO T.kO T.bO (pa_cons (pv 2) pa_nil)) (pa_cons (pe_callE (anyE (T.above a d)) (roomH (hr.mono (by decide)) _) (hnd_suite hz hf) List.mem_cons_self (by rfl) T.mA T.kA T.bA (pa_cons (pv 2) pa_nil)) (pa_cons (pe_callE (anyE (T.field a d)) (roomH (hr.mono (by decide)) _) (hnd_suite hz hf) List.mem_cons_self (by rfl) T.mF T.kF T.bF (pa_cons (pv 2) pa_nil)) pa_nil)))))))), ?_⟩
    refine ⟨_, rfl, rfl, _, rfl, ite2 (fun h => ?_) (fun n0 => ?_)⟩
    · have h0 : j = 0 := by
        have := of_decide_eq_true h
        injection this with this
        omega
      subst h0
      exact raised rfl hd hdep hsh fun dx v' H' e nx l hv => ⟨true, M.exL 0 (by decide), fun _ a ha => suite_two (by decide) rfl (dAt_some l) (third_field (by decide) rfl l hv) fun p H2 e2 z => k p H2 (e.trans e2) z, fun z => nomatch z⟩
    refine ⟨_, rfl, rfl, _, rfl, ite2 (fun h => ?_) (fun n1 => ?_)⟩
    · have h0 : j = 1 := by
        have := of_decide_eq_true h
        injection this with this
        omega
      subst h0
      exact raised rfl hd hdep hsh fun dx v' H' e nx l hv => ⟨true, M.exL 1 (by decide), fun _ a ha => suite_two (by decide) rfl (dAt_some l) (third_field (by decide) rfl l hv) fun p H2 e2 z => k p H2 (e.trans e2) z, fun z => nomatch z⟩
    refine ⟨_, rfl, rfl, _, rfl, ite2 (fun h => ?_) (fun n2 => ?_)⟩
    · have h0 : j = 2 := by
        have := of_decide_eq_true h
        injection this with this
        omega
      subst h0
      exact raised rfl hd hdep hsh fun dx v' H' e nx l hv => ⟨true, M.exL 2 (by decide), fun _ a ha => suite_two (by decide) rfl (dAt_some l) (third_field (by decide) rfl l hv) fun p H2 e2 z => k p H2 (e.trans e2) z, fun z => nomatch z⟩
    refine ⟨_, rfl, rfl, _, rfl, ite2 (fun h => ?_) (fun n3 => ?_)⟩
    · have h0 : j = 3 := by
        have := of_decide_eq_true h
        injection this with this
        omega
      subst h0
      exact raised rfl hd hdep hsh fun dx v' H' e nx l hv => ⟨true, M.exL 3 (by decide), fun _ a ha => suite_two (by decide) rfl (dAt_some l) (third_field (by decide) rfl l hv) fun p H2 e2 z => k p H2 (e.trans e2) z, fun z => nomatch z⟩
    refine ⟨_, rfl, rfl, _, rfl, ite2 (fun h => ?_) (fun n4 => ?_)⟩
    · have h0 : j = 4 := by
        have := of_decide_eq_true h
        injection this with this
        omega
      subst h0
      exact raised rfl hd hdep hsh fun dx v' H' e nx l hv => ⟨true, M.exL 4 (by decide), fun _ a ha => suite_two (by decide) rfl (dAt_some l) (third_field (by decide) rfl l hv) fun p H2 e2 z => k p H2 (e.trans e2) z, fun z => nomatch z⟩
    refine ⟨_, rfl, rfl, _, rfl, ite2 (fun h => ?_) (fun n5 => ?_)⟩
    · have h0 : j = 5 := by
        have := of_decide_eq_true h
        injection this with this
        omega
      subst h0
      exact raised rfl hd hdep hsh fun dx v' H' e nx l hv => ⟨true, M.exL 5 (by decide), fun _ a ha => suite_two (by decide) rfl (dAt_some l) (third_field (by decide) rfl l hv) fun p H2 e2 z => k p H2 (e.trans e2) z, fun z => nomatch z⟩
    have h6 : j = 6 := by
      have U : ∀ i : Nat, ¬ decide (V.int (j : Int) = V.int (i : Int)) = true → j ≠ i := fun i h z => h (decide_eq_true (by rw [z]))
      have := U 0 n0
      have := U 1 n1
      have := U 2 n2
      have := U 3 n3
      have := U 4 n4
      have := U 5 n5
      omega
    subst h6
    unfold tNext
    dsimp only
    exact raised rfl hd hdep hsh fun dx v' H' e nx l hv => ⟨true, M.exL 6 (by decide), fun _ a ha => suite_two (by decide) rfl (dAt_some l) (third_field (by decide) rfl l hv) fun p H2 e2 z => k p H2 (e.trans e2) z, fun z => nomatch z⟩
end
end Lq


set_option Elab.async false
set_option linter.all false
set_option maxRecDepth 100000
set_option maxHeartbeats 8000000
namespace Lq
open PySem L2 L2.LqX L2H
section
variable {P : Program} {w : World} {K : PySem.W.Frag} {mg : Str → Option Value} {base : Heap}
theorem dAt_none {H : Hp} : DAt H none := fun _ z => nomatch z
theorem scSecond : FnScope ["thing", "k", "e"] ["thing", "k"] (defScope sSecond) := ⟨rfl, rfl, rfl, by decide +kernel, rfl, by decide +kernel, by decide +kernel⟩
theorem scThird : FnScope ["thing", "k", "e"] ["thing", "k"] (defScope sThird) := ⟨rfl, rfl, rfl, by decide +kernel, rfl, by decide +kernel, by decide +kernel⟩
theorem scFourth : FnScope ["thing", "k", "e"] ["thing", "k"] (defScope sFourth) := ⟨rfl, rfl, rfl, by decide +kernel, rfl, by decide +kernel, by decide +kernel⟩
abbrev tLate (te : TE) : TE := tIf (tB (tOp (rI0 fun i j => .bl (decide (j < i))) (tVar 1) (tC (.int 10)))) (tVar 0) te
theorem late_field {j : Nat} (hj : j ≤ 10) {te : TE} {σ : L2.St} (h1 : σ[1]? = some (some (.int j))) {H : Hp} {Q : VK} (h : te σ H Q) : tLate te σ H Q := by
  refine ⟨_, h1, _, _, rfl, rfl, _, rfl, ?_⟩
  dsimp only
  rw [if_neg (by
    rw [decide_eq_false (by omega)]
    exact Bool.false_ne_true)]
  exact h
theorem late_thing {j : Nat} (hj : 10 < j) {te : TE} {σ : L2.St} (h1 : σ[1]? = some (some (.int j))) {v : V} (h0 : σ[0]? = some (some v)) {H : Hp} {Q : VK} (h : Q v H) : tLate te σ H Q := by
  refine ⟨_, h1, _, _, rfl, rfl, _, rfl, ?_⟩
  dsimp only
  rw [if_pos (decide_eq_true (by omega))]
  exact ⟨v, h0, h⟩
theorem ok_second {f : Addr} {fd : FuncData} {cs : Nat → Addr} {cL fO fA fF : Addr} {fdO fdA fdF : FuncData} (F : Fun K "_law_second" "_law_second" sSecond f fd) (C : CF K mg cs cL) (M : MK P w K mg base cs cL) (T : Told P w K mg base cs fO fA fF fdO fdA fdF) : FnOk P w K mg base CX0 8 f fd ["thing", "k"] (spRaise K 7 13) := by
  refine F.ok scSecond (fun vs H Q E h => ?_) (fun cdv A outer s H vs Q E hr h => ?_)
  · obtain ⟨_, _, _, rfl, _⟩ := h
    rfl
  · obtain ⟨v, d, j, rfl, hd, hdep, hsh, hlo, hhi, k⟩ := h
    refine ⟨_, pss_one (L2N.ps_try_as (i := 2) rfl rfl scSecond.nd rfl rfl ⟨rfl, by decide, .inl C.gL⟩ takesN0 (fun W pn xe tk _ =>
        (pss_cons (ps_if (pt_cmpR op_eq (pv 1) pe_int (nomark _)) (pss_one (L2N.ps_raise rfl tk (pmk_j K rfl (j := 7) M (by decide) (by decide) (by decide) (by decide) hr (by rfl) (C.g 7 (by decide)) (pa_cons (pv 0) pa_nil)))) pss_nil)
        (pss_cons (ps_if (pt_cmpR op_eq (pv 1) pe_int (nomark _)) (pss_one (L2N.ps_raise rfl tk (pmk_j K rfl (j := 8) M (by decide) (by decide) (by decide) (by decide) hr (by rfl) (C.g 8 (by decide)) (pa_cons (pv 0) pa_nil)))) pss_nil)
        (pss_cons (ps_if (pt_cmpR op_eq (pv 1) pe_int (nomark _)) (pss_one (L2N.ps_raise rfl tk (pmk_j K rfl (j := 9) M (by decide) (by decide) (by decide) (by decide) hr (by rfl) (C.g 9 (by decide)) (pa_cons (pv 0) pa_nil)))) pss_nil)
        (pss_cons (ps_if (pt_cmpR op_eq (pv 1) pe_int (nomark _)) (pss_one (L2N.ps_raise rfl tk (pmk_j K rfl (j := 10) M (by decide) (by decide) (by decide) (by decide) hr (by rfl) (C.g 10 (by decide)) (pa_cons (pv 0) pa_nil)))) pss_nil)
        (pss_cons (ps_if (pt_cmpR op_eq (pv 1) pe_int (nomark _)) (pss_one (L2N.ps_raise rfl tk (pmk_j0 (j := 11) M (by decide) (by rfl) (C.g 11 (by decide))))) pss_nil)
        (pss_one (L2N.ps_raise rfl tk (pmk_j0 (j := 12) M (by decide) (by rfl) (C.g 12 (by decide)))))))))))
      (fun a oe cls d pn hz hf => (pss_one (ps_ret (pe_tup (pa_cons (pe_callE (anyE (T.own a d)) (roomH (hr.mono (by decide)) _) (hnd_suite hz hf) List.mem_cons_self (by rfl) T.mO T.kO T.bO (pa_cons (pv 2) pa_nil)) (pa_cons (pe_callE (anyE (T.above a d)) (roomH (hr.mono (by decide)) _) (hnd_suite hz hf) List.mem_cons_self (by rfl) T.mA T.kA T.bA (pa_cons (pv 2) pa_nil)) (pa_cons (pe_ifExp (pt_cmpR op_gt (pv 1) pe_int (nomark _)) (pv 0) (pe_callE (anyE (T.field a d)) (roomH (hr.mono (by decide)) _) (hnd_suite hz hf) List.mem_cons_self (by rfl) T.mF T.kF T.bF (pa_cons (pv 2) pa_nil))) pa_nil)))))))), ?_⟩
    refine ⟨_, rfl, rfl, _, rfl, ite2 (fun h => ?_) (fun n7 => ?_)⟩
    · have h0 : j = 7 := by
        have := of_decide_eq_true h
        injection this with this
        omega
      subst h0
      exact raised rfl hd hdep hsh fun dx v' H' e nx l hv => ⟨true, M.exL 7 (by decide), fun _ a ha => suite_two (by decide) rfl (dAt_some l) (fun H1 e1 Q' kk => late_field (j := 7) (by decide) rfl (third_field (by decide) rfl l hv H1 e1 Q' kk)) fun p H2 e2 z => k p H2 (e.trans e2) z, (fun z => nomatch z)⟩
    refine ⟨_, rfl, rfl, _, rfl, ite2 (fun h => ?_) (fun n8 => ?_)⟩
    · have h0 : j = 8 := by
        have := of_decide_eq_true h
        injection this with this
        omega
      subst h0
      exact raised rfl hd hdep hsh fun dx v' H' e nx l hv => ⟨true, M.exL 8 (by decide), fun _ a ha => suite_two (by decide) rfl (dAt_some l) (fun H1 e1 Q' kk => late_field (j := 8) (by decide) rfl (third_field (by decide) rfl l hv H1 e1 Q' kk)) fun p H2 e2 z => k p H2 (e.trans e2) z, (fun z => nomatch z)⟩
    refine ⟨_, rfl, rfl, _, rfl, ite2 (fun h => ?_) (fun n9 => ?_)⟩
    · have h0 : j = 9 := by
        have := of_decide_eq_true h
        injection this with this
        omega
      subst h0
      exact raised rfl hd hdep hsh fun dx v' H' e nx l hv => ⟨true, M.exL 9 (by decide), fun _ a ha => suite_two (by decide) rfl (dAt_some l) (fun H1 e1 Q' kk => late_field (j := 9) (by decide) rfl (third_field (by decide) rfl l hv H1 e1 Q' kk)) fun p H2 e2 z => k p H2 (e.trans e2) z, (fun z => nomatch z)⟩
    refine ⟨_, rfl, rfl, _, rfl, ite2 (fun h => ?_) (fun n10 => ?_)⟩
    · have h0 : j = 10 := by
        have := of_decide_eq_true h
        injection this with this
        omega
      subst h0
      exact raised rfl hd hdep hsh fun dx v' H' e nx l hv => ⟨true, M.exL 10 (by decide), fun _ a ha => suite_two (by decide) rfl (dAt_some l) (fun H1 e1 Q' kk => late_field (j := 10) (by decide) rfl (third_field (by decide) rfl l hv H1 e1 Q' kk)) fun p H2 e2 z => k p H2 (e.trans e2) z, (fun z => nomatch z)⟩
    refine ⟨_, rfl, rfl, _, rfl, ite2 (fun h => ?_) (fun n11 => ?_)⟩
    · have h0 : j = 11 := by
        have := of_decide_eq_true h
        injection this with this
        omega
      subst h0
      exact ⟨true, M.exL 11 (by decide), fun _ a ha => suite_two (by decide) rfl dAt_none (fun H1 e1 Q' kk => late_thing (j := 11) (by decide) rfl rfl (kk v (dp_same e1 hd))) fun p H2 e2 z => k p H2 e2 z, (fun z => nomatch z)⟩
    have hl : j = 12 := by
      have U : ∀ i : Nat, ¬ decide (V.int (j : Int) = V.int (i : Int)) = true → j ≠ i := fun i h z => h (decide_eq_true (by rw [z]))
      have := U 7 n7
      have := U 8 n8
      have := U 9 n9
      have := U 10 n10
      have := U 11 n11
      omega
    subst hl
    unfold tNext
    dsimp only
    exact ⟨true, M.exL 12 (by decide), fun _ a ha => suite_two (by decide) rfl dAt_none (fun H1 e1 Q' kk => late_thing (j := 12) (by decide) rfl rfl (kk v (dp_same e1 hd))) fun p H2 e2 z => k p H2 e2 z, (fun z => nomatch z)⟩
theorem ok_third {f : Addr} {fd : FuncData} {cs : Nat → Addr} {cL fO fA fF : Addr} {fdO fdA fdF : FuncData} (F : Fun K "_law_third" "_law_third" sThird f fd) (C : CF K mg cs cL) (M : MK P w K mg base cs cL) (T : Told P w K mg base cs fO fA fF fdO fdA fdF) : FnOk P w K mg base CX0 8 f fd ["thing", "k"] (spRaise K 13 20) := by
  refine F.ok scThird (fun vs H Q E h => ?_) (fun cdv A outer s H vs Q E hr h => ?_)
  · obtain ⟨_, _, _, rfl, _⟩ := h
    rfl
  · obtain ⟨v, d, j, rfl, hd, hdep, hsh, hlo, hhi, k⟩ := h
    refine ⟨_, pss_one (ps_try_all (i := 2) rfl rfl scThird.nd rfl rfl takesN0 (fun W pn xe tk _ =>
        (pss_cons (ps_if (pt_cmpR op_eq (pv 1) pe_int (nomark _)) (pss_one (L2N.ps_raise rfl tk (pmk_j K rfl (j := 13) M (by decide) (by decide) (by decide) (by decide) hr (by rfl) (C.g 13 (by decide)) (pa_cons (pv 0) pa_nil)))) pss_nil)
        (pss_cons (ps_if (pt_cmpR op_eq (pv 1) pe_int (nomark _)) (pss_one (L2N.ps_raise rfl tk (pmk_j K rfl (j := 14) M (by decide) (by decide) (by decide) (by decide) hr (by rfl) (C.g 14 (by decide)) (pa_cons (pv 0) pa_nil)))) pss_nil)
        (pss_cons (ps_if (pt_cmpR op_eq (pv 1) pe_int (nomark _)) (pss_one (L2N.ps_raise rfl tk (pmk_j K rfl (j := 15) M (by decide) (by decide) (by decide) (by decide) hr (by rfl) (C.g 15 (by decide)) (pa_cons (pv 0) pa_nil)))) pss_nil)
        (pss_cons (ps_if (pt_cmpR op_eq (pv 1) pe_int (nomark _)) (pss_one (L2N.ps_raise rfl tk (pmk_j K rfl (j := 16) M (by decide) (by decide) (by decide) (by decide) hr (by rfl) (C.g 16 (by decide)) (pa_cons (pv 0) pa_nil)))) pss_nil)
        (pss_cons (ps_if (pt_cmpR op_eq (pv 1) pe_int (nomark _)) (pss_one (L2N.ps_raise rfl tk (pmk_j K rfl (j := 17) M (by decide) (by decide) (by decide) (by decide) hr (by rfl) (C.g 17 (by decide)) (pa_cons (pv 0) pa_nil)))) pss_nil)
        (pss_cons (ps_if (pt_cmpR op_eq (pv 1) pe_int (nomark _)) (pss_one (L2N.ps_raise rfl tk (pmk_j K rfl (j := 18) M (by decide) (by decide) (by decide) (by decide) hr (by rfl) (C.g 18 (by decide)) (pa_cons (pv 0) pa_nil)))) pss_nil)
        (pss_one (L2N.ps_raise rfl tk (pmk_j K rfl (j := 19) M (by decide) (by decide) (by decide) (by decide) hr (by rfl) (C.g 19 (by decide)) (pa_cons (pv 0) pa_nil)))))))))))
      (Hds.cons ⟨rfl, by decide, .inl (C.g 13 (by decide))⟩ (fun a oe cls d pn hz hf => (pss_one (ps_ret (pe_tup (pa_cons (pe_callE (anyE (T.own a d)) (roomH (hr.mono (by decide)) _) (hnd_suite hz hf) List.mem_cons_self (by rfl) T.mO T.kO T.bO (pa_cons (pv 2) pa_nil)) (pa_cons (pe_callE (anyE (T.above a d)) (roomH (hr.mono (by decide)) _) (hnd_suite hz hf) List.mem_cons_self (by rfl) T.mA T.kA T.bA (pa_cons (pv 2) pa_nil)) (pa_cons (pe_xf (C.xf 13 (by decide)) (C.no 13 13 (by decide) (by decide)) hz.zc hf (pv 2)) pa_nil))))))) (Hds.cons ⟨rfl, by decide, .inl (C.g 14 (by decide))⟩ (fun a oe cls d pn hz hf => (pss_one (ps_ret (pe_tup (pa_cons (pe_callE (anyE (T.own a d)) (roomH (hr.mono (by decide)) _) (hnd_suite hz hf) List.mem_cons_self (by rfl) T.mO T.kO T.bO (pa_cons (pv 2) pa_nil)) (pa_cons (pe_callE (anyE (T.above a d)) (roomH (hr.mono (by decide)) _) (hnd_suite hz hf) List.mem_cons_self (by rfl) T.mA T.kA T.bA (pa_cons (pv 2) pa_nil)) (pa_cons (pe_xf (C.xf 14 (by decide)) (C.no 14 14 (by decide) (by decide)) hz.zc hf (pv 2)) pa_nil))))))) (Hds.cons ⟨rfl, by decide, .inl (C.g 15 (by decide))⟩ (fun a oe cls d pn hz hf => (pss_one (ps_ret (pe_tup (pa_cons (pe_callE (anyE (T.own a d)) (roomH (hr.mono (by decide)) _) (hnd_suite hz hf) List.mem_cons_self (by rfl) T.mO T.kO T.bO (pa_cons (pv 2) pa_nil)) (pa_cons (pe_callE (anyE (T.above a d)) (roomH (hr.mono (by decide)) _) (hnd_suite hz hf) List.mem_cons_self (by rfl) T.mA T.kA T.bA (pa_cons (pv 2) pa_nil)) (pa_cons (pe_xf (C.xf 15 (by decide)) (C.no 15 15 (by decide) (by decide)) hz.zc hf (pv 2)) pa_nil))))))) (Hds.cons ⟨rfl, by decide, .inl (C.g 16 (by decide))⟩ (fun a oe cls d pn hz hf => (pss_one (ps_ret (pe_tup (pa_cons (pe_callE (anyE (T.own a d)) (roomH (hr.mono (by decide)) _) (hnd_suite hz hf) List.mem_cons_self (by rfl) T.mO T.kO T.bO (pa_cons (pv 2) pa_nil)) (pa_cons (pe_callE (anyE (T.above a d)) (roomH (hr.mono (by decide)) _) (hnd_suite hz hf) List.mem_cons_self (by rfl) T.mA T.kA T.bA (pa_cons (pv 2) pa_nil)) (pa_cons (pe_xf (C.xf 16 (by decide)) (C.no 16 16 (by decide) (by decide)) hz.zc hf (pv 2)) pa_nil))))))) (Hds.cons ⟨rfl, by decide, .inl (C.g 17 (by decide))⟩ (fun a oe cls d pn hz hf => (pss_one (ps_ret (pe_tup (pa_cons (pe_callE (anyE (T.own a d)) (roomH (hr.mono (by decide)) _) (hnd_suite hz hf) List.mem_cons_self (by rfl) T.mO T.kO T.bO (pa_cons (pv 2) pa_nil)) (pa_cons (pe_callE (anyE (T.above a d)) (roomH (hr.mono (by decide)) _) (hnd_suite hz hf) List.mem_cons_self (by rfl) T.mA T.kA T.bA (pa_cons (pv 2) pa_nil)) (pa_cons (pe_xf (C.xf 17 (by decide)) (C.no 17 17 (by decide) (by decide)) hz.zc hf (pv 2)) pa_nil))))))) (Hds.cons ⟨rfl, by decide, .inl (C.g 18 (by decide))⟩ (fun a oe cls d pn hz hf => (pss_one (ps_ret (pe_tup (pa_cons (pe_callE (anyE (T.own a d)) (roomH (hr.mono (by decide)) _) (hnd_suite hz hf) List.mem_cons_self (by rfl) T.mO T.kO T.bO (pa_cons (pv 2) pa_nil)) (pa_cons (pe_callE (anyE (T.above a d)) (roomH (hr.mono (by decide)) _) (hnd_suite hz hf) List.mem_cons_self (by rfl) T.mA T.kA T.bA (pa_cons (pv 2) pa_nil)) (pa_cons (pe_xf (C.xf 18 (by decide)) (C.no 18 18 (by decide) (by decide)) hz.zc hf (pv 2)) pa_nil))))))) (Hds.cons ⟨rfl, by decide, .inl (C.g 19 (by decide))⟩ (fun a oe cls d pn hz hf => (pss_one (ps_ret (pe_tup (pa_cons (pe_callE (anyE (T.own a d)) (roomH (hr.mono (by decide)) _) (hnd_suite hz hf) List.mem_cons_self (by rfl) T.mO T.kO T.bO (pa_cons (pv 2) pa_nil)) (pa_cons (pe_callE (anyE (T.above a d)) (roomH (hr.mono (by decide)) _) (hnd_suite hz hf) List.mem_cons_self (by rfl) T.mA T.kA T.bA (pa_cons (pv 2) pa_nil)) (pa_cons (pe_xf (C.xf 19 (by decide)) (C.no 19 19 (by decide) (by decide)) hz.zc hf (pv 2)) pa_nil))))))) Hds.nil)))))))), ?_⟩
    refine ⟨_, rfl, rfl, _, rfl, ite2 (fun h => ?_) (fun n13 => ?_)⟩
    · have h0 : j = 13 := by
        have := of_decide_eq_true h
        injection this with this
        omega
      subst h0
      exact raised rfl hd hdep hsh fun dx v' H' e nx l hv => ⟨true, M.exO 13 13 (by decide) (by decide), fun _ a ha => suite_two (by decide) rfl (dAt_some l) (fun H1 e1 Q' kk => ⟨_, rfl, rfl, rfl, dx, _, v', rfl, e1 _ _ l, look1, kk v' (dp_same e1 hv)⟩) fun p H2 e2 z => k p H2 (e.trans e2) z, (fun z => nomatch z)⟩
    refine ⟨_, rfl, rfl, _, rfl, ite2 (fun h => ?_) (fun n14 => ?_)⟩
    · have h0 : j = 14 := by
        have := of_decide_eq_true h
        injection this with this
        omega
      subst h0
      exact raised rfl hd hdep hsh fun dx v' H' e nx l hv => ⟨false, M.exO 13 14 (by decide) (by decide), (fun z => nomatch z), fun _ => ⟨true, M.exO 14 14 (by decide) (by decide), fun _ a ha => suite_two (by decide) rfl (dAt_some l) (fun H1 e1 Q' kk => ⟨_, rfl, rfl, rfl, dx, _, v', rfl, e1 _ _ l, look1, kk v' (dp_same e1 hv)⟩) fun p H2 e2 z => k p H2 (e.trans e2) z, (fun z => nomatch z)⟩⟩
    refine ⟨_, rfl, rfl, _, rfl, ite2 (fun h => ?_) (fun n15 => ?_)⟩
    · have h0 : j = 15 := by
        have := of_decide_eq_true h
        injection this with this
        omega
      subst h0
      exact raised rfl hd hdep hsh fun dx v' H' e nx l hv => ⟨false, M.exO 13 15 (by decide) (by decide), (fun z => nomatch z), fun _ => ⟨false, M.exO 14 15 (by decide) (by decide), (fun z => nomatch z), fun _ => ⟨true, M.exO 15 15 (by decide) (by decide), fun _ a ha => suite_two (by decide) rfl (dAt_some l) (fun H1 e1 Q' kk => ⟨_, rfl, rfl, rfl, dx, _, v', rfl, e1 _ _ l, look1, kk v' (dp_same e1 hv)⟩) fun p H2 e2 z => k p H2 (e.trans e2) z, (fun z => nomatch z)⟩⟩⟩
    refine ⟨_, rfl, rfl, _, rfl, ite2 (fun h => ?_) (fun n16 => ?_)⟩
    · have h0 : j = 16 := by
        have := of_decide_eq_true h
        injection this with this
        omega
      subst h0
      exact raised rfl hd hdep hsh fun dx v' H' e nx l hv => ⟨false, M.exO 13 16 (by decide) (by decide), (fun z => nomatch z), fun _ => ⟨false, M.exO 14 16 (by decide) (by decide), (fun z => nomatch z), fun _ => ⟨false, M.exO 15 16 (by decide) (by decide), (fun z => nomatch z), fun _ => ⟨true, M.exO 16 16 (by decide) (by decide), fun _ a ha => suite_two (by decide) rfl (dAt_some l) (fun H1 e1 Q' kk => ⟨_, rfl, rfl, rfl, dx, _, v', rfl, e1 _ _ l, look1, kk v' (dp_same e1 hv)⟩) fun p H2 e2 z => k p H2 (e.trans e2) z, (fun z => nomatch z)⟩⟩⟩⟩
    refine ⟨_, rfl, rfl, _, rfl, ite2 (fun h => ?_) (fun n17 => ?_)⟩
    · have h0 : j = 17 := by
        have := of_decide_eq_true h
        injection this with this
        omega
      subst h0
      exact raised rfl hd hdep hsh fun dx v' H' e nx l hv => ⟨false, M.exO 13 17 (by decide) (by decide), (fun z => nomatch z), fun _ => ⟨false, M.exO 14 17 (by decide) (by decide), (fun z => nomatch z), fun _ => ⟨false, M.exO 15 17 (by decide) (by decide), (fun z => nomatch z), fun _ => ⟨false, M.exO 16 17 (by decide) (by decide), (fun z => nomatch z), fun _ => ⟨true, M.exO 17 17 (by decide) (by decide), fun _ a ha => suite_two (by decide) rfl (dAt_some l) (fun H1 e1 Q' kk => ⟨_, rfl, rfl, rfl, dx, _, v', rfl, e1 _ _ l, look1, kk v' (dp_same e1 hv)⟩) fun p H2 e2 z => k p H2 (e.trans e2) z, (fun z => nomatch z)⟩⟩⟩⟩⟩
    refine ⟨_, rfl, rfl, _, rfl, ite2 (fun h => ?_) (fun n18 => ?_)⟩
    · have h0 : j = 18 := by
        have := of_decide_eq_true h
        injection this with this
        omega
      subst h0
      exact raised rfl hd hdep hsh fun dx v' H' e nx l hv => ⟨false, M.exO 13 18 (by decide) (by decide), (fun z => nomatch z), fun _ => ⟨false, M.exO 14 18 (by decide) (by decide), (fun z => nomatch z), fun _ => ⟨false, M.exO 15 18 (by decide) (by decide), (fun z => nomatch z), fun _ => ⟨false, M.exO 16 18 (by decide) (by decide), (fun z => nomatch z), fun _ => ⟨false, M.exO 17 18 (by decide) (by decide), (fun z => nomatch z), fun _ => ⟨true, M.exO 18 18 (by decide) (by decide), fun _ a ha => suite_two (by decide) rfl (dAt_some l) (fun H1 e1 Q' kk => ⟨_, rfl, rfl, rfl, dx, _, v', rfl, e1 _ _ l, look1, kk v' (dp_same e1 hv)⟩) fun p H2 e2 z => k p H2 (e.trans e2) z, (fun z => nomatch z)⟩⟩⟩⟩⟩⟩
    have hl : j = 19 := by
      have U : ∀ i : Nat, ¬ decide (V.int (j : Int) = V.int (i : Int)) = true → j ≠ i := fun i h z => h (decide_eq_true (by rw [z]))
      have := U 13 n13
      have := U 14 n14
      have := U 15 n15
      have := U 16 n16
      have := U 17 n17
      have := U 18 n18
      omega
    subst hl
    unfold tNext
    dsimp only
    exact raised rfl hd hdep hsh fun dx v' H' e nx l hv => ⟨false, M.exO 13 19 (by decide) (by decide), (fun z => nomatch z), fun _ => ⟨false, M.exO 14 19 (by decide) (by decide), (fun z => nomatch z), fun _ => ⟨false, M.exO 15 19 (by decide) (by decide), (fun z => nomatch z), fun _ => ⟨false, M.exO 16 19 (by decide) (by decide), (fun z => nomatch z), fun _ => ⟨false, M.exO 17 19 (by decide) (by decide), (fun z => nomatch z), fun _ => ⟨false, M.exO 18 19 (by decide) (by decide), (fun z => nomatch z), fun _ => ⟨true, M.exO 19 19 (by decide) (by decide), fun _ a ha => suite_two (by decide) rfl (dAt_some l) (fun H1 e1 Q' kk => ⟨_, rfl, rfl, rfl, dx, _, v', rfl, e1 _ _ l, look1, kk v' (dp_same e1 hv)⟩) fun p H2 e2 z => k p H2 (e.trans e2) z, (fun z => nomatch z)⟩⟩⟩⟩⟩⟩⟩
theorem ok_fourth {f : Addr} {fd : FuncData} {cs : Nat → Addr} {cL fO fA fF : Addr} {fdO fdA fdF : FuncData} (F : Fun K "_law_fourth" "_law_fourth" sFourth f fd) (C : CF K mg cs cL) (M : MK P w K mg base cs cL) (T : Told P w K mg base cs fO fA fF fdO fdA fdF) : FnOk P w K mg base CX0 8 f fd ["thing", "k"] (spRaise K 20 23) := by
  refine F.ok scFourth (fun vs H Q E h => ?_) (fun cdv A outer s H vs Q E hr h => ?_)
  · obtain ⟨_, _, _, rfl, _⟩ := h
    rfl
  · obtain ⟨v, d, j, rfl, hd, hdep, hsh, hlo, hhi, k⟩ := h
    refine ⟨_, pss_one (ps_try_all (i := 2) rfl rfl scFourth.nd rfl rfl takesN0 (fun W pn xe tk _ =>
        (pss_cons (ps_if (pt_cmpR op_eq (pv 1) pe_int (nomark _)) (pss_one (L2N.ps_raise rfl tk (pmk_j K rfl (j := 20) M (by decide) (by decide) (by decide) (by decide) hr (by rfl) (C.g 20 (by decide)) (pa_cons (pv 0) pa_nil)))) pss_nil)
        (pss_cons (ps_if (pt_cmpR op_eq (pv 1) pe_int (nomark _)) (pss_one (L2N.ps_raise rfl tk (pmk_j0 (j := 21) M (by decide) (by rfl) (C.g 21 (by decide))))) pss_nil)
        (pss_one (L2N.ps_raise rfl tk (pmk_j K rfl (j := 22) M (by decide) (by decide) (by decide) (by decide) hr (by rfl) (C.g 22 (by decide)) (pa_cons (pv 0) pa_nil)))))))
      (Hds.cons ⟨rfl, by decide, .inl (C.g 20 (by decide))⟩ (fun a oe cls d pn hz hf => (pss_one (ps_ret (pe_tup (pa_cons (pe_callE (anyE (T.own a d)) (roomH (hr.mono (by decide)) _) (hnd_suite hz hf) List.mem_cons_self (by rfl) T.mO T.kO T.bO (pa_cons (pv 2) pa_nil)) (pa_cons (pe_callE (anyE (T.above a d)) (roomH (hr.mono (by decide)) _) (hnd_suite hz hf) List.mem_cons_self (by rfl) T.mA T.kA T.bA (pa_cons (pv 2) pa_nil)) (pa_cons (pe_xf (C.xf 20 (by decide)) (C.no 20 20 (by decide) (by decide)) hz.zc hf (pv 2)) pa_nil))))))) (Hds.cons ⟨rfl, by decide, .inl (C.g 21 (by decide))⟩ (fun a oe cls d pn hz hf => (pss_one (ps_ret (pe_tup (pa_cons (pe_callE (anyE (T.own a d)) (roomH (hr.mono (by decide)) _) (hnd_suite hz hf) List.mem_cons_self (by rfl) T.mO T.kO T.bO (pa_cons (pv 2) pa_nil)) (pa_cons (pe_callE (anyE (T.above a d)) (roomH (hr.mono (by decide)) _) (hnd_suite hz hf) List.mem_cons_self (by rfl) T.mA T.kA T.bA (pa_cons (pv 2) pa_nil)) (pa_cons (pv 0) pa_nil))))))) (Hds.cons ⟨rfl, by decide, .inl (C.g 22 (by decide))⟩ (fun a oe cls d pn hz hf => (pss_one (ps_ret (pe_tup (pa_cons (pe_callE (anyE (T.own a d)) (roomH (hr.mono (by decide)) _) (hnd_suite hz hf) List.mem_cons_self (by rfl) T.mO T.kO T.bO (pa_cons (pv 2) pa_nil)) (pa_cons (pe_callE (anyE (T.above a d)) (roomH (hr.mono (by decide)) _) (hnd_suite hz hf) List.mem_cons_self (by rfl) T.mA T.kA T.bA (pa_cons (pv 2) pa_nil)) (pa_cons (pe_xf (C.xf 22 (by decide)) (C.no 22 22 (by decide) (by decide)) hz.zc hf (pv 2)) pa_nil))))))) Hds.nil)))), ?_⟩
    refine ⟨_, rfl, rfl, _, rfl, ite2 (fun h => ?_) (fun n20 => ?_)⟩
    · have h0 : j = 20 := by
        have := of_decide_eq_true h
        injection this with this
        omega
      subst h0
      exact raised rfl hd hdep hsh fun dx v' H' e nx l hv => ⟨true, M.exO 20 20 (by decide) (by decide), fun _ a ha => suite_two (by decide) rfl (dAt_some l) (fun H1 e1 Q' kk => ⟨_, rfl, rfl, rfl, dx, _, v', rfl, e1 _ _ l, look1, kk v' (dp_same e1 hv)⟩) fun p H2 e2 z => k p H2 (e.trans e2) z, (fun z => nomatch z)⟩
    refine ⟨_, rfl, rfl, _, rfl, ite2 (fun h => ?_) (fun n21 => ?_)⟩
    · have h0 : j = 21 := by
        have := of_decide_eq_true h
        injection this with this
        omega
      subst h0
      exact ⟨false, M.exO 20 21 (by decide) (by decide), (fun z => nomatch z), fun _ => ⟨true, M.exO 21 21 (by decide) (by decide), fun _ a ha => suite_two (by decide) rfl dAt_none (fun H1 e1 Q' kk => ⟨v, rfl, kk v (dp_same e1 hd)⟩) fun p H2 e2 z => k p H2 e2 z, (fun z => nomatch z)⟩⟩
    have hl : j = 22 := by
      have U : ∀ i : Nat, ¬ decide (V.int (j : Int) = V.int (i : Int)) = true → j ≠ i := fun i h z => h (decide_eq_true (by rw [z]))
      have := U 20 n20
      have := U 21 n21
      omega
    subst hl
    unfold tNext
    dsimp only
    exact raised rfl hd hdep hsh fun dx v' H' e nx l hv => ⟨false, M.exO 20 22 (by decide) (by decide), (fun z => nomatch z), fun _ => ⟨false, M.exO 21 22 (by decide) (by decide), (fun z => nomatch z), fun _ => ⟨true, M.exO 22 22 (by decide) (by decide), fun _ a ha => suite_two (by decide) rfl (dAt_some l) (fun H1 e1 Q' kk => ⟨_, rfl, rfl, rfl, dx, _, v', rfl, e1 _ _ l, look1, kk v' (dp_same e1 hv)⟩) fun p H2 e2 z => k p H2 (e.trans e2) z, (fun z => nomatch z)⟩⟩⟩
end
end Lq


set_option Elab.async false
set_option linter.all false
set_option maxRecDepth 100000
set_option maxHeartbeats 8000000
/-! The things that errors are made with -/
namespace Lq
open PySem L2 L2.LqX
abbrev sThing : Stmt := topS 38
theorem str_len_app (a b : Str) : (a ++ b).length = a.length + b.length := strLen_append a b
theorem textFrom_le : ∀ (ts : List Str) (k : Nat) (acc : Str), (textFrom k acc ts).length ≤ acc.length + piled ts
  | [], k, acc => Nat.le_add_right _ _
  | t :: ts, k, acc => by
    rw [piled_cons]
    refine Nat.le_trans (textFrom_le ts (k + 1) _) ?_
    rw [str_len_app, str_len_app]
    have : (Str.ofString (if k > 0 then ", " else "")).length ≤ 2 := by
      split
      · decide +kernel
      · decide +kernel
    omega
theorem listText_le (ts : List Str) : (listText ts).length ≤ piled ts + 2 := by
  unfold listText
  rw [str_len_app]
  have := textFrom_le ts 0 "["
  have h1 : (Str.ofString "[").length = 1 := by decide +kernel
  have h2 : (Str.ofString "]").length = 1 := by decide +kernel
  omega
theorem tupleText_le (ts : List Str) : (tupleText ts).length ≤ piled ts + 3 := by
  unfold tupleText
  rw [str_len_app, str_len_app]
  have h1 : (Str.ofString "(").length = 1 := by decide +kernel
  have h2 : (Str.ofString (if (ts.length == 1) = true then ",)" else ")")).length ≤ 2 := by
    split
    · decide +kernel
    · decide +kernel
  have h3 : (Str.join ", " ts).length ≤ piled ts := by
    cases ts with
    | nil => decide +kernel
    | cons t r =>
      have := join_length_add (t :: r) (by simp)
      omega
  omega
/-- what is asked of a thing: not deep, nothing long, to be shown -/
structure Good (m n : Nat) (d : PyData) : Prop where
  dp : d.depth ≤ m
  sh : short 1000 d
  sw : d.showable = true
  nd : d.hasDict = false
  ln : d.shown.length ≤ n
theorem good_int {r : Int} (h : r.natAbs.log2 < 1920) : Good 0 2000 (.int r) :=
  ⟨Nat.le_refl _, trivial, by simpa [PyData.showable] using h, rfl, Nat.le_trans (by simpa only [PyData.shown] using PyProof.Rows.int_text_len_1921 h) (by decide)⟩
theorem good_list1 {m n : Nat} {d : PyData} (h : Good m n d) : Good (m + 1) (n + 4) (.list [d]) := by
  refine ⟨?_, ?_, ?_, ?_, ?_⟩
  · simp only [PyData.depth, PyData.depthAll]
    have := h.dp
    omega
  · exact ⟨(by show 1 ≤ 1000; decide), h.sh, trivial⟩
  · simp [PyData.showable, PyData.showableAll, h.sw]
  · simp [PyData.hasDict, PyData.hasDictAll, h.nd]
  · simp only [PyData.shown, PyData.shownAll]
    refine Nat.le_trans (listText_le _) ?_
    rw [piled_cons, piled_nil]
    have := h.ln
    omega
theorem good_tup2 {m n : Nat} {d e : PyData} (h : Good m n d) (g : Good m n e) : Good (m + 1) (2 * n + 7) (.tuple [d, e]) := by
  refine ⟨?_, ?_, ?_, ?_, ?_⟩
  · simp only [PyData.depth, PyData.depthAll]
    have := h.dp
    have := g.dp
    omega
  · exact ⟨(by show 2 ≤ 1000; decide), h.sh, g.sh, trivial⟩
  · simp [PyData.showable, PyData.showableAll, h.sw, g.sw]
  · simp [PyData.hasDict, PyData.hasDictAll, h.nd, g.nd]
  · simp only [PyData.shown, PyData.shownAll]
    refine Nat.le_trans (tupleText_le _) ?_
    rw [piled_cons, piled_cons, piled_nil]
    have := h.ln
    have := g.ln
    omega
theorem Good.mono {m n m' n' : Nat} {d : PyData} (h : Good m n d) (hm : m ≤ m') (hn : n ≤ n') : Good m' n' d := ⟨Nat.le_trans h.dp hm, h.sh, h.sw, h.nd, Nat.le_trans h.ln hn⟩
def smallD : List PyData := [.none, .int 0, .int 1, .int (-1), .bool true, .bool false, .str "", .str "a", .tuple [.int 1, .int 2], .list [.int 0, .str "x"], .tuple [.tuple [.int 0], .none], .int (10 ^ 39)]
def goodB (d : PyData) : Bool := decide (d.depth ≤ 2) && (d.showable && (!d.hasDict && decide (d.shown.length ≤ 2000)))
theorem good_of {d : PyData} (h : goodB d = true) (hs : short 1000 d) : Good 2 2000 d := by
  unfold goodB at h
  simp only [Bool.and_eq_true, decide_eq_true_eq, Bool.not_eq_true'] at h
  exact ⟨h.1, hs, h.2.1, h.2.2.1, h.2.2.2⟩
theorem smallGood : ∀ d ∈ smallD, Good 2 2000 d := by
  have hb : smallD.all goodB = true := by decide +kernel
  have hs : shortAll 1000 smallD := by simp [smallD, short, shortAll]
  intro d hd
  refine good_of (List.all_eq_true.mp hb d hd) ?_
  obtain ⟨i, hi, e⟩ := List.mem_iff_getElem.mp hd
  exact shortAll_get hs (i := i) (by rw [List.getElem?_eq_getElem hi, e])
/-- _law_thing(source): a thing, in new lists and tuples -/
def spThing (K : PySem.W.Frag) : Sp := fun vs H Q _ => ∃ (a : Addr) (g s t : Int), vs = [.ref a] ∧ H a = some (.lst (srcL g s t)) ∧ Src g s t ∧ t + 3 < 100000 ∧
  ∀ (v : V) (d : PyData) (H' : Hp) (g' t' : Int), Good 3 5000 d → Dp K (newp H H') v d → (∀ b o, H b = some o → b ≠ a → H' b = some o) → H' a = some (.lst (srcL g' s t')) → Src g' s t' → t' ≤ t + 3 → Q v H'
section
variable {P : Program} {w : World} {K : PySem.W.Frag} {mg : Str → Option Value} {base : Heap}
theorem newp_upd {H H' : Hp} {a : Addr} {o u : HO} (ha : H a = some u) : Same (newp H H') (newp H (upd H' a o)) := fun b x z => by
  obtain ⟨z1, z2⟩ := newp_some z
  rw [newp_free z1, upd_ne (fun y => by rw [y, ha] at z1; cases z1)]
  exact z2
theorem newp_new {H H' : Hp} {p : Addr} {o : HO} (hp : H' p = none) : Same (newp H H') (newp H (upd H' p o)) := fun b x z => by
  obtain ⟨z1, z2⟩ := newp_some z
  rw [newp_free z1]
  exact same_new hp _ _ z2
theorem newp_at {H H' : Hp} {p : Addr} {o : HO} (e : H p = none) : newp H (upd H' p o) p = some o := by
  rw [newp_free e]
  exact upd_same
theorem thing_two {H Hz : Hp} {a : Addr} {g sd t g1 t1 : Int} {v : V} {d : PyData} {Q : VK} {nx : L2.St → Hp → Prop} (ha : H a = some (.lst (srcL g sd t))) (S1 : Src g1 sd t1) (ht : t1 + 2 < 100000) (keep : ∀ b o, H b = some o → b ≠ a → Hz b = some o) (gd : Good 2 2000 d) (hd : Dp K (newp H Hz) v d) (az : Hz a = some (.lst (srcL g1 sd t1)))
    (k : ∀ (v : V) (d : PyData) (H' : Hp) (g' t' : Int), Good 3 5000 d → Dp K (newp H H') v d → (∀ b o, H b = some o → b ≠ a → H' b = some o) → H' a = some (.lst (srcL g' sd t')) → Src g' sd t' → t' ≤ t1 + 2 → Q v H') :
    tRet (tCall (spOf K) [] E0 (tCons (tVar 0) (tCons (tLst (tCons (tVar 1) (tCons (tTup (tCons (tVar 1) (tCons (tVar 1) tNil))) (tCons (tLst (tCons (tVar 1) tNil)) (tCons (tCall spDraw [] E0 (tCons (tVar 0) (tCons (tOp (rI CPow fun i j => V.int (i ^ j.toNat)) (tC (V.int 10)) (tC (V.int 30))) tNil))) (tCons (tC (V.str "price")) tNil)))))) tNil)))
      { nx := nx, rt := Q } [some (.ref a), some v] Hz := by
  have fr : ∀ {q : Addr}, Hz q = none → H q = none := fun {q} z => by
    by_cases nb : q = a
    · rw [nb, az] at z
      cases z
    · cases e : H q with
      | none => rfl
      | some o =>
        rw [keep q o e nb] at z
        cases z
  refine ⟨_, rfl, _, rfl, _, rfl, _, rfl, (by show 2 ≤ sizeLine; decide), fun q1 m1 => ⟨_, rfl, (by show 1 ≤ sizeLine; decide), fun q2 m2 => ⟨_, rfl, _, _, rfl, rfl, ⟨by decide, by decide, by decide⟩, ?_⟩⟩⟩
  have b1 := same_new (o := .tup [v, v]) m1 _ _ az
  have b2 := same_new (o := .lst [v]) m2 _ _ b1
  refine ⟨a, g1, sd, t1, _, rfl, b2, S1, by omega, (by decide), (by decide), fun r g2 t2 r0 r1 S2 h2 => ⟨(by show 5 ≤ sizeLine; decide), fun q3 m3 => ?_⟩⟩
  have b3 : (upd (upd (upd Hz q1 (.tup [v, v])) q2 (.lst [v])) a (.lst (srcL g2 sd t2))) a = some (.lst (srcL g2 sd t2)) := upd_same
  refine ⟨a, q3, g2, sd, t2, _, rfl, same_new m3 _ _ b3, S2, by omega, .of upd_same, ne_of_none b3 m3, (by show 0 < 5; decide), (by show 5 ≤ 1000; decide), fun i2 v2 g3 t3 hv2 S3 h3 => ?_⟩
  have y1 : H q1 = none := fr m1
  have y2 : H q2 = none := fr ((same_new m1).free m2)
  have w1 : Same (newp H Hz) (newp H (upd (upd (upd (upd (upd Hz q1 (.tup [v, v])) q2 (.lst [v])) a (.lst (srcL g2 sd t2))) q3 (.lst [v, .ref q1, .ref q2, .int r, .str "price"])) a (.lst (srcL g3 sd t3)))) :=
    (newp_new m1).trans ((newp_new m2).trans ((newp_upd ha).trans ((newp_new m3).trans (newp_upd ha))))
  have w2 := (newp_new (H := H) (o := .lst [v]) m2).trans ((newp_upd (o := .lst (srcL g2 sd t2)) ha).trans ((newp_new (o := .lst [v, .ref q1, .ref q2, .int r, .str "price"]) m3).trans (newp_upd (o := .lst (srcL g3 sd t3)) ha))) _ _ (newp_at (H' := Hz) (o := .tup [v, v]) y1)
  have w3 := (newp_upd (o := .lst (srcL g2 sd t2)) ha).trans ((newp_new (o := .lst [v, .ref q1, .ref q2, .int r, .str "price"]) m3).trans (newp_upd (o := .lst (srcL g3 sd t3)) ha)) _ _ (newp_at (H' := upd Hz q1 (.tup [v, v])) (o := .lst [v]) y2)
  have hd2 := dp_same w1 hd
  have all2 : DpAll K (newp H (upd (upd (upd (upd (upd Hz q1 (.tup [v, v])) q2 (.lst [v])) a (.lst (srcL g2 sd t2))) q3 (.lst [v, .ref q1, .ref q2, .int r, .str "price"])) a (.lst (srcL g3 sd t3)))) [v, .ref q1, .ref q2, .int r, .str "price"] [d, .tuple [d, d], .list [d], .int r, .str "price"] :=
    .cons hd2 (.cons (.tup (.of w2) (.cons hd2 (.cons hd2 .nil))) (.cons (.lst (.of w3) (.cons hd2 .nil)) (.cons (.int _) (.cons (.str _) .nil))))
  obtain ⟨d2, hdi2, hdd⟩ := dpl_get all2 hv2
  have r2 : r < 1000000000000000000000000000000 := r1
  have gr : Good 0 2000 (.int r) := good_int (Nat.lt_trans (PySem.Flt.log2_lt_of (k := 100) (by decide) (show r.natAbs < 2 ^ 100 from Nat.lt_of_lt_of_le (show r.natAbs < 1000000000000000000000000000000 by omega) (by decide))) (by decide))
  have good : ∀ x ∈ [d, .tuple [d, d], .list [d], .int r, .str "price"], Good 3 5000 x := by
    intro x hx
    simp only [List.mem_cons, List.not_mem_nil, or_false] at hx
    rcases hx with rfl | rfl | rfl | rfl | rfl
    · exact gd.mono (by decide) (by decide)
    · exact (good_tup2 gd gd).mono (by decide) (by decide)
    · exact (good_list1 gd).mono (by decide) (by decide)
    · exact gr.mono (by decide) (by decide)
    · exact (good_of (d := .str "price") (by decide +kernel) trivial).mono (by decide) (by decide)
  refine k v2 d2 _ g3 t3 (good d2 (List.mem_of_getElem? hdi2)) hdd (fun b o z nb => ?_) upd_same S3 (by omega)
  rw [upd_ne nb]
  refine same_new m3 _ _ ?_
  rw [upd_ne nb]
  exact same_new m2 _ _ (same_new m1 _ _ (keep b o z nb))
theorem scThing : FnScope ["source", "small"] ["source"] (defScope sThing) := ⟨rfl, rfl, rfl, by decide +kernel, rfl, by decide +kernel, by decide +kernel⟩
theorem ok_thing {f fO fD : Addr} {fd fdO fdD : FuncData} (F : Fun K "_law_thing" "_law_thing" sThing f fd) (GO : FnOk P w K mg base CX0 2 fO fdO ["source", "some"] (spOf K)) (bO : Binds K fdO ["source", "some"] []) (kO : PySem.W.keepIn K (.ref fO) = true) (mO : mg "_law_of" = some (.ref fO))
    (GD : FnOk P w K mg base CX0 1 fD fdD ["source", "many"] spDraw) (bD : Binds K fdD ["source", "many"] []) (kD : PySem.W.keepIn K (.ref fD) = true) (mD : mg "_law_draw" = some (.ref fD)) : FnOk P w K mg base CX0 3 f fd ["source"] (spThing K) := by
  refine F.ok scThing (fun vs H Q E h => ?_) (fun cdv A outer s H vs Q E hr h => ?_)
  · obtain ⟨_, _, _, _, rfl, _⟩ := h
    rfl
  · obtain ⟨a, g, sd, t, rfl, ha, S, ht, k⟩ := h
    refine ⟨_, pss_cons (ps_set (i := 1) scThing.nd rfl (Or.inl rfl) (pe_call GO hr (by rfl) mO kO bO .nil pass0 (pa_cons (pv 0) (pa_cons (pe_lst (pa_cons pe_non (pa_cons pe_int (pa_cons pe_int (pa_cons (pe_un un_neg pe_int) (pa_cons pe_bl (pa_cons pe_bl (pa_cons pe_str (pa_cons pe_str
          (pa_cons (pe_tup (pa_cons pe_int (pa_cons pe_int pa_nil))) (pa_cons (pe_lst (pa_cons pe_int (pa_cons pe_str pa_nil))) (pa_cons (pe_tup (pa_cons (pe_tup (pa_cons pe_int pa_nil)) (pa_cons pe_non pa_nil))) (pa_cons (pe_op op_pow pe_int pe_int) pa_nil))))))))))))) pa_nil))))
      (pss_one (ps_ret (pe_call GO hr (by rfl) mO kO bO .nil pass0 (pa_cons (pv 0) (pa_cons (pe_lst (pa_cons (pv 1) (pa_cons (pe_tup (pa_cons (pv 1) (pa_cons (pv 1) pa_nil))) (pa_cons (pe_lst (pa_cons (pv 1) pa_nil))
          (pa_cons (pe_call GD (hr.mono (by decide)) (by rfl) mD kD bD .nil pass0 (pa_cons (pv 0) (pa_cons (pe_op op_pow pe_int pe_int) pa_nil))) (pa_cons pe_str pa_nil)))))) pa_nil))))), ?_⟩
    refine ⟨_, rfl, _, rfl, (by show 2 ≤ sizeLine; decide), fun p1 n1 => ⟨(by show 2 ≤ sizeLine; decide), fun p2 n2 => ⟨(by show 1 ≤ sizeLine; decide), fun p3 n3 => ⟨(by show 2 ≤ sizeLine; decide), fun p4 n4 => ⟨_, _, rfl, rfl, ⟨by decide, by decide, by decide⟩, (by show 12 ≤ sizeLine; decide), fun p5 n5 => ?_⟩⟩⟩⟩⟩
    have a1 := same_new (o := .tup [.int 1, .int 2]) n1 _ _ ha
    have a2 := same_new (o := .lst [.int 0, .str "x"]) n2 _ _ a1
    have a3 := same_new (o := .tup [.int 0]) n3 _ _ a2
    have a4 := same_new (o := .tup [.ref p3, .non]) n4 _ _ a3
    refine ⟨a, p5, g, sd, t, _, rfl, same_new n5 _ _ a4, S, by omega, .of upd_same, ne_of_none a4 n5, (by show 0 < 12; decide), (by show 12 ≤ 1000; decide), fun i v g1 t1 hv S1 h1 => ?_⟩
    have z2 : H p2 = none := (same_new n1).free n2
    have z3 : H p3 = none := (same_new n1).free ((same_new n2).free n3)
    have z4 : H p4 = none := (same_new n1).free ((same_new n2).free ((same_new n3).free n4))
    have keep : ∀ b o, H b = some o → b ≠ a → (upd (upd (upd (upd (upd (upd H p1 (.tup [.int 1, .int 2])) p2 (.lst [.int 0, .str "x"])) p3 (.tup [.int 0])) p4 (.tup [.ref p3, .non])) p5 (.lst [.non, .int 0, .int 1, .int (-1), .bl true, .bl false, .str "", .str "a", .ref p1, .ref p2, .ref p4, .int (10 ^ 39)])) a (.lst (srcL g1 sd t1))) b = some o := fun b o z nb => by
      rw [upd_ne nb]
      exact same_new n5 _ _ (same_new n4 _ _ (same_new n3 _ _ (same_new n2 _ _ (same_new n1 _ _ z))))
    have all : DpAll K (newp H (upd (upd (upd (upd (upd (upd H p1 (.tup [.int 1, .int 2])) p2 (.lst [.int 0, .str "x"])) p3 (.tup [.int 0])) p4 (.tup [.ref p3, .non])) p5 (.lst [.non, .int 0, .int 1, .int (-1), .bl true, .bl false, .str "", .str "a", .ref p1, .ref p2, .ref p4, .int (10 ^ 39)])) a (.lst (srcL g1 sd t1)))) [.non, .int 0, .int 1, .int (-1), .bl true, .bl false, .str "", .str "a", .ref p1, .ref p2, .ref p4, .int (10 ^ 39)] smallD := by
      have s5 := newp_upd (H' := upd (upd (upd (upd (upd H p1 (.tup [.int 1, .int 2])) p2 (.lst [.int 0, .str "x"])) p3 (.tup [.int 0])) p4 (.tup [.ref p3, .non])) p5 (.lst [.non, .int 0, .int 1, .int (-1), .bl true, .bl false, .str "", .str "a", .ref p1, .ref p2, .ref p4, .int (10 ^ 39)])) (o := .lst (srcL g1 sd t1)) ha
      refine dpl_same s5 ?_
      refine dpl_same (newp_new n5) ?_
      have q4 := newp_at (H' := upd (upd (upd H p1 (.tup [.int 1, .int 2])) p2 (.lst [.int 0, .str "x"])) p3 (.tup [.int 0])) (o := .tup [.ref p3, .non]) z4
      have q3 := newp_new (o := .tup [.ref p3, .non]) n4 _ _ (newp_at (H' := upd (upd H p1 (.tup [.int 1, .int 2])) p2 (.lst [.int 0, .str "x"])) (o := .tup [.int 0]) z3)
      have q2 := newp_new (o := .tup [.ref p3, .non]) n4 _ _ (newp_new (o := .tup [.int 0]) n3 _ _ (newp_at (H' := upd H p1 (.tup [.int 1, .int 2])) (o := .lst [.int 0, .str "x"]) z2))
      have q1 := newp_new (o := .tup [.ref p3, .non]) n4 _ _ (newp_new (o := .tup [.int 0]) n3 _ _ (newp_new (o := .lst [.int 0, .str "x"]) n2 _ _ (newp_at (H' := H) (o := .tup [.int 1, .int 2]) n1)))
      exact .cons .non (.cons (.int _) (.cons (.int _) (.cons (.int _) (.cons (.bl _) (.cons (.bl _) (.cons (.str _) (.cons (.str _) (.cons (.tup (.of q1) (.cons (.int _) (.cons (.int _) .nil))) (.cons (.lst (.of q2) (.cons (.int _) (.cons (.str _) .nil)))
        (.cons (.tup (.of q4) (.cons (.tup (.of q3) (.cons (.int _) .nil)) (.cons .non .nil))) (.cons (.int _) .nil)))))))))))
    obtain ⟨d, hdi, hd⟩ := dpl_get all hv
    have gd : Good 2 2000 d := smallGood d (List.mem_of_getElem? hdi)
    have az : (upd (upd (upd (upd (upd (upd H p1 (.tup [.int 1, .int 2])) p2 (.lst [.int 0, .str "x"])) p3 (.tup [.int 0])) p4 (.tup [.ref p3, .non])) p5 (.lst [.non, .int 0, .int 1, .int (-1), .bl true, .bl false, .str "", .str "a", .ref p1, .ref p2, .ref p4, .int (10 ^ 39)])) a (.lst (srcL g1 sd t1))) a = some (.lst (srcL g1 sd t1)) := upd_same
    exact thing_two ha S1 (by omega) keep gd hd az fun v2 d2 H2 g2 t2 x1 x2 x3 x4 x5 x6 => k v2 d2 H2 g2 t2 x1 x2 x3 x4 x5 (by omega)
end
end Lq


set_option Elab.async false
set_option linter.all false
set_option maxRecDepth 100000
set_option maxHeartbeats 8000000
/-! The law itself -/
namespace Lq
open PySem L2 L2.LqX
abbrev sLaw : Stmt := topS 39
def lateL : List V := [.bl true, .bl true, .bl false, .bl false, .bl false, .bl false, .bl false]
def keyL : List V := [.bl false, .bl false, .bl true, .bl true, .bl false, .bl false, .bl false]
def lookL : List V := [.bl false, .bl false, .bl false, .bl true, .bl false, .bl false, .bl false]
def runL : List V := [.bl false, .bl false, .bl false, .bl false, .bl true, .bl false, .bl false]
/-- what the law calls -/
structure LawF (P : Program) (w : World) (K : PySem.W.Frag) (mg : Str → Option Value) (base : Heap) (f : Nat → Addr) (fd : Nat → FuncData) : Prop where
  begin_ : FnOk P w K mg base CX0 1 (f 0) (fd 0) ["script", "at"] (spBegin K)
  thing : FnOk P w K mg base CX0 3 (f 1) (fd 1) ["source"] (spThing K)
  first : FnOk P w K mg base CX0 8 (f 2) (fd 2) ["thing", "k"] (spRaise K 0 7)
  second : FnOk P w K mg base CX0 8 (f 3) (fd 3) ["thing", "k"] (spRaise K 7 13)
  third : FnOk P w K mg base CX0 8 (f 4) (fd 4) ["thing", "k"] (spRaise K 13 20)
  fourth : FnOk P w K mg base CX0 8 (f 5) (fd 5) ["thing", "k"] (spRaise K 20 23)
  kp : ∀ i, i < 6 → PySem.W.keepIn K (.ref (f i)) = true
  b0 : Binds K (fd 0) ["script", "at"] []
  b1 : Binds K (fd 1) ["source"] []
  b2 : Binds K (fd 2) ["thing", "k"] []
  b3 : Binds K (fd 3) ["thing", "k"] []
  b4 : Binds K (fd 4) ["thing", "k"] []
  b5 : Binds K (fd 5) ["thing", "k"] []
  m0 : mg "_law_begin" = some (.ref (f 0))
  m1 : mg "_law_thing" = some (.ref (f 1))
  m2 : mg "_law_first" = some (.ref (f 2))
  m3 : mg "_law_second" = some (.ref (f 3))
  m4 : mg "_law_third" = some (.ref (f 4))
  m5 : mg "_law_fourth" = some (.ref (f 5))
  mlen : mg "len" = none
  mrange : mg "range" = none
  mmax : mg "max" = none
  mmin : mg "min" = none
  mrepr : mg "repr" = none
theorem due_good {j : Nat} {d : PyData} (hj : j < 23) (g : Good 3 5000 d) : (dueD j d).showable = true ∧ (dueD j d).hasDict = false ∧ (dueD j d).depth ≤ 40 ∧ (dueD j d).shown.length ≤ sizeLine := by
  have gi : Good 0 2000 (.int (j : Int)) := good_int (Nat.lt_trans (PySem.Flt.log2_lt_of (k := 100) (by decide) (show (j : Int).natAbs < 2 ^ 100 from Nat.lt_of_lt_of_le (show (j : Int).natAbs < 100 by omega) (by decide))) (by decide))
  have hb : ∀ b : Bool, (PyData.shown (.bool b)).length ≤ 10 := fun b => by cases b <;> decide +kernel
  refine ⟨?_, ?_, ?_, ?_⟩
  · simp [dueD, aboveD, PyData.showable, PyData.showableAll, g.sw]
    have := gi.sw
    simpa [PyData.showable] using this
  · simp [dueD, aboveD, PyData.hasDict, PyData.hasDictAll, g.nd]
  · have := g.dp
    simp only [dueD, aboveD, PyData.depth, PyData.depthAll]
    omega
  · have l1 := gi.ln
    have l2 := g.ln
    have c1 := hb (decide (j < 13))
    have c2 := hb (decide (13 ≤ j ∧ j < 15))
    have c3 := hb (decide (13 ≤ j ∧ j < 20))
    have c4 := hb (decide (20 ≤ j))
    have c5 := hb false
    simp only [dueD, aboveD]
    unfold PyData.shown
    refine Nat.le_trans (tupleText_le _) ?_
    simp only [PyData.shownAll]
    rw [piled_cons, piled_cons, piled_cons, piled_nil]
    have e1 : (PyData.shown (.list [.int (j : Int)])).length ≤ 2010 := by
      unfold PyData.shown
      refine Nat.le_trans (listText_le _) ?_
      simp only [PyData.shownAll]
      rw [piled_cons, piled_nil]
      omega
    have e2 : (PyData.shown (.list [.bool (decide (j < 13)), .bool (decide (j < 13)), .bool (decide (13 ≤ j ∧ j < 15)), .bool (decide (13 ≤ j ∧ j < 20)), .bool (decide (20 ≤ j)), .bool false, .bool false])).length ≤ 200 := by
      unfold PyData.shown
      refine Nat.le_trans (listText_le _) ?_
      simp only [PyData.shownAll]
      rw [piled_cons, piled_cons, piled_cons, piled_cons, piled_cons, piled_cons, piled_cons, piled_nil]
      omega
    rw [sizeLine_eq]
    omega
section
variable {P : Program} {w : World} {K : PySem.W.Frag} {mg : Str → Option Value} {base : Heap}
theorem iT {c : Prop} [Decidable c] {A B : Prop} (h : c) (x : A) : if decide c = true then A else B := by
  rw [if_pos (decide_eq_true h)]
  exact x
theorem iF {c : Prop} [Decidable c] {A B : Prop} (h : ¬ c) (x : B) : if decide c = true then A else B := by
  rw [if_neg (by rw [decide_eq_false h]; exact Bool.false_ne_true)]
  exact x
theorem above_late {j : Nat} (h : j < 13) : aboveV j = lateL := by
  unfold aboveV lateL
  rw [decide_eq_true h, decide_eq_false (show ¬ (13 ≤ j ∧ j < 15) by omega), decide_eq_false (show ¬ (13 ≤ j ∧ j < 20) by omega), decide_eq_false (show ¬ 20 ≤ j by omega)]
theorem above_key {j : Nat} (h : 13 ≤ j) (h2 : j < 15) : aboveV j = keyL := by
  unfold aboveV keyL
  rw [decide_eq_false (show ¬ j < 13 by omega), decide_eq_true (show (13 ≤ j ∧ j < 15) by omega), decide_eq_true (show (13 ≤ j ∧ j < 20) by omega), decide_eq_false (show ¬ 20 ≤ j by omega)]
theorem above_look {j : Nat} (h : 15 ≤ j) (h2 : j < 20) : aboveV j = lookL := by
  unfold aboveV lookL
  rw [decide_eq_false (show ¬ j < 13 by omega), decide_eq_false (show ¬ (13 ≤ j ∧ j < 15) by omega), decide_eq_true (show (13 ≤ j ∧ j < 20) by omega), decide_eq_false (show ¬ 20 ≤ j by omega)]
theorem above_run {j : Nat} (h : 20 ≤ j) : aboveV j = runL := by
  unfold aboveV runL
  rw [decide_eq_false (show ¬ j < 13 by omega), decide_eq_false (show ¬ (13 ≤ j ∧ j < 15) by omega), decide_eq_false (show ¬ (13 ≤ j ∧ j < 20) by omega), decide_eq_true h]
theorem fin_ok {σ : L2.St} {H : Hp} {j : Nat} {d : PyData} {v : V} {p4 lX : Addr} {D : Ends} (h7 : σ[7]? = some (some (.int j))) (h8 : σ[8]? = some (some v)) (h9 : σ[9]? = some (some (.ref lX))) (h10 : σ[10]? = some (some (.ref p4))) (hj : j < 23) (gd : Good 3 5000 d)
    (hd : Dp K H (.ref p4) (dueD j d)) (lx : H lX = some (.lst (aboveV j))) (hv : Dp K H v d) (k : ∀ H5, Same H H5 → D.nx σ H5) :
    tIfS (tB (tOp rNe (tCB (rRepr K) (tCons (tVar 10) tNil)) (tCB (rRepr K) (tCons (tTup (tCons (tLst (tCons (tVar 7) tNil)) (tCons (tVar 9) (tCons (tVar 8) tNil)))) tNil)))) (tRet (tC (.bl false))) tNext D σ H := by
  obtain ⟨g1, g2, g3, g4⟩ := due_good hj gd
  refine ⟨_, h10, p4, dueD j d, rfl, hd, g1, g2, g3, g4, _, h7, (by show 1 ≤ sizeLine; decide), fun q1 m1 => ⟨_, h9, _, h8, (by show 3 ≤ sizeLine; decide), fun q2 m2 => ?_⟩⟩
  refine ⟨q2, dueD j d, rfl, dueDp upd_same (same_new m1 _ _ lx) (dp_same (same_new m1) hv) m2, g1, g2, g3, g4, rfl, _, rfl, iteNS rfl (k _ ((same_new m1).trans (same_new m2)))⟩
theorem scLaw : FnScope ["script", "late", "key", "look", "running", "at", "source", "k", "thing", "above", "found"] ["script"] (defScope sLaw) := ⟨rfl, rfl, rfl, by decide +kernel, rfl, by decide +kernel, by decide +kernel⟩
theorem law_run {fa a : Addr} {fd : FuncData} {s1 : Shared} {ns : List Int} {f : Nat → Addr} {fdd : Nat → FuncData} (F : Fun K "law" "law" sLaw fa fd) (L : ∀ base : Heap, K.In base → base.Ns mainGlobals mg → LawF P w K mg base f fdd) (hb : ∀ (s : Shared) (u : Value), BindsTo s fd ⟨[u], []⟩ [("script", u)]) (hns : ns.length ≤ 63) : LawRun P w K mg fa a s1 ns := by
  refine Fun.lawRun F scLaw ⟨rfl, by decide, by decide⟩ hb fun cdv base H kb nb only sq => ?_
  have L := L base kb nb
  have r9 : Room 9 callerA := ⟨rfl, by decide, by decide⟩
  have hr := r9.deeper (PyProof.Rows.envOfC "law" (defScope sLaw) s1.heap.objs.size fa cdv)
  have cr := call_repr (X := (cxOf CX0 P w K mg base ["script", "late", "key", "look", "running", "at", "source", "k", "thing", "above", "found"] "law" (defScope sLaw) fa cdv callerA [] s1 H E0).nox) rfl hr.units
  refine ⟨_, pss_cons (ps_par (i := 1) (j := 2) rfl scLaw.nd rfl rfl (by decide) rfl rfl (pa_cons (pe_lst (pa_cons pe_bl (pa_cons pe_bl (pa_cons pe_bl (pa_cons pe_bl (pa_cons pe_bl (pa_cons pe_bl (pa_cons pe_bl pa_nil)))))))) (pa_cons (pe_lst (pa_cons pe_bl (pa_cons pe_bl (pa_cons pe_bl (pa_cons pe_bl (pa_cons pe_bl (pa_cons pe_bl (pa_cons pe_bl pa_nil)))))))) pa_nil)) (by rfl))
    (pss_cons (ps_par (i := 3) (j := 4) rfl scLaw.nd rfl rfl (by decide) rfl rfl (pa_cons (pe_lst (pa_cons pe_bl (pa_cons pe_bl (pa_cons pe_bl (pa_cons pe_bl (pa_cons pe_bl (pa_cons pe_bl (pa_cons pe_bl pa_nil)))))))) (pa_cons (pe_lst (pa_cons pe_bl (pa_cons pe_bl (pa_cons pe_bl (pa_cons pe_bl (pa_cons pe_bl (pa_cons pe_bl (pa_cons pe_bl pa_nil)))))))) pa_nil)) (by rfl))
    (pss_cons (ps_for PassesOwn.never rfl (pi_range1 (by rfl) L.mrange (pa_cons (pe_callB (call_max2 rfl) (by rfl) L.mmax PyProof.Rows.boot_max (pa_cons pe_int (pa_cons (pe_callB (call_min2 rfl) (by rfl) L.mmin PyProof.Rows.boot_min (pa_cons pe_int (pa_cons (pe_callB call_len_seq (by rfl) L.mlen PySem.boot_len (pa_cons (pv 0) pa_nil)) pa_nil))) pa_nil))) pa_nil)) (pg_name (i := 5) scLaw.nd rfl (Or.inl rfl))
      (pss_cons (ps_set (i := 6) scLaw.nd rfl (Or.inl rfl) (pe_call L.begin_ (hr.mono (by decide)) (by rfl) L.m0 (L.kp 0 (by decide)) L.b0 .nil pass0 (pa_cons (pv 0) (pa_cons (pv 5) pa_nil))))
      (pss_one (ps_for PassesOwn.never rfl (pi_range1 (by rfl) L.mrange (pa_cons pe_int pa_nil)) (pg_name (i := 7) scLaw.nd rfl (Or.inl rfl))
        (pss_cons (ps_set (i := 8) scLaw.nd rfl (Or.inl rfl) (pe_call L.thing (hr.mono (by decide)) (by rfl) L.m1 (L.kp 1 (by decide)) L.b1 .nil pass0 (pa_cons (pv 6) pa_nil)))
        (pss_cons (ps_set (i := 9) scLaw.nd rfl (Or.inl rfl) (pe_ifExp (pt_cmpR op_lt (pv 7) pe_int (nomark _)) (pv 1) (pe_ifExp (pt_cmpR op_lt (pv 7) pe_int (nomark _)) (pv 2) (pe_ifExp (pt_cmpR op_lt (pv 7) pe_int (nomark _)) (pv 3) (pv 4)))))
        (pss_cons (ps_set (i := 10) scLaw.nd rfl (Or.inl rfl) (pe_ifExp (pt_cmpR op_lt (pv 7) pe_int (nomark _)) (pe_call L.first hr (by rfl) L.m2 (L.kp 2 (by decide)) L.b2 .nil pass0 (pa_cons (pv 8) (pa_cons (pv 7) pa_nil)))
          (pe_ifExp (pt_cmpR op_lt (pv 7) pe_int (nomark _)) (pe_call L.second hr (by rfl) L.m3 (L.kp 3 (by decide)) L.b3 .nil pass0 (pa_cons (pv 8) (pa_cons (pv 7) pa_nil))) pe_non)))
        (pss_cons (ps_if (pt_cmpR op_gt (pv 7) pe_int (nomark _)) (pss_one (ps_set (i := 10) scLaw.nd rfl (Or.inl rfl) (pe_ifExp (pt_cmpR op_lt (pv 7) pe_int (nomark _)) (pe_call L.third hr (by rfl) L.m4 (L.kp 4 (by decide)) L.b4 .nil pass0 (pa_cons (pv 8) (pa_cons (pv 7) pa_nil)))
          (pe_call L.fourth hr (by rfl) L.m5 (L.kp 5 (by decide)) L.b5 .nil pass0 (pa_cons (pv 8) (pa_cons (pv 7) pa_nil)))))) pss_nil)
        (pss_one (ps_if (pt_cmpR op_ne (pe_callB cr (by rfl) L.mrepr PyProof.Rows.boot_repr (pa_cons (pv 10) pa_nil)) (pe_callB cr (by rfl) L.mrepr PyProof.Rows.boot_repr (pa_cons (pe_tup (pa_cons (pe_lst (pa_cons (pv 7) pa_nil)) (pa_cons (pv 9) (pa_cons (pv 8) pa_nil)))) pa_nil)) (nomark _)) (pss_one (ps_ret pe_bl)) pss_nil))))))))))
    (pss_one (ps_ret pe_bl)))), ?_⟩
  refine ⟨(by show 7 ≤ sizeLine; decide), fun l1 n1 => ⟨(by show 7 ≤ sizeLine; decide), fun l2 n2 => ⟨_, _, rfl, (by show 7 ≤ sizeLine; decide), fun l3 n3 => ⟨(by show 7 ≤ sizeLine; decide), fun l4 n4 => ⟨_, _, rfl, ?_⟩⟩⟩⟩⟩
  have q1 := same_new (o := .lst runL) n4 _ _ (same_new (o := .lst lookL) n3 _ _ (same_new (o := .lst keyL) n2 _ _ (upd_same (H := H) (a := l1) (o := .lst lateL))))
  have q2 := same_new (o := .lst runL) n4 _ _ (same_new (o := .lst lookL) n3 _ _ (upd_same (H := upd H l1 (.lst lateL)) (a := l2) (o := .lst keyL)))
  have q3 := same_new (o := .lst runL) n4 _ _ (upd_same (H := upd (upd H l1 (.lst lateL)) l2 (.lst keyL)) (a := l3) (o := .lst lookL))
  have q4 := upd_same (H := upd (upd (upd H l1 (.lst lateL)) l2 (.lst keyL)) l3 (.lst lookL)) (a := l4) (o := .lst runL)
  have sB : SqL K (upd (upd (upd (upd H l1 (.lst lateL)) l2 (.lst keyL)) l3 (.lst lookL)) l4 (.lst runL)) a (ns.map V.int) := Same.seq (((same_new n1).trans (same_new n2)).trans ((same_new n3).trans (same_new n4))) sq
  obtain ⟨B, hB⟩ : ∃ B : Hp, B = upd (upd (upd (upd H l1 (.lst lateL)) l2 (.lst keyL)) l3 (.lst lookL)) l4 (.lst runL) := ⟨_, rfl⟩
  have sB0 := sB
  have q1 : B l1 = some (.lst lateL) := by
    rw [hB]
    exact q1
  have q2 : B l2 = some (.lst keyL) := by
    rw [hB]
    exact q2
  have q3 : B l3 = some (.lst lookL) := by
    rw [hB]
    exact q3
  have q4 : B l4 = some (.lst runL) := by
    rw [hB]
    exact q4
  have sB : SqL K B a (ns.map V.int) := by
    rw [hB]
    exact sB
  refine ⟨_, rfl, a, _, rfl, .inl sB0, _, _, rfl, _, _, rfl, _, rfl, ?_, ?_, ?_⟩
  · show -(2 ^ 62) ≤ (if (if ((ns.map V.int).length : Int) < 2 then ((ns.map V.int).length : Int) else 2) > 1 then (if ((ns.map V.int).length : Int) < 2 then ((ns.map V.int).length : Int) else 2) else 1)
    split <;> split <;> omega
  · show (if (if ((ns.map V.int).length : Int) < 2 then ((ns.map V.int).length : Int) else 2) > 1 then (if ((ns.map V.int).length : Int) < 2 then ((ns.map V.int).length : Int) else 2) else 1) < 2 ^ 62
    split <;> split <;> omega
  have hm : (if (if ((ns.map V.int).length : Int) < 2 then ((ns.map V.int).length : Int) else 2) > 1 then (if ((ns.map V.int).length : Int) < 2 then ((ns.map V.int).length : Int) else 2) else 1) ≤ 2 := by
    split <;> split <;> omega
  refine for_range (fun i σ' H' => ∃ x5 x6 x7 x8 x9 x10 : Option V, σ' = [some (.ref a), some (.ref l1), some (.ref l2), some (.ref l3), some (.ref l4), x5, x6, x7, x8, x9, x10] ∧ Same B H') ⟨none, none, none, none, none, none, rfl, by rw [hB]; exact Same.refl _⟩ ?_ ?_
  rotate_left
  · rintro σ' H' ⟨_, _, _, _, _, _, _, _⟩
    rfl
  rintro i σ' H1 hi ⟨x5, x6, x7, x8, x9, x10, rfl, e1⟩
  rw [Int.zero_add]
  have hi2 : i < 2 := by
    have : i < (((if (if ((ns.map V.int).length : Int) < 2 then ((ns.map V.int).length : Int) else 2) > 1 then (if ((ns.map V.int).length : Int) < 2 then ((ns.map V.int).length : Int) else 2) else 1) : Int)).toNat := hi
    omega
  refine ⟨_, rfl, _, rfl, a, ns, i, rfl, e1.seq sB, by omega, by omega, fun p g s np S => ?_⟩
  have eB : Same B (upd H1 p (.lst (srcL g s (17 * (i : Int) + 5)))) := e1.trans (same_new np)
  have pB : B p = none := e1.free np
  refine ⟨23, rfl, by decide, by decide, for_range (n := 23) (fun j σ' H' => ∃ x7 x8 x9 x10 : Option V, σ' = [some (.ref a), some (.ref l1), some (.ref l2), some (.ref l3), some (.ref l4), some (.int i), some (.ref p), x7, x8, x9, x10] ∧ Same B H' ∧ ∃ g t, H' p = some (.lst (srcL g s t)) ∧ Src g s t ∧ t ≤ 1100 + 3 * (j : Int)) ⟨_, _, _, _, rfl, eB, g, _, upd_same, S, by omega⟩ ?_ ?_⟩
  rotate_left
  · rintro σ' H' ⟨y7, y8, y9, y10, rfl, e2, _⟩
    exact ⟨_, _, _, _, _, _, rfl, e2⟩
  rintro j σ' H2 hj ⟨y7, y8, y9, y10, rfl, e2, g2, t2, hp2, S2, ht2⟩
  rw [Int.zero_add]
  refine ⟨_, rfl, p, g2, s, t2, rfl, hp2, S2, by omega, fun v d H3 g3 t3 gd hd keep hp3 S3 ht3 => ?_⟩
  have e3 : Same B H3 := fun b o z => keep b o (e2 _ _ z) (ne_of_none z pB)
  have hd3 : Dp K H3 v d := dp_same newp_same hd
  have dep : d.depth ≤ 4 := Nat.le_trans gd.dp (by decide)
  have next : ∀ (lX p4 : Addr) (H4 : Hp), Same H3 H4 → B lX = some (.lst (aboveV j)) → Dp K H4 (.ref p4) (dueD j d) → ∀ D : Ends, (∀ H5, Same H4 H5 → D.nx [some (.ref a), some (.ref l1), some (.ref l2), some (.ref l3), some (.ref l4), some (.int i), some (.ref p), some (.int j), some v, some (.ref lX), some (.ref p4)] H5) →
      tIfS (tB (tOp rNe (tCB (rRepr K) (tCons (tVar 10) tNil)) (tCB (rRepr K) (tCons (tTup (tCons (tLst (tCons (tVar 7) tNil)) (tCons (tVar 9) (tCons (tVar 8) tNil)))) tNil)))) (tRet (tC (.bl false))) tNext D [some (.ref a), some (.ref l1), some (.ref l2), some (.ref l3), some (.ref l4), some (.int i), some (.ref p), some (.int j), some v, some (.ref lX), some (.ref p4)] H4 :=
    fun lX p4 H4 e4 lx hd4 D k => fin_ok rfl rfl rfl rfl hj gd hd4 (e4 _ _ (e3 _ _ lx)) (dp_same e4 hd3) k
  have last : ∀ (lX p4 : Addr) (H4 H5 : Hp), Same H3 H4 → Same H4 H5 → ∃ x7 x8 x9 x10 : Option V, ([some (.ref a), some (.ref l1), some (.ref l2), some (.ref l3), some (.ref l4), some (.int i), some (.ref p), some (.int j), some v, some (.ref lX), some (.ref p4)] : L2.St) = [some (.ref a), some (.ref l1), some (.ref l2), some (.ref l3), some (.ref l4), some (.int i), some (.ref p), x7, x8, x9, x10] ∧ Same B H5 ∧ ∃ g t, H5 p = some (.lst (srcL g s t)) ∧ Src g s t ∧ t ≤ 1100 + 3 * ((j + 1 : Nat) : Int) :=
    fun lX p4 H4 H5 e4 e5 => ⟨_, _, _, _, rfl, (e3.trans e4).trans e5, g3, t3, e5 _ _ (e4 _ _ hp3), S3, by omega⟩
  by_cases c1 : j < 7
  · refine ⟨_, rfl, _, _, rfl, rfl, _, rfl, iT (show (j : Int) < 13 by omega) ⟨_, rfl, _, rfl, _, _, rfl, rfl, _, rfl, iT (show (j : Int) < 7 by omega) ⟨_, rfl, _, rfl, v, d, j, rfl, hd3, dep, gd.sh, by omega, by omega, fun p4 H4 e4 hd4 => ?_⟩⟩⟩
    exact ⟨_, rfl, _, _, rfl, rfl, _, rfl, iF (show ¬ (12 : Int) < j by omega) (next l1 p4 H4 e4 (by rw [above_late (by omega)]; exact q1) hd4 _ fun H5 e5 => last l1 p4 H4 H5 e4 e5)⟩
  by_cases c2 : j < 13
  · refine ⟨_, rfl, _, _, rfl, rfl, _, rfl, iT (show (j : Int) < 13 by omega) ⟨_, rfl, _, rfl, _, _, rfl, rfl, _, rfl, iF (show ¬ (j : Int) < 7 by omega) ⟨_, rfl, _, _, rfl, rfl, _, rfl, iT (show (j : Int) < 13 by omega) ⟨_, rfl, _, rfl, v, d, j, rfl, hd3, dep, gd.sh, by omega, by omega, fun p4 H4 e4 hd4 => ?_⟩⟩⟩⟩
    exact ⟨_, rfl, _, _, rfl, rfl, _, rfl, iF (show ¬ (12 : Int) < j by omega) (next l1 p4 H4 e4 (by rw [above_late c2]; exact q1) hd4 _ fun H5 e5 => last l1 p4 H4 H5 e4 e5)⟩
  have third : ∀ lX : Addr, B lX = some (.lst (aboveV j)) → j < 20 → True := fun _ _ _ => trivial
  by_cases c3 : j < 15
  · refine ⟨_, rfl, _, _, rfl, rfl, _, rfl, iF (show ¬ (j : Int) < 13 by omega) ⟨_, rfl, _, _, rfl, rfl, _, rfl, iT (show (j : Int) < 15 by omega) ⟨_, rfl, ?_⟩⟩⟩
    refine ⟨_, rfl, _, _, rfl, rfl, _, rfl, iF (show ¬ (j : Int) < 7 by omega) ⟨_, rfl, _, _, rfl, rfl, _, rfl, iF (show ¬ (j : Int) < 13 by omega) ?_⟩⟩
    refine ⟨_, rfl, _, _, rfl, rfl, _, rfl, iT (show (12 : Int) < j by omega) ⟨_, rfl, _, _, rfl, rfl, _, rfl, iT (show (j : Int) < 20 by omega) ⟨_, rfl, _, rfl, v, d, j, rfl, hd3, dep, gd.sh, by omega, by omega, fun p4 H4 e4 hd4 => ?_⟩⟩⟩
    exact next l2 p4 H4 e4 (by rw [above_key (by omega) c3]; exact q2) hd4 _ fun H5 e5 => last l2 p4 H4 H5 e4 e5
  by_cases c4 : j < 20
  · refine ⟨_, rfl, _, _, rfl, rfl, _, rfl, iF (show ¬ (j : Int) < 13 by omega) ⟨_, rfl, _, _, rfl, rfl, _, rfl, iF (show ¬ (j : Int) < 15 by omega) ⟨_, rfl, _, _, rfl, rfl, _, rfl, iT (show (j : Int) < 20 by omega) ⟨_, rfl, ?_⟩⟩⟩⟩
    refine ⟨_, rfl, _, _, rfl, rfl, _, rfl, iF (show ¬ (j : Int) < 7 by omega) ⟨_, rfl, _, _, rfl, rfl, _, rfl, iF (show ¬ (j : Int) < 13 by omega) ?_⟩⟩
    refine ⟨_, rfl, _, _, rfl, rfl, _, rfl, iT (show (12 : Int) < j by omega) ⟨_, rfl, _, _, rfl, rfl, _, rfl, iT (show (j : Int) < 20 by omega) ⟨_, rfl, _, rfl, v, d, j, rfl, hd3, dep, gd.sh, by omega, by omega, fun p4 H4 e4 hd4 => ?_⟩⟩⟩
    exact next l3 p4 H4 e4 (by rw [above_look (by omega) c4]; exact q3) hd4 _ fun H5 e5 => last l3 p4 H4 H5 e4 e5
  · refine ⟨_, rfl, _, _, rfl, rfl, _, rfl, iF (show ¬ (j : Int) < 13 by omega) ⟨_, rfl, _, _, rfl, rfl, _, rfl, iF (show ¬ (j : Int) < 15 by omega) ⟨_, rfl, _, _, rfl, rfl, _, rfl, iF (show ¬ (j : Int) < 20 by omega) ⟨_, rfl, ?_⟩⟩⟩⟩
    refine ⟨_, rfl, _, _, rfl, rfl, _, rfl, iF (show ¬ (j : Int) < 7 by omega) ⟨_, rfl, _, _, rfl, rfl, _, rfl, iF (show ¬ (j : Int) < 13 by omega) ?_⟩⟩
    refine ⟨_, rfl, _, _, rfl, rfl, _, rfl, iT (show (12 : Int) < j by omega) ⟨_, rfl, _, _, rfl, rfl, _, rfl, iF (show ¬ (j : Int) < 20 by omega) ⟨_, rfl, _, rfl, v, d, j, rfl, hd3, dep, gd.sh, by omega, by omega, fun p4 H4 e4 hd4 => ?_⟩⟩⟩
    exact next l4 p4 H4 e4 (by rw [above_run (by omega)]; exact q4) hd4 _ fun H5 e5 => last l4 p4 H4 H5 e4 e5
end
end Lq


set_option Elab.async false
set_option linter.all false
set_option maxRecDepth 100000
set_option maxHeartbeats 0
/-! What the top leaves: facts by names -/
namespace Lq
open PySem L2 L2.LqX
def cA (K : PySem.W.Frag) (i : Nat) : Addr := He.ga K (nm i)
def cL (K : PySem.W.Frag) : Addr := He.ga K "LateError"
def tlOf (j : Nat) : List Value := if j < 13 then [.type "ValueError", .type "Exception", .type "BaseException", .type "object"] else if j < 15 then [.type "KeyError", .type "LookupError", .type "Exception", .type "BaseException", .type "object"] else if j < 20 then [.type "LookupError", .type "Exception", .type "BaseException", .type "object"] else [.type "RuntimeError", .type "Exception", .type "BaseException", .type "object"]
def bsOf (j : Nat) : String := if j < 13 then "ValueError" else if j < 20 then "LookupError" else "RuntimeError"
def nwOf (j : Nat) : String := if j < 13 then "ValueError.__new__" else if j < 20 then "LookupError.__new__" else "RuntimeError.__new__"
def mroB (tl : List Value) : List Value → Bool
  | .ref _ :: r => mroB tl r
  | l => l == tl
def xcB (K : PySem.W.Frag) (C : Addr) (tl : List Value) (newId : String) : Bool := match K.lookup C with
  | some ⟨.type t, _, .cls cd, sl⟩ => (match cd.mro, sl.toList with
    | .ref C' :: bm, [_, _, _, _, some (.builtin n), _] => decide (t = "type") && (decide (C' = C) && (decide (n = newId) && (!cd.hasDel && (cd.hasDict && mroB tl bm))))
    | _, _ => false)
  | _ => false
def oB (a b : Option Bool) : Bool := decide (a = b)
def clsB (K : PySem.W.Frag) (j : Nat) : Bool :=
  oB (PySem.W.kitOne K (.ref (cA K j)) (.ref (cL K))) (some (decide (j < 13))) && (oB (PySem.W.kitOne K (.ref (cA K j)) (.type "ValueError")) (some (decide (j < 13))) && (oB (PySem.W.kitOne K (.ref (cA K j)) (.type "KeyError")) (some (decide (13 ≤ j ∧ j < 15))) &&
  (oB (PySem.W.kitOne K (.ref (cA K j)) (.type "LookupError")) (some (decide (13 ≤ j ∧ j < 20))) && (oB (PySem.W.kitOne K (.ref (cA K j)) (.type "RuntimeError")) (some (decide (20 ≤ j))) && (oB (PySem.W.kitOne K (.ref (cA K j)) (.type "ArithmeticError")) (some false) && oB (PySem.W.kitOne K (.ref (cA K j)) (.type "IndexError")) (some false))))))
def pairB (K : PySem.W.Frag) (j i : Nat) : Bool := oB (PySem.W.kitOne K (.ref (cA K j)) (.ref (cA K i))) (some (decide (i = j))) && (oB (PySem.W.exmOne K (.ref (cA K j)) (.ref (cA K i))) (some (decide (i = j))) && He.eqO (PySem.W.findIn K (.ref (cA K j)) (fl i)) (some none))
def excB (K : PySem.W.Frag) (D : Addr) : Bool := He.eqO (PySem.W.findIn K (.ref D) "__getattribute__") (some (some (.builtin "BaseException.__getattribute__"))) && (He.eqO (PySem.W.findIn K (.ref D) "__getattr__") (some none) && (oB (PySem.W.subIn K (.ref D) (.type "BaseException")) (some true) && (PySem.W.hasDictIn K D &&
  (He.eqO (PySem.W.findIn K (.ref D) "__class__") (some (some (.builtin "object.__class__"))) && (He.eqO (PySem.W.specialIn K (.builtin "object.__class__") "__get__") (some (some (.builtin "getset_descriptor.__get__"))) && (oB (PySem.W.takesIn K (.builtin "object.__class__")) (some true) && oB (PySem.W.mroIn K D (.type "object")) (some true)))))))
def iA (K : PySem.W.Frag) (j : Nat) : Addr := He.ma K (cA K j) "__init__"
def makB (K : PySem.W.Frag) (j : Nat) : Bool := decide (PySem.W.typeIn K (.ref (cA K j)) = some (.type "type")) && (PySem.W.keepIn K (.ref (cA K j)) &&
  (if j = 11 ∨ j = 12 ∨ j = 21 then PySem.W.excIn K (cA K j) (tlOf j) (nwOf j) else xcB K (cA K j) (tlOf j) (nwOf j) && (He.eqO (PySem.W.findIn K (.ref (cA K j)) "__setattr__") (some (some (.builtin "object.__setattr__"))) &&
    (He.eqO (PySem.W.findIn K (.ref (cA K j)) "__init__") (some (some (.ref (iA K j)))) && decide (PySem.W.typeIn K (.ref (iA K j)) = some (.type "function"))))))
def exB (K : PySem.W.Frag) : Bool := (List.range 23).all fun j => clsB K j && (excB K (cA K j) && (makB K j && ((decide (13 ≤ j) || oB (PySem.W.exmOne K (.ref (cA K j)) (.ref (cL K))) (some true)) && (List.range 23).all fun i => pairB K j i)))

def dF_copied : He.DefD := ⟨("copied", none), "copied", "copied", defArgs (topS 1), defBody (topS 1), defScope (topS 1), [], []⟩
def dF_law_begin : He.DefD := ⟨("_law_begin", none), "_law_begin", "_law_begin", defArgs (topS 28), defBody (topS 28), defScope (topS 28), [], []⟩
def dF_law_draw : He.DefD := ⟨("_law_draw", none), "_law_draw", "_law_draw", defArgs (topS 29), defBody (topS 29), defScope (topS 29), [], []⟩
def dF_law_of : He.DefD := ⟨("_law_of", none), "_law_of", "_law_of", defArgs (topS 30), defBody (topS 30), defScope (topS 30), [], []⟩
def dF_law_own : He.DefD := ⟨("_law_own", none), "_law_own", "_law_own", defArgs (topS 31), defBody (topS 31), defScope (topS 31), [], []⟩
def dF_law_above : He.DefD := ⟨("_law_above", none), "_law_above", "_law_above", defArgs (topS 32), defBody (topS 32), defScope (topS 32), [], []⟩
def dF_law_first : He.DefD := ⟨("_law_first", none), "_law_first", "_law_first", defArgs (topS 33), defBody (topS 33), defScope (topS 33), [], []⟩
def dF_law_second : He.DefD := ⟨("_law_second", none), "_law_second", "_law_second", defArgs (topS 34), defBody (topS 34), defScope (topS 34), [], []⟩
def dF_law_field : He.DefD := ⟨("_law_field", none), "_law_field", "_law_field", defArgs (topS 35), defBody (topS 35), defScope (topS 35), [], []⟩
def dF_law_third : He.DefD := ⟨("_law_third", none), "_law_third", "_law_third", defArgs (topS 36), defBody (topS 36), defScope (topS 36), [], []⟩
def dF_law_fourth : He.DefD := ⟨("_law_fourth", none), "_law_fourth", "_law_fourth", defArgs (topS 37), defBody (topS 37), defScope (topS 37), [], []⟩
def dF_law_thing : He.DefD := ⟨("_law_thing", none), "_law_thing", "_law_thing", defArgs (topS 38), defBody (topS 38), defScope (topS 38), [], []⟩
def dF_law : He.DefD := ⟨("law", none), "law", "law", defArgs (topS 39), defBody (topS 39), defScope (topS 39), [], []⟩
def dI0 : He.DefD := ⟨("BadForm", some "__init__"), "__init__", "BadForm.__init__", defArgs (inClass (topS 4) 0), defBody (inClass (topS 4) 0), defScope (inClass (topS 4) 0), [], []⟩
def dI1 : He.DefD := ⟨("BadCondition", some "__init__"), "__init__", "BadCondition.__init__", defArgs (inClass (topS 5) 0), defBody (inClass (topS 5) 0), defScope (inClass (topS 5) 0), [], []⟩
def dI2 : He.DefD := ⟨("BadBook", some "__init__"), "__init__", "BadBook.__init__", defArgs (inClass (topS 6) 0), defBody (inClass (topS 6) 0), defScope (inClass (topS 6) 0), [], []⟩
def dI3 : He.DefD := ⟨("BadRow", some "__init__"), "__init__", "BadRow.__init__", defArgs (inClass (topS 7) 0), defBody (inClass (topS 7) 0), defScope (inClass (topS 7) 0), [], []⟩
def dI4 : He.DefD := ⟨("BadDeed", some "__init__"), "__init__", "BadDeed.__init__", defArgs (inClass (topS 8) 0), defBody (inClass (topS 8) 0), defScope (inClass (topS 8) 0), [], []⟩
def dI5 : He.DefD := ⟨("BadPick", some "__init__"), "__init__", "BadPick.__init__", defArgs (inClass (topS 9) 0), defBody (inClass (topS 9) 0), defScope (inClass (topS 9) 0), [], []⟩
def dI6 : He.DefD := ⟨("BadGoal", some "__init__"), "__init__", "BadGoal.__init__", defArgs (inClass (topS 10) 0), defBody (inClass (topS 10) 0), defScope (inClass (topS 10) 0), [], []⟩
def dI7 : He.DefD := ⟨("BadStart", some "__init__"), "__init__", "BadStart.__init__", defArgs (inClass (topS 11) 0), defBody (inClass (topS 11) 0), defScope (inClass (topS 11) 0), [], []⟩
def dI8 : He.DefD := ⟨("BadLabel", some "__init__"), "__init__", "BadLabel.__init__", defArgs (inClass (topS 12) 0), defBody (inClass (topS 12) 0), defScope (inClass (topS 12) 0), [], []⟩
def dI9 : He.DefD := ⟨("NoTurn", some "__init__"), "__init__", "NoTurn.__init__", defArgs (inClass (topS 13) 0), defBody (inClass (topS 13) 0), defScope (inClass (topS 13) 0), [], []⟩
def dI10 : He.DefD := ⟨("TooMany", some "__init__"), "__init__", "TooMany.__init__", defArgs (inClass (topS 14) 0), defBody (inClass (topS 14) 0), defScope (inClass (topS 14) 0), [], []⟩
def dI13 : He.DefD := ⟨("NoField", some "__init__"), "__init__", "NoField.__init__", defArgs (inClass (topS 17) 0), defBody (inClass (topS 17) 0), defScope (inClass (topS 17) 0), [], []⟩
def dI14 : He.DefD := ⟨("NoFilter", some "__init__"), "__init__", "NoFilter.__init__", defArgs (inClass (topS 18) 0), defBody (inClass (topS 18) 0), defScope (inClass (topS 18) 0), [], []⟩
def dI15 : He.DefD := ⟨("NoRow", some "__init__"), "__init__", "NoRow.__init__", defArgs (inClass (topS 19) 0), defBody (inClass (topS 19) 0), defScope (inClass (topS 19) 0), [], []⟩
def dI16 : He.DefD := ⟨("Gone", some "__init__"), "__init__", "Gone.__init__", defArgs (inClass (topS 20) 0), defBody (inClass (topS 20) 0), defScope (inClass (topS 20) 0), [], []⟩
def dI17 : He.DefD := ⟨("NoName", some "__init__"), "__init__", "NoName.__init__", defArgs (inClass (topS 21) 0), defBody (inClass (topS 21) 0), defScope (inClass (topS 21) 0), [], []⟩
def dI18 : He.DefD := ⟨("NoLook", some "__init__"), "__init__", "NoLook.__init__", defArgs (inClass (topS 22) 0), defBody (inClass (topS 22) 0), defScope (inClass (topS 22) 0), [], []⟩
def dI19 : He.DefD := ⟨("NoWorld", some "__init__"), "__init__", "NoWorld.__init__", defArgs (inClass (topS 23) 0), defBody (inClass (topS 23) 0), defScope (inClass (topS 23) 0), [], []⟩
def dI20 : He.DefD := ⟨("Held", some "__init__"), "__init__", "Held.__init__", defArgs (inClass (topS 24) 0), defBody (inClass (topS 24) 0), defScope (inClass (topS 24) 0), [], []⟩
def dI22 : He.DefD := ⟨("Waiting", some "__init__"), "__init__", "Waiting.__init__", defArgs (inClass (topS 26) 0), defBody (inClass (topS 26) 0), defScope (inClass (topS 26) 0), [], []⟩
def fn : List He.DefD := [dF_copied, dF_law_begin, dF_law_draw, dF_law_of, dF_law_own, dF_law_above, dF_law_first, dF_law_second, dF_law_field, dF_law_third, dF_law_fourth, dF_law_thing, dF_law, dI0, dI1, dI2, dI3, dI4, dI5, dI6, dI7, dI8, dI9, dI10, dI13, dI14, dI15, dI16, dI17, dI18, dI19, dI20, dI22]
def fa : List He.Fa := [.glo "copied", .glo "_law_begin", .glo "_law_draw", .glo "_law_of", .glo "_law_own", .glo "_law_above", .glo "_law_first", .glo "_law_second", .glo "_law_field", .glo "_law_third", .glo "_law_fourth", .glo "_law_thing", .glo "law", .glo "LateError", .glo "BadForm", .glo "BadCondition", .glo "BadBook", .glo "BadRow", .glo "BadDeed", .glo "BadPick", .glo "BadGoal", .glo "BadStart", .glo "BadLabel", .glo "NoTurn", .glo "TooMany", .glo "OtherForm", .glo "NotAlong", .glo "NoField", .glo "NoFilter", .glo "NoRow", .glo "Gone", .glo "NoName", .glo "NoLook", .glo "NoWorld", .glo "Held", .glo "Over", .glo "Waiting", .free "isinstance", .free "list", .free "tuple", .free "int", .free "len", .free "abs", .free "enumerate", .free "range", .free "max", .free "min", .free "repr", .free "ValueError", .free "KeyError", .free "LookupError", .free "RuntimeError", .free "ArithmeticError", .free "IndexError"]
abbrev R : PySem.W.OpenRow := PySem.W.OpenLaw.row PySem.Challenge.rw_latequestions_k01_errors_made
abbrev hk : PySem.W.Hook := He.hookX 6 fa fn [] [] exB
def ob (s : PySem.W.SharedT) : He.AlX := He.obsX 6 fa fn [] [] exB (HandSHeadRun.getT s)
theorem ob_eq (s : PySem.W.SharedT) : ob s = hk.obs s.abs := He.obsX_eq (HandSHeadRun.getT_eq s)

def loose : List Str := ([("copied" : Str), ("LateError" : Str), ("BadForm" : Str), ("BadCondition" : Str), ("BadBook" : Str), ("BadRow" : Str), ("BadDeed" : Str), ("BadPick" : Str), ("BadGoal" : Str), ("BadStart" : Str), ("BadLabel" : Str), ("NoTurn" : Str), ("TooMany" : Str), ("OtherForm" : Str)] : List Str) ++ ([("NotAlong" : Str), ("NoField" : Str), ("NoFilter" : Str), ("NoRow" : Str), ("Gone" : Str), ("NoName" : Str), ("NoLook" : Str), ("NoWorld" : Str), ("Held" : Str), ("Over" : Str), ("Waiting" : Str), ("_law_begin" : Str), ("_law_draw" : Str), ("_law_of" : Str)] : List Str) ++ ([("_law_own" : Str), ("_law_above" : Str), ("_law_first" : Str), ("_law_second" : Str), ("_law_field" : Str), ("_law_third" : Str), ("_law_fourth" : Str), ("_law_thing" : Str)] : List Str)
theorem run (w : World) : HandSHeadRun.RunEq R (PySem.W.view R.prog [39]) hk ob 8000 loose w := by
  intro os
  kernel_rfl
end Lq


set_option Elab.async false
set_option linter.all false
set_option maxRecDepth 100000
set_option maxHeartbeats 8000000
/-! All together -/
namespace Lq
open PySem L2 L2.LqX
theorem fun_of {K : PySem.W.Frag} {x qual : Str} {st : Stmt} {f : Addr} {fd : FuncData} (h : FunD K x qual (defArgs st) (defBody st) (defScope st) [] [] f fd) : Fun K x qual st f fd := by
  obtain ⟨oc, od, dV, kV, doc, pm, an, cdv, ct, osl, e, lk, hcd, hd, _⟩ := h.ex
  have e0 : dV = .none := by
    rcases hd with ⟨_, z⟩ | ⟨z, _⟩
    · exact z
    · exact absurd rfl z
  subst e0
  exact ⟨⟨oc, od, kV, doc, pm, an, cdv, ct, osl, e, lk, hcd⟩, h.kp⟩
theorem mro_of {B : String} {tl : List Value} (T : PySem.LqX.Tl B tl) : ∀ {l : List Value}, mroB tl l = true → PySem.LqX.Tl B l
  | .ref c :: r, h => (mro_of T (l := r) h).cons
  | [], h => by rw [show ([] : List Value) = tl from beq_iff_eq.mp h]; exact T
  | .none :: r, h => by rw [show (Value.none :: r) = tl from beq_iff_eq.mp h]; exact T
  | .ellipsis :: r, h => by rw [show (Value.ellipsis :: r) = tl from beq_iff_eq.mp h]; exact T
  | .notImplemented :: r, h => by rw [show (Value.notImplemented :: r) = tl from beq_iff_eq.mp h]; exact T
  | .bool b :: r, h => by rw [show (Value.bool b :: r) = tl from beq_iff_eq.mp h]; exact T
  | .int b t :: r, h => by rw [show (Value.int b t :: r) = tl from beq_iff_eq.mp h]; exact T
  | .float b t :: r, h => by rw [show (Value.float b t :: r) = tl from beq_iff_eq.mp h]; exact T
  | .str b t :: r, h => by rw [show (Value.str b t :: r) = tl from beq_iff_eq.mp h]; exact T
  | .bytes b t :: r, h => by rw [show (Value.bytes b t :: r) = tl from beq_iff_eq.mp h]; exact T
  | .type b :: r, h => by rw [show (Value.type b :: r) = tl from beq_iff_eq.mp h]; exact T
  | .builtin b :: r, h => by rw [show (Value.builtin b :: r) = tl from beq_iff_eq.mp h]; exact T
theorem xc_of {K : PySem.W.Frag} {C : Addr} {tl : List Value} {B newId : String} (T : PySem.LqX.Tl B tl) (h : xcB K C tl newId = true) :
    ∃ nm q N bs bm sn sub ab col dd k0 k1 k2 k3 k5, K.lookup C = some (excClassObj nm q C N bs bm true sn sub ab col dd k0 k1 k2 k3 k5 newId) ∧ PySem.LqX.Tl B bm := by
  unfold xcB at h
  split at h
  · rename_i t dd cd sl ho
    split at h
    · rename_i C' bm k0 k1 k2 k3 n k5 hm hs
      simp only [Bool.and_eq_true, decide_eq_true_eq, Bool.not_eq_true'] at h
      obtain ⟨rfl, rfl, rfl, hdel, hdi, hmr⟩ := h
      obtain ⟨nm, bs, mro, ns, qn, hd, sn, sub, ab, col, del⟩ := cd
      dsimp only at hm hdel hdi
      subst hm hdel hdi
      have hsl : sl = #[k0, k1, k2, k3, some (.builtin n), k5] := by
        obtain ⟨l⟩ := sl
        simp only at hs
        rw [hs]
      subst hsl
      exact ⟨nm, qn, ns, bs, bm, sn, sub, ab, col, dd, k0, k1, k2, k3, k5, ho, mro_of T hmr⟩
    · cases h
  · cases h
theorem tl_j (j : Nat) : PySem.LqX.Tl (bsOf j) (tlOf j) := by
  unfold bsOf tlOf
  by_cases h1 : j < 13
  · rw [if_pos h1, if_pos h1]
    exact PySem.LqX.tl_value
  · rw [if_neg h1, if_neg h1]
    by_cases h2 : j < 15
    · rw [if_pos h2, if_pos (show j < 20 by omega)]
      exact PySem.LqX.tl_key
    · rw [if_neg h2]
      by_cases h3 : j < 20
      · rw [if_pos h3, if_pos h3]
        exact PySem.LqX.tl_lookup
      · rw [if_neg h3, if_neg h3]
        exact PySem.LqX.tl_run
theorem fb_j (j : Nat) : ∃ initId bB, ExcBaseFacts (bsOf j) (nwOf j) initId bB := by
  unfold bsOf nwOf
  by_cases h1 : j < 13
  · rw [if_pos h1, if_pos h1]
    exact ⟨_, _, F.excBase_ValueError⟩
  · rw [if_neg h1, if_neg h1]
    by_cases h3 : j < 20
    · rw [if_pos h3, if_pos h3]
      exact ⟨_, _, F.excBase_LookupError⟩
    · rw [if_neg h3, if_neg h3]
      exact ⟨_, _, F.excBase_RuntimeError⟩
theorem fb_0 (j : Nat) (h : j = 11 ∨ j = 12 ∨ j = 21) : ∃ initId, ExcBaseFacts (bsOf j) (nwOf j) initId (tlOf j) := by
  rcases h with rfl | rfl | rfl
  · exact ⟨_, F.excBase_ValueError⟩
  · exact ⟨_, F.excBase_ValueError⟩
  · exact ⟨_, F.excBase_RuntimeError⟩
theorem oB_ok {a b : Option Bool} (h : oB a b = true) : a = b := of_decide_eq_true h
section
variable {K : PySem.W.Frag} (hx : exB K = true)
theorem ex_j {K : PySem.W.Frag} (hx : exB K = true) {j : Nat} (hj : j < 23) : clsB K j = true ∧ excB K (cA K j) = true ∧ makB K j = true ∧ (decide (13 ≤ j) || oB (PySem.W.exmOne K (.ref (cA K j)) (.ref (cL K))) (some true)) = true ∧ ∀ i, i < 23 → pairB K j i = true := by
  have h := List.all_eq_true.mp hx j (List.mem_range.mpr hj)
  obtain ⟨h1, h⟩ := He.ba h
  obtain ⟨h2, h⟩ := He.ba h
  obtain ⟨h3, h⟩ := He.ba h
  obtain ⟨h4, h⟩ := He.ba h
  exact ⟨h1, h2, h3, h4, fun i hi => List.all_eq_true.mp h i (List.mem_range.mpr hi)⟩
theorem excB_ok {K : PySem.W.Frag} {D : Addr} (h : excB K D = true) : ExcC K D ∧ XfC K D := by
  obtain ⟨h1, h⟩ := He.ba h
  obtain ⟨h2, h⟩ := He.ba h
  obtain ⟨h3, h⟩ := He.ba h
  obtain ⟨h4, h⟩ := He.ba h
  obtain ⟨h5, h⟩ := He.ba h
  obtain ⟨h6, h⟩ := He.ba h
  obtain ⟨h7, h8⟩ := He.ba h
  exact ⟨⟨He.eqO_ok h1, He.eqO_ok h2, oB_ok h3, h4, He.eqO_ok h5, He.eqO_ok h6, oB_ok h7, oB_ok h8⟩, ⟨He.eqO_ok h1, He.eqO_ok h2, oB_ok h3, h4⟩⟩
end
theorem fa_at : ∀ i, i < 23 → fa[14 + i]? = some (.glo (nm i))
  | 0, _ => rfl
  | 1, _ => rfl
  | 2, _ => rfl
  | 3, _ => rfl
  | 4, _ => rfl
  | 5, _ => rfl
  | 6, _ => rfl
  | 7, _ => rfl
  | 8, _ => rfl
  | 9, _ => rfl
  | 10, _ => rfl
  | 11, _ => rfl
  | 12, _ => rfl
  | 13, _ => rfl
  | 14, _ => rfl
  | 15, _ => rfl
  | 16, _ => rfl
  | 17, _ => rfl
  | 18, _ => rfl
  | 19, _ => rfl
  | 20, _ => rfl
  | 21, _ => rfl
  | 22, _ => rfl
  | n + 23, h => absurd h (by omega)
section
variable {P : Program} {w : World} {K : PySem.W.Frag} {mg : Str → Option Value} {h : Heap}
theorem cf_of (KX : K.In h) (G : h.Ns mainGlobals mg) (c : He.SaysD fa fn K) (hx : exB K = true) : CF K mg (cA K) (cL K) := by
  have cls : ∀ j, j < 23 → _ := fun j hj => (ex_j hx hj).1
  refine ⟨fun i hi => He.glo_ok KX G (c.fact (14 + i) (fa_at i hi)), He.glo_ok KX G (c.fact 13 (f := .glo "LateError") rfl), ?_, ?_, ?_, ?_, ?_, ?_, ?_, ?_, ?_, ?_, ?_⟩
  · exact fun i j hi hj => oB_ok (He.ba ((ex_j hx hj).2.2.2.2 i hi)).1
  · exact fun j hj => oB_ok (He.ba (cls j hj)).1
  · exact fun j hj => oB_ok (He.ba (He.ba (cls j hj)).2).1
  · exact fun j hj => oB_ok (He.ba (He.ba (He.ba (cls j hj)).2).2).1
  · exact fun j hj => oB_ok (He.ba (He.ba (He.ba (He.ba (cls j hj)).2).2).2).1
  · exact fun j hj => oB_ok (He.ba (He.ba (He.ba (He.ba (He.ba (cls j hj)).2).2).2).2).1
  · exact fun j hj => oB_ok (He.ba (He.ba (He.ba (He.ba (He.ba (He.ba (cls j hj)).2).2).2).2).2).1
  · exact fun j hj => oB_ok (He.ba (He.ba (He.ba (He.ba (He.ba (He.ba (cls j hj)).2).2).2).2).2).2
  · exact fun j hj => (excB_ok (ex_j hx hj).2.1).1
  · exact fun j hj => (excB_ok (ex_j hx hj).2.1).2
  · exact fun j i hj hi => He.eqO_ok (He.ba (He.ba ((ex_j hx hj).2.2.2.2 i hi)).2).2
theorem xc_j (hx : exB K = true) {j : Nat} (hj : j < 23) (hn : ¬ (j = 11 ∨ j = 12 ∨ j = 21)) : XC K (cA K j) (bsOf j) (nwOf j) ∧ PySem.W.findIn K (.ref (cA K j)) "__init__" = some (some (.ref (iA K j))) ∧ PySem.W.typeIn K (.ref (iA K j)) = some (.type "function") := by
  have m := (ex_j hx hj).2.2.1
  have e := (excB_ok (ex_j hx hj).2.1).2
  unfold makB at m
  rw [if_neg hn] at m
  obtain ⟨m1, m⟩ := He.ba m
  obtain ⟨m2, m⟩ := He.ba m
  obtain ⟨m3, m⟩ := He.ba m
  obtain ⟨m4, m⟩ := He.ba m
  obtain ⟨m5, m6⟩ := He.ba m
  exact ⟨⟨xc_of (tl_j j) m3, He.eqO_ok m4, e.exC, of_decide_eq_true m1, m2⟩, He.eqO_ok m5, of_decide_eq_true m6⟩

theorem init_0 {base : Heap} {fC : Addr} {fdC : FuncData} (c : He.SaysD fa fn K) (hx : exB K = true) (C : CF K mg (cA K) (cL K)) (GC : FnOk P w K mg base CX0 5 fC fdC ["thing"] (spCopied K 4)) (bC : Binds K fdC ["thing"] []) (kC : PySem.W.keepIn K (.ref fC) = true) (mC : mg "copied" = some (.ref fC)) :
    ∃ (ps : List Str) (fdI : FuncData), FnOk P w K mg base CX0 6 (iA K 0) fdI ps (spInit K (cA K 0) (fl 0) 4) ∧ Binds K fdI ps [] := by
  obtain ⟨fd, D⟩ := c.def_ 13 (d := dI0) rfl
  have F : Fun K "__init__" "BadForm.__init__" (inClass (topS 4) 0) (iA K 0) fd := fun_of D
  refine ⟨["self", "thing"], fd, ok_init F ⟨rfl, rfl, rfl, by decide +kernel, rfl, by decide +kernel, by decide +kernel⟩ rfl (by decide +kernel) (by decide +kernel) (by decide +kernel) (by decide +kernel) (by decide +kernel) (xc_j hx (by decide) (by decide)).1 (C.no 0 0 (by decide) (by decide)) GC bC kC mC, F.binds fun _ _ _ _ _ _ us hl => match us, hl with | [_, _], _ => rfl⟩
theorem init_1 {base : Heap} {fC : Addr} {fdC : FuncData} (c : He.SaysD fa fn K) (hx : exB K = true) (C : CF K mg (cA K) (cL K)) (GC : FnOk P w K mg base CX0 5 fC fdC ["thing"] (spCopied K 4)) (bC : Binds K fdC ["thing"] []) (kC : PySem.W.keepIn K (.ref fC) = true) (mC : mg "copied" = some (.ref fC)) :
    ∃ (ps : List Str) (fdI : FuncData), FnOk P w K mg base CX0 6 (iA K 1) fdI ps (spInit K (cA K 1) (fl 1) 4) ∧ Binds K fdI ps [] := by
  obtain ⟨fd, D⟩ := c.def_ 14 (d := dI1) rfl
  have F : Fun K "__init__" "BadCondition.__init__" (inClass (topS 5) 0) (iA K 1) fd := fun_of D
  refine ⟨["self", "at"], fd, ok_init F ⟨rfl, rfl, rfl, by decide +kernel, rfl, by decide +kernel, by decide +kernel⟩ rfl (by decide +kernel) (by decide +kernel) (by decide +kernel) (by decide +kernel) (by decide +kernel) (xc_j hx (by decide) (by decide)).1 (C.no 1 1 (by decide) (by decide)) GC bC kC mC, F.binds fun _ _ _ _ _ _ us hl => match us, hl with | [_, _], _ => rfl⟩
theorem init_2 {base : Heap} {fC : Addr} {fdC : FuncData} (c : He.SaysD fa fn K) (hx : exB K = true) (C : CF K mg (cA K) (cL K)) (GC : FnOk P w K mg base CX0 5 fC fdC ["thing"] (spCopied K 4)) (bC : Binds K fdC ["thing"] []) (kC : PySem.W.keepIn K (.ref fC) = true) (mC : mg "copied" = some (.ref fC)) :
    ∃ (ps : List Str) (fdI : FuncData), FnOk P w K mg base CX0 6 (iA K 2) fdI ps (spInit K (cA K 2) (fl 2) 4) ∧ Binds K fdI ps [] := by
  obtain ⟨fd, D⟩ := c.def_ 15 (d := dI2) rfl
  have F : Fun K "__init__" "BadBook.__init__" (inClass (topS 6) 0) (iA K 2) fd := fun_of D
  refine ⟨["self", "thing"], fd, ok_init F ⟨rfl, rfl, rfl, by decide +kernel, rfl, by decide +kernel, by decide +kernel⟩ rfl (by decide +kernel) (by decide +kernel) (by decide +kernel) (by decide +kernel) (by decide +kernel) (xc_j hx (by decide) (by decide)).1 (C.no 2 2 (by decide) (by decide)) GC bC kC mC, F.binds fun _ _ _ _ _ _ us hl => match us, hl with | [_, _], _ => rfl⟩
theorem init_3 {base : Heap} {fC : Addr} {fdC : FuncData} (c : He.SaysD fa fn K) (hx : exB K = true) (C : CF K mg (cA K) (cL K)) (GC : FnOk P w K mg base CX0 5 fC fdC ["thing"] (spCopied K 4)) (bC : Binds K fdC ["thing"] []) (kC : PySem.W.keepIn K (.ref fC) = true) (mC : mg "copied" = some (.ref fC)) :
    ∃ (ps : List Str) (fdI : FuncData), FnOk P w K mg base CX0 6 (iA K 3) fdI ps (spInit K (cA K 3) (fl 3) 4) ∧ Binds K fdI ps [] := by
  obtain ⟨fd, D⟩ := c.def_ 16 (d := dI3) rfl
  have F : Fun K "__init__" "BadRow.__init__" (inClass (topS 7) 0) (iA K 3) fd := fun_of D
  refine ⟨["self", "at"], fd, ok_init F ⟨rfl, rfl, rfl, by decide +kernel, rfl, by decide +kernel, by decide +kernel⟩ rfl (by decide +kernel) (by decide +kernel) (by decide +kernel) (by decide +kernel) (by decide +kernel) (xc_j hx (by decide) (by decide)).1 (C.no 3 3 (by decide) (by decide)) GC bC kC mC, F.binds fun _ _ _ _ _ _ us hl => match us, hl with | [_, _], _ => rfl⟩
theorem init_4 {base : Heap} {fC : Addr} {fdC : FuncData} (c : He.SaysD fa fn K) (hx : exB K = true) (C : CF K mg (cA K) (cL K)) (GC : FnOk P w K mg base CX0 5 fC fdC ["thing"] (spCopied K 4)) (bC : Binds K fdC ["thing"] []) (kC : PySem.W.keepIn K (.ref fC) = true) (mC : mg "copied" = some (.ref fC)) :
    ∃ (ps : List Str) (fdI : FuncData), FnOk P w K mg base CX0 6 (iA K 4) fdI ps (spInit K (cA K 4) (fl 4) 4) ∧ Binds K fdI ps [] := by
  obtain ⟨fd, D⟩ := c.def_ 17 (d := dI4) rfl
  have F : Fun K "__init__" "BadDeed.__init__" (inClass (topS 8) 0) (iA K 4) fd := fun_of D
  refine ⟨["self", "deed"], fd, ok_init F ⟨rfl, rfl, rfl, by decide +kernel, rfl, by decide +kernel, by decide +kernel⟩ rfl (by decide +kernel) (by decide +kernel) (by decide +kernel) (by decide +kernel) (by decide +kernel) (xc_j hx (by decide) (by decide)).1 (C.no 4 4 (by decide) (by decide)) GC bC kC mC, F.binds fun _ _ _ _ _ _ us hl => match us, hl with | [_, _], _ => rfl⟩
theorem init_5 {base : Heap} {fC : Addr} {fdC : FuncData} (c : He.SaysD fa fn K) (hx : exB K = true) (C : CF K mg (cA K) (cL K)) (GC : FnOk P w K mg base CX0 5 fC fdC ["thing"] (spCopied K 4)) (bC : Binds K fdC ["thing"] []) (kC : PySem.W.keepIn K (.ref fC) = true) (mC : mg "copied" = some (.ref fC)) :
    ∃ (ps : List Str) (fdI : FuncData), FnOk P w K mg base CX0 6 (iA K 5) fdI ps (spInit K (cA K 5) (fl 5) 4) ∧ Binds K fdI ps [] := by
  obtain ⟨fd, D⟩ := c.def_ 18 (d := dI5) rfl
  have F : Fun K "__init__" "BadPick.__init__" (inClass (topS 9) 0) (iA K 5) fd := fun_of D
  refine ⟨["self", "pick"], fd, ok_init F ⟨rfl, rfl, rfl, by decide +kernel, rfl, by decide +kernel, by decide +kernel⟩ rfl (by decide +kernel) (by decide +kernel) (by decide +kernel) (by decide +kernel) (by decide +kernel) (xc_j hx (by decide) (by decide)).1 (C.no 5 5 (by decide) (by decide)) GC bC kC mC, F.binds fun _ _ _ _ _ _ us hl => match us, hl with | [_, _], _ => rfl⟩
theorem init_6 {base : Heap} {fC : Addr} {fdC : FuncData} (c : He.SaysD fa fn K) (hx : exB K = true) (C : CF K mg (cA K) (cL K)) (GC : FnOk P w K mg base CX0 5 fC fdC ["thing"] (spCopied K 4)) (bC : Binds K fdC ["thing"] []) (kC : PySem.W.keepIn K (.ref fC) = true) (mC : mg "copied" = some (.ref fC)) :
    ∃ (ps : List Str) (fdI : FuncData), FnOk P w K mg base CX0 6 (iA K 6) fdI ps (spInit K (cA K 6) (fl 6) 4) ∧ Binds K fdI ps [] := by
  obtain ⟨fd, D⟩ := c.def_ 19 (d := dI6) rfl
  have F : Fun K "__init__" "BadGoal.__init__" (inClass (topS 10) 0) (iA K 6) fd := fun_of D
  refine ⟨["self", "goal"], fd, ok_init F ⟨rfl, rfl, rfl, by decide +kernel, rfl, by decide +kernel, by decide +kernel⟩ rfl (by decide +kernel) (by decide +kernel) (by decide +kernel) (by decide +kernel) (by decide +kernel) (xc_j hx (by decide) (by decide)).1 (C.no 6 6 (by decide) (by decide)) GC bC kC mC, F.binds fun _ _ _ _ _ _ us hl => match us, hl with | [_, _], _ => rfl⟩
theorem init_7 {base : Heap} {fC : Addr} {fdC : FuncData} (c : He.SaysD fa fn K) (hx : exB K = true) (C : CF K mg (cA K) (cL K)) (GC : FnOk P w K mg base CX0 5 fC fdC ["thing"] (spCopied K 4)) (bC : Binds K fdC ["thing"] []) (kC : PySem.W.keepIn K (.ref fC) = true) (mC : mg "copied" = some (.ref fC)) :
    ∃ (ps : List Str) (fdI : FuncData), FnOk P w K mg base CX0 6 (iA K 7) fdI ps (spInit K (cA K 7) (fl 7) 4) ∧ Binds K fdI ps [] := by
  obtain ⟨fd, D⟩ := c.def_ 20 (d := dI7) rfl
  have F : Fun K "__init__" "BadStart.__init__" (inClass (topS 11) 0) (iA K 7) fd := fun_of D
  refine ⟨["self", "start"], fd, ok_init F ⟨rfl, rfl, rfl, by decide +kernel, rfl, by decide +kernel, by decide +kernel⟩ rfl (by decide +kernel) (by decide +kernel) (by decide +kernel) (by decide +kernel) (by decide +kernel) (xc_j hx (by decide) (by decide)).1 (C.no 7 7 (by decide) (by decide)) GC bC kC mC, F.binds fun _ _ _ _ _ _ us hl => match us, hl with | [_, _], _ => rfl⟩
theorem init_8 {base : Heap} {fC : Addr} {fdC : FuncData} (c : He.SaysD fa fn K) (hx : exB K = true) (C : CF K mg (cA K) (cL K)) (GC : FnOk P w K mg base CX0 5 fC fdC ["thing"] (spCopied K 4)) (bC : Binds K fdC ["thing"] []) (kC : PySem.W.keepIn K (.ref fC) = true) (mC : mg "copied" = some (.ref fC)) :
    ∃ (ps : List Str) (fdI : FuncData), FnOk P w K mg base CX0 6 (iA K 8) fdI ps (spInit K (cA K 8) (fl 8) 4) ∧ Binds K fdI ps [] := by
  obtain ⟨fd, D⟩ := c.def_ 21 (d := dI8) rfl
  have F : Fun K "__init__" "BadLabel.__init__" (inClass (topS 12) 0) (iA K 8) fd := fun_of D
  refine ⟨["self", "label"], fd, ok_init F ⟨rfl, rfl, rfl, by decide +kernel, rfl, by decide +kernel, by decide +kernel⟩ rfl (by decide +kernel) (by decide +kernel) (by decide +kernel) (by decide +kernel) (by decide +kernel) (xc_j hx (by decide) (by decide)).1 (C.no 8 8 (by decide) (by decide)) GC bC kC mC, F.binds fun _ _ _ _ _ _ us hl => match us, hl with | [_, _], _ => rfl⟩
theorem init_9 {base : Heap} {fC : Addr} {fdC : FuncData} (c : He.SaysD fa fn K) (hx : exB K = true) (C : CF K mg (cA K) (cL K)) (GC : FnOk P w K mg base CX0 5 fC fdC ["thing"] (spCopied K 4)) (bC : Binds K fdC ["thing"] []) (kC : PySem.W.keepIn K (.ref fC) = true) (mC : mg "copied" = some (.ref fC)) :
    ∃ (ps : List Str) (fdI : FuncData), FnOk P w K mg base CX0 6 (iA K 9) fdI ps (spInit K (cA K 9) (fl 9) 4) ∧ Binds K fdI ps [] := by
  obtain ⟨fd, D⟩ := c.def_ 22 (d := dI9) rfl
  have F : Fun K "__init__" "NoTurn.__init__" (inClass (topS 13) 0) (iA K 9) fd := fun_of D
  refine ⟨["self", "row"], fd, ok_init F ⟨rfl, rfl, rfl, by decide +kernel, rfl, by decide +kernel, by decide +kernel⟩ rfl (by decide +kernel) (by decide +kernel) (by decide +kernel) (by decide +kernel) (by decide +kernel) (xc_j hx (by decide) (by decide)).1 (C.no 9 9 (by decide) (by decide)) GC bC kC mC, F.binds fun _ _ _ _ _ _ us hl => match us, hl with | [_, _], _ => rfl⟩
theorem init_10 {base : Heap} {fC : Addr} {fdC : FuncData} (c : He.SaysD fa fn K) (hx : exB K = true) (C : CF K mg (cA K) (cL K)) (GC : FnOk P w K mg base CX0 5 fC fdC ["thing"] (spCopied K 4)) (bC : Binds K fdC ["thing"] []) (kC : PySem.W.keepIn K (.ref fC) = true) (mC : mg "copied" = some (.ref fC)) :
    ∃ (ps : List Str) (fdI : FuncData), FnOk P w K mg base CX0 6 (iA K 10) fdI ps (spInit K (cA K 10) (fl 10) 4) ∧ Binds K fdI ps [] := by
  obtain ⟨fd, D⟩ := c.def_ 23 (d := dI10) rfl
  have F : Fun K "__init__" "TooMany.__init__" (inClass (topS 14) 0) (iA K 10) fd := fun_of D
  refine ⟨["self", "what"], fd, ok_init F ⟨rfl, rfl, rfl, by decide +kernel, rfl, by decide +kernel, by decide +kernel⟩ rfl (by decide +kernel) (by decide +kernel) (by decide +kernel) (by decide +kernel) (by decide +kernel) (xc_j hx (by decide) (by decide)).1 (C.no 10 10 (by decide) (by decide)) GC bC kC mC, F.binds fun _ _ _ _ _ _ us hl => match us, hl with | [_, _], _ => rfl⟩
theorem init_13 {base : Heap} {fC : Addr} {fdC : FuncData} (c : He.SaysD fa fn K) (hx : exB K = true) (C : CF K mg (cA K) (cL K)) (GC : FnOk P w K mg base CX0 5 fC fdC ["thing"] (spCopied K 4)) (bC : Binds K fdC ["thing"] []) (kC : PySem.W.keepIn K (.ref fC) = true) (mC : mg "copied" = some (.ref fC)) :
    ∃ (ps : List Str) (fdI : FuncData), FnOk P w K mg base CX0 6 (iA K 13) fdI ps (spInit K (cA K 13) (fl 13) 4) ∧ Binds K fdI ps [] := by
  obtain ⟨fd, D⟩ := c.def_ 24 (d := dI13) rfl
  have F : Fun K "__init__" "NoField.__init__" (inClass (topS 17) 0) (iA K 13) fd := fun_of D
  refine ⟨["self", "field"], fd, ok_init F ⟨rfl, rfl, rfl, by decide +kernel, rfl, by decide +kernel, by decide +kernel⟩ rfl (by decide +kernel) (by decide +kernel) (by decide +kernel) (by decide +kernel) (by decide +kernel) (xc_j hx (by decide) (by decide)).1 (C.no 13 13 (by decide) (by decide)) GC bC kC mC, F.binds fun _ _ _ _ _ _ us hl => match us, hl with | [_, _], _ => rfl⟩
theorem init_14 {base : Heap} {fC : Addr} {fdC : FuncData} (c : He.SaysD fa fn K) (hx : exB K = true) (C : CF K mg (cA K) (cL K)) (GC : FnOk P w K mg base CX0 5 fC fdC ["thing"] (spCopied K 4)) (bC : Binds K fdC ["thing"] []) (kC : PySem.W.keepIn K (.ref fC) = true) (mC : mg "copied" = some (.ref fC)) :
    ∃ (ps : List Str) (fdI : FuncData), FnOk P w K mg base CX0 6 (iA K 14) fdI ps (spInit K (cA K 14) (fl 14) 4) ∧ Binds K fdI ps [] := by
  obtain ⟨fd, D⟩ := c.def_ 25 (d := dI14) rfl
  have F : Fun K "__init__" "NoFilter.__init__" (inClass (topS 18) 0) (iA K 14) fd := fun_of D
  refine ⟨["self", "name"], fd, ok_init F ⟨rfl, rfl, rfl, by decide +kernel, rfl, by decide +kernel, by decide +kernel⟩ rfl (by decide +kernel) (by decide +kernel) (by decide +kernel) (by decide +kernel) (by decide +kernel) (xc_j hx (by decide) (by decide)).1 (C.no 14 14 (by decide) (by decide)) GC bC kC mC, F.binds fun _ _ _ _ _ _ us hl => match us, hl with | [_, _], _ => rfl⟩
theorem init_15 {base : Heap} {fC : Addr} {fdC : FuncData} (c : He.SaysD fa fn K) (hx : exB K = true) (C : CF K mg (cA K) (cL K)) (GC : FnOk P w K mg base CX0 5 fC fdC ["thing"] (spCopied K 4)) (bC : Binds K fdC ["thing"] []) (kC : PySem.W.keepIn K (.ref fC) = true) (mC : mg "copied" = some (.ref fC)) :
    ∃ (ps : List Str) (fdI : FuncData), FnOk P w K mg base CX0 6 (iA K 15) fdI ps (spInit K (cA K 15) (fl 15) 4) ∧ Binds K fdI ps [] := by
  obtain ⟨fd, D⟩ := c.def_ 26 (d := dI15) rfl
  have F : Fun K "__init__" "NoRow.__init__" (inClass (topS 19) 0) (iA K 15) fd := fun_of D
  refine ⟨["self", "key"], fd, ok_init F ⟨rfl, rfl, rfl, by decide +kernel, rfl, by decide +kernel, by decide +kernel⟩ rfl (by decide +kernel) (by decide +kernel) (by decide +kernel) (by decide +kernel) (by decide +kernel) (xc_j hx (by decide) (by decide)).1 (C.no 15 15 (by decide) (by decide)) GC bC kC mC, F.binds fun _ _ _ _ _ _ us hl => match us, hl with | [_, _], _ => rfl⟩
theorem init_16 {base : Heap} {fC : Addr} {fdC : FuncData} (c : He.SaysD fa fn K) (hx : exB K = true) (C : CF K mg (cA K) (cL K)) (GC : FnOk P w K mg base CX0 5 fC fdC ["thing"] (spCopied K 4)) (bC : Binds K fdC ["thing"] []) (kC : PySem.W.keepIn K (.ref fC) = true) (mC : mg "copied" = some (.ref fC)) :
    ∃ (ps : List Str) (fdI : FuncData), FnOk P w K mg base CX0 6 (iA K 16) fdI ps (spInit K (cA K 16) (fl 16) 4) ∧ Binds K fdI ps [] := by
  obtain ⟨fd, D⟩ := c.def_ 27 (d := dI16) rfl
  have F : Fun K "__init__" "Gone.__init__" (inClass (topS 20) 0) (iA K 16) fd := fun_of D
  refine ⟨["self", "key"], fd, ok_init F ⟨rfl, rfl, rfl, by decide +kernel, rfl, by decide +kernel, by decide +kernel⟩ rfl (by decide +kernel) (by decide +kernel) (by decide +kernel) (by decide +kernel) (by decide +kernel) (xc_j hx (by decide) (by decide)).1 (C.no 16 16 (by decide) (by decide)) GC bC kC mC, F.binds fun _ _ _ _ _ _ us hl => match us, hl with | [_, _], _ => rfl⟩
theorem init_17 {base : Heap} {fC : Addr} {fdC : FuncData} (c : He.SaysD fa fn K) (hx : exB K = true) (C : CF K mg (cA K) (cL K)) (GC : FnOk P w K mg base CX0 5 fC fdC ["thing"] (spCopied K 4)) (bC : Binds K fdC ["thing"] []) (kC : PySem.W.keepIn K (.ref fC) = true) (mC : mg "copied" = some (.ref fC)) :
    ∃ (ps : List Str) (fdI : FuncData), FnOk P w K mg base CX0 6 (iA K 17) fdI ps (spInit K (cA K 17) (fl 17) 4) ∧ Binds K fdI ps [] := by
  obtain ⟨fd, D⟩ := c.def_ 28 (d := dI17) rfl
  have F : Fun K "__init__" "NoName.__init__" (inClass (topS 21) 0) (iA K 17) fd := fun_of D
  refine ⟨["self", "name"], fd, ok_init F ⟨rfl, rfl, rfl, by decide +kernel, rfl, by decide +kernel, by decide +kernel⟩ rfl (by decide +kernel) (by decide +kernel) (by decide +kernel) (by decide +kernel) (by decide +kernel) (xc_j hx (by decide) (by decide)).1 (C.no 17 17 (by decide) (by decide)) GC bC kC mC, F.binds fun _ _ _ _ _ _ us hl => match us, hl with | [_, _], _ => rfl⟩
theorem init_18 {base : Heap} {fC : Addr} {fdC : FuncData} (c : He.SaysD fa fn K) (hx : exB K = true) (C : CF K mg (cA K) (cL K)) (GC : FnOk P w K mg base CX0 5 fC fdC ["thing"] (spCopied K 4)) (bC : Binds K fdC ["thing"] []) (kC : PySem.W.keepIn K (.ref fC) = true) (mC : mg "copied" = some (.ref fC)) :
    ∃ (ps : List Str) (fdI : FuncData), FnOk P w K mg base CX0 6 (iA K 18) fdI ps (spInit K (cA K 18) (fl 18) 4) ∧ Binds K fdI ps [] := by
  obtain ⟨fd, D⟩ := c.def_ 29 (d := dI18) rfl
  have F : Fun K "__init__" "NoLook.__init__" (inClass (topS 22) 0) (iA K 18) fd := fun_of D
  refine ⟨["self", "look"], fd, ok_init F ⟨rfl, rfl, rfl, by decide +kernel, rfl, by decide +kernel, by decide +kernel⟩ rfl (by decide +kernel) (by decide +kernel) (by decide +kernel) (by decide +kernel) (by decide +kernel) (xc_j hx (by decide) (by decide)).1 (C.no 18 18 (by decide) (by decide)) GC bC kC mC, F.binds fun _ _ _ _ _ _ us hl => match us, hl with | [_, _], _ => rfl⟩
theorem init_19 {base : Heap} {fC : Addr} {fdC : FuncData} (c : He.SaysD fa fn K) (hx : exB K = true) (C : CF K mg (cA K) (cL K)) (GC : FnOk P w K mg base CX0 5 fC fdC ["thing"] (spCopied K 4)) (bC : Binds K fdC ["thing"] []) (kC : PySem.W.keepIn K (.ref fC) = true) (mC : mg "copied" = some (.ref fC)) :
    ∃ (ps : List Str) (fdI : FuncData), FnOk P w K mg base CX0 6 (iA K 19) fdI ps (spInit K (cA K 19) (fl 19) 4) ∧ Binds K fdI ps [] := by
  obtain ⟨fd, D⟩ := c.def_ 30 (d := dI19) rfl
  have F : Fun K "__init__" "NoWorld.__init__" (inClass (topS 23) 0) (iA K 19) fd := fun_of D
  refine ⟨["self", "world"], fd, ok_init F ⟨rfl, rfl, rfl, by decide +kernel, rfl, by decide +kernel, by decide +kernel⟩ rfl (by decide +kernel) (by decide +kernel) (by decide +kernel) (by decide +kernel) (by decide +kernel) (xc_j hx (by decide) (by decide)).1 (C.no 19 19 (by decide) (by decide)) GC bC kC mC, F.binds fun _ _ _ _ _ _ us hl => match us, hl with | [_, _], _ => rfl⟩
theorem init_20 {base : Heap} {fC : Addr} {fdC : FuncData} (c : He.SaysD fa fn K) (hx : exB K = true) (C : CF K mg (cA K) (cL K)) (GC : FnOk P w K mg base CX0 5 fC fdC ["thing"] (spCopied K 4)) (bC : Binds K fdC ["thing"] []) (kC : PySem.W.keepIn K (.ref fC) = true) (mC : mg "copied" = some (.ref fC)) :
    ∃ (ps : List Str) (fdI : FuncData), FnOk P w K mg base CX0 6 (iA K 20) fdI ps (spInit K (cA K 20) (fl 20) 4) ∧ Binds K fdI ps [] := by
  obtain ⟨fd, D⟩ := c.def_ 31 (d := dI20) rfl
  have F : Fun K "__init__" "Held.__init__" (inClass (topS 24) 0) (iA K 20) fd := fun_of D
  refine ⟨["self", "key"], fd, ok_init F ⟨rfl, rfl, rfl, by decide +kernel, rfl, by decide +kernel, by decide +kernel⟩ rfl (by decide +kernel) (by decide +kernel) (by decide +kernel) (by decide +kernel) (by decide +kernel) (xc_j hx (by decide) (by decide)).1 (C.no 20 20 (by decide) (by decide)) GC bC kC mC, F.binds fun _ _ _ _ _ _ us hl => match us, hl with | [_, _], _ => rfl⟩
theorem init_22 {base : Heap} {fC : Addr} {fdC : FuncData} (c : He.SaysD fa fn K) (hx : exB K = true) (C : CF K mg (cA K) (cL K)) (GC : FnOk P w K mg base CX0 5 fC fdC ["thing"] (spCopied K 4)) (bC : Binds K fdC ["thing"] []) (kC : PySem.W.keepIn K (.ref fC) = true) (mC : mg "copied" = some (.ref fC)) :
    ∃ (ps : List Str) (fdI : FuncData), FnOk P w K mg base CX0 6 (iA K 22) fdI ps (spInit K (cA K 22) (fl 22) 4) ∧ Binds K fdI ps [] := by
  obtain ⟨fd, D⟩ := c.def_ 32 (d := dI22) rfl
  have F : Fun K "__init__" "Waiting.__init__" (inClass (topS 26) 0) (iA K 22) fd := fun_of D
  refine ⟨["self", "at"], fd, ok_init F ⟨rfl, rfl, rfl, by decide +kernel, rfl, by decide +kernel, by decide +kernel⟩ rfl (by decide +kernel) (by decide +kernel) (by decide +kernel) (by decide +kernel) (by decide +kernel) (xc_j hx (by decide) (by decide)).1 (C.no 22 22 (by decide) (by decide)) GC bC kC mC, F.binds fun _ _ _ _ _ _ us hl => match us, hl with | [_, _], _ => rfl⟩
end
end Lq


set_option Elab.async false
set_option linter.all false
set_option maxRecDepth 100000
set_option maxHeartbeats 8000000
namespace Lq
open PySem L2 L2.LqX
section
variable {P : Program} {w : World} {K : PySem.W.Frag} {mg : Str → Option Value} {h base : Heap}
theorem mk_of {fC : Addr} {fdC : FuncData} (c : He.SaysD fa fn K) (hx : exB K = true) (C : CF K mg (cA K) (cL K)) (GC : FnOk P w K mg base CX0 5 fC fdC ["thing"] (spCopied K 4)) (bC : Binds K fdC ["thing"] []) (kC : PySem.W.keepIn K (.ref fC) = true) (mC : mg "copied" = some (.ref fC)) : MK P w K mg base (cA K) (cL K) := by
  refine ⟨fun j hj n1 n2 n3 => ?_, fun j hj => ?_, fun j hj => ?_, fun i j hi hj => ?_⟩
  · obtain ⟨initId, bB, FB⟩ := fb_j j
    obtain ⟨x1, x2, x3⟩ := xc_j hx hj (fun z => by rcases z with z | z | z <;> contradiction)
    have hi : ∃ (ps : List Str) (fdI : FuncData), FnOk P w K mg base CX0 6 (iA K j) fdI ps (spInit K (cA K j) (fl j) 4) ∧ Binds K fdI ps [] := by
      match j, hj, n1, n2, n3 with
      | 0, _, _, _, _ => exact init_0 c hx C GC bC kC mC
      | 1, _, _, _, _ => exact init_1 c hx C GC bC kC mC
      | 2, _, _, _, _ => exact init_2 c hx C GC bC kC mC
      | 3, _, _, _, _ => exact init_3 c hx C GC bC kC mC
      | 4, _, _, _, _ => exact init_4 c hx C GC bC kC mC
      | 5, _, _, _, _ => exact init_5 c hx C GC bC kC mC
      | 6, _, _, _, _ => exact init_6 c hx C GC bC kC mC
      | 7, _, _, _, _ => exact init_7 c hx C GC bC kC mC
      | 8, _, _, _, _ => exact init_8 c hx C GC bC kC mC
      | 9, _, _, _, _ => exact init_9 c hx C GC bC kC mC
      | 10, _, _, _, _ => exact init_10 c hx C GC bC kC mC
      | 11, _, n1, n2, n3 => first | exact absurd rfl n1 | exact absurd rfl n2 | exact absurd rfl n3
      | 12, _, n1, n2, n3 => first | exact absurd rfl n1 | exact absurd rfl n2 | exact absurd rfl n3
      | 13, _, _, _, _ => exact init_13 c hx C GC bC kC mC
      | 14, _, _, _, _ => exact init_14 c hx C GC bC kC mC
      | 15, _, _, _, _ => exact init_15 c hx C GC bC kC mC
      | 16, _, _, _, _ => exact init_16 c hx C GC bC kC mC
      | 17, _, _, _, _ => exact init_17 c hx C GC bC kC mC
      | 18, _, _, _, _ => exact init_18 c hx C GC bC kC mC
      | 19, _, _, _, _ => exact init_19 c hx C GC bC kC mC
      | 20, _, _, _, _ => exact init_20 c hx C GC bC kC mC
      | 21, _, n1, n2, n3 => first | exact absurd rfl n1 | exact absurd rfl n2 | exact absurd rfl n3
      | 22, _, _, _, _ => exact init_22 c hx C GC bC kC mC
      | n + 23, hj, _, _, _ => exact absurd hj (by omega)
    obtain ⟨ps, fdI, F1, hb⟩ := hi
    exact ⟨_, _, _, _, ps, _, fdI, FB, x1, x2, x3, F1, hb⟩
  · have hj2 : j < 23 := by omega
    obtain ⟨initId, FB⟩ := fb_0 j hj
    have m := (ex_j hx hj2).2.2.1
    have e := (excB_ok (ex_j hx hj2).2.1).2
    unfold makB at m
    rw [if_pos hj] at m
    obtain ⟨m1, m⟩ := He.ba m
    obtain ⟨m2, m3⟩ := He.ba m
    exact ⟨_, _, _, _, FB, m3, m2, e.exC, of_decide_eq_true m1⟩
  · have m := (ex_j hx (show j < 23 by omega)).2.2.2.1
    rw [decide_eq_false (show ¬ 13 ≤ j by omega), Bool.false_or] at m
    exact oB_ok m
  · exact oB_ok (He.ba (He.ba ((ex_j hx hj).2.2.2.2 i hi)).2).1
def fOf (K : PySem.W.Frag) (i : Nat) : Addr := match i with
  | 0 => He.ga K "_law_begin"
  | 1 => He.ga K "_law_thing"
  | 2 => He.ga K "_law_first"
  | 3 => He.ga K "_law_second"
  | 4 => He.ga K "_law_third"
  | _ => He.ga K "_law_fourth"
theorem facts {fA a : Addr} {s1 : Shared} {ns : List Int} (KX : K.In h) (G : h.Ns mainGlobals mg) (hfa : mg "law" = some (.ref fA)) (c : He.SaysD fa fn K) (hx : exB K = true) (hl : ns.length ≤ 63) : LawRun P w K mg fA a s1 ns := by
  obtain ⟨fd0, D0⟩ := c.def_ 0 (d := dF_copied) rfl
  have F0 : Fun K "copied" "copied" sCopied (He.ga K "copied") fd0 := fun_of D0
  have g0 : mg "copied" = some (.ref (He.ga K "copied")) := He.glo_ok KX G (c.fact 0 (f := .glo "copied") rfl)
  obtain ⟨fd1, D1⟩ := c.def_ 1 (d := dF_law_begin) rfl
  have F1 : Fun K "_law_begin" "_law_begin" sBegin (He.ga K "_law_begin") fd1 := fun_of D1
  have g1 : mg "_law_begin" = some (.ref (He.ga K "_law_begin")) := He.glo_ok KX G (c.fact 1 (f := .glo "_law_begin") rfl)
  obtain ⟨fd2, D2⟩ := c.def_ 2 (d := dF_law_draw) rfl
  have F2 : Fun K "_law_draw" "_law_draw" sDraw (He.ga K "_law_draw") fd2 := fun_of D2
  have g2 : mg "_law_draw" = some (.ref (He.ga K "_law_draw")) := He.glo_ok KX G (c.fact 2 (f := .glo "_law_draw") rfl)
  obtain ⟨fd3, D3⟩ := c.def_ 3 (d := dF_law_of) rfl
  have F3 : Fun K "_law_of" "_law_of" sOf (He.ga K "_law_of") fd3 := fun_of D3
  have g3 : mg "_law_of" = some (.ref (He.ga K "_law_of")) := He.glo_ok KX G (c.fact 3 (f := .glo "_law_of") rfl)
  obtain ⟨fd4, D4⟩ := c.def_ 4 (d := dF_law_own) rfl
  have F4 : Fun K "_law_own" "_law_own" sOwn (He.ga K "_law_own") fd4 := fun_of D4
  have g4 : mg "_law_own" = some (.ref (He.ga K "_law_own")) := He.glo_ok KX G (c.fact 4 (f := .glo "_law_own") rfl)
  obtain ⟨fd5, D5⟩ := c.def_ 5 (d := dF_law_above) rfl
  have F5 : Fun K "_law_above" "_law_above" sAbove (He.ga K "_law_above") fd5 := fun_of D5
  have g5 : mg "_law_above" = some (.ref (He.ga K "_law_above")) := He.glo_ok KX G (c.fact 5 (f := .glo "_law_above") rfl)
  obtain ⟨fd6, D6⟩ := c.def_ 6 (d := dF_law_first) rfl
  have F6 : Fun K "_law_first" "_law_first" sFirst (He.ga K "_law_first") fd6 := fun_of D6
  have g6 : mg "_law_first" = some (.ref (He.ga K "_law_first")) := He.glo_ok KX G (c.fact 6 (f := .glo "_law_first") rfl)
  obtain ⟨fd7, D7⟩ := c.def_ 7 (d := dF_law_second) rfl
  have F7 : Fun K "_law_second" "_law_second" sSecond (He.ga K "_law_second") fd7 := fun_of D7
  have g7 : mg "_law_second" = some (.ref (He.ga K "_law_second")) := He.glo_ok KX G (c.fact 7 (f := .glo "_law_second") rfl)
  obtain ⟨fd8, D8⟩ := c.def_ 8 (d := dF_law_field) rfl
  have F8 : Fun K "_law_field" "_law_field" sField (He.ga K "_law_field") fd8 := fun_of D8
  have g8 : mg "_law_field" = some (.ref (He.ga K "_law_field")) := He.glo_ok KX G (c.fact 8 (f := .glo "_law_field") rfl)
  obtain ⟨fd9, D9⟩ := c.def_ 9 (d := dF_law_third) rfl
  have F9 : Fun K "_law_third" "_law_third" sThird (He.ga K "_law_third") fd9 := fun_of D9
  have g9 : mg "_law_third" = some (.ref (He.ga K "_law_third")) := He.glo_ok KX G (c.fact 9 (f := .glo "_law_third") rfl)
  obtain ⟨fd10, D10⟩ := c.def_ 10 (d := dF_law_fourth) rfl
  have F10 : Fun K "_law_fourth" "_law_fourth" sFourth (He.ga K "_law_fourth") fd10 := fun_of D10
  have g10 : mg "_law_fourth" = some (.ref (He.ga K "_law_fourth")) := He.glo_ok KX G (c.fact 10 (f := .glo "_law_fourth") rfl)
  obtain ⟨fd11, D11⟩ := c.def_ 11 (d := dF_law_thing) rfl
  have F11 : Fun K "_law_thing" "_law_thing" sThing (He.ga K "_law_thing") fd11 := fun_of D11
  have g11 : mg "_law_thing" = some (.ref (He.ga K "_law_thing")) := He.glo_ok KX G (c.fact 11 (f := .glo "_law_thing") rfl)
  obtain ⟨fd12, D12⟩ := c.def_ 12 (d := dF_law) rfl
  have F12 : Fun K "law" "law" sLaw (He.ga K "law") fd12 := fun_of D12
  have g12 : mg "law" = some (.ref (He.ga K "law")) := He.glo_ok KX G (c.fact 12 (f := .glo "law") rfl)
  have u_isinstance : mg "isinstance" = none := He.free_ok KX G (c.fact 37 (f := .free "isinstance") rfl)
  have u_list : mg "list" = none := He.free_ok KX G (c.fact 38 (f := .free "list") rfl)
  have u_tuple : mg "tuple" = none := He.free_ok KX G (c.fact 39 (f := .free "tuple") rfl)
  have u_int : mg "int" = none := He.free_ok KX G (c.fact 40 (f := .free "int") rfl)
  have u_len : mg "len" = none := He.free_ok KX G (c.fact 41 (f := .free "len") rfl)
  have u_abs : mg "abs" = none := He.free_ok KX G (c.fact 42 (f := .free "abs") rfl)
  have u_enumerate : mg "enumerate" = none := He.free_ok KX G (c.fact 43 (f := .free "enumerate") rfl)
  have u_range : mg "range" = none := He.free_ok KX G (c.fact 44 (f := .free "range") rfl)
  have u_max : mg "max" = none := He.free_ok KX G (c.fact 45 (f := .free "max") rfl)
  have u_min : mg "min" = none := He.free_ok KX G (c.fact 46 (f := .free "min") rfl)
  have u_repr : mg "repr" = none := He.free_ok KX G (c.fact 47 (f := .free "repr") rfl)
  have u_ValueError : mg "ValueError" = none := He.free_ok KX G (c.fact 48 (f := .free "ValueError") rfl)
  have u_KeyError : mg "KeyError" = none := He.free_ok KX G (c.fact 49 (f := .free "KeyError") rfl)
  have u_LookupError : mg "LookupError" = none := He.free_ok KX G (c.fact 50 (f := .free "LookupError") rfl)
  have u_RuntimeError : mg "RuntimeError" = none := He.free_ok KX G (c.fact 51 (f := .free "RuntimeError") rfl)
  have u_ArithmeticError : mg "ArithmeticError" = none := He.free_ok KX G (c.fact 52 (f := .free "ArithmeticError") rfl)
  have u_IndexError : mg "IndexError" = none := He.free_ok KX G (c.fact 53 (f := .free "IndexError") rfl)
  have b0 : Binds K fd0 ["thing"] [] := F0.binds fun _ _ _ _ _ _ us hl => match us, hl with | [_], _ => rfl
  have b1 : Binds K fd1 ["script", "at"] [] := F1.binds fun _ _ _ _ _ _ us hl => match us, hl with | [_, _], _ => rfl
  have b2 : Binds K fd2 ["source", "many"] [] := F2.binds fun _ _ _ _ _ _ us hl => match us, hl with | [_, _], _ => rfl
  have b3 : Binds K fd3 ["source", "some"] [] := F3.binds fun _ _ _ _ _ _ us hl => match us, hl with | [_, _], _ => rfl
  have b4 : Binds K fd4 ["e"] [] := F4.binds fun _ _ _ _ _ _ us hl => match us, hl with | [_], _ => rfl
  have b5 : Binds K fd5 ["e"] [] := F5.binds fun _ _ _ _ _ _ us hl => match us, hl with | [_], _ => rfl
  have b6 : Binds K fd6 ["thing", "k"] [] := F6.binds fun _ _ _ _ _ _ us hl => match us, hl with | [_, _], _ => rfl
  have b7 : Binds K fd7 ["thing", "k"] [] := F7.binds fun _ _ _ _ _ _ us hl => match us, hl with | [_, _], _ => rfl
  have b8 : Binds K fd8 ["e"] [] := F8.binds fun _ _ _ _ _ _ us hl => match us, hl with | [_], _ => rfl
  have b9 : Binds K fd9 ["thing", "k"] [] := F9.binds fun _ _ _ _ _ _ us hl => match us, hl with | [_, _], _ => rfl
  have b10 : Binds K fd10 ["thing", "k"] [] := F10.binds fun _ _ _ _ _ _ us hl => match us, hl with | [_, _], _ => rfl
  have b11 : Binds K fd11 ["source"] [] := F11.binds fun _ _ _ _ _ _ us hl => match us, hl with | [_], _ => rfl
  have e := hfa.symm.trans g12
  cases e
  have C : CF K mg (cA K) (cL K) := cf_of KX G c hx
  have bn : BN mg := ⟨u_ValueError, u_KeyError, u_LookupError, u_RuntimeError, u_ArithmeticError, u_IndexError⟩
  have bL : Binds K fd12 ["script"] [] := F12.binds fun _ _ _ _ _ _ us hl => match us, hl with | [_], _ => rfl
  refine law_run (f := fOf K) (fdd := fun i => match i with | 0 => fd1 | 1 => fd11 | 2 => fd6 | 3 => fd7 | 4 => fd9 | _ => fd10) F12 (fun base kb nb => ?_) ?_ hl
  · have M : MK P w K mg base (cA K) (cL K) := mk_of c hx C (ok_copied F0 b0 g0 u_isinstance u_list u_tuple 4) b0 F0.kp g0
    have T : Told P w K mg base (cA K) (He.ga K "_law_own") (He.ga K "_law_above") (He.ga K "_law_field") fd4 fd5 fd8 :=
      ⟨fun _ _ j hj => ok_own F4 C hj u_isinstance u_enumerate, fun _ _ j hj => ok_above F5 C hj u_isinstance bn, fun _ _ j hj => ok_field F8 C hj u_isinstance, F4.kp, F5.kp, F8.kp, b4, b5, b8, g4, g5, g8⟩
    have GD : FnOk P w K mg base CX0 1 (He.ga K "_law_draw") fd2 ["source", "many"] spDraw := ok_draw F2 u_int
    have GO : FnOk P w K mg base CX0 2 (He.ga K "_law_of") fd3 ["source", "some"] (spOf K) := ok_of F3 GD b2 F2.kp g2 u_len
    exact ⟨ok_begin F1 u_int u_len u_abs, ok_thing F11 GO b3 F3.kp g3 GD b2 F2.kp g2, ok_first F6 C M T, ok_second F7 C M T, ok_third F9 C M T, ok_fourth F10 C M T,
      fun i hi => (match i, hi with | 0, _ => F1.kp | 1, _ => F11.kp | 2, _ => F6.kp | 3, _ => F7.kp | 4, _ => F9.kp | 5, _ => F10.kp | n + 6, hi => absurd hi (by omega)), b1, b11, b6, b7, b9, b10, g1, g11, g6, g7, g9, g10, u_len, u_range, u_max, u_min, u_repr⟩
  · intro s u
    have D : FunD K "law" "law" (defArgs sLaw) (defBody sLaw) (defScope sLaw) [] [] (He.ga K "law") fd12 := D12
    exact FunD.bindsA (ps := ["script"]) D (fun _ _ _ _ _ _ us hl => match us, hl with | [_], _ => rfl) s [u] rfl
end
end Lq
open PySem PySem.W PySem.Calls PyProof.Rows
theorem PySem.Challenge.cw_latequestions_k01_errors_made_holds : PySem.Challenge.rw_latequestions_k01_errors_made.Holds := by
  w_on; o_law
  refine HandSHeadRun.head_any (r := OpenLaw.row PySem.Challenge.rw_latequestions_k01_errors_made) (q := view (OpenLaw.row PySem.Challenge.rw_latequestions_k01_errors_made).prog [39]) (H := Lq.hk) (ob := Lq.ob) (M := 8000) (loose := Lq.loose) (d := HandSHeadRun.topDef (OpenLaw.row PySem.Challenge.rw_latequestions_k01_errors_made).prog 39) (kwd := []) Lq.ob_eq
    (by kernel_rfl) (fun s => by kernel_rfl) Lq.run (by kernel_rfl) (by kernel_rfl) (by kernel_rfl) (by rfl) (by first | assumption | decide +kernel) (by decide +kernel) ⟨rfl, rfl, rfl, rfl, rfl, by decide +kernel⟩ ?hw ?hc
  case hw => w_witness2
  case hc =>
    refine L2.LqX.walk_law (l := PySem.Challenge.rw_latequestions_k01_errors_made) (n := 63) rfl (by decide) (by kernel_rfl) ?F
    intro w mg fA h Y G hmg0
    obtain ⟨K, KX, c⟩ := Y
    have hmg : mg ("law" : PySem.Str) = some (.ref fA) := by
      have e : (HandSHeadRun.topDef (OpenLaw.row PySem.Challenge.rw_latequestions_k01_errors_made).prog 39).name = ("law" : PySem.Str) := by kernel_rfl
      rw [← e]
      exact hmg0
    exact ⟨K, KX, fun s1 a ns hl => Lq.facts KX G hmg c.t.d c.more hl⟩


