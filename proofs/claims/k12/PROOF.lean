import PyProof.Rows.All
import Wide.All
import OpenK.AllK
import Wide.FinOn
import HandS.ForMost
import HandS.Exc
import HandS.TryOnly
import HandS.ExcOwn
import HandS.WordsExc
import HandS.Wide
import PySem.Challenge.RW_latequestions_k12_books_refused
import PyProof.ExcBaseAll.ValueError
import PyProof.ExcBaseAll.LookupError
import PyProof.ExcBaseAll.RuntimeError
import KE.KExcInit
import HandS.ExcInit
import HandS.ExcCtx
import HandS.HotCalls
import HandS.ExcIs
import HandS.ExcField
import HandS.Comp
import HandS.Iter
import HandS.Ends
import HandS.HeadEnd
import PyProof.ReprRoads
import HandS.IsInst
import HandS.Star
import HandS.MakeKw
import HandS.ClsMeth
import KE.KCallOwn
import KE.KUnpackStar
import HandS.NoneIn
import KE.GoesZip
import KE.GoesMore
import HandS.Zip
import HandS.Walk
import HandS.Words
import KE.KFmtOwn
import PyProof.InstEq
import HandS.IterVal
import HandS.OwnIter
import KE.KOwnIter
import HandS.DictComp
import HandS.Text
import HandS.List
import PyProof.Rows.StrStep
import HandS.Deep
import HandS.FStr
import HandS.Codes
import PyProof.Rows.StrFit
import HandS.Style
import HandS.Head0
import HandS.Head1
import HandS.Head2
import HandS.HeadHook1
import HandS.HeadHook2
import HandS.HeadNt
set_option Elab.async false
set_option linter.all false
set_option maxRecDepth 100000
set_option maxHeartbeats 4000000
namespace Lq
open PySem L2
def topS (i : Nat) : Stmt := PySem.Challenge.pw_latequestions_k12_books_refused.main.body.getD i (.Pass ⟨0, 0, 0, 0⟩)
abbrev sBegin : Stmt := topS 13
abbrev sDraw : Stmt := topS 14
abbrev sOf : Stmt := topS 15
/-- a source: what is left of the great number, the seed, the turn -/
structure Src (g s t : Int) : Prop where
  g0 : 0 ≤ g
  s0 : 0 ≤ s
  s1 : s < 2147483629
  t0 : 0 ≤ t
  t1 : t ≤ 100000
def srcL (g s t : Int) : List V := [.int g, .int s, .int t]
/-- a draw from the source at a, of many: a number below many, the source goes on by at most one turn -/
def spDraw : Sp := fun vs H Q _ => ∃ (a : Addr) (g s t many : Int), vs = [.ref a, .int many] ∧ H a = some (.lst (srcL g s t)) ∧ Src g s t ∧ t < 100000 ∧ 0 < many ∧ many.natAbs < 2 ^ 200 ∧
  ∀ (r g' t' : Int), 0 ≤ r → r < many → Src g' s t' → t' ≤ t + 1 → Q (.int r) (upd H a (.lst (srcL g' s t')))
section
variable {P : Program} {w : World} {K : PySem.W.Frag} {mg : Str → Option Value} {base : Heap}
theorem scDraw : FnScope ["source", "many", "found", "turn", "mixed"] ["source", "many"] (defScope sDraw) := ⟨rfl, rfl, rfl, by decide +kernel, rfl, by decide +kernel, by decide +kernel⟩
theorem ok_draw {f : Addr} {fd : FuncData} (F : Fun K "_law_draw" "_law_draw" sDraw f fd) (hint : mg "int" = none) : FnOk P w K mg base CX0 1 f fd ["source", "many"] spDraw := by
  refine F.ok scDraw (fun vs H Q E h => ?_) (fun cdv A outer s H vs Q E hr h => ?_)
  · obtain ⟨a, g, s, t, many, rfl, _⟩ := h
    rfl
  · obtain ⟨a, g, sd, t, many, rfl, ha, S, ht, hm0, hm1, k⟩ := h
    refine ⟨_, pss_cons (ps_if (pt_cmpR op_gt (pe_ix ix_list (pv 0) pe_int (fun _ _ => rfl)) pe_int (nomark _))
        (pss_cons (ps_set (i := 2) scDraw.nd rfl (Or.inl rfl) (pe_op op_mod (pe_callTy call_int1 (by rfl) hint PyProof.Rows.boot_int (pa_cons (pe_ix ix_list (pv 0) pe_int (fun _ _ => rfl)) pa_nil)) (pv 1)))
        (pss_cons (ps_asg (pe_op op_fdivW (pe_ix ix_list (pv 0) pe_int (fun _ _ => rfl)) (pv 1)) (pg_sub (pv 0) pe_int set_list))
        (pss_one (ps_ret (pv 2))))) pss_nil)
      (pss_cons (ps_asg (pe_op op_add (pe_ix ix_list (pv 0) pe_int (fun _ _ => rfl)) pe_int) (pg_sub (pv 0) pe_int set_list))
      (pss_cons (ps_set (i := 3) scDraw.nd rfl (Or.inl rfl) (pe_ix ix_list (pv 0) pe_int (fun _ _ => rfl)))
      (pss_cons (ps_set (i := 4) scDraw.nd rfl (Or.inl rfl) (pe_op op_mod (pe_callTy call_int1 (by rfl) hint PyProof.Rows.boot_int (pa_cons
          (pe_op op_add (pe_op op_mul (pe_op op_add (pe_ix ix_list (pv 0) pe_int (fun _ _ => rfl)) (pe_op op_mul pe_int (pv 3))) pe_int) (pe_op op_mul (pe_op op_mul pe_int (pv 3)) (pv 3))) pa_nil)) pe_int))
      (pss_cons (ps_set (i := 4) scDraw.nd rfl (Or.inl rfl) (pe_op op_mod (pe_callTy call_int1 (by rfl) hint PyProof.Rows.boot_int (pa_cons
          (pe_op op_add (pe_op op_mul (pv 4) (pv 4)) (pe_op op_mul pe_int (pv 3))) pa_nil)) pe_int))
      (pss_one (ps_ret (pe_op op_mod (pe_callTy call_int1 (by rfl) hint PyProof.Rows.boot_int (pa_cons (pe_op op_fdiv (pv 4) pe_int) pa_nil)) (pv 1)))))))), ?_⟩
    have e0 : atI (srcL g sd t) 0 = some (V.int g) := rfl
    refine ⟨_, rfl, a, _, _, _, rfl, rfl, SqL.of ha, e0, _, _, rfl, rfl, _, rfl, ?_⟩
    refine ite2 (fun hg => ?_) (fun hg => ?_)
    · -- the great number
      have hg' : (0 : Int) < g := of_decide_eq_true hg
      refine ⟨_, rfl, a, _, _, _, rfl, rfl, SqL.of ha, e0, .inl ⟨_, rfl, _, rfl, _, _, rfl, rfl, hm0, ?_⟩⟩
      refine ⟨_, rfl, a, _, _, _, rfl, rfl, SqL.of ha, e0, _, rfl, _, _, rfl, rfl, wide_div hm0 hm1 (by decide) (by decide), ?_⟩
      refine ⟨_, rfl, a, _, _, 0, rfl, rfl, ha, rfl, ?_⟩
      refine ⟨_, rfl, ?_⟩
      exact k (g % many) (g / many) t (Int.emod_nonneg _ (by omega)) (Int.emod_lt_of_pos _ hm0) ⟨Int.ediv_nonneg S.g0 (by omega), S.s0, S.s1, S.t0, S.t1⟩ (by omega)
    · have hg' : g = 0 := by
        have h1 : ¬ (0 : Int) < g := fun z => hg (decide_eq_true z)
        have := S.g0
        omega
      subst hg'
      have h0 := S.s0
      have h1 := S.s1
      have h2 := S.t0
      refine ⟨_, rfl, a, _, _, _, rfl, rfl, SqL.of ha, (rfl : atI (srcL 0 sd t) 2 = some (V.int t)), _, _, rfl, rfl, ?_⟩
      refine ⟨_, rfl, a, _, _, 2, rfl, rfl, ha, rfl, ?_⟩
      have ha1 : upd H a (.lst (srcL 0 sd (t + 1))) a = some (.lst (srcL 0 sd (t + 1))) := upd_same
      refine ⟨_, rfl, a, _, _, _, rfl, rfl, SqL.of ha1, (rfl : atI (srcL 0 sd (t + 1)) 2 = some (V.int (t + 1))), ?_⟩
      refine ⟨_, rfl, a, _, _, _, rfl, rfl, SqL.of ha1, (rfl : atI (srcL 0 sd (t + 1)) 1 = some (V.int sd)), _, rfl, _, _, rfl, rfl, .inl ⟨by decide, by decide⟩, ?_⟩
      refine ⟨_, _, rfl, rfl, _, _, rfl, rfl, .inl ⟨by omega, by omega⟩, ?_⟩
      refine ⟨_, rfl, _, _, rfl, rfl, .inl ⟨by decide, by decide⟩, _, rfl, _, _, rfl, rfl, .inl ⟨by omega, by omega⟩, ?_⟩
      refine ⟨_, _, rfl, rfl, .inl ⟨_, rfl, _, _, rfl, rfl, (by show (0 : Int) < 2147483629; decide), ?_⟩⟩
      generalize hx : ((sd + 7919 * (t + 1)) * 48271 + 31 * (t + 1) * (t + 1)) % 2147483629 = x
      have x0 : 0 ≤ x := by rw [← hx]; exact Int.emod_nonneg _ (by decide)
      have x1 : x < 2147483629 := by rw [← hx]; exact Int.emod_lt_of_pos _ (by decide)
      refine ⟨_, rfl, _, rfl, _, _, rfl, rfl, .inl ⟨by omega, by omega⟩, _, rfl, _, _, rfl, rfl, .inl ⟨by decide, by decide⟩, ?_⟩
      refine ⟨_, _, rfl, rfl, .inl ⟨_, rfl, _, _, rfl, rfl, (by show (0 : Int) < 2147483587; decide), ?_⟩⟩
      refine ⟨_, rfl, _, _, rfl, rfl, ⟨by decide, by decide⟩, .inl ⟨_, rfl, _, rfl, _, _, rfl, rfl, hm0, ?_⟩⟩
      exact k _ 0 (t + 1) (Int.emod_nonneg _ (by omega)) (Int.emod_lt_of_pos _ hm0) ⟨by omega, h0, h1, by omega, by omega⟩ (by omega)
/-! _law_of(source, some): an item of the list some -/
def spOf (K : PySem.W.Frag) : Sp := fun vs H Q _ => ∃ (a b : Addr) (g s t : Int) (xs : List V), vs = [.ref a, .ref b] ∧ H a = some (.lst (srcL g s t)) ∧ Src g s t ∧ t < 100000 ∧ SqL K H b xs ∧ a ≠ b ∧ 0 < xs.length ∧ xs.length ≤ 1000 ∧
  ∀ (i : Nat) (v : V) (g' t' : Int), xs[i]? = some v → Src g' s t' → t' ≤ t + 1 → Q v (upd H a (.lst (srcL g' s t')))
theorem scOf : FnScope ["source", "some"] ["source", "some"] (defScope sOf) := ⟨rfl, rfl, rfl, by decide +kernel, rfl, by decide +kernel, by decide +kernel⟩
theorem sq_upd {H : Hp} {a b : Addr} {o : HO} {xs : List V} (h : SqL K H b xs) (ne : a ≠ b) : SqL K (upd H a o) b xs := by
  rcases h with (h | ⟨u, h⟩) | h
  · exact .inl (.inl (by rw [upd_ne (Ne.symm ne)]; exact h))
  · exact .inl (.inr ⟨u, by rw [upd_ne (Ne.symm ne)]; exact h⟩)
  · exact .inr h
theorem ok_of {f fD : Addr} {fd fdD : FuncData} (F : Fun K "_law_of" "_law_of" sOf f fd) (GD : FnOk P w K mg base CX0 1 fD fdD ["source", "many"] spDraw) (bD : Binds K fdD ["source", "many"] []) (kD : PySem.W.keepIn K (.ref fD) = true)
    (mD : mg "_law_draw" = some (.ref fD)) (hlen : mg "len" = none) : FnOk P w K mg base CX0 2 f fd ["source", "some"] (spOf K) := by
  refine F.ok scOf (fun vs H Q E h => ?_) (fun cdv A outer s H vs Q E hr h => ?_)
  · obtain ⟨a, b, g, s, t, xs, rfl, _⟩ := h
    rfl
  · obtain ⟨a, b, g, sd, t, xs, rfl, ha, S, ht, hb, ne, hl0, hl1, k⟩ := h
    refine ⟨_, pss_one (ps_ret (pe_ix ix_list (pv 1) (pe_call GD hr (by rfl) mD kD bD .nil pass0 (pa_cons (pv 0) (pa_cons (pe_callB call_len_seq (by rfl) hlen PySem.boot_len (pa_cons (pv 1) pa_nil)) pa_nil))) (fun _ _ => rfl))), ?_⟩
    refine ⟨_, rfl, _, rfl, _, rfl, b, _, rfl, .inl hb, ?_⟩
    refine ⟨a, g, sd, t, _, rfl, ha, S, ht, by omega, ?_, fun r g' t' r0 r1 S' h' => ?_⟩
    · show (xs.length : Int).natAbs < 2 ^ 200
      exact Nat.lt_of_le_of_lt (show (xs.length : Int).natAbs ≤ 1000 by omega) (by decide)
    · have hi : r.toNat < xs.length := by omega
      have e : xs[r.toNat]? = some (xs[r.toNat]) := List.getElem?_eq_getElem hi
      exact ⟨b, xs, r, _, rfl, rfl, sq_upd hb ne, at_of (by omega) e, k r.toNat _ g' t' e S' h'⟩
/-! _law_begin(script, at): the source of a cell -/
def spBegin (K : PySem.W.Frag) : Sp := fun vs H Q _ => ∃ (a : Addr) (ns : List Int) (at_ : Int), vs = [.ref a, .int at_] ∧ SqL K H a (ns.map V.int) ∧ 0 ≤ at_ ∧ at_ ≤ 63 ∧
  ∀ (p : Addr) (g s : Int), H p = none → Src g s (17 * at_ + 5) → Q (.ref p) (upd H p (.lst (srcL g s (17 * at_ + 5))))
theorem scBegin : FnScope ["script", "at", "cell", "great"] ["script", "at"] (defScope sBegin) := ⟨rfl, rfl, rfl, by decide +kernel, rfl, by decide +kernel, by decide +kernel⟩
theorem ok_begin {f : Addr} {fd : FuncData} (F : Fun K "_law_begin" "_law_begin" sBegin f fd) (hint : mg "int" = none) (hlen : mg "len" = none) (habs : mg "abs" = none) : FnOk P w K mg base CX0 1 f fd ["script", "at"] (spBegin K) := by
  refine F.ok scBegin (fun vs H Q E h => ?_) (fun cdv A outer s H vs Q E hr h => ?_)
  · obtain ⟨a, ns, at_, rfl, _⟩ := h
    rfl
  · obtain ⟨a, ns, at_, rfl, ha, h0, h1, k⟩ := h
    refine ⟨_, pss_cons (ps_set (i := 2) scBegin.nd rfl (Or.inl rfl) (pe_ifExp (pt_cmpR op_lt (pv 1) (pe_callB call_len_seq (by rfl) hlen PySem.boot_len (pa_cons (pv 0) pa_nil)) (nomark _)) (pe_ix ix_list (pv 0) (pv 1) (fun _ _ => rfl)) pe_int))
      (pss_cons (ps_set (i := 3) scBegin.nd rfl (Or.inl rfl) (pe_ifExp (pt_cmpR op_ge (pe_callB call_abs (by rfl) habs PyProof.Rows.boot_abs (pa_cons (pv 2) pa_nil)) (pe_op op_pow pe_int pe_int) (nomark _)) (pe_callB call_abs (by rfl) habs PyProof.Rows.boot_abs (pa_cons (pv 2) pa_nil)) pe_int))
      (pss_one (ps_ret (pe_lst (pa_cons (pv 3) (pa_cons (pe_op op_mod (pe_callTy call_int1 (by rfl) hint PyProof.Rows.boot_int (pa_cons (pv 2) pa_nil)) pe_int) (pa_cons (pe_op op_add (pe_op op_mul pe_int (pv 1)) pe_int) pa_nil))))))), ?_⟩
    have fin : ∀ c : Int, ∀ H0 : Hp, H0 = H → tSeq (tAsg (tIf (tB (tOp (rI0 fun i j => .bl (decide (j ≤ i))) (tCB (fun xs H Q => ∃ i, xs = [.int i] ∧ Q (.int (if i < 0 then -i else i)) H) (tCons (tVar 2) tNil)) (tOp (rI CPow fun i j => .int (i ^ j.toNat)) (tC (.int 10)) (tC (.int 18))))) (tCB (fun xs H Q => ∃ i, xs = [.int i] ∧ Q (.int (if i < 0 then -i else i)) H) (tCons (tVar 2) tNil)) (tC (.int 0))) (gName 3)) (tRet (tLst (tCons (tVar 3) (tCons (tOp (rI (fun _ j => 0 < j) fun i j => .int (i % j)) (tCB (fun xs H Q => (∃ i, xs = [.int i] ∧ Q (.int i) H) ∨ ∃ k, xs = [.bl k] ∧ Q (.int (if k then 1 else 0)) H) (tCons (tVar 2) tNil)) (tC (.int 2147483629))) (tCons (tOp (rI0 fun i j => .int (i + j)) (tOp (rI CMul fun i j => .int (i * j)) (tC (.int 17)) (tVar 1)) (tC (.int 5))) tNil)))))
        { nx := fun _ H' => Q .non H', rt := Q } [some (.ref a), some (.int at_), some (.int c), none] H0 := by
      intro c H0 e
      subst e
      have last : ∀ g : Int, 0 ≤ g → ∀ p, H0 p = none → Q (.ref p) (upd H0 p (.lst [.int g, .int (c % 2147483629), .int (17 * at_ + 5)])) := fun g hg p np =>
        k p g (c % 2147483629) np ⟨hg, Int.emod_nonneg _ (by decide), Int.emod_lt_of_pos _ (by decide), by omega, by omega⟩
      refine ⟨_, rfl, _, rfl, _, _, rfl, rfl, ⟨by decide, by decide, by decide⟩, _, _, rfl, rfl, _, rfl, ?_⟩
      have ab : (0 : Int) ≤ if c < 0 then -c else c := by split <;> omega
      refine ite2 (fun _ => ?_) (fun _ => ?_)
      · refine ⟨_, rfl, _, rfl, ?_⟩
        refine ⟨_, rfl, _, rfl, .inl ⟨_, rfl, _, _, rfl, rfl, (by show (0 : Int) < 2147483629; decide), _, rfl, _, _, rfl, rfl, .inl ⟨by decide, by decide⟩, _, _, rfl, rfl, (by show 3 ≤ sizeLine; decide), fun p np => last _ ab p np⟩⟩
      · refine ⟨_, rfl, _, rfl, .inl ⟨_, rfl, _, _, rfl, rfl, (by show (0 : Int) < 2147483629; decide), _, rfl, _, _, rfl, rfl, .inl ⟨by decide, by decide⟩, _, _, rfl, rfl, (by show 3 ≤ sizeLine; decide), fun p np => last _ (Int.le_refl 0) p np⟩⟩
    refine ⟨_, rfl, _, rfl, a, _, rfl, .inl ha, _, _, rfl, rfl, _, rfl, ?_⟩
    refine ite2 (fun hc => ?_) (fun _ => ?_)
    · have hc' : at_ < ((ns.map V.int).length : Int) := of_decide_eq_true hc
      rw [List.length_map] at hc'
      have hi : at_.toNat < ns.length := by omega
      have e : (ns.map V.int)[at_.toNat]? = some (V.int ns[at_.toNat]) := by rw [List.getElem?_map, List.getElem?_eq_getElem hi] <;> rfl
      exact ⟨_, rfl, _, rfl, a, _, _, _, rfl, rfl, ha, at_of (by omega) e, fin _ H rfl⟩
    · exact fin 0 H rfl
end
end Lq


set_option Elab.async false
set_option linter.all false
set_option maxRecDepth 100000
set_option maxHeartbeats 4000000
/-! Own exceptions whose __init__ stores one field, over any built-in base -/
namespace PySem
namespace LqX
/-- the list of a class's bases: it makes by B's __new__, it is an error, no AttributeError, no NameError, an object, and lets names be stored -/
structure Tl (B : String) (bm : List Value) : Prop where
  b : bm.contains (.type B) = true
  a : bm.contains (.type "AttributeError") = false
  n : bm.contains (.type "NameError") = false
  o : bm.contains (.type "object") = true
  ne : bm.isEmpty = false
  pass : ∀ self : Value, refuseLoop self "__setattr__" bm = pure ()
theorem Tl.cons {B : String} {bm : List Value} {c : Addr} (h : Tl B bm) : Tl B (.ref c :: bm) where
  b := by rw [List.contains_cons, h.b, Bool.or_true]
  a := by rw [List.contains_cons, h.a]; rfl
  n := by rw [List.contains_cons, h.n]; rfl
  o := by rw [List.contains_cons, h.o, Bool.or_true]
  ne := rfl
  pass := fun self => by rw [refuseLoop_ref]; exact h.pass self
theorem tl_value : Tl "ValueError" [.type "ValueError", .type "Exception", .type "BaseException", .type "object"] := ⟨by decide +kernel, by decide +kernel, by decide +kernel, by decide +kernel, rfl, F.store_ValueError.passes⟩
theorem tl_lookup : Tl "LookupError" [.type "LookupError", .type "Exception", .type "BaseException", .type "object"] := ⟨by decide +kernel, by decide +kernel, by decide +kernel, by decide +kernel, rfl, F.store_LookupError.passes⟩
theorem tl_run : Tl "RuntimeError" [.type "RuntimeError", .type "Exception", .type "BaseException", .type "object"] := ⟨by decide +kernel, by decide +kernel, by decide +kernel, by decide +kernel, rfl, F.store_RuntimeError.passes⟩
theorem tl_key : Tl "LookupError" [.type "KeyError", .type "LookupError", .type "Exception", .type "BaseException", .type "object"] := ⟨by decide +kernel, by decide +kernel, by decide +kernel, by decide +kernel, rfl, fun self => by kernel_rfl⟩
section
variable {prog : Program} {w : World} {A : Around} {R : Result → Shared → Prop} {E : Value → Shared → Prop} {h : Heap} {g : Array GenState} {d : Drawn} {t : Nat} {os : OsState}
variable {nm q : Str} {C N : Addr} {bs bm bB : List Value} {hdct : Bool} {sn : List Str} {sub : List Value} {ab : Bool} {col : Option Bool} {dd : Option Addr} {k0 k1 k2 k3 k5 : Option Value} {B newId initId : String}
/-- B.__new__(C, ..): the arguments' tuple, the new exception -/
theorem new_run (F : ExcBaseFacts B newId initId bB) (T : Tl B bm) {rest : List Value} (hC : h.get? C = some (excClassObj nm q C N bs bm hdct sn sub ab col dd k0 k1 k2 k3 k5 newId)) (hz : rest.length ≤ sizeLine)
    (k : R (.ok (.ret (.ref (h.objs.size + 1)))) ⟨(h.push (W.kdv_tup rest)).push (PySem.HandSPX.excO C h.objs.size), g, d, t, os⟩) : codeAny (model prog w) A (.builtin newId ⟨.ref C :: rest, []⟩) R ⟨h, g, d, t, os⟩ := by
  have e := F.ends
  have T1 : Tl B (.ref C :: bm) := T.cons
  have b1 := T1.b
  have b2 := T1.a
  have b3 := T1.n
  refine codeAny_builtinAt F.entry ?_
  unfold Builtin.«BaseException.__new__»
  refine wpAt_bind ?_
  show wpAt _ _ _ (stack >>= _) _ _ _
  refine wpAt_bind (wpAt_stack fun p0 lower => wpAt_of_wpAny ?_)
  wp_walk
  refine wpAt_of_wpAny ?_
  rw [F.owner]
  repeat (first | with_reducible refine wpAny_madeHere_exc F.canon hC ?_ | with_reducible refine wpAny_loadPart_at hC ?_ | (with_reducible refine wpAny_isSubtype_exc hC ?_; first | rw [b1] | rw [b2] | rw [b3]) | wp_step)
  show R _ _
  rw [Heap.size_push]
  exact k
theorem check_run {M : Model} (F : ExcBaseFacts B newId initId bB) (T : Tl B bm) {rest : List Value} {Q : Unit → Shared → Prop} (hC : h.get? C = some (excClassObj nm q C N bs bm hdct sn sub ab col dd k0 k1 k2 k3 k5 newId)) (k : Q () ⟨h, g, d, t, os⟩) :
    wpAny M A (checkBuiltinCall newId ⟨.ref C :: rest, []⟩) Q E ⟨h, g, d, t, os⟩ := by
  have T1 : Tl B (.ref C :: bm) := T.cons
  have b1 := T1.b
  have z := F.noStar
  simp only [checkBuiltinCall, F.newKind, F.newSplit, F.newRow]
  repeat (first | refine wpAny_loadPart_at hC ?_ | (refine wpAny_isSubtype_exc hC ?_; rw [b1]) | refine wpAny_staticBase_exc hC ?_ | refine wpAny_madeBy_exc hC ?_ | simp only [bne_self_eq_false, Bool.false_eq_true, if_false] | wp_step)
  exact k
theorem typeCall_run (F : ExcBaseFacts B newId initId bB) (T : Tl B bm) {rest : List Value} {fI : Addr} {Q : Fin → Shared → Prop} (hC : h.get? C = some (excClassObj nm q C N bs bm hdct sn sub ab col dd k0 k1 k2 k3 k5 newId))
    (hi : W.Looks (model prog w) h (typeLookup (.ref C) "__init__") (some (.ref fI))) (hb : ∀ self, W.Looks (model prog w) h (bindSpecial (.ref fI) self) (.ref fI, [self])) (hz : rest.length ≤ sizeLine)
    (k : codeAny (model prog w) A (.call (.ref fI) ⟨.ref (h.objs.size + 1) :: rest, []⟩)
      (fun r s' => match r with | .ok (.ret v) => v = .none ∧ Q (.done (.ret (.ref (h.objs.size + 1)))) s' | .ok _ => False | .error e => E e s') ⟨(h.push (W.kdv_tup rest)).push (PySem.HandSPX.excO C h.objs.size), g, d, t, os⟩) :
    wpAny (model prog w) A (Builtin.«type.__call__» ⟨.ref C :: rest, []⟩) Q E ⟨h, g, d, t, os⟩ := by
  repeat (first | with_reducible refine wpAny_loadPart_at hC ?_ | with_reducible refine wpAny_madeBy_exc hC ?_ | wp_step)
  refine codeAny_call_builtin_code (Code.quiet_builtin _ F.quiet) (check_run F T hC (new_run F T hC hz ?_))
  show wpAny _ _ _ _ _ _
  have kp : ∀ b o, h.get? b = some o → ((h.push (W.kdv_tup rest)).push (PySem.HandSPX.excO C h.objs.size)).get? b = some o := fun b o e => Heap.get?_push_of_some _ (Heap.get?_push_of_some _ e)
  have hC1 := kp _ _ hC
  have he : ((h.push (W.kdv_tup rest)).push (PySem.HandSPX.excO C h.objs.size)).get? (h.objs.size + 1) = some (PySem.HandSPX.excO C h.objs.size) := by heap_get
  have own : (Value.ref C :: bm).contains (.ref C) = true := by simp
  have i1 := hi.keeps kp
  have b1 := (hb (.ref (h.objs.size + 1))).keeps kp
  unfold isInstance
  repeat (first | with_reducible refine wpAny_loadPart_at he ?_ | (with_reducible refine wpAny_isSubtype_exc hC1 ?_; rw [own]) | wp_step)
  show wpAny _ _ (typeLookup (.ref C) _) _ _ _
  refine i1.at (wpAny_holding (wpAny_bind (b1.at (wpAny_bind (wpAny_call (codeAny_mono k fun r s' z => ?_))))))
  cases r with
  | error e => exact z
  | ok fl =>
    cases fl with
    | ret v =>
      obtain ⟨rfl, z⟩ := z
      first
        | exact wpAny_pure (wpAny_pure z)
        | (wp_walk; exact z)
    | next => exact z.elim
    | brk => exact z.elim
    | cont => exact z.elim
theorem make_run (F : ExcBaseFacts B newId initId bB) (T : Tl B bm) {rest : List Value} {fI : Addr} (hC : h.get? C = some (excClassObj nm q C N bs bm hdct sn sub ab col dd k0 k1 k2 k3 k5 newId))
    (hi : W.Looks (model prog w) h (typeLookup (.ref C) "__init__") (some (.ref fI))) (hb : ∀ self, W.Looks (model prog w) h (bindSpecial (.ref fI) self) (.ref fI, [self])) (hz : rest.length ≤ sizeLine)
    (k : codeAny (model prog w) (A.under (.builtin "type.__call__" ⟨.ref C :: rest, []⟩)) (.call (.ref fI) ⟨.ref (h.objs.size + 1) :: rest, []⟩) (W.InitBack (h.objs.size + 1) R) ⟨(h.push (W.kdv_tup rest)).push (PySem.HandSPX.excO C h.objs.size), g, d, t, os⟩) :
    codeAny (model prog w) A (.call (.ref C) ⟨rest, []⟩) R ⟨h, g, d, t, os⟩ := by
  have f1 := tc_lookup
  have f2 := tc_bind (.ref C)
  have ty : (⟨h, g, d, t, os⟩ : Shared).TypeIs (.ref C) "type" := ⟨_, hC, rfl⟩
  refine codeAny_of_tree ?_
  show wpAny _ _ (callAny (.ref C) _) _ _ _
  repeat (any_goals (first | assumption | with_reducible refine wpAny_loadPart_at hC ?_ | wp_step))
  refine ⟨rfl, codeAny_call_builtin_at (Code.quiet_builtin _ (by decide +kernel)) entry_typeCall (wpAny_check_type_call_sub hC (typeCall_run F T hC hi hb hz (codeAny_mono k fun r s' z => ?_)))⟩
  rcases r with e | (v | _ | _ | _) <;> exact z
end
end LqX
end PySem


set_option Elab.async false
set_option linter.all false
set_option maxRecDepth 100000
set_option maxHeartbeats 4000000
namespace PySem
namespace LqX
open Builtin Builtin.ObjectAttr
section
variable {prog : Program} {w : World} {A : Around} {R : Result → Shared → Prop} {hp : Heap} {g : Array GenState} {d : Drawn} {t : Nat} {os : OsState}
/-- e.name = v, the first field of the exception at x -/
theorem store_run {K : W.Frag} {B : String} {name : Str} {tk : Tok} {v : Value} {x C : Addr} {fv : Array Value} {cd : ClassData} (X : K.In hp) (hx : hp.get? x = some { cls := .ref C, data := .fields fv }) (hcd : W.clsIn K C = some cd) (T : Tl B cd.mro)
    (hh : cd.hasDict = true) (ha : W.findIn K (.ref C) name = some none)
    (k : ∀ h' tk' dx, (∀ b o, b ≠ x → hp.get? b = some o → h'.get? b = some o) → hp.objs.size ≤ dx → dx ≠ x → h'.get? x = some { cls := .ref C, dict := some dx, data := .fields fv } →
      h'.Ns1 dx (fun y => if y = name then some v else none) → R (.ok (.ret .none)) ⟨h', g, d, tk', os⟩) :
    codeAny (model prog w) A (.call (.builtin "object.__setattr__") ⟨[.ref x, .str name tk, v], []⟩) R ⟨hp, g, d, t, os⟩ := by
  have at_ : W.InstAt hp x { cls := .ref C, data := .fields fv } C none := ⟨hx, rfl, rfl, trivial⟩
  have S := F.store_object
  have nx : x ≠ hp.objs.size := Nat.ne_of_lt (Heap.lt_size hx)
  have io : W.Looks (model prog w) hp (isInstance (.ref x) (.type "object")) true := at_.type.andThen (W.looks_mroIn X (by unfold W.mroIn; rw [hcd, Option.bind_some, if_neg (by rw [T.ne]; decide), T.o]))
  have lm : W.Looks (model prog w) hp (mroOf (.ref C)) cd.mro := (W.looks_clsIn X hcd).andThen .now
  have l3 : W.Looks (model prog w) hp (storeTaker? none) none := .now
  have lc : W.Looks (model prog w) hp (classData C) cd := W.looks_clsIn X hcd
  refine codeAny_call_builtin S.slot.plain S.entry (@W.check_slot (model prog w) _ _ ⟨hp, g, d, t, os⟩ "object.__setattr__" "object" "__setattr__" (.ref x) [.str name tk, v] [] _ S.kind S.split io (S.args (.ref x) (.str name tk) v) ?_)
  rw [W.osa_eq, refuse_eq]
  refine wpAny_bind (wpAny_bind (at_.type.at (wpAny_bind (lm.at ?_))))
  rw [T.pass]
  refine wpAny_pure (wpAny_bind (at_.type.at (wpAny_bind ((W.looks_findIn X ha).at (wpAny_bind (l3.at ?_))))))
  show wpAny _ _ (storeInOwnDict (.ref x) (.ref C) (.str name tk) name v false) _ _ _
  obtain ⟨c1, c2, c3, c4, c5, c6, c7, c8, c9, c10, c11⟩ := cd
  dsimp only at hh
  subst hh
  unfold storeInOwnDict ownDictForStores
  repeat (first | with_reducible refine HandSPX.store_in_new ?_ ?_ | with_reducible refine wpAny_loadPart_at hx ?_ | with_reducible refine lc.at ?_ | wp_step)
  · exact ⟨_, #[], _, (Heap.get?_update_ne _ _ _ _ nx.symm).trans (Heap.get?_push_at rfl rfl), rfl, fun e he => absurd he (by simp), fun _ => rfl⟩
  · intro h2 tk2 ns2 sb
    have hx2 : (hp.push { cls := .type "dict", data := .dict #[] }).get? x = some { cls := .ref C, data := .fields fv } := Heap.get?_push_of_some _ hx
    refine k h2 tk2 hp.objs.size (fun b o nb ho => ?_) (Nat.le_refl _) nx.symm ((sb.2 x nx).trans (Heap.get?_update_self _ hx2 rfl)) ns2
    exact (sb.2 b (Nat.ne_of_lt (Heap.lt_size ho))).trans ((Heap.get?_update_ne _ _ _ _ nb).trans (Heap.get?_push_of_some _ ho))
end
end LqX
end PySem
namespace L2
namespace LqX
open PySem PySem.Spec PyProof.Rows
/-- what the written part says of an own exception class, made by newId, over B -/
structure XC (K : PySem.W.Frag) (C : Addr) (B newId : String) : Prop where
  cls : ∃ nm q N bs bm sn sub ab col dd k0 k1 k2 k3 k5, K.lookup C = some (excClassObj nm q C N bs bm true sn sub ab col dd k0 k1 k2 k3 k5 newId) ∧ PySem.LqX.Tl B bm
  sa : PySem.W.findIn K (.ref C) "__setattr__" = some (some (.builtin "object.__setattr__"))
  exC : PySem.W.subIn K (.ref C) (.type "BaseException") = some true
  tyC : PySem.W.typeIn K (.ref C) = some (.type "type")
  kC : PySem.W.keepIn K (.ref C) = true
section
variable {X : Cx} {pins : List (Addr × Obj)} {σ : St} {H : Hp} {s : Shared} {a C : Addr} {f : Str} {y : V} {u : Value} {A : Around} {B newId : String}
theorem set_first {Q : Unit → Shared → Prop} {E : Value → Shared → Prop} (T : XC X.K C B newId) (I : Inv X pins σ H s) (e : H a = some (exo a C none)) (hno : PySem.W.findIn X.K (.ref C) f = some none) (ry : RelV y u)
    (k : ∀ dx s', H dx = none → dx ≠ a → Inv X pins σ (upd (upd H dx (exd dx [(f, y)])) a (exo a C (some dx))) s' → Q () s') : wpAny (model X.prog X.w) A (setAttr (.ref a) f u) Q E s := by
  obtain ⟨nm, q, N, bs, bm, sn, sub, ab, col, dd, k0, k1, k2, k3, k5, hC, tl⟩ := T.cls
  have hcl : PySem.W.clsIn X.K C = some { name := nm, bases := bs, mro := .ref C :: bm, ns := N, qualname := q, hasDict := true, slotNames := sn, subclasses := sub, abstract := ab, collection := col, hasDel := false } := by
    unfold PySem.W.clsIn
    rw [hC] <;> rfl
  obtain ⟨t1, ho⟩ := exo_at I.hok e
  obtain ⟨hp, g, d, t, os⟩ := s
  refine PySem.W.set_plain I.kIn (ox := { cls := .ref C, dict := none, data := .fields #[.ref t1, .none, .none, .none, .bool false, .none] }) (od := none) ⟨ho, rfl, rfl, trivial⟩ T.sa ?_
  refine PySem.LqX.store_run (B := B) I.kIn ho hcl tl.cons rfl hno fun h2 tk2 dx kp dn dne hx2 ns2 => ?_
  have nd : H dx = none := I.hok.fresh dn
  have ne1 : ∀ {b : Addr} {o : Obj}, hp.get? b = some o → b ≠ dx := fun z => Nat.ne_of_lt (Nat.lt_of_lt_of_le (Heap.lt_size z) dn)
  have ne2 : ∀ {b : Addr}, H b = none → b ≠ a := fun {b} n z => by
    rw [z, e] at n
    cases n
  have U : Un X.fs [] H (upd (upd H dx (exd dx [(f, y)])) a (exo a C (some dx))) hp h2 :=
    ⟨fun b o z n _ _ => kp b o (ne2 n) z, fun b o z n _ _ => ⟨o.slots, kp b o (ne2 n) z⟩, fun b o z n _ => by rw [upd_ne (ne2 n), upd_ne (ne1 z)]; exact n, fun b o z _ => by
      by_cases hb : b = a
      · exact ⟨_, by rw [hb]; exact hx2⟩
      · exact ⟨o, kp b o hb z⟩, fun b xs z => by rw [upd_ne (at_ne e z exo_tup), upd_ne (ne_of_none z nd)]; exact z, fun b o v z => by rw [upd_ne (at_ne e z exo_frz), upd_ne (ne_of_none z nd)]; exact z,
      fun b ps z => ⟨#[], by rw [upd_ne (at_ne e z exo_tbl), upd_ne (ne_of_none z nd), z]; simp⟩⟩
  refine k dx _ nd dne (I.un (t' := tk2) U fun b o z => ?_)
  by_cases hb : b = a
  · subst hb
    rw [upd_same] at z
    cases z
    exact exo_ok hx2
  · rw [upd_ne hb] at z
    by_cases hd : b = dx
    · subst hd
      rw [upd_same] at z
      cases z
      exact exd_ok ns2 (relO_put (fs := []) ry fun _ => True.intro)
    · rw [upd_ne hd] at z
      refine (I.hok b o z).stay (fun c v hc q2 => kp c v ?_ q2) (fun c hc => by rw [upd_ne (at_ne e hc exo_own), upd_ne (ne_of_none hc nd)]; exact hc) fun c xs hc => by rw [upd_ne (at_ne e hc exo_tup), upd_ne (ne_of_none hc nd)]; exact hc
      rcases hc with hc | hc
      · rw [hc]
        exact hb
      · exact at_ne e hc exo_own
/-- self.f = e in such an __init__ -/
def tSetX (K : PySem.W.Frag) (C : Addr) (f : Str) (to te : TE) : TS := fun D σ H => te σ H fun y H1 => to σ H1 fun x H2 => ∃ a : Addr, x = .ref a ∧ H2 a = some (exo a C none) ∧ ∀ dx, H2 dx = none → dx ≠ a → D.nx σ (upd (upd H2 dx (exd dx [(f, y)])) a (exo a C (some dx)))
theorem ps_setX {o e : Expr} {to te : TE} {p' pos : Pos} (T : XC X.K C B newId) (hno : PySem.W.findIn X.K (.ref C) f = some none) (ho : PE X o to) (he : PE X e te) (hs : swapsWith e (some (.Attribute o f p')) pos.line X.env = pure false := by rfl) :
    PS X (.Assign [.Attribute o f p'] e pos) (tSetX X.K C f to te) := by
  refine ⟨fun pins s σ H D I h => ?_⟩
  refine plainObj_wpAny_Assign_Attribute (thn (he.run pins s σ H _ I h) fun v s1 ⟨y, H1, I1, r1, q1⟩ => thn (ho.run pins s1 σ H1 _ I1 q1) fun u s2 ⟨x, H2, I2, r2, a, ex, ea, q⟩ => ?_) hs
  subst ex
  obtain rfl : u = Value.ref a := r2
  exact set_first T I2 ea hno r1 fun dx s' n ne J => ⟨σ, _, J, q dx n ne⟩
/-- C(e): C's own __init__ keeps sp -/
theorem pmk_x {CX : CXT} {x : Str} {fI : Addr} {k : Nat} {fd : FuncData} {ps : List Str} {sp : Sp} {e : Expr} {es : List Expr} {ta : TA} {p pos : Pos} {bB : List Value} {initId : String} (FB : ExcBaseFacts B newId initId bB) (T : XC X.K C B newId)
    (iC : PySem.W.findIn X.K (.ref C) "__init__" = some (some (.ref fI))) (tI : PySem.W.typeIn X.K (.ref fI) = some (.type "function"))
    (F1 : FnOk X.prog X.w X.K X.mg X.base CX k fI fd ps sp) (hr : Room (k + 1) X.A) (hb : Binds X.K fd ps []) (hx : Passes CX X (fun _ _ _ => False)) (hg : Gl X x) (hm : X.mg x = some (.ref C)) (ha : PA X (e :: es) ta)
    (hdb : (x == ("__debug__" : Str)) = false := by decide) (he : starEach (e :: es) X.env = (false, eval e X.env) :: starEach es X.env := by rfl) (hpl : (backTo pos (starEach es X.env)).any (·.1) = false := by rfl) :
    L2N.PMk X (.Call (.Name x p) (e :: es) [] pos) (tMkO C sp [] ta) := by
  intro pins s σ H Q I h
  obtain ⟨nm, q, N, bs, bm, sn, sub, ab, col, dd, k0, k1, k2, k3, k5, hC, tl⟩ := T.cls
  refine wpAny_Call_Name_kw (ld_glob I hg hm ?_ hdb)
  refine PySem.W.callWith_K (h₀ := X.base) I.ok.mod.kin T.kC (thn (ha.run pos pins s σ H _ I h) fun us s1 ⟨vs, H1, I1, r1, hz, q1⟩ => ⟨I1.kIn, ?_⟩) he hpl
  show wpAny _ _ (call (.ref C) us) _ _ _
  obtain ⟨hp, g, dr, tk, os⟩ := s1
  have le1 : hp.objs.size ≤ hp.objs.size + 1 := Nat.le_succ _
  have hq := q1 (hp.objs.size + 1) (I1.hok.fresh le1)
  rw [List.append_nil] at hq
  have kp : ∀ b o, hp.get? b = some o → ((hp.push (PySem.W.kdv_tup us)).push (PySem.HandSPX.excO C hp.objs.size)).get? b = some o := fun b o z => Heap.get?_push_of_some _ (Heap.get?_push_of_some _ z)
  have hnew : ((hp.push (PySem.W.kdv_tup us)).push (PySem.HandSPX.excO C hp.objs.size)).get? (hp.objs.size + 1) = some (PySem.HandSPX.excO C hp.objs.size) := by heap_get
  have I2 : Inv X pins σ (upd H1 (hp.objs.size + 1) (exo (hp.objs.size + 1) C none)) ⟨(hp.push (PySem.W.kdv_tup us)).push (PySem.HandSPX.excO C hp.objs.size), g, dr, tk, os⟩ :=
    I1.laid (t' := tk) (a := hp.objs.size + 1) (o := exo (hp.objs.size + 1) C none) (h' := (hp.push (PySem.W.kdv_tup us)).push (PySem.HandSPX.excO C hp.objs.size)) kp le1 (exo_ok hnew)
  have r2 : Vals (V.ref (hp.objs.size + 1) :: vs) (Value.ref (hp.objs.size + 1) :: us) := .cons rfl r1
  have hl : (Value.ref (hp.objs.size + 1) :: us).length = ps.length := by
    rw [← r2.length]
    exact F1.len _ _ _ _ hq
  have bnd := hb _ (Value.ref (hp.objs.size + 1) :: us) I2.kIn (by rw [List.append_nil]; exact hl)
  rw [List.append_nil] at bnd
  refine wpAny_call (PySem.LqX.make_run FB tl (I1.kIn _ _ hC) (PySem.W.looks_findIn I1.kIn iC) (fun self => PySem.W.bind_fn I1.kIn self tI) (by rw [← Paired.length r1, sizeLine_eq]; omega)
    (codeAny_mono (F1.run _ X.stack _ _ ⟨Value.ref (hp.objs.size + 1) :: us, []⟩ (Value.ref (hp.objs.size + 1) :: us) _ _ (fun _ _ _ => False) (hr.make C us []) (I2.env0.make C us []) bnd r2 hq) fun r s' hq' => ?_))
  cases r with
  | error er => exact hx pins σ _ _ er s' I2 hq'
  | ok fl =>
    cases fl with
    | ret u =>
      obtain ⟨v, H2, os2, bare2, un2, hok2, rv, ev, d, fs, ea, ed, hd1, q2⟩ := hq'
      subst ev
      obtain ⟨h2, g2, d2, t2, os'⟩ := s'
      obtain ⟨t0, G, J, kG, ge, hoe, na⟩ := mk_end0 (d2 := d2) (t2 := t2) I1 le1 kp un2 hok2 os2 bare2 ea ed hd1
      exact ⟨rv, hp.objs.size + 1, _, _, ⟨G, g2, d2, t2, os'⟩, _, .ref C, some d, rfl, J, kG, ge, hoe, ⟨rfl, rfl, fun ws z => by cases z; rfl⟩, rfl, rfl, na, rfl, bare2, raises_own T.exC T.tyC, q2⟩
    | next => exact False.elim hq'
    | brk => exact False.elim hq'
    | cont => exact False.elim hq'
/-- C(), an own exception class without __init__ -/
theorem pmk_0 {bB : List Value} {initId : String} {x : Str} {p pos : Pos} (FB : ExcBaseFacts B newId initId bB) (q : PySem.W.excIn X.K C bB newId = true) (gC : X.mg x = some (.ref C)) (kC : PySem.W.keepIn X.K (.ref C) = true) (r : Raises X (.ref C)) (hg : Gl X x)
    (hdb : (x == ("__debug__" : Str)) = false := by decide) : L2N.PMk X (.Call (.Name x p) [] [] pos) (fun _ H Q => Q (.ref C) none H) := by
  intro pins s σ H Q I h
  refine wpAny_Call_Name_kw (ld_glob I hg gC ?_ hdb)
  refine PySem.W.callWith_K0 I.kIn kC ?_
  show wpAny _ _ (call (.ref C) []) _ _ _
  obtain ⟨bm, N, nm, qn, bs, hdct, sn, sub, ab, col, dd, k0, k1, k2, k3, k5, mN, hC, hN, hni, T⟩ := exc_obj I.kIn q
  exact wpAny_call_exc_subT FB T hC hN hni (fun h' e hm => L2N.mk_of I hm r h (I.hok.gone hm.new)) (Nat.zero_le _)
end
/-! ### several clauses, each with the same name -/
/-- what the clauses wish, one after the other; slot i is the name's -/
def wAll (K : PySem.W.Frag) (i : Nat) (Wout : WX) (D : Ends) : List (Value × (Addr → Value → Option Addr → TS)) → WX
  | [] => Wout
  | (c, ts) :: r => fun cls d σ H => ∃ b, PySem.W.exmOne K cls c = some b ∧ (b = true → ∀ a, H a = none → ts a cls d { nx := fun σ' H' => D.nx (σ'.set i none) H', rt := D.rt, bk := fun σ' H' => D.bk (σ'.set i none) H', ct := fun σ' H' => D.ct (σ'.set i none) H' } (σ.set i (some (.ref a))) H) ∧
      (b = false → wAll K i Wout D r cls d σ H)
inductive Hds (X : Cx) (n : Str) : List ExceptHandler → List (Value × (Addr → Value → Option Addr → TS)) → Prop
  | nil : Hds X n [] []
  | cons {x : Str} {c : Value} {ts : Addr → Value → Option Addr → TS} {b0 : Stmt} {suite : List Stmt} {np pos' : Pos} {hds : List ExceptHandler} {l : List (Value × (Addr → Value → Option Addr → TS))} (hc : Names X x c)
      (hsu : ∀ (a : Addr) (oe : Obj) (cls : Value) (d : Option Addr) (pn : List (Addr × Obj)), L2N.Zn cls d oe → (∃ vs, oe.data = .fields vs) → PSs (X.suite a ((a, oe) :: pn)) (b0 :: suite) (ts a cls d)) (r : Hds X n hds l) :
      Hds X n (.ExceptHandler (some (.Name x np)) (some n) (b0 :: suite) pos' :: hds) ((c, ts) :: l)
section
variable {X : Cx} {n : Str} {i : Nat} {body : List Stmt} {h0 : ExceptHandler} {hds : List ExceptHandler} {l : List (Value × (Addr → Value → Option Addr → TS))} {pos : Pos} {tb : WX → TS} {Wout : WX}
/-- an exception that has come to the ground, tried by the clauses -/
theorem clauses (hN : X.N.Nodup) (hi : X.N[i]? = some n) (hln : X.env.kindOf n = some .local) (hs : X.stack = X.env :: X.outer) (hf : X.env.frame = some X.env.locals) (tk : L2N.Takes X Wout) {D : Ends} {pins : List (Addr × Obj)} {σ : St} {H : Hp} {sI s' : Shared} {h3 B : Heap} {a : Addr} {cls : Value} {d : Option Addr}
    (J : Inv X pins σ H sI) (nb : ∀ b o, sI.heap.get? b = some o → b ∉ frs X.stack → B.get? b = some o) (fl : HandSPX.FlyingZ B (X.env :: X.outer) a (L2N.Zn cls d) h3) (up : sI.heap.UpToSlots h3) (os : s'.os = sI.os) (ag : AllBare s'.gens) (na : H a = none) :
    ∀ {hds : List ExceptHandler} {l : List (Value × (Addr → Value → Option Addr → TS))}, Hds X n hds l → wAll X.K i Wout D l cls d σ H → wpAny (model X.prog X.w) X.A (handleBy (.ref a) X.env hds) (SP X pins D) X.xe { s' with heap := h3 } := by
  have ok := J.ok
  have J3 : Inv X pins σ H { s' with heap := h3 } := J.landed nb fl.1 up os ag
  obtain ⟨oe3, vs3, he3, hz3, hd3⟩ := fl.there
  have nfr : a ∉ frs (X.env :: X.outer) := fun hm => by
    obtain ⟨_, o2, e2, hnf⟩ := fl.2.2.1.mem hm
    rw [he3] at e2
    cases e2
    exact hnf _ hd3
  have nL : a ≠ X.env.locals := fun z => nfr (List.mem_filterMap.mpr ⟨X.env, List.mem_cons_self, by rw [hf, z]⟩)
  have nF : a ∉ X.fs := fun hm => by
    obtain ⟨e, he, q⟩ := List.mem_filterMap.mp hm
    exact nfr (List.mem_filterMap.mpr ⟨e, List.mem_cons_of_mem _ he, q⟩)
  have S3 := J3.suite he3 hd3 na nL nF
  intro hds l hk
  induction hk with
  | nil =>
    intro w
    refine wpAny_handleBy_nil ?_
    obtain ⟨_, _, _, oe, vs, T, oT, ts', he, hz, hd, h1, _⟩ := id fl
    unfold PySem.passOn
    refine wpAny_bind (wpAny_field he hd h1 ?_)
    rw [if_neg (by simp : ¬ ((Value.ref T == Value.none) = true))]
    have fin : wpAny (model X.prog X.w) X.A (setFlight (.ref a) X.env.frame) (fun _ s4 => wpAny (model X.prog X.w) X.A (throw (.ref a) : Sem Flow) (SP X pins D) X.xe s4) X.xe { s' with heap := h3 } := by
      rw [hf]
      exact HandSPX.setFlight_upZ fl fun h4 hh4 up4 => wpAny_throw (tk _ _ ⟨a, B, sI, pins, σ, H, cls, d, rfl, J, nb, up.trans up4, .inr (.inr (by rw [hs]; exact hh4)), na, os, ag, w⟩)
    first
      | exact wpAny_bind (wpAny_pure (wpAny_bind fin))
      | exact wpAny_bind fin
  | @cons x c ts b0 suite np pos' hds2 l2 hc hsu r ih =>
    intro w
    obtain ⟨b, hb1, yes, no⟩ := w
    refine wpAny_handleBy_cons (codeAny_handlers_test ?_) (by intro q; cases q)
    have LT : PySem.W.Looks (model X.prog X.w) h3 (typeOf (.ref a)) cls := fun _ _ _ _ k q => wpAny_typeOf_ref (k _ _ he3) (by rw [hz3.1]; exact q)
    have LM := PySem.W.exm_one (M := model X.prog X.w) (J3.kIn) LT hb1
    have named : ∀ {Q : Value → Shared → Prop} {E : Value → Shared → Prop}, Q c { s' with heap := h3 } → wpAny (model X.prog X.w) (X.A.mark (some (.ref a))) (eval (.Name x np) X.env) Q E { s' with heap := h3 } := fun q => by
      obtain ⟨hg, hdbg, hm | ⟨hm, hv, hnn⟩⟩ := hc
      · exact ld_glob (X := X.suite a ((a, oe3) :: (X.pn ++ pins))) S3 hg hm q hdbg
      · exact ld_blt (X := X.suite a ((a, oe3) :: (X.pn ++ pins))) S3 hg hm hv q hnn hdbg
    refine named (LM.here ?_)
    cases b with
    | false => exact ih (no rfl)
    | true =>
      refine codeAny_handlers_suite_as (HandSPX.lands_againZ fl fun h4 fl4 up4 => ?_)
      have J4 : Inv X pins σ H { s' with heap := h4 } := J.landed nb fl4.1 (up.trans up4) os ag
      obtain ⟨oe4, vs4, he4, hz4, hd4⟩ := fl4.there
      refine store_ok (X := X.suite a ((a, oe4) :: (X.pn ++ pins))) (v := .ref a) (J4.suite he4 hd4 na nL nF) hN hi (.inl hln) rfl (fun s5 S5 => ?_) (.inr hln)
      refine wpAny_mono ((hsu a oe4 cls d (X.pn ++ pins) hz4 ⟨_, hd4⟩).run [] s5 _ H _ S5 (yes rfl a na)) (fun f s6 hsp => ?_) (fun _ _ z => False.elim z)
      have last : ∀ {σ6 : St} {H6 : Hp} {Q : Shared → Prop}, Inv (X.suite a ((a, oe4) :: (X.pn ++ pins))) [] σ6 H6 s6 → (∀ s7, Inv X pins (σ6.set i none) H6 s7 → Q s7) →
          wpAny (model X.prog X.w) X.A (do bindName X.env n .none; unbindBehindTheSuite X.env n pos') (fun _ s7 => Q s7) X.xe s6 := fun S6 hq => gone_ok (S6.unsuite ok) hN hi hln hq
      cases f with
      | ret u =>
        obtain ⟨v6, σ6, H6, S6, r6, q6⟩ := hsp
        exact last S6 fun s7 J7 => ⟨_, _, _, J7, r6, q6⟩
      | next =>
        obtain ⟨σ6, H6, S6, q6⟩ := hsp
        exact last S6 fun s7 J7 => ⟨_, _, J7, q6⟩
      | brk =>
        obtain ⟨σ6, H6, S6, q6⟩ := hsp
        exact last S6 fun s7 J7 => ⟨_, _, J7, q6⟩
      | cont =>
        obtain ⟨σ6, H6, S6, q6⟩ := hsp
        exact last S6 fun s7 J7 => ⟨_, _, J7, q6⟩
theorem ps_try_all (hs : X.stack = X.env :: X.outer) (hf : X.env.frame = some X.env.locals) (hN : X.N.Nodup) (hi : X.N[i]? = some n) (hln : X.env.kindOf n = some .local) (tk : L2N.Takes X Wout)
    (hb : ∀ (W : WX) (pn : List (Addr × Obj)) (xe : Value → Shared → Prop), L2N.Takes (X.tr pn xe) W → PassesOwn (model X.prog X.w) X.A X.env xe → PSs (X.tr pn xe) body (tb W))
    (hh : Hds X n (h0 :: hds) l) : PS X (.Try body (h0 :: hds) [] [] pos) (fun D σ H => tb (wAll X.K i Wout D l) D σ H) := by
  refine ⟨fun pins s σ H D I h => ?_⟩
  have ok := I.ok
  have hfr : X.A.frames = some (X.env :: X.outer) := by rw [ok.frames, hs]
  refine wpAny_Try_except (wpAny_mono ((hb (wAll X.K i Wout D l) (X.pn ++ pins) (fun e s₁ => wpAny (model X.prog X.w) X.A (noteFrame e X.env) (fun _ s₂ => wpAny (model X.prog X.w) X.A (setFlight e none) (fun _ s₃ =>
    wpAny (model X.prog X.w) X.A (handleBy e X.env (h0 :: hds)) (SP X pins D) X.xe s₃) X.xe s₂) X.xe s₁) (fun u s' xx => ?_) PassesOwn.looking).run [] s σ H D (I.toTry _) h) (fun f s1 hsp => ?_) (fun e s1 he => he))
  · obtain ⟨a, B, sI, pins', σ', H', cls, d, rfl, J', nb, up, sky, na, os, ag, w⟩ := xx
    show wpAny (model X.prog X.w) X.A (noteFrame (.ref a) X.env) _ _ _
    exact L2N.Sky.land L2N.Zn.steady hfr hf (by rw [← hs]; exact sky) fun h3 fl3 up3 => clauses hN hi hln hs hf tk (J'.ofTry ok) nb fl3 (up.trans up3) os ag na hh w
  · cases f with
    | ret u =>
      obtain ⟨v, σ', H', J', r, q⟩ := hsp
      exact ⟨v, σ', H', J'.ofTry ok, r, q⟩
    | next =>
      obtain ⟨σ', H', J', q⟩ := hsp
      exact wpAny_execs_nil ⟨σ', H', J'.ofTry ok, q⟩
    | brk =>
      obtain ⟨σ', H', J', q⟩ := hsp
      exact ⟨σ', H', J'.ofTry ok, q⟩
    | cont =>
      obtain ⟨σ', H', J', q⟩ := hsp
      exact ⟨σ', H', J'.ofTry ok, q⟩
end
end LqX
end L2


set_option Elab.async false
set_option linter.all false
set_option maxRecDepth 100000
set_option maxHeartbeats 4000000
namespace PySem
namespace LqX
open PySem.W PySem.Calls PyProof.Rows
section
variable {prog : Program} {w : World} {A : Around} {E : Value → Shared → Prop} {s : Shared} {K : Frag} {x D : Addr} {ox : Obj}
/-- e.__class__ of an exception, with or without a dict -/
theorem class_run {od : Option Obj} {Q : Option Value → Shared → Prop} (hga : findIn K (.ref D) "__getattribute__" = some (some (.builtin "BaseException.__getattribute__"))) (hgt : findIn K (.ref D) "__getattr__" = some none) (hsub : subIn K (.ref D) (.type "BaseException") = some true)
    (hdct : hasDictIn K D = true) (ha : findIn K (.ref D) "__class__" = some (some (.builtin "object.__class__"))) (hn : specialIn K (.builtin "object.__class__") "__get__" = some (some (.builtin "getset_descriptor.__get__"))) (htk : takesIn K (.builtin "object.__class__") = some true)
    (hm : mroIn K D (.type "object") = some true) (X : K.In s.heap) (I : W.InstAt s.heap x ox D od) (h : Q (some (.ref D)) { s with toks := s.toks + 1 }) : wpAny (model prog w) A (getAttr? (.ref x) "__class__") Q E s := by
  have hf : findObj K D od "__class__" = some (.bind (.builtin "getset_descriptor.__get__") (.builtin "object.__class__")) := by
    obtain ⟨cd, hc, _⟩ := any_some hdct
    unfold findObj
    rw [hc, Option.bind_some, ha, Option.bind_some]
    simp [hn, htk]
  obtain ⟨hp, g, d, t, os⟩ := s
  have l0 := I.type (M := model prog w)
  have l1 := looks_findIn (M := model prog w) X hga
  have l2 := looks_findIn (M := model prog w) X hgt
  have l3 := looks_find (M := model prog w) X I hf
  have sb : Looks (model prog w) hp (isInstance (.ref x) (.type "BaseException")) true := l0.andThen (looks_subIn X hsub)
  have n1 : (Value.builtin "BaseException.__getattribute__" == Value.builtin "object.__getattribute__") = false := by decide +kernel
  have n2 : (onTheHeap (Value.ref D) && Value.builtin "BaseException.__getattribute__" == Value.builtin "object.__getattribute__") = false := by rw [n1]; rfl
  have n3 : (false && onTheHeap (Value.builtin "BaseException.__getattribute__")) = false := rfl
  unfold getAttr? getAttrBy? getAttrBy
  refine wpAny_bind (wpAny_mkText (wpAny_bind (wpAny_attempt (wpAny_holding (wpAny_bind (l0.at (wpAny_bind (l1.at ?_))))))))
  show wpAny _ _ (if (onTheHeap (Value.ref D) && Value.builtin "BaseException.__getattribute__" == Value.builtin "object.__getattribute__") = true then _ else _) _ _ _
  rw [n2, if_neg Bool.false_ne_true]
  unfold getAttrByItsOwn hookBefore
  refine wpAny_bind ?_
  have n4 : onTheHeap (Value.ref D) = true := rfl
  rw [if_pos n4]
  refine l2.at (wpAny_bind (wpAny_attempt (wpAny_holding ?_)))
  unfold callGetattribute
  rw [n3, if_neg Bool.false_ne_true]
  unfold boundAndCalled
  rw [PySem.F.excAttr_ValueError.ga.bind (.ref x)]
  refine wpAny_bind (wpAny_pure ?_)
  show wpAny _ _ (call (.builtin "BaseException.__getattribute__") [.ref x, .str "__class__" t]) _ _ _
  refine wpAny_call (codeAny_call_builtin PySem.F.excAttr_ValueError.ga.plain PySem.F.entry_bexc_ga (@check_slot (model prog w) _ _ ⟨hp, g, d, t + 1, os⟩ "BaseException.__getattribute__" "BaseException" "__getattribute__" (.ref x) [.str "__class__" t] [] _ (by decide +kernel) (by decide +kernel) sb (PySem.F.args_bexc_ga (.ref x) (.str "__class__" t)) ?_))
  unfold Builtin.«object.__getattribute__»
  refine wpAny_bind (wpAny_of_eq (a := ((Value.ref x : Value), [Value.str "__class__" t])) (by first | rfl | (simp only [slotArgs]; rfl)) (wpAny_bind (wpAny_pure (wpAny_bind (l0.at (wpAny_bind (l3.at ?_)))))))
  show wpAny _ _ (holding [Value.builtin "object.__class__"] (call (.builtin "getset_descriptor.__get__") [.builtin "object.__class__", .ref x, .ref D]) >>= ret) _ _ _
  refine wpAny_bind (wpAny_holding (wpAny_call (class_get (s := ⟨hp, g, d, t + 1, os⟩) (ox := ox) (od := od) X I hm (wpAny_pure ?_))))
  show wpAny _ _ (handedOut (.ref D)) _ _ _
  rw [handedOut_of (v := .ref D) rfl]
  first
    | exact wpAny_pure (wpAny_pure h)
    | exact wpAny_pure h
    | exact wpAny_pure (wpAny_bind (wpAny_pure (wpAny_pure h)))
theorem kit_exc (hga : findIn K (.ref D) "__getattribute__" = some (some (.builtin "BaseException.__getattribute__"))) (hgt : findIn K (.ref D) "__getattr__" = some none) (hsub : subIn K (.ref D) (.type "BaseException") = some true) (hdct : hasDictIn K D = true)
    (ha : findIn K (.ref D) "__class__" = some (some (.builtin "object.__class__"))) (hn : specialIn K (.builtin "object.__class__") "__get__" = some (some (.builtin "getset_descriptor.__get__"))) (htk : takesIn K (.builtin "object.__class__") = some true)
    (hm : mroIn K D (.type "object") = some true) : KitX K (.ref x) (.ref D) (fun h => ∃ od, W.InstAt h x ox D od) := by
  have key := handS_kitx_exc (x := x) (ox := ox) hga hgt hsub hdct ha hn htk hm
  refine ⟨fun _ _ _ ⟨_, I⟩ => I.type, fun M h X ⟨_, I⟩ => ?_, key.ne, fun X ⟨_, I⟩ k => class_run hga hgt hsub hdct ha hn htk hm X I k⟩
  obtain ⟨cd, hc, _⟩ := any_some hdct
  unfold clsIn at hc
  split at hc
  · rename_i c' d' cd' sl' ho
    intro A' Q' E' s' k q
    unfold isType loadHead
    exact wpAny_bind (wpAny_loadPart (k _ _ (X _ _ ho)) (wpAny_pure q))
  · cases hc
end
end LqX
end PySem
/-! Defs that are called in an except suite and are handed the exception -/
namespace L2
namespace LqX
open PySem PySem.Spec PyProof.Rows L2H
/-- the exception at a, as the suite holds it -/
structure Hnd (A : Around) (a : Addr) (cls : Value) (d : Option Addr) (oe : Obj) : Prop where
  hot : Hot1 A (a, oe)
  z : L2N.Zn cls d oe
  fl : ∃ vs, oe.data = .fields vs
theorem hnd_suite {A : Around} {a : Addr} {cls : Value} {d : Option Addr} {oe : Obj} (z : L2N.Zn cls d oe) (fl : ∃ vs, oe.data = .fields vs) : Hnd (A.mark (some (.ref a))) a cls d oe := by
  obtain ⟨vs, e⟩ := fl
  exact ⟨⟨rfl, vs, e, z.2.2 vs e⟩, z, ⟨vs, e⟩⟩
/-- a def's promise while the exception at a (of the class cls, its dict d) is handled -/
structure FnE (P : Program) (w : World) (K : PySem.W.Frag) (mg : Str → Option Value) (base : Heap) (k : Nat) (f : Addr) (fd : FuncData) (ps : List Str) (a : Addr) (cls : Value) (d : Option Addr) (sp : Sp) : Prop where
  len : ∀ vs H Q E, sp vs H Q E → vs.length = ps.length
  run : ∀ (A : Around) (outer : List Env) (s : Shared) (H : Hp) (args : Args) (us : List Value) (vs : List V) (Q : VK) (E : XK) (oe : Obj), RoomH k A → Hnd A a cls d oe → PinOk outer H s (a, oe) → Env0 P w K mg base A outer s H →
    BindsTo s fd args (ps.zip us) → Vals vs us → sp vs H Q E → codeAny (model P w) A (.call (.ref f) args) (CR CX0 outer P w H s Q E) s
theorem Fun.okE {P : Program} {w : World} {K : PySem.W.Frag} {mg : Str → Option Value} {base : Heap} {x qual : Str} {st : Stmt} {f : Addr} {fd : FuncData} {N ps : List Str} {k : Nat} {a : Addr} {cls : Value} {d : Option Addr} {sp : Sp} (F : Fun K x qual st f fd) (S : FnScope N ps (defScope st))
    (len : ∀ vs H Q E, sp vs H Q E → vs.length = ps.length)
    (body : ∀ (cdv : Value) (A : Around) (outer : List Env) (s : Shared) (H : Hp) (vs : List V) (Q : VK) (E : XK) (oe : Obj), Hnd A a cls d oe → RoomH k (A.deeper (envOfC qual (defScope st) s.heap.objs.size f cdv)) → sp vs H Q E →
      ∃ t, PSs (cxH CX0 P w K mg base N qual (defScope st) f cdv A outer s H E (a, oe)).nox (defBody st) t ∧ t { nx := fun _ H' => Q .non H', rt := Q } (L2.start N vs) H) : FnE P w K mg base (k + 1) f fd ps a cls d sp := by
  obtain ⟨oc, od, kV, doc, pm, an, cdv, ct, osl, rfl, lk, hcd⟩ := F.ex
  refine ⟨len, fun A outer s H args us vs Q E oe hr hn pin e0 bnd r want => ?_⟩
  have KX : K.In s.heap := e0.mod.kin.keeps fun b o e => (e0.bs b o e).1
  have lim : s.heap.NoLimit := e0.mod.nolimit.keeps fun b o e => (e0.bs b o e).1
  have kinds : ∀ y ∈ ps.zip us, (defScope st).names.lookup y.1 = some .local ∨ ((defScope st).names.lookup y.1 = some .cell ∧ ((cellsFrom (s.heap.objs.size + 1) (defScope st).names []).lookup y.1).isSome = true) := by
    rintro ⟨n, v⟩ hy
    exact (S.par n (List.of_mem_zip hy).1).elim .inl fun q => .inr ⟨q, PySem.W.cellsFrom_some _ _ _ (.inl q)⟩
  refine codeAny_call_function hr.depth (KX _ _ lk) rfl S.co S.gen rfl (PySem.W.codeRec_of KX hcd) (bnd _ _ _ _ ?_)
  refine wpAny_newFunctionEnv_cells S.kind kinds fun env he s1 x => ?_
  subst he
  refine ⟨lim.keeps x.toInCall.keep, codeAny_func ?_⟩
  obtain ⟨t, ht, ok⟩ := body cdv A outer s H vs Q E oe hn (hr.deeper _) want
  have I : Inv (cxH CX0 P w K mg base N qual (defScope st) f cdv A outer s H E (a, oe)) [] (L2.start N vs) H s1 := inv_startH S pin e0 (len _ _ _ _ want) r x
  refine wpAny_mono (ht.nox.run [] s1 (L2.start N vs) H _ I ok) (fun fl s' hs => ?_) fun e s' hs => hs
  cases fl with
  | ret u =>
    obtain ⟨v, σ', H', J, rv, q⟩ := hs
    exact ⟨v, H', J.os, J.bare, J.base, J.hok, rv, q⟩
  | next =>
    obtain ⟨σ', H', J, q⟩ := hs
    exact ⟨V.non, H', J.os, J.bare, J.base, J.hok, rfl, q⟩
  | brk => exact hs.elim fun _ z => z.elim fun _ z => z.2.elim
  | cont => exact hs.elim fun _ z => z.elim fun _ z => z.2.elim
section
variable {X : Cx} {k : Nat} {f : Addr} {fd : FuncData} {ps : List Str} {sp : Sp} {x : Str} {q pos : Pos} {e : Expr} {es : List Expr} {t : TA} {a : Addr} {cls : Value} {d : Option Addr} {oe : Obj}
/-- f(e, ..) in the suite -/
theorem pe_callE (F : FnE X.prog X.w X.K X.mg X.base k f fd ps a cls d sp) (hr : RoomH k X.A) (hn : Hnd X.A a cls d oe) (hp : (a, oe) ∈ X.pn) (hg : Gl X x) (hm : X.mg x = some (.ref f)) (hk : PySem.W.keepIn X.K (.ref f) = true) (hb : Binds X.K fd ps [])
    (ha : PA X (e :: es) t) (hdb : (x == ("__debug__" : Str)) = false := by decide) (he : starEach (e :: es) X.env = (false, eval e X.env) :: starEach es X.env := by rfl) (hpl : (backTo pos (starEach es X.env)).any (·.1) = false := by rfl) :
    PE X (.Call (.Name x q) (e :: es) [] pos) (fun σ H Q => t σ H fun vs H1 => sp vs H1 Q E0) := by
  refine ⟨fun pins s σ H Q I h => ?_⟩
  refine wpAny_Call_Name_kw (ld_glob I hg hm ?_ hdb)
  refine PySem.W.callWith_K (h₀ := X.base) I.ok.mod.kin hk (thn (ha.run pos pins s σ H _ I h) fun us s1 ⟨vs, H1, I1, r, w⟩ => ⟨I1.kIn, ?_⟩) he hpl
  have hl : us.length = ps.length := by rw [← r.length]; exact F.len _ _ _ _ w
  have b := hb s1 us I1.kIn (by rw [List.append_nil]; exact hl)
  rw [List.append_nil] at b
  have P1 := I1.pin (a, oe) (List.mem_append_left _ hp)
  have pin : PinOk X.stack H1 s1 (a, oe) := ⟨P1.1, P1.2.1, fun hm => (List.mem_cons.mp (I1.stkSub a hm)).elim P1.2.2.1 P1.2.2.2.1, P1.2.2.2.2⟩
  refine wpAny_call (codeAny_mono (F.run X.A X.stack s1 H1 ⟨us, []⟩ us vs Q E0 oe hr hn pin I1.env0 b r w) fun r s' hq => ?_)
  cases r with
  | error e => exact False.elim hq
  | ok fl =>
    cases fl with
    | ret u => exact I1.after hq
    | next => exact False.elim hq
    | brk => exact False.elim hq
    | cont => exact False.elim hq
/-- its dict, if it has one, is tracked -/
def DAt (H : Hp) (d : Option Addr) : Prop := ∀ dd, d = some dd → ∃ fs, H dd = some (.xd fs)
theorem inst_at {pins : List (Addr × Obj)} {σ : St} {H : Hp} {s : Shared} {D : Addr} (I : Inv X pins σ H s) (hp : (a, oe) ∈ X.pn) (hz : Zc (.ref D) d oe) (hf : ∃ vs, oe.data = .fields vs) (hd : DAt H d) : ∃ od, PySem.W.InstAt s.heap a oe D od := by
  obtain ⟨hget, _⟩ := I.pin (a, oe) (List.mem_append_left _ hp)
  obtain ⟨vs, hv⟩ := hf
  obtain ⟨oc, od, oda, osl⟩ := oe
  obtain ⟨h1, h2⟩ := hz
  dsimp only at h1 h2 hv
  subst h1 h2 hv
  cases od with
  | none => exact ⟨none, hget, rfl, rfl, trivial⟩
  | some dd =>
    obtain ⟨fs, e⟩ := hd dd rfl
    have z : ObjOk X.prog X.w H s.heap dd (.xd fs) := I.hok dd _ e
    obtain ⟨mA, ⟨o2, _, _, ho2, _⟩, _⟩ := z
    exact ⟨some o2, hget, rfl, rfl, ho2⟩
/-- isinstance(e, c) of the exception at a, of the class at D -/
def rIsX (K : PySem.W.Frag) (D a : Addr) (d : Option Addr) : List V → Hp → VK → Prop := fun xs H Q => ∃ (c : V) (cv : Value) (b : Bool), xs = [.ref a, c] ∧ (∀ u, RelV c u → u = cv) ∧ DAt H d ∧ PySem.W.kitOne K (.ref D) cv = some b ∧ Q (.bl b) H
theorem call_isX {D : Addr} (C : ExcC X.K D) (hp : (a, oe) ∈ X.pn) (hz : Zc (.ref D) d oe) (hf : ∃ vs, oe.data = .fields vs) : CallR X (.builtin "isinstance") (rIsX X.K D a d) := by
  intro pins s σ H xs us Q I r h
  obtain ⟨c, cv, b, rfl, hcv, hd, e, q⟩ := h
  cases r with
  | cons rx rr =>
    cases rr with
    | cons rt rr =>
      cases rr
      cases rx
      have ec := hcv _ rt
      subst ec
      exact PySem.W.kia_one (PySem.LqX.kit_exc C.hg C.hk C.hs C.hd C.ha C.hn C.ht C.hm) I.kIn (inst_at I hp hz hf hd) e (fun z => nomatch z) fun tk => ⟨.bl b, H, I.kept (t' := tk) fun _ _ z => z, rfl, q⟩
/-- e.f of the exception at a -/
def tFldX (a : Addr) (d : Option Addr) (f : Str) (te : TE) : TE := fun σ H Q => te σ H fun x H1 => x = .ref a ∧ ∃ (dd : Addr) (fs : List (Str × V)) (v : V), d = some dd ∧ H1 dd = some (.xd fs) ∧ fs.lookup f = some v ∧ Q v H1
theorem pe_fldX {D : Addr} {n : Str} {te : TE} (T : XfC X.K D) (hno : PySem.W.findIn X.K (.ref D) n = some none) (hp : (a, oe) ∈ X.pn) (hz : Zc (.ref D) d oe) (hf : ∃ vs, oe.data = .fields vs) (he : PE X e te)
    (hb : attributeBase e n X.env (eval e X.env) = eval e X.env := by rfl) : PE X (.Attribute e n pos) (tFldX a d n te) := by
  refine ⟨fun pins s σ H Q I h => ?_⟩
  refine attr_of hb (thn (he.run pins s σ H _ I h) fun u s1 hh => ?_)
  obtain ⟨x, H1, I1, rx, ex, dd, fs, v, ed, ea, l, q⟩ := hh
  subst ex ed
  obtain rfl : u = Value.ref a := rx
  obtain ⟨ha, _⟩ := I1.pin (a, oe) (List.mem_append_left _ hp)
  obtain ⟨vs, hv⟩ := hf
  have hx : ObjOk X.prog X.w H1 s1.heap dd (.xd fs) := I1.hok dd _ ea
  obtain ⟨mA, hns, hr⟩ := hx
  obtain ⟨od, ho, hl⟩ := lookIn_ns hns
  obtain ⟨u, hu, ru⟩ := RelO.some_of (v := v) (o := mA n) (by rw [← l]; exact hr n)
  have J : PySem.W.InstAt s1.heap a oe D (some od) := ⟨ha, hz.1, by unfold PySem.W.notCls; rw [hv] <;> rfl, by rw [hz.2]; exact ho⟩
  exact HandSPX.exc_get I1.kIn J T.ga T.gg T.exC (PySem.W.findObj_own T.hdC hno rfl (by rw [hl, hu])) (handed_of ru) ⟨v, H1, I1.tok _, ru, q⟩
end
end LqX
end L2


set_option Elab.async false
set_option linter.all false
set_option maxRecDepth 100000
set_option maxHeartbeats 4000000
/-! Walks and a comprehension while an exception is handled -/
namespace PySem
namespace LqX
open HotX
section
variable {prog : Program} {w : World} {A : Around} {E : Value → Shared → Prop} {s : Shared} {x1 : Addr}
theorem stopNew {Q : Value → Shared → Prop} (k : ∀ h2 e vs, (∀ b o, s.heap.get? b = some o → h2.get? b = some o) → s.heap.objs.size ≤ e → h2.get? e = some { cls := .type "StopIteration", data := .fields vs } → 2 < vs.size → Q (.ref e) { s with heap := h2 }) :
    wpAny (model prog w) A (newExc (.type "StopIteration") []) Q E s := by
  simp only [newExc, newTuple]
  refine wpAny_bind (wpAny_newObj_type (wpAny_bind (m := firstArgMember _ _) (wpAny_of_eq (a := Value.none) (by first | rfl | (simp only [firstArgMember]; rfl)) (wpAny_newObj_type ?_ (by size_fits)))) (by size_fits))
  refine k _ _ _ (fun b o z => Heap.get?_push_of_some _ (Heap.get?_push_of_some _ z)) ?_ (Heap.get?_push_size _ rfl) (by first | (simp; done) | (simp; omega) | (simp only [Array.size_append]; simp; omega))
  rw [Heap.size_push]
  exact Nat.le_succ _
theorem stopHot {α : Type} {Q : α → Shared → Prop} (hot : HotAt A x1 s.heap) (k : ∀ h2 e, (∀ b o, s.heap.get? b = some o → h2.get? b = some o) → (∃ o, h2.get? e = some o ∧ o.cls = .type "StopIteration") → E (.ref e) { s with heap := h2 }) :
    wpAny (model prog w) A (newExc (.type "StopIteration") [] >>= fun x => (raiseNew x : Sem α)) Q E s := by
  obtain ⟨hh, o1, v1, g1, d1, c1⟩ := hot
  refine wpAny_bind (stopNew fun h2 e vs kp le ge sz => ?_)
  have ne : x1 ≠ e := Nat.ne_of_lt (Nat.lt_of_lt_of_le (Heap.lt_size g1) le)
  refine raiseNew_hot (s := { s with heap := h2 }) ⟨hh, o1, v1, kp _ _ g1, d1, c1⟩ ne ge rfl sz (k _ e (fun b o z => ?_) ⟨_, Heap.get?_update_self _ ge rfl, rfl⟩)
  rw [Heap.get?_update_other _ _ (Nat.ne_of_gt (Nat.lt_of_lt_of_le (Heap.lt_size z) le))]
  exact kp b o z
theorem hotAt_keep {h2 : Heap} (hot : HotAt A x1 s.heap) (kp : ∀ b o, b = x1 → s.heap.get? b = some o → h2.get? b = some o) : HotAt A x1 h2 := by
  obtain ⟨hh, o1, v1, g1, d1, c1⟩ := hot
  exact ⟨hh, o1, v1, kp _ _ rfl g1, d1, c1⟩
/-- a tuple's walk is at its end -/
theorem tupleEnd {it t : Addr} {i : Nat} {items} {Q : Option Value → Shared → Prop} (hot : HotAt A x1 s.heap) (hit : s.heap.IsTupleIter it t i) (ht : s.heap.IsTuple t items) (hx : items[i]? = none) (hne : x1 ≠ it)
    (k : ∀ h2, Heap.ExtBut it s.heap h2 → Q none { s with heap := h2 }) : wpAny (model prog w) A (pyNext (.ref it)) Q E s := by
  obtain ⟨o, ho, hc, hd⟩ := id hit
  obtain ⟨ol, hol, _, nl, hdl⟩ := ht
  unfold pyNext
  refine wpAny_bind (wpAny_attempt (wpAny_callSpecial?_slot (name := Str.ofString "__next__") hit.typeIs F.slot_tuple_iterator_next (wpAny_call_entry F.slot_tuple_iterator_next hit.typeIs F.entry_tuple_iterator_next ?_ (F.args_tuple_iterator_next_1 _))))
  show wpAny _ _ (field (.ref it) 0 >>= _) _ _ s
  refine wpAny_bind (wpAny_field ho hd (x := .ref t) rfl ?_)
  have nn : ¬ ((Value.ref t == Value.none) = true) := Bool.false_ne_true
  show wpAny _ _ (if (Value.ref t == Value.none) = true then _ else _) _ _ s
  rw [if_neg nn]
  show wpAny _ _ (field (.ref it) 1 >>= _) _ _ s
  refine wpAny_bind (wpAny_field ho hd (x := .int i 0) rfl ?_)
  show wpAny _ _ (seqItems? (.ref t) >>= _) _ _ s
  refine wpAny_bind (wpAny_seqItems hol hdl ?_)
  simp only [Int.toNat_natCast, hx]
  refine wpAny_bind (wpAny_rule (wpAny_bind (wpAny_setField ho hd (by simp) ?_)))
  show wpAny _ _ (newExc (.type "StopIteration") [] >>= _) _ _ _
  refine stopHot (x1 := x1) (hotAt_keep hot fun b u z e => ?_) fun h2 e kp ex => ?_
  · exact (Heap.get?_update_other _ _ (fun y => hne (z.symm.trans y.symm))).trans e
  · obtain ⟨o2, ho2, hc2⟩ := ex
    refine wpAny_bind (wpAny_isInstance (T := "StopIteration") (b := true) ⟨o2, ho2, hc2⟩ isSubtype_stop (wpAny_pure (k h2 fun b u nb e2 => kp b u ((Heap.get?_update_other _ _ (Ne.symm nb)).trans e2))))
theorem unpackHot {t : Addr} {items : Array Value} {Q : List Value → Shared → Prop} (hot : HotAt A x1 s.heap) (ht : s.heap.IsTuple t items)
    (k : ∀ h2, Heap.ExtBut s.heap.objs.size s.heap h2 → Q items.toList { s with heap := h2 }) : wpAny (model prog w) A (unpackItems (.ref t) items.size none) Q E s := by
  have nt : t ≠ s.heap.objs.size := by
    obtain ⟨o, ho, _⟩ := ht
    exact Nat.ne_of_lt (Heap.lt_size ho)
  have nx : x1 ≠ s.heap.objs.size := by
    obtain ⟨_, o, _, ho, _⟩ := hot
    exact Nat.ne_of_lt (Heap.lt_size ho)
  unfold unpackItems notIterableAtAll
  refine wpAny_bind (wpAny_bind (wpAny_specialOf ht.typeIs F.slot_tuple_iter.lookup (wpAny_pure ?_)))
  simp only [Bool.false_eq_true, if_false]
  refine wpAny_bind (wpAny_holding (wpAny_pyIter_tuple ht (wpAny_bind (wpAny_holding (wpAny_draw_tuple nt items.size 0 _ _ ⟨_, Heap.get?_push_size _ rfl, rfl, rfl⟩ (ht.push _) (by omega) fun h1 hit1 sb1 => ?_)))))
  have all : List.take items.size (List.drop 0 items.toList) = items.toList := by
    rw [List.drop_zero]
    exact List.take_of_length_le (by simp)
  rw [all, if_neg (by simp)]
  have hot1 : HotAt A x1 h1 := hotAt_keep hot fun b u z e => sb1.extBut b u (by rw [z]; exact nx) (Heap.get?_push_of_some _ e)
  refine wpAny_bind (wpAny_holding (tupleEnd (s := { s with heap := h1 }) hot1 hit1 ((ht.push _).extBut sb1.extBut nt) (by simp) nx fun h2 ext2 => ?_))
  simp only [Option.isSome_none, Bool.false_eq_true, if_false]
  exact wpAny_pure (k h2 fun b u nb e => ext2 b u nb (sb1.extBut b u nb (Heap.get?_push_of_some _ e)))
theorem assignHot {env : Env} {elts : List Expr} {y1} {pos : Pos} {t : Addr} {items : Array Value} {Q : Unit → Shared → Prop} (hot : HotAt A x1 s.heap) (ht : s.heap.IsTuple t items) (hn : (assignEach elts env).length = items.size) (hst : (assignEach elts env).findIdx? (·.1) = none)
    (k : ∀ h2, Heap.ExtBut s.heap.objs.size s.heap h2 → wpAny (model prog w) A (assignInOrder ((assignEach elts env).map (·.2)) items.toList) Q E { s with heap := h2 }) : wpAny (model prog w) A (assign (.Tuple elts y1 pos) env (.ref t)) Q E s := by
  rw [arm_assign_Tuple]
  refine wpAny_bind (wpAny_standAt ?_)
  unfold unpack
  rw [hn, hst]
  exact wpAny_bind (wpAny_holding (unpackHot hot ht k))
/-- a list's walk under enumerate is at its end -/
theorem enumEnd {e it l : Addr} {i : Nat} {items : Array Value} {old : Value} {Q : Option Value → Shared → Prop} (hot : HotAt A x1 s.heap) (he : IsEnum s.heap e it i old) (hit : s.heap.IsListIter it l i) (hl : s.heap.IsList l items) (hx : items[i]? = none) (hne : x1 ≠ it)
    (k : ∀ h2, Heap.ExtBut it s.heap h2 → Q none { s with heap := h2 }) : wpAny (model prog w) A (pyNext (.ref e)) Q E s := by
  have ty : s.TypeIs (.ref e) "enumerate" := ⟨_, he, rfl⟩
  obtain ⟨o, ho, hc, hd⟩ := id hit
  obtain ⟨ol, hol, _, nl, hdl⟩ := hl
  unfold pyNext
  refine wpAny_bind (wpAny_attempt (wpAny_callSpecial?_slot (name := Str.ofString "__next__") ty F.slot_enumerate_next (wpAny_call_entry F.slot_enumerate_next ty F.entry_enumerate_next ?_ (F.args_enumerate_next_1 _))))
  show wpAny _ _ (field (.ref e) 2 >>= _) _ _ _
  refine wpAny_bind (wpAny_field he rfl (x := .ref it) rfl (wpAny_bind ?_))
  unfold Builtin.SmallTypes.nextOf
  refine wpAny_bind (wpAny_callSpecial?_slot (name := Str.ofString "__next__") hit.typeIs slot_listiter_next (wpAny_call_entry slot_listiter_next hit.typeIs entry_listiter_next ?_ (args_listiter_next _)))
  show wpAny _ _ (field (.ref it) 0 >>= _) _ _ s
  refine wpAny_bind (wpAny_field ho hd (x := .ref l) rfl ?_)
  have nn : ¬ ((Value.ref l == Value.none) = true) := Bool.false_ne_true
  show wpAny _ _ (if (Value.ref l == Value.none) = true then _ else _) _ _ s
  rw [if_neg nn]
  show wpAny _ _ (field (.ref it) 1 >>= _) _ _ s
  refine wpAny_bind (wpAny_field ho hd (x := .int i 0) rfl ?_)
  show wpAny _ _ (seqItems? (.ref l) >>= _) _ _ s
  refine wpAny_bind (wpAny_seqItems hol hdl ?_)
  simp only [Int.toNat_natCast, hx]
  refine wpAny_bind (wpAny_rule (wpAny_bind (wpAny_setField ho hd (by simp) ?_)))
  show wpAny _ _ (newExc (.type "StopIteration") [] >>= _) _ _ _
  refine stopHot (x1 := x1) (hotAt_keep hot fun b u z e => ?_) fun h2 e2 kp ex => ?_
  · exact (Heap.get?_update_other _ _ (fun y => hne (z.symm.trans y.symm))).trans e
  · obtain ⟨o2, ho2, hc2⟩ := ex
    exact wpAny_bind (wpAny_isInstance (T := "StopIteration") (b := true) ⟨o2, ho2, hc2⟩ isSubtype_stop (wpAny_pure (k h2 fun b u nb e3 => kp b u ((Heap.get?_update_other _ _ (Ne.symm nb)).trans e3))))
end
end LqX
end PySem
namespace L2
namespace LqX
open PySem PySem.Spec PyProof.Rows L2H
/-- wherever the context's states are, the handled exception stands -/
def HotI (X : Cx) : Prop := ∀ (pins : List (Addr × Obj)) (σ : St) (H : Hp) (s : Shared), Inv X pins σ H s → ∃ x1, HotX.HotAt X.A x1 s.heap ∧ (∀ b, FpOk X pins H b → x1 ≠ b) ∧ H x1 = none ∧ x1 ∉ frs X.stack
theorem hotI_of {X : Cx} {a : Addr} {cls : Value} {d : Option Addr} {oe : Obj} (hn : Hnd X.A a cls d oe) (hp : (a, oe) ∈ X.pn) : HotI X := fun pins σ H s I => by
  obtain ⟨hh, vs, e, c⟩ := hn.hot
  have hm : (a, oe) ∈ X.pn ++ pins := List.mem_append_left _ hp
  have P := I.pin (a, oe) hm
  exact ⟨a, ⟨hh, oe, vs, P.1, e, c⟩, fun b f => f.2.2.2.2.2 (a, oe) hm, P.2.1, fun z => (List.mem_cons.mp (I.stkSub a z)).elim P.2.2.1 P.2.2.2.1⟩
section
variable {X : Cx} {pos : Pos}
/-- (a, b, ..) = a tuple -/
theorem pg_tupH {es : List Expr} {k : Nat} {t : TGs} {n : Nat} (hot : HotI X) (h : PGs X es t) (hn : (assignEach es X.env).length = n := by rfl) (hst : (assignEach es X.env).findIdx? (·.1) = none := by rfl) : PG X (.Tuple es k pos) (gTup X.K n t) := by
  refine ⟨fun pins s σ H v u Q I r w => ?_⟩
  obtain ⟨a, xs, ea, hq, hl, w⟩ := w
  subst ea
  cases r
  obtain ⟨its, rv, ht, hz⟩ := I.tuple hq
  obtain ⟨x1, ha, _⟩ := hot pins σ H s I
  refine PySem.LqX.assignHot ha (show s.heap.IsTuple a its.toArray from ht) (by simp [hn, ← hl, rv.length]) hst fun h2 ext => ?_
  have I1 : Inv X pins σ H { s with heap := h2 } := I.kept (t' := s.toks) fun b o e => ext b o (Nat.ne_of_lt (Heap.lt_size e)) e
  exact h.run pins _ σ H xs _ Q I1 (by simpa using rv) w
abbrev tnE (a e it : Addr) (i : Nat) (h : Heap) : Prop := (∃ old, IsEnum h e it ((i : Nat) : Int) old) ∧ h.IsListIter it a i ∧ e ≠ it
theorem enum_item {elts : List Expr} {kk : Nat} {tpos : Pos} {a e it : Addr} {i : Nat} {pins : List (Addr × Obj)} {s : Shared} {σ : St} {H : Hp} {E : Value → Shared → Prop} (I : Inv X pins σ H s) (hf : ∀ b ∈ [e, it], FpOk X pins H b) (st : tnE a e it i s.heap) (go : (Ite X.K a).go i H) :
    wpAny (model X.prog X.w) X.A (pyNext (.ref e)) (fun r s1 => ∃ u, r = some u ∧ wpAny (model X.prog X.w) X.A (letOwnedTupleGo (.Tuple elts kk tpos) (.ref e) u) (fun _ s2 => ∃ x H', Inv X pins σ H' s2 ∧ RelV x u ∧ (Ite X.K a).yld i H x H' ∧ tnE a e it (i + 1) s2.heap ∧ ∀ b ∈ [e, it], H' b = none) E s1) E s := by
  obtain ⟨⟨old, he⟩, hit, ne⟩ := st
  obtain ⟨xs, x, hq, hx⟩ := go
  obtain ⟨its, rv, pl, hz⟩ := I.list hq
  obtain ⟨u, hu, ru⟩ := rv.get hx
  have le : e < s.heap.objs.size := Heap.lt_size he
  have li : it < s.heap.objs.size := by
    obtain ⟨_, z, _⟩ := hit
    exact Heap.lt_size z
  refine wpAny_pyNext_enum_item he hit pl.isList (x := u) (by simpa using hu) ne fun h1 out hit1 tup sz kp => ⟨_, rfl, wpAny_letOwnedTupleGo_enum (s := { s with heap := h1, toks := s.toks + 1 }) out fun h2 he2 sb => ?_⟩
  have tup2 := (sb.2 _ (Nat.ne_of_gt le)).trans tup
  have J : Inv X pins σ (upd H s.heap.objs.size (.tup [.int (i : Nat), x])) { s with heap := h2, toks := s.toks + 1 } := by
    refine I.turnedNew (ch := [e, it]) (fun b ob nb z => (sb.2 b (fun y => nb (by simp [y]))).trans (kp b ob (fun y => nb (by simp [y])) (fun y => nb (by simp [y])) z)) hf (Nat.le_refl _) ?_
    exact ⟨by show 2 ≤ sizeLine; decide, [.int i s.toks, u], .cons ⟨_, rfl⟩ (.cons ru .nil), ⟨_, tup2, rfl, _, rfl⟩⟩
  refine ⟨.ref s.heap.objs.size, _, J, rfl, ⟨_, x, rfl, I.hok.fresh (Nat.le_refl _), rfl, fun ys hy => by rw [I.list_inj hy hq]; exact hx⟩, ⟨⟨u, ?_⟩, hit1.at fun o z => (sb.2 it (Ne.symm ne)).trans z, ne⟩, fun b hb => ?_⟩
  · rw [show ((i + 1 : Nat) : Int) = (i : Int) + 1 by omega]
    exact he2
  · have lb : b < s.heap.objs.size := by
      rcases List.mem_cons.mp hb with z | z
      · rw [z]
        exact le
      · rw [List.mem_singleton.mp z]
        exact li
    rw [upd_ne (Nat.ne_of_lt lb)]
    exact (hf b hb).1
theorem enum_done {a e it : Addr} {i : Nat} {pins : List (Addr × Obj)} {s : Shared} {σ : St} {H : Hp} {E : Value → Shared → Prop} (hot : HotI X) (I : Inv X pins σ H s) (hf : ∀ b ∈ [e, it], FpOk X pins H b) (st : tnE a e it i s.heap) (stop : (Ite X.K a).stop i H) :
    wpAny (model X.prog X.w) X.A (pyNext (.ref e)) (fun r s1 => r = none ∧ Inv X pins σ H s1) E s := by
  obtain ⟨⟨old, he⟩, hit, ne⟩ := st
  obtain ⟨xs, hq, hx⟩ := stop
  obtain ⟨its, rv, pl, hz⟩ := I.list hq
  have fi := hf it (by simp)
  obtain ⟨x1, ha, nx, _⟩ := hot pins σ H s I
  have hl := rv.length
  exact PySem.LqX.enumEnd ha he hit pl.isList (by simp; omega) (nx it fi) fun h2 ext => ⟨rfl, I.turned (t' := s.toks) (fun b o nb z => ext b o nb z) fi.1 fi.2.1 fi.2.2.2.1 fi.2.2.2.2.1 fi.2.2.2.2.2⟩
/-- within a comprehension's block -/
theorem hotI_blk {pins : List (Addr × Obj)} {σ : St} {H : Hp} {s : Shared} {scope : Scope} {cenv : Env} {fp : List Addr} (hot : HotI X) (I : Inv X pins σ H s) (hf : ∀ b ∈ fp, FpOk X pins H b) : HotI (X.blk s H scope cenv fp) := fun pins' σ' H' s' I' => by
  obtain ⟨x1, ha, nx, hn, nf⟩ := hot pins σ H s I
  obtain ⟨hh, o, vs, e, d, c⟩ := ha
  have ne : x1 ∉ fp := fun z => nx x1 (hf x1 z) rfl
  refine ⟨x1, ⟨hh, o, vs, I'.base.keep x1 o e hn nf ne, d, c⟩, fun b f => ?_, I'.base.free x1 o e hn ne, nf⟩
  rcases f.2.2.2.1 with z | z
  · exact fun y => ne (y ▸ z)
  · exact Nat.ne_of_lt (Nat.lt_of_lt_of_le (Heap.lt_size e) z)
/-- [elt for a, b in enumerate(e) if ..] while an exception is handled -/
theorem pe_lcE {elt e : Expr} {elts : List Expr} {kk : Nat} {tpos p posE : Pos} {ifs : List Expr} {scope : Scope} {own : List (Str × Nat)} {ta : TA} {g : TG} {tt : TT} {te : TE} (hot : HotI X) (hN : X.N.Nodup) (gl : Gl X "enumerate") (mm : X.mg "enumerate" = none) (ha : PA X [e] ta)
    (ok : BlkOk X.N X.env.scope scope own)
    (hg : ∀ (s : Shared) (H : Hp) (C : Addr) (cl : List (Str × Addr)) (fp : List Addr), HotI (X.blk s H scope (compEnvC scope cl C X.env) fp) → PG (X.blk s H scope (compEnvC scope cl C X.env) fp) (.Tuple elts kk tpos) g)
    (ht : ∀ (s : Shared) (H : Hp) (C : Addr) (cl : List (Str × Addr)) (fp : List Addr), PTs (X.blk s H scope (compEnvC scope cl C X.env) fp) ifs tt)
    (he : ∀ (s : Shared) (H : Hp) (C : Addr) (cl : List (Str × Addr)) (fp : List Addr), PE (X.blk s H scope (compEnvC scope cl C X.env) fp) elt te)
    (hs : ∀ x, foldedSetIterable (.Call (.Name "enumerate" p) [e] [] posE) X.env x = pure x := by intro _; rfl) (hst : starEach [e] X.env = [(false, eval e X.env)] := by rfl) :
    PE X (.ListComp elt [⟨.Tuple elts kk tpos, .Call (.Name "enumerate" p) [e] [] posE, ifs, 0⟩] scope pos) (tLc (iEnum X.K ta) g tt te (own.map (·.2))) := by
  refine ⟨fun pins s σ H Q I h => ?_⟩
  rw [eval_ListComp]
  have hfree : ∀ y ∈ scope.names, y.2 = .free → ∃ c, X.env.cells.lookup y.1 = some c := fun y hy z => (ok.free y hy z).elim (fun q => I.ok.has _ (.inl q)) fun q => I.ok.has _ (.inr q)
  refine wpAny_comprehension_free (use := none) rfl hs (closure_ok hfree) ok.kind (fun y hy z => by rw [ok.uniq y hy, z])
    (Call_ (ld_blt I gl mm boot_enumerate (PyProof.Rows.callWith_type1 (thn (ha.run posE pins s σ H _ I h) fun us s1 ⟨vs, H2, I1, r1, q1⟩ => ?_) hst rfl)))
  obtain ⟨a, xs, ex, hq, q⟩ := q1
  subst ex
  cases r1 with
  | cons r rr =>
  cases rr
  cases r
  obtain ⟨its, rv, pl, hz⟩ := I1.list hq
  refine call_enumerate_list pl.isList fun h1 en li sz kp => wpAny_pyIter_enum en ?_
  have I2 : Inv X pins σ H2 { s1 with heap := h1 } := I1.kept (t' := s1.toks) kp
  generalize hs2 : ({ s1 with heap := h1 } : Shared) = s2 at I2 ⊢
  have hs2h : s2.heap = h1 := by rw [← hs2]
  have tn0 : tnE a (s1.heap.objs.size + 1) s1.heap.objs.size 0 s2.heap := by
    rw [hs2h]
    exact ⟨⟨.none, en⟩, li, Nat.succ_ne_self _⟩
  have f2 : ∀ b ∈ [s1.heap.objs.size + 1, s1.heap.objs.size], FpOk X pins H2 b := fun b hb => by
    have hle : s1.heap.objs.size ≤ b := by
      rcases List.mem_cons.mp hb with z | z
      · rw [z]
        exact Nat.le_add_right _ _
      · exact Nat.le_of_eq (List.mem_singleton.mp z).symm
    exact I1.fpOk hle (I1.hok.fresh hle)
  clear kp li en
  clear sz
  generalize s1.heap.objs.size = i0 at tn0 f2 ⊢
  generalize i0 + 1 = e0 at tn0 f2 ⊢
  have T := turn_enum (P := X.prog) (w := X.w) (K := X.K) (elts := elts) (kk := kk) (tpos := tpos) a e0 i0
  refine wpAny_newObj_type (newEnv_comp ?_) (by show 0 ≤ sizeLine; decide)
  generalize hD : s2.heap.objs.size = D
  obtain ⟨W, ⟨m0, w0⟩, turn⟩ := q D (I2.hok.fresh (Nat.le_of_eq hD))
  generalize hs3 : ({ s2 with heap := s2.heap.push { cls := .type "list", data := .seq ([] : List Value).toArray } } : Shared) = s3
  have h3 : s3.heap = s2.heap.push { cls := .type "list", data := .seq ([] : List Value).toArray } := by rw [← hs3]
  have I3 : Inv X pins σ (upd H2 D (.lst [])) s3 := by
    rw [← hs3]
    refine I2.laid (t' := s2.toks) (fun b o z => Heap.get?_push_of_some _ z) (Nat.le_of_eq hD) ⟨Nat.zero_le _, [], 0, .nil, ?_⟩
    rw [← hD]
    exact Heap.get?_push_size _ rfl
  have lt2 : ∀ b ∈ [e0, i0], b < s2.heap.objs.size := fun b hb => by
    obtain ⟨o, z, _⟩ := T.obj _ _ tn0 b hb
    exact Heap.lt_size z
  have f3 : ∀ b ∈ [e0, i0], FpOk X pins (upd H2 D (.lst [])) b := fun b hb => ⟨by rw [upd_ne (by rw [← hD]; exact Nat.ne_of_lt (lt2 b hb))]; exact (f2 b hb).1, (f2 b hb).2⟩
  have lt3 : ∀ b ∈ [e0, i0], b < s3.heap.objs.size := fun b hb => by
    rw [h3, Heap.size_push]
    exact Nat.lt_succ_of_lt (lt2 b hb)
  have tn3 : tnE a e0 i0 0 s3.heap := T.keep _ _ _ tn0 fun b _ o z => by rw [h3]; exact Heap.get?_push_of_some _ z
  have I4 := block_start I3 ok hN fun b hb => ⟨f3 b hb, lt3 b hb⟩
  show codeAny _ _ (.compStart (.ListComp elt [⟨.Tuple elts kk tpos, .Call (.Name "enumerate" p) [e] [] posE, ifs, 0⟩] scope pos) 0 (.ref e0) (.ref D) (compEnvC scope (cellsFrom (s3.heap.objs.size + 1) scope.names (cloFrom X.env.cells scope.names [])) s3.heap.objs.size X.env)) (compPost (model X.prog X.w) X.A X.xe none _ (.ref D) s3.heap.objs.size) { s3 with heap := pushCells (s3.heap.push { cls := .type "dict", data := .dict #[] }) scope.names }
  have pt := ht s3 (upd H2 D (.lst [])) s3.heap.objs.size (cellsFrom (s3.heap.objs.size + 1) scope.names (cloFrom X.env.cells scope.names [])) [e0, i0]
  have pe := he s3 (upd H2 D (.lst [])) s3.heap.objs.size (cellsFrom (s3.heap.objs.size + 1) scope.names (cloFrom X.env.cells scope.names [])) [e0, i0]
  have hotB : HotI (X.blk s3 (upd H2 D (.lst [])) scope (compEnvC scope (cellsFrom (s3.heap.objs.size + 1) scope.names (cloFrom X.env.cells scope.names [])) s3.heap.objs.size X.env) [e0, i0]) := hotI_blk hot I3 f3
  have pg := hg s3 (upd H2 D (.lst [])) s3.heap.objs.size (cellsFrom (s3.heap.objs.size + 1) scope.names (cloFrom X.env.cells scope.names [])) [e0, i0] hotB
  have nfp : ∀ b ∈ [e0, i0], (upd H2 D (.lst [])) b = none := fun b hb => (f3 b hb).1
  generalize hce : compEnvC scope (cellsFrom (s3.heap.objs.size + 1) scope.names (cloFrom X.env.cells scope.names [])) s3.heap.objs.size X.env = ce at I4 pg pt pe hotB ⊢
  have cL : ce.locals = s3.heap.objs.size := by
    subst hce
    rfl
  generalize hH3 : upd H2 D (.lst []) = H3 at I3 I4 pg pt pe w0 nfp f3 hotB
  generalize hs4 : ({ s3 with heap := pushCells (s3.heap.push { cls := .type "dict", data := .dict #[] }) scope.names } : Shared) = s4 at I4 ⊢
  have tn4 : tnE a e0 i0 0 s4.heap := T.keep _ _ _ tn3 fun b _ o z => by
    rw [← hs4]
    exact pushCells_keeps _ _ _ _ (Heap.get?_push_of_some _ z)
  have stat : ∀ {σ' : St} {H' : Hp} {s' : Shared}, Inv (X.blk s3 H3 scope ce [e0, i0]) [] σ' H' s' → (∀ b ∈ [e0, i0], H' b = none) → ∀ b ∈ [e0, i0], FpOk (X.blk s3 H3 scope ce [e0, i0]) [] H' b := fun J n b hb =>
    ⟨n b hb, (J.ok.exf b hb).1, J.ok.exfs b hb, .inl hb, fun x c z => (J.ok.exf b hb).2 x c z, fun y hy => absurd (show y ∈ ([] : List (Addr × Obj)) ++ [] from hy) (by simp)⟩
  have loop : codeAny (model X.prog X.w) X.A (.compLoop (.ListComp elt [⟨.Tuple elts kk tpos, .Call (.Name "enumerate" p) [e] [] posE, ifs, 0⟩] scope pos) 0 (.ref e0) (.ref D) ce) (compPost (model X.prog X.w) X.A X.xe none (EP X pins σ Q) (.ref D) s3.heap.objs.size) s4 := by
    refine compLoop_any (fun n s' => ∃ i H', Inv (X.blk s3 H3 scope ce [e0, i0]) [] (wipe σ (own.map (·.2))) H' s' ∧ tnE a e0 i0 i s'.heap ∧ (∀ b ∈ [e0, i0], H' b = none) ∧ W i n H') ?_ m0 ⟨0, H3, I4, tn4, nfp, w0⟩
    rintro n s5 ⟨i, H5, I5, tn5, n5, w5⟩
    rcases turn i n H5 w5 with ⟨stop, qq⟩ | ⟨go, Nx, hNx, step⟩
    · refine thnF (enum_done (X := X.blk s3 H3 scope ce [e0, i0]) (E := fun _ _ => False) hotB I5 (stat I5 n5) tn5 stop) fun r s6 ⟨hr, I6⟩ => ?_
      subst hr
      have I7 : Inv X pins σ H5 s6 := I3.call' (ch := [e0, i0]) I6.os I6.base I6.hok I6.bare fun b hb => ⟨(f3 b hb).2.2.2.1, (f3 b hb).2.1, (f3 b hb).2.2.2.2.1, (f3 b hb).2.2.2.2.2⟩
      have nC : H5 s3.heap.objs.size = none := by
        have z : H5 ce.locals = none := I6.free
        rw [cL] at z
        exact z
      obtain ⟨m, hn, _⟩ := I6.loc
      have hn2 : s6.heap.Ns ce.locals m := hn
      rw [cL] at hn2
      obtain ⟨g0, g1, g2, g3, g4, g5⟩ := I3.fpOk (Nat.le_refl _) nC
      exact ⟨m, hn2, fun h9 sb => ⟨.ref D, H5, I7.turned (t' := s6.toks) (fun b o nb z => (sb.2 b nb).trans z) g0 g1 g3 g4 g5, rfl, qq⟩⟩
    · refine thnF (enum_item (X := X.blk s3 H3 scope ce [e0, i0]) (E := fun _ _ => False) (elts := elts) (kk := kk) (tpos := tpos) I5 (stat I5 n5) tn5 go) fun r s6 ⟨u, hr, h6⟩ => ?_
      subst hr
      refine thnF h6 fun _ s7 ⟨x, H7, I7, r7, y7, tn7, n7⟩ => ?_
      have I7' := I7.pinned (stat I7 n7) (T.obj _ _ tn7)
      refine thnF (pg.run _ s7 _ H7 x u _ I7' r7 (step x H7 y7)) fun _ s8 ⟨σ8, H8, I8, hw8, q8⟩ => ?_
      refine thnF (pt.run _ s8 σ8 H8 _ I8 q8) fun b s9 ⟨H9, I9, q9⟩ => ?_
      have fin : ∀ {s' : Shared} {H' : Hp}, Inv (X.blk s3 H3 scope ce [e0, i0]) ([] ++ pinsAt [e0, i0] s7.heap) σ8 H' s' → Nx H' → ∃ m, m < n ∧ ∃ i H', Inv (X.blk s3 H3 scope ce [e0, i0]) [] (wipe σ (own.map (·.2))) H' s' ∧ tnE a e0 i0 i s'.heap ∧ (∀ b ∈ [e0, i0], H' b = none) ∧ W i m H' := fun {s' H'} J nx => by
        obtain ⟨m', hm, w'⟩ := hNx H' nx
        have pin : ∀ b ∈ [e0, i0], ∀ o, s7.heap.get? b = some o → s'.heap.get? b = some o ∧ H' b = none := fun b hb o z =>
          let y := J.pin (b, o) (List.mem_append_right _ (List.mem_append_right _ (mem_pinsAt hb z)))
          ⟨y.1, y.2.1⟩
        refine ⟨m', hm, i + 1, H', (J.unpinned (pins := [])).weak (by rw [← hw8, wipe_length]) (fun j v z => ?_), T.keep _ _ _ tn7 fun b hb o z => (pin b hb o z).1, fun b hb => ?_, w'⟩
        · rw [← hw8] at z
          exact (wipe_some z).1
        · obtain ⟨o, z, _⟩ := T.obj _ _ tn7 b hb
          exact (pin b hb o z).2
      cases b with
      | false =>
        simp only [Bool.false_eq_true, if_false] at q9 ⊢
        exact fin I9 q9
      | true =>
        simp only [if_true] at q9 ⊢
        refine thnF (pe.run _ s9 σ8 H9 _ I9 q9) fun z s10 ⟨yv, H10, I10, r10, acc, hD10, hz10, nx⟩ => ?_
        exact app_ok (X := X.blk s3 H3 scope ce [e0, i0]) I10 hD10 hz10 r10 fun s11 I11 => fin I11 nx
  exact codeAny_compStart_list loop (T.self X.A 0 _ _ _ tn4 loop)
end
end LqX
end L2


set_option Elab.async false
set_option linter.all false
set_option maxRecDepth 100000
set_option maxHeartbeats 4000000
/-! repr of data; the end of a law whose own def calls repr -/
namespace L2
namespace LqX
open PySem PySem.Spec PyProof.Rows
/-- repr(v), v a list or a tuple of data -/
def rRepr (K : PySem.W.Frag) : List V → Hp → VK → Prop := fun xs H Q => ∃ (a : Addr) (d : PyData), xs = [.ref a] ∧ Dp K H (.ref a) d ∧ d.showable = true ∧ d.hasDict = false ∧ d.depth ≤ 40 ∧ d.shown.length ≤ sizeLine ∧ Q (.str d.shown) H
theorem call_repr {X : Cx} (hg : X.A.guards = some []) (hu : X.A.units + 64 < cLine) : CallR X (.builtin "repr") (rRepr X.K) := by
  intro pins s σ H xs us Q I r h
  obtain ⟨a, d, rfl, hd, sh, nd, dp, sz, q⟩ := h
  cases r with
  | cons rx rr =>
    cases rr
    cases rx
    obtain ⟨as, rd⟩ := Dp.reads I d (.ref a) (.ref a) hd rfl
    exact repr_of_reads' rd sh (fun z => by rw [nd] at z; cases z) hg (by omega) (fun _ _ z => z) (fun h2 u tk kp => ⟨.str d.shown, H, I.kept (t' := tk) kp, ⟨u, rfl⟩, q⟩) sz
/-- what a law's def must do when it is called by itself -/
def LawRun (P : Program) (w : World) (K : PySem.W.Frag) (mg : Str → Option Value) (fa a : Addr) (s1 : Shared) (ns : List Int) : Prop :=
  ∀ (base : Heap) (H : Hp), K.In base → base.Ns mainGlobals mg → Env0 P w K mg base callerA [] s1 H → Only H → SqL K H a (ns.map V.int) →
    codeAny (model P w) callerA (.call (.ref fa) ⟨[.ref a], []⟩) (CR CX0 [] P w H s1 (fun v _ => v = .bl true) E0) s1
theorem law_end {P : Program} {w : World} {K : PySem.W.Frag} {mg mb : Str → Option Value} {fa a : Addr} {s1 : Shared} {vs : List Value} {ns : List Int} (KX : K.In s1.heap) (gs : s1.heap.Ns mainGlobals mg) (bs : s1.heap.Ns builtinsNs mb) (bb : ∀ x : Str, x ≠ "__name__" → mb x = bootBuiltins x)
    (nl : s1.heap.NoLimit) (hg : s1.gens = #[]) (ha : s1.heap.get? a = some { cls := .type "list", data := .seq vs.toArray }) (hi : IntsAre vs ns) (hl : ns.length ≤ sizeLine) (F : LawRun P w K mg fa a s1 ns) :
    codeAny (model P w) callerA (.call (.ref fa) ⟨[.ref a], []⟩) (fun r s' => r = .ok (.ret (.bool true)) ∧ OldK s1.heap s'.heap ∧ s'.os = s1.os ∧ AllBare s'.gens) s1 := by
  have rv := vals_ints hi
  have ln := hi.length
  have main : ∀ H : Hp, Only H → SqL K H a (ns.map V.int) → HOk P w H s1.heap → (∀ b, H b ≠ none → b = a ∧ K.lookup a = none) →
      codeAny (model P w) callerA (.call (.ref fa) ⟨[.ref a], []⟩) (fun r s' => r = .ok (.ret (.bool true)) ∧ OldK s1.heap s'.heap ∧ s'.os = s1.os ∧ AllBare s'.gens) s1 := by
    intro H only sq hok own
    have free : ∀ {b : Addr} {o : Obj} {es : Array DictEntry} {n : Nat}, s1.heap.get? b = some o → o.data = .dict es n → H b = none := fun {b o es n} z dd => by
      cases q : H b with
      | none => rfl
      | some u =>
        have e := (own b (by rw [q]; simp)).1
        subst e
        rw [ha] at z
        cases z
        cases (show Data.seq vs.toArray _ = Data.dict es n from dd)
    have ns_ : ∀ {b : Addr} {m : Str → Option Value}, s1.heap.Ns b m → (hidT s1.heap H).Ns b m := fun ⟨o, es, n, z, dd, r⟩ => ⟨o, es, n, hidT_get z (free z dd), dd, r⟩
    have kb : K.In (hidT s1.heap H) := fun b o z => hidT_get (KX b o z) (by
      cases q : H b with
      | none => rfl
      | some u =>
        obtain ⟨e, lk⟩ := own b (by rw [q]; simp)
        subst e
        rw [lk] at z
        cases z)
    have env : Env0 P w K mg (hidT s1.heap H) callerA [] s1 H := by
      obtain ⟨mc, h1, h2⟩ := nl
      exact ⟨rfl, ⟨kb, ns_ gs, ⟨mb, ns_ bs, bb⟩, ⟨mc, ns_ h1, h2⟩⟩, fun b o z => of_hidT z, Nat.le_of_eq (hidT_size _ _), trivial, fun b hb => absurd (show b ∈ ([] : List Addr) from hb) (by simp), hok, .of_eq hg⟩
    refine codeAny_mono (F _ H kb (ns_ gs) env only sq) fun r s' h => ?_
    cases r with
    | error e => exact False.elim h
    | ok fl =>
      cases fl with
      | next => exact False.elim h
      | brk => exact False.elim h
      | cont => exact False.elim h
      | ret u =>
        obtain ⟨v, H', os, bare, un, hok', rr, ev⟩ := h
        have ev2 : v = .bl true := ev
        subst ev2
        obtain rfl : u = Value.bool true := rr
        refine ⟨rfl, OldK.of_keep fun b o z => ?_, os, bare⟩
        cases q : H b with
        | none => exact un.keep b o z q (fun y => absurd (show b ∈ ([] : List Addr) from y) (by simp)) (by simp)
        | some u =>
          rcases only b with y | ⟨ob, xs, y⟩
          · rw [q] at y
            cases y
          · obtain ⟨e1, _⟩ := hok b _ y
            obtain ⟨e2, _⟩ := hok' b _ (un.frzs b ob _ y)
            rw [z] at e1
            cases e1
            exact e2
  cases hk : K.lookup a with
  | some o =>
    have z := KX a o hk
    rw [ha] at z
    cases z
    exact main (fun _ => none) (fun _ => .inl rfl) (.inr ⟨_, vs.toArray, _, hk, rfl, rfl, rfl, by rw [List.size_toArray, ln]; exact hl, by simpa using rv⟩) (fun b u z => by cases (show (none : Option HO) = some u from z)) fun b z => absurd rfl z
  | none =>
    refine main (fun b => if b = a then some (.frz { cls := .type "list", data := .seq vs.toArray } (.lst (ns.map V.int))) else none) (fun b => ?_) (.inl (.inr ⟨{ cls := .type "list", data := .seq vs.toArray }, if_pos rfl⟩)) (fun b u z => ?_) fun b z => ?_
    · by_cases hb : b = a
      · exact .inr ⟨_, _, if_pos hb⟩
      · exact .inl (if_neg hb)
    · by_cases hb : b = a
      · cases (if_pos hb).symm.trans z
        subst hb
        exact ⟨ha, by rw [List.length_map]; exact hl, vs, _, rv, ha⟩
      · cases (if_neg hb).symm.trans z
    · by_cases hb : b = a
      · exact ⟨hb, hk⟩
      · exact absurd (if_neg hb) z
/-- a def's body run where the law is called -/
theorem Fun.lawRun {P : Program} {w : World} {K : PySem.W.Frag} {mg : Str → Option Value} {qual x y : Str} {st : Stmt} {fa a : Addr} {fd : FuncData} {N : List Str} {s1 : Shared} {ns : List Int} (F : Fun K x qual st fa fd) (S : FnScope N [y] (defScope st)) (hr : Room 1 callerA) (hb : ∀ (s : Shared) (u : Value), BindsTo s fd ⟨[u], []⟩ [(y, u)])
    (body : ∀ (cdv : Value) (base : Heap) (H : Hp), K.In base → base.Ns mainGlobals mg → Only H → SqL K H a (ns.map V.int) →
      ∃ t, PSs (cxOf CX0 P w K mg base N qual (defScope st) fa cdv callerA [] s1 H E0).nox (defBody st) t ∧ t { nx := fun _ H' => False, rt := fun v _ => v = .bl true } (start N [.ref a]) H) : LawRun P w K mg fa a s1 ns := by
  intro base H kb nb e0 only sq
  obtain ⟨oc, od, kV, doc, pm, an, cdv, ct, osl, rfl, lk, hcd⟩ := F.ex
  have KX : K.In s1.heap := kb.keeps fun b o z => (e0.bs b o z).1
  have lim : s1.heap.NoLimit := e0.mod.nolimit.keeps fun b o z => (e0.bs b o z).1
  have kinds : ∀ z ∈ [y].zip [Value.ref a], (defScope st).names.lookup z.1 = some .local ∨ ((defScope st).names.lookup z.1 = some .cell ∧ ((cellsFrom (s1.heap.objs.size + 1) (defScope st).names []).lookup z.1).isSome = true) := by
    rintro ⟨n, v⟩ hz
    exact (S.par n (List.of_mem_zip hz).1).elim .inl fun q => .inr ⟨q, PySem.W.cellsFrom_some _ _ _ (.inl q)⟩
  refine codeAny_call_function hr.depth (KX _ _ lk) rfl S.co S.gen rfl (PySem.W.codeRec_of KX hcd) (hb s1 (.ref a) _ _ _ _ ?_)
  refine wpAny_newFunctionEnv_cells S.kind kinds fun env he s2 x => ?_
  subst he
  refine ⟨lim.keeps x.toInCall.keep, codeAny_func ?_⟩
  obtain ⟨t, ht, ok⟩ := body cdv base H kb nb only sq
  have I : Inv (cxOf CX0 P w K mg base N qual (defScope st) fa cdv callerA [] s1 H E0) [] (start N [.ref a]) H s2 := inv_start S rfl e0 rfl (.cons rfl .nil) x
  refine wpAny_mono (ht.nox.run [] s2 (start N [.ref a]) H _ I ok) (fun fl s' hs => ?_) fun e s' hs => hs
  cases fl with
  | ret u =>
    obtain ⟨v, σ', H', J, rv, q⟩ := hs
    exact ⟨v, H', J.os, J.bare, J.base, J.hok, rv, q⟩
  | next =>
    obtain ⟨σ', H', J, q⟩ := hs
    exact q.elim
  | brk => exact hs.elim fun _ z => z.elim fun _ z => z.2.elim
  | cont => exact hs.elim fun _ z => z.elim fun _ z => z.2.elim
/-- the law's row from such a run -/
theorem walk_law {l : PySem.W.OpenLaw} {n : Nat} {q : Program} {loose : List Str} {XP : (Str → Option Value) → Heap → Prop} {YP : World → Heap → Prop} {d : DefRec} (hn : l.most = some n) (hn2 : n ≤ sizeLine) (hdf : d.params.defaults = [])
    (F : ∀ (w : World) (mg : Str → Option Value) (fa : Addr) (h : Heap), YP w h → h.Ns mainGlobals mg → mg d.name = some (.ref fa) →
      ∃ K : PySem.W.Frag, K.In h ∧ ∀ (s1 : Shared) (a : Addr) (ns : List Int), ns.length ≤ n → LawRun l.prog w K mg fa a s1 ns) : PySem.W.WalkO q loose XP YP l.row.toRowW d [] (fun f vs => PySem.call f vs) := by
  refine Att.attach_call hn hdf fun w s₀ s₁ mg mb fa o pm cd doc a vs ns G Y ho hd hcd hmg hobj hints hlen hg => ?_
  obtain ⟨K, KX, hF⟩ := F w mg fa _ Y G.T.g hmg
  exact law_end KX G.T.g G.T.b G.T.builtins G.T.nolimit hg hobj hints (Nat.le_trans hlen hn2) (hF s₁ a ns hlen)
end LqX
end L2


set_option Elab.async false
set_option linter.all false
set_option maxRecDepth 100000
set_option maxHeartbeats 4000000
/-! Data that stand in the heap; copied(thing) -/
namespace L2
namespace LqX
open PySem PySem.Spec PyProof.Rows
theorem same_tup {K : PySem.W.Frag} {H H' : Hp} {a : Addr} {xs : List V} (e : Same H H') (h : SqT K H a xs) : SqT K H' a xs := by
  rcases h with (h | ⟨o, h⟩) | h
  · exact .inl (.inl (e _ _ h))
  · exact .inl (.inr ⟨o, e _ _ h⟩)
  · exact .inr h
mutual
theorem dp_same {K : PySem.W.Frag} {H H' : Hp} (e : Same H H') : ∀ {v : V} {d : PyData}, Dp K H v d → Dp K H' v d
  | _, _, .non => .non
  | _, _, .bl b => .bl b
  | _, _, .int i => .int i
  | _, _, .str x => .str x
  | _, _, .lst h k => .lst (e.seq h) (dpl_same e k)
  | _, _, .tup h k => .tup (same_tup e h) (dpl_same e k)
theorem dpl_same {K : PySem.W.Frag} {H H' : Hp} (e : Same H H') : ∀ {vs : List V} {ds : List PyData}, DpAll K H vs ds → DpAll K H' vs ds
  | _, _, .nil => .nil
  | _, _, .cons h k => .cons (dp_same e h) (dpl_same e k)
end
theorem dpl_len {K : PySem.W.Frag} {H : Hp} : ∀ {vs : List V} {ds : List PyData}, DpAll K H vs ds → vs.length = ds.length
  | _, _, .nil => rfl
  | _, _, .cons _ k => by rw [List.length_cons, List.length_cons, dpl_len k]
theorem dpl_get {K : PySem.W.Frag} {H : Hp} : ∀ {vs : List V} {ds : List PyData} {i : Nat} {v : V}, DpAll K H vs ds → vs[i]? = some v → ∃ d, ds[i]? = some d ∧ Dp K H v d
  | _, _, 0, _, .cons h _, e => ⟨_, rfl, by cases e; exact h⟩
  | _, _, i + 1, _, .cons _ k, e => dpl_get (i := i) k e
theorem dpl_snoc {K : PySem.W.Frag} {H : Hp} : ∀ {vs : List V} {ds : List PyData} {v : V} {d : PyData}, DpAll K H vs ds → Dp K H v d → DpAll K H (vs ++ [v]) (ds ++ [d])
  | _, _, _, _, .nil, h => .cons h .nil
  | _, _, _, _, .cons g k, h => .cons g (dpl_snoc k h)
mutual
/-- no list or tuple in it is longer than n -/
def short (n : Nat) : PyData → Prop
  | .list xs => xs.length ≤ n ∧ shortAll n xs
  | .tuple xs => xs.length ≤ n ∧ shortAll n xs
  | _ => True
def shortAll (n : Nat) : List PyData → Prop
  | [] => True
  | d :: ds => short n d ∧ shortAll n ds
end
theorem shortAll_get {n : Nat} : ∀ {ds : List PyData} {i : Nat} {d : PyData}, shortAll n ds → ds[i]? = some d → short n d
  | d :: ds, 0, _, h, e => by cases e; exact h.1
  | d :: ds, i + 1, _, h, e => shortAll_get (i := i) h.2 e
theorem depth_get : ∀ {ds : List PyData} {i : Nat} {d : PyData}, ds[i]? = some d → d.depth ≤ PyData.depthAll ds
  | x :: ds, 0, _, e => by
    cases e
    simp only [PyData.depthAll]
    exact Nat.le_max_left _ _
  | x :: ds, i + 1, d, e => by
    simp only [PyData.depthAll]
    exact Nat.le_trans (depth_get (i := i) e) (Nat.le_max_right _ _)
/-- what H' has beyond H -/
def newp (H H' : Hp) : Hp := fun b => match H b with
  | none => H' b
  | some _ => none
theorem newp_free {H H' : Hp} {b : Addr} (h : H b = none) : newp H H' b = H' b := by
  unfold newp
  rw [h]
theorem newp_some {H H' : Hp} {b : Addr} {o : HO} (h : newp H H' b = some o) : H b = none ∧ H' b = some o := by
  unfold newp at h
  cases q : H b with
  | none =>
    rw [q] at h
    exact ⟨rfl, h⟩
  | some u =>
    rw [q] at h
    cases h
theorem newp_same {H H' : Hp} : Same (newp H H') H' := fun b o h => (newp_some h).2
theorem ty_list {K : PySem.W.Frag} {H : Hp} {a : Addr} {xs : List V} (h : SqL K H a xs) : TyX K H (.ref a) (.type "list") := by
  rcases h with (h | ⟨o, h⟩) | ⟨o, its, n, h, c, _⟩
  · exact .base (.lst h)
  · exact .base (.frz h)
  · exact .kList h c
theorem ty_tup {K : PySem.W.Frag} {H : Hp} {a : Addr} {xs : List V} (h : SqT K H a xs) : TyX K H (.ref a) (.type "tuple") := by
  rcases h with (h | ⟨o, h⟩) | ⟨o, its, n, h, c, _⟩
  · exact .base (.tup h)
  · exact .fTuple h
  · exact .kTuple h c
end LqX
end L2
namespace Lq
open PySem L2 L2.LqX
abbrev sCopied : Stmt := topS 2
/-- copied(thing): new lists and tuples throughout -/
def spCopied (K : PySem.W.Frag) (n : Nat) : Sp := fun vs H Q _ => ∃ (v : V) (d : PyData), vs = [v] ∧ Dp K H v d ∧ d.depth ≤ n ∧ short 1000 d ∧ ∀ (v' : V) (H' : Hp), Same H H' → Dp K (newp H H') v' d → Q v' H'
section
variable {P : Program} {w : World} {K : PySem.W.Frag} {mg : Str → Option Value} {base : Heap}
theorem scCopied : FnScope ["thing", "part"] ["thing"] (defScope sCopied) := ⟨rfl, rfl, rfl, by decide +kernel, rfl, by decide +kernel, by decide +kernel⟩
/-- the comprehension's turns, from the promise of one level less -/
theorem copy_all {n : Nat} {a D : Addr} {xs : List V} {ds : List PyData} {H : Hp} {σ : St} {Qd : Hp → Prop} (hD : H D = none) (sq : SqL K H a xs) (hd : DpAll K H xs ds) (hdep : PyData.depthAll ds ≤ n) (hsh : shortAll 1000 ds) (hlen : ds.length ≤ 1000) (hσ : σ.length = 2)
    (k : ∀ (H' : Hp) (ys : List V), Same H H' → H' D = some (.lst ys) → DpAll K (newp (upd H D (.lst [])) H') ys ds → Qd H') :
    ∃ W : Nat → Nat → Hp → Prop, (∃ m, W 0 m (upd H D (.lst []))) ∧ ∀ i m H', W i m H' →
      ((Itl K a).stop i H' ∧ Qd H') ∨ ((Itl K a).go i H' ∧ ∃ Nx : Hp → Prop, (∀ H', Nx H' → ∃ m', m' < m ∧ W (i + 1) m' H') ∧ ∀ x H2, (Itl K a).yld i H' x H2 → gName 1 x (wipe σ [1]) H2 fun σ2 H2 => wipe σ2 [1] = wipe σ [1] ∧ tYes σ2 H2 fun b H3 =>
        if b = true then tCall (spCopied K n) [] E0 (tCons (tVar 1) tNil) σ2 H3 fun y H4 => ∃ acc, H4 D = some (.lst acc) ∧ acc.length < sizeLine ∧ Nx (upd H4 D (.lst (acc ++ [y]))) else Nx H3) := by
  have hl := dpl_len hd
  refine lc_list (K := K) (a := a) (xs := xs) (fun i H' => ∃ ys, Same H H' ∧ H' D = some (.lst ys) ∧ DpAll K (newp (upd H D (.lst [])) H') ys (ds.take i)) ⟨[], fun b o h => by rw [upd_ne (ne_of_none h hD)]; exact h, upd_same, .nil⟩ (fun i H' _ ⟨_, e, _⟩ => e.seq sq) ?_ ?_
  · rintro i x H' hx ⟨ys, e, eD, hy⟩
    obtain ⟨d, hdi, hdx⟩ := dpl_get hd hx
    have hi : i < xs.length := (List.getElem?_eq_some_iff.mp hx).1
    have ly := dpl_len hy
    rw [List.length_take] at ly
    refine ⟨?_, ?_⟩
    rotate_left
    unfold tYes
    dsimp only
    rw [if_pos rfl]
    refine ⟨x, ?_, x, d, rfl, dp_same e hdx, Nat.le_trans (depth_get hdi) hdep, shortAll_get hsh hdi, fun v' H4 e4 n4 => ⟨ys, e4 _ _ eD, small1000 (by omega), ys ++ [v'], ?_, upd_same, ?_⟩⟩
    rotate_right
    · rw [show wipe ((wipe σ [1]).set 1 (some x)) [1] = ((wipe σ [1]).set 1 (some x)).set 1 none from rfl, show wipe σ [1] = σ.set 1 none from rfl, List.set_set, List.set_set]
    · rw [List.getElem?_set_self (by rw [wipe_length]; omega)]
    · intro b o h
      rw [upd_ne (ne_of_none h hD)]
      exact e4 _ _ (e _ _ h)
    · have et : ds.take (i + 1) = ds.take i ++ [d] := by rw [List.take_add_one, hdi] <;> rfl
      rw [et]
      have nD : ∀ {b : Addr} {o : HO}, newp (upd H D (.lst [])) H' b = some o → b ≠ D := fun {b o} z y => by
        have := (newp_some z).1
        rw [y, upd_same] at this
        cases this
      refine dpl_snoc (dpl_same (fun b o z => ?_) hy) (dp_same (fun b o z => ?_) n4)
      · rw [newp_free (newp_some z).1, upd_ne (nD z)]
        exact e4 _ _ (newp_some z).2
      · obtain ⟨z1, z2⟩ := newp_some z
        have bD : b ≠ D := fun y => by
          rw [y, eD] at z1
          cases z1
        have zH : upd H D (.lst []) b = none := by
          rw [upd_ne bD]
          exact e.free z1
        rw [newp_free zH, upd_ne bD]
        exact z2
  · rintro H' ⟨ys, e, eD, hy⟩
    rw [hl, List.take_length] at hy
    exact k H' ys e eD hy
/-- the same over a tuple -/
theorem copy_allT {n : Nat} {a D : Addr} {xs : List V} {ds : List PyData} {H : Hp} {σ : St} {Qd : Hp → Prop} (hD : H D = none) (sq : SqT K H a xs) (hd : DpAll K H xs ds) (hdep : PyData.depthAll ds ≤ n) (hsh : shortAll 1000 ds) (hlen : ds.length ≤ 1000) (hσ : σ.length = 2)
    (k : ∀ (H' : Hp) (ys : List V), Same H H' → H' D = some (.lst ys) → DpAll K (newp (upd H D (.lst [])) H') ys ds → Qd H') :
    ∃ W : Nat → Nat → Hp → Prop, (∃ m, W 0 m (upd H D (.lst []))) ∧ ∀ i m H', W i m H' →
      ((Itt K a).stop i H' ∧ Qd H') ∨ ((Itt K a).go i H' ∧ ∃ Nx : Hp → Prop, (∀ H', Nx H' → ∃ m', m' < m ∧ W (i + 1) m' H') ∧ ∀ x H2, (Itt K a).yld i H' x H2 → gName 1 x (wipe σ [1]) H2 fun σ2 H2 => wipe σ2 [1] = wipe σ [1] ∧ tYes σ2 H2 fun b H3 =>
        if b = true then tCall (spCopied K n) [] E0 (tCons (tVar 1) tNil) σ2 H3 fun y H4 => ∃ acc, H4 D = some (.lst acc) ∧ acc.length < sizeLine ∧ Nx (upd H4 D (.lst (acc ++ [y]))) else Nx H3) := by
  have hl := dpl_len hd
  refine lc_tup (K := K) (a := a) (xs := xs) (fun i H' => ∃ ys, Same H H' ∧ H' D = some (.lst ys) ∧ DpAll K (newp (upd H D (.lst [])) H') ys (ds.take i)) ⟨[], fun b o h => by rw [upd_ne (ne_of_none h hD)]; exact h, upd_same, .nil⟩ (fun i H' _ ⟨_, e, _⟩ => same_tup e sq) ?_ ?_
  · rintro i x H' hx ⟨ys, e, eD, hy⟩
    obtain ⟨d, hdi, hdx⟩ := dpl_get hd hx
    have hi : i < xs.length := (List.getElem?_eq_some_iff.mp hx).1
    have ly := dpl_len hy
    rw [List.length_take] at ly
    refine ⟨?_, ?_⟩
    rotate_left
    unfold tYes
    dsimp only
    rw [if_pos rfl]
    refine ⟨x, ?_, x, d, rfl, dp_same e hdx, Nat.le_trans (depth_get hdi) hdep, shortAll_get hsh hdi, fun v' H4 e4 n4 => ⟨ys, e4 _ _ eD, small1000 (by omega), ys ++ [v'], ?_, upd_same, ?_⟩⟩
    rotate_right
    · rw [show wipe ((wipe σ [1]).set 1 (some x)) [1] = ((wipe σ [1]).set 1 (some x)).set 1 none from rfl, show wipe σ [1] = σ.set 1 none from rfl, List.set_set, List.set_set]
    · rw [List.getElem?_set_self (by rw [wipe_length]; omega)]
    · intro b o h
      rw [upd_ne (ne_of_none h hD)]
      exact e4 _ _ (e _ _ h)
    · have et : ds.take (i + 1) = ds.take i ++ [d] := by rw [List.take_add_one, hdi] <;> rfl
      rw [et]
      have nD : ∀ {b : Addr} {o : HO}, newp (upd H D (.lst [])) H' b = some o → b ≠ D := fun {b o} z y => by
        have := (newp_some z).1
        rw [y, upd_same] at this
        cases this
      refine dpl_snoc (dpl_same (fun b o z => ?_) hy) (dp_same (fun b o z => ?_) n4)
      · rw [newp_free (newp_some z).1, upd_ne (nD z)]
        exact e4 _ _ (newp_some z).2
      · obtain ⟨z1, z2⟩ := newp_some z
        have bD : b ≠ D := fun y => by
          rw [y, eD] at z1
          cases z1
        have zH : upd H D (.lst []) b = none := by
          rw [upd_ne bD]
          exact e.free z1
        rw [newp_free zH, upd_ne bD]
        exact z2
  · rintro H' ⟨ys, e, eD, hy⟩
    rw [hl, List.take_length] at hy
    exact k H' ys e eD hy
/-- a leaf's data hang on no heap -/
theorem leaf_any {H H' : Hp} {v : V} {d : PyData} (h : Dp K H v d) (h0 : d.depth = 0) : Dp K H' v d := by
  cases h with
  | non => exact .non
  | bl b => exact .bl b
  | int i => exact .int i
  | str x => exact .str x
  | lst _ _ => simp [PyData.depth] at h0
  | tup _ _ => simp [PyData.depth] at h0
theorem leaf_ty {H : Hp} {v : V} {d : PyData} (h : Dp K H v d) (h0 : d.depth = 0) : ∃ tn : String, TyX K H v (.type tn) ∧ kitB tn "list" = some false ∧ kitB tn "tuple" = some false := by
  cases h with
  | non => exact ⟨"NoneType", .base .non, by decide +kernel, by decide +kernel⟩
  | bl b => exact ⟨"bool", .base (.bl b), by decide +kernel, by decide +kernel⟩
  | int i => exact ⟨"int", .base (.int i), by decide +kernel, by decide +kernel⟩
  | str x => exact ⟨"str", .base (.str x), by decide +kernel, by decide +kernel⟩
  | lst _ _ => simp [PyData.depth] at h0
  | tup _ _ => simp [PyData.depth] at h0
theorem ok_copied {f : Addr} {fd : FuncData} (F : Fun K "copied" "copied" sCopied f fd) (b : Binds K fd ["thing"] []) (mc : mg "copied" = some (.ref f)) (hii : mg "isinstance" = none) (hli : mg "list" = none) (htu : mg "tuple" = none) :
    ∀ n : Nat, FnOk P w K mg base CX0 (n + 1) f fd ["thing"] (spCopied K n) := by
  intro n
  induction n with
  | zero => 
    refine F.ok scCopied (fun vs H Q E h => ?_) (fun cdv A outer s H vs Q E hr h => ?_)
    · obtain ⟨v, d, rfl, _⟩ := h
      rfl
    · obtain ⟨v, d, rfl, hd, hdep, hsh, k⟩ := h
      obtain ⟨tn, ty, k1, k2⟩ := leaf_ty hd (Nat.le_zero.mp hdep)
      refine ⟨_, pss_cons (ps_if (pt_val (pe_callB call_isi (by rfl) hii PyProof.Rows.boot_isinstance (pa_cons (pv 0) (pa_cons (pe_bltn (by rfl) hli PyProof.Rows.boot_list (v := .ty "list") rfl) pa_nil)))) (pss_one ps_never) pss_nil)
        (pss_cons (ps_if (pt_val (pe_callB call_isi (by rfl) hii PyProof.Rows.boot_isinstance (pa_cons (pv 0) (pa_cons (pe_bltn (by rfl) htu PyProof.Rows.boot_tuple (v := .ty "tuple") rfl) pa_nil)))) (pss_one ps_never) pss_nil)
        (pss_one (ps_ret (pv 0)))), ?_⟩
      exact ⟨v, rfl, v, .ty "list", _, _, false, rfl, .ty _, ty, kit_ty k1, false, rfl, iteF ⟨v, rfl, v, .ty "tuple", _, _, false, rfl, .ty _, ty, kit_ty k2, false, rfl, iteF ⟨v, rfl, k v H (Same.refl H) (leaf_any hd (Nat.le_zero.mp hdep))⟩⟩⟩
  | succ n ih =>
    refine F.ok scCopied (fun vs H Q E h => ?_) (fun cdv A outer s H vs Q E hr h => ?_)
    · obtain ⟨v, d, rfl, _⟩ := h
      rfl
    · obtain ⟨v, d, rfl, hd, hdep, hsh, k⟩ := h
      refine ⟨_, pss_cons (ps_if (pt_val (pe_callB call_isi (by rfl) hii PyProof.Rows.boot_isinstance (pa_cons (pv 0) (pa_cons (pe_bltn (by rfl) hli PyProof.Rows.boot_list (v := .ty "list") rfl) pa_nil))))
          (pss_one (ps_ret (pe_lc (own := [("part", 1)]) (g := gName 1) (tt := tYes) rfl scCopied.nd (pi_list (pv 0)) (blkOk_by (own := [("part", 1)]) (N := ["thing", "part"]) (sc := defScope sCopied) (by decide +kernel))
            (fun _ _ _ _ _ => pg_name (i := 1) scCopied.nd rfl (Or.inl rfl)) (fun _ _ _ _ _ => pts_nil) (fun _ _ _ _ _ => pe_call ih hr (by rfl) mc F.kp b .nil pass0 (pa_cons (pv 1) pa_nil))))) pss_nil)
        (pss_cons (ps_if (pt_val (pe_callB call_isi (by rfl) hii PyProof.Rows.boot_isinstance (pa_cons (pv 0) (pa_cons (pe_bltn (by rfl) htu PyProof.Rows.boot_tuple (v := .ty "tuple") rfl) pa_nil))))
          (pss_one (ps_ret (pe_callTy call_tuple_of (by rfl) htu PyProof.Rows.boot_tuple (pa_cons (pe_lc (own := [("part", 1)]) (g := gName 1) (tt := tYes) rfl scCopied.nd (pi_tup (pv 0)) (blkOk_by (own := [("part", 1)]) (N := ["thing", "part"]) (sc := defScope sCopied) (by decide +kernel))
            (fun _ _ _ _ _ => pg_name (i := 1) scCopied.nd rfl (Or.inl rfl)) (fun _ _ _ _ _ => pts_nil) (fun _ _ _ _ _ => pe_call ih hr (by rfl) mc F.kp b .nil pass0 (pa_cons (pv 1) pa_nil))) pa_nil)))) pss_nil)
        (pss_one (ps_ret (pv 0)))), ?_⟩
      by_cases hz : d.depth = 0
      · obtain ⟨tn, ty, k1, k2⟩ := leaf_ty hd hz
        exact ⟨v, rfl, v, .ty "list", _, _, false, rfl, .ty _, ty, kit_ty k1, false, rfl, iteF ⟨v, rfl, v, .ty "tuple", _, _, false, rfl, .ty _, ty, kit_ty k2, false, rfl, iteF ⟨v, rfl, k v H (Same.refl H) (leaf_any hd hz)⟩⟩⟩
      · cases hd with
        | non => exact absurd (by simp [PyData.depth]) hz
        | bl b => exact absurd (by simp [PyData.depth]) hz
        | int i => exact absurd (by simp [PyData.depth]) hz
        | str x => exact absurd (by simp [PyData.depth]) hz
        | @lst a xs ds sq ha =>
          simp only [PyData.depth] at hdep
          simp only [short] at hsh
          refine ⟨.ref a, rfl, .ref a, .ty "list", _, _, true, rfl, .ty _, ty_list sq, kit_ty (by decide +kernel), true, rfl, iteT ?_⟩
          refine ⟨.ref a, rfl, a, rfl, ⟨_, sq⟩, fun D hD => copy_all hD sq ha (by omega) hsh.2 hsh.1 rfl fun H' ys e eD hy => ?_⟩
          refine k (.ref D) H' e (.lst (xs := ys) (.of (by rw [newp_free hD]; exact eD)) (dpl_same (fun b o z => ?_) hy))
          obtain ⟨z1, z2⟩ := newp_some z
          have bD : b ≠ D := fun y => by
            rw [y, upd_same] at z1
            cases z1
          rw [upd_ne bD] at z1
          rw [newp_free z1]
          exact z2
        | @tup a xs ds sq ha =>
          simp only [PyData.depth] at hdep
          simp only [short] at hsh
          refine ⟨.ref a, rfl, .ref a, .ty "list", _, _, false, rfl, .ty _, ty_tup sq, kit_ty (by decide +kernel), false, rfl, iteF ?_⟩
          refine ⟨.ref a, rfl, .ref a, .ty "tuple", _, _, true, rfl, .ty _, ty_tup sq, kit_ty (by decide +kernel), true, rfl, iteT ?_⟩
          refine ⟨.ref a, rfl, a, rfl, ⟨_, sq⟩, fun D hD => copy_allT hD sq ha (by omega) hsh.2 hsh.1 rfl fun H' ys e eD hy => ?_⟩
          refine ⟨D, ys, rfl, .inl ⟨.of eD, fun T hT => ?_⟩⟩
          have eT : Same H' (upd H' T (.tup ys)) := fun b o z => by
            rw [upd_ne (ne_of_none z hT)]
            exact z
          refine k (.ref T) _ (e.trans eT) (.tup (xs := ys) (.of (by rw [newp_free (e.free hT), upd_same])) (dpl_same (fun b o z => ?_) hy))
          obtain ⟨z1, z2⟩ := newp_some z
          have bD : b ≠ D := fun y => by
            rw [y, upd_same] at z1
            cases z1
          rw [upd_ne bD] at z1
          rw [newp_free z1]
          exact eT _ _ z2
end
end Lq


set_option Elab.async false
set_option linter.all false
set_option maxRecDepth 100000
set_option maxHeartbeats 4000000
/-! The errors: made, raised -/
namespace Lq
open PySem L2 L2.LqX
/-- __init__(self, thing): self.f = copied(thing) -/
def spInit (K : PySem.W.Frag) (C : Addr) (f : Str) (n : Nat) : Sp := fun vs H Q _ => ∃ (a : Addr) (v : V) (d : PyData), vs = [.ref a, v] ∧ H a = some (exo a C none) ∧ Dp K H v d ∧ d.depth ≤ n ∧ short 1000 d ∧
  ∀ (dx : Addr) (v' : V) (H1 : Hp), Same H H1 → Dp K (newp H H1) v' d → H1 dx = none → dx ≠ a → Q .non (upd (upd H1 dx (exd dx [(f, v')])) a (exo a C (some dx)))
section
variable {P : Program} {w : World} {K : PySem.W.Frag} {mg : Str → Option Value} {base : Heap}
theorem ok_init {st : Stmt} {fI C fC : Addr} {fd fdC : FuncData} {qual arg f : Str} {n : Nat} {B newId : String} {p1 p2 p3 p4 p5 p6 : Pos} (F : Fun K "__init__" qual st fI fd) (S : FnScope ["self", arg] ["self", arg] (defScope st))
    (hb : defBody st = [.Assign [.Attribute (.Name "self" p1) f p2] (.Call (.Name "copied" p3) [.Name arg p4] [] p5) p6]) (l0 : (defScope st).names.lookup ("self" : Str) = some .local) (l1 : (defScope st).names.lookup arg = some .local) (lg : (defScope st).names.lookup ("copied" : Str) = some .globalImplicit)
    (na : (arg == ("__debug__" : Str)) = false) (nc : (arg == ("__classdict__" : Str)) = false) (T : XC K C B newId) (hno : PySem.W.findIn K (.ref C) f = some none)
    (GC : FnOk P w K mg base CX0 (n + 1) fC fdC ["thing"] (spCopied K n)) (bC : Binds K fdC ["thing"] []) (kC : PySem.W.keepIn K (.ref fC) = true) (mC : mg "copied" = some (.ref fC)) : FnOk P w K mg base CX0 (n + 2) fI fd ["self", arg] (spInit K C f n) := by
  refine F.ok S (fun vs H Q E h => ?_) (fun cdv A outer s H vs Q E hr h => ?_)
  · obtain ⟨a, v, d, rfl, _⟩ := h
    rfl
  · obtain ⟨a, v, d, rfl, ha, hd, hdep, hsh, k⟩ := h
    refine ⟨tSetX K C f (tVar 0) (tCall (spCopied K n) [] E0 (tCons (tVar 1) tNil)), ?_, ?_⟩
    · rw [hb]
      exact pss_one (ps_setX T hno (pe_var (i := 0) rfl (.inl l0)) (pe_call GC hr lg mC kC bC .nil pass0 (pa_cons (pe_var (i := 1) rfl (.inl l1) na nc) pa_nil)))
    · refine ⟨v, rfl, v, d, rfl, hd, hdep, hsh, fun v' H1 e1 n1 => ⟨_, rfl, a, rfl, e1 _ _ ha, fun dx nx ne => k dx v' H1 e1 n1 nx ne⟩⟩
/-- what a raise of such an error leaves: its dict with the copied field -/
theorem raised {C : Addr} {f : Str} {n : Nat} {i : Nat} {σ : L2.St} {H : Hp} {Qx : XK} {v : V} {d : PyData} (hi : σ[i]? = some (some v)) (hd : Dp K H v d) (hdep : d.depth ≤ n) (hsh : short 1000 d)
    (k : ∀ (dx : Addr) (v' : V) (H' : Hp), Same H H' → H dx = none → H' dx = some (.xd [(f, v')]) → Dp K H' v' d → Qx (.ref C) (some dx) H') : tMkO C (spInit K C f n) [] (tCons (tVar i) tNil) σ H Qx := by
  refine ⟨v, hi, (by show 1 ≤ 1000; decide), fun a na => ?_⟩
  have s0 : Same H (upd H a (exo a C none)) := fun b o z => by
    rw [upd_ne (ne_of_none z na)]
    exact z
  refine ⟨a, v, d, rfl, upd_same, dp_same s0 hd, hdep, hsh, fun dx v' H1 e1 n1 nx ne => ⟨rfl, dx, [(f, v')], upd_same, by rw [upd_ne ne, upd_same], ?_, ?_⟩⟩
  · have := e1.free nx
    rw [upd_ne ne] at this
    exact this
  · have ndx : H dx = none := by
      have := e1.free nx
      rw [upd_ne ne] at this
      exact this
    have fin : ∀ b o, b ≠ a → b ≠ dx → H1 b = some o → (upd (del (upd (upd H1 dx (exd dx [(f, v')])) a (exo a C (some dx))) a) dx (.xd [(f, v')])) b = some o := fun b o ba bd z => by
      rw [upd_ne bd, del_ne ba, upd_ne ba, upd_ne bd]
      exact z
    refine k dx v' _ (fun b o z => fin b o (ne_of_none z na) (ne_of_none z ndx) (e1 _ _ (s0 _ _ z))) ndx upd_same (dp_same (fun b o z => ?_) n1)
    obtain ⟨z1, z2⟩ := newp_some z
    have ba : b ≠ a := fun y => by
      rw [y, upd_same] at z1
      cases z1
    exact fin b o ba (ne_of_none z2 nx) z2
end
end Lq


set_option Elab.async false
set_option linter.all false
set_option maxRecDepth 100000
set_option maxHeartbeats 4000000
namespace L2.LqX
open PySem PySem.Spec PyProof.Rows L2
theorem key_isStr {k : Key} {v : Value} {n : Str} (h : keyIs k v = true) : v.isStr n = decide (k = Sum.inr n) := by
  rcases keyIs_shape h with ⟨i, t, rfl, rfl⟩ | ⟨x, t, rfl, rfl⟩
  · rw [key_lr]; rfl
  · rw [key_rr]
    by_cases e : x = n
    · subst e; simp [Value.isStr]
    · rw [decide_eq_false e]
      simp [Value.isStr, e]
theorem nsSet_new {P : Program} {w : World} {A : Around} {E : Value → Shared → Prop} {s : Shared} {d : Addr} {kvs : List (Key × Value)} {n : Str} {v : Value} {Q : Unit → Shared → Prop} (hd : s.heap.DictOf (mixKind P w) d kvs) (hn : (Sum.inr n : Key) ∉ kvs.map (·.1))
    (hQ : ∀ h' t', h'.DictOf (mixKind P w) d (kvs ++ [(Sum.inr n, v)]) → Heap.SameBut d s.heap h' → Q () { s with heap := h', toks := t' }) : wpAny (model P w) A (nsSet d n v) Q E s := by
  obtain ⟨o, es, ep, ho, hc, hdat, hk, hp, hnd⟩ := hd
  have none_is : es.findIdx? (·.key.isStr n) = none := by
    have e : (es.findIdx? fun e => keyIs (Sum.inr n) e.key) = kvs.findIdx? fun kv => decide (kv.1 = Sum.inr n) := by
      have e1 := hp.findIdx (Sum.inr n)
      obtain ⟨l⟩ := es
      rw [List.findIdx?_toArray]
      exact e1
    have e2 : (kvs.findIdx? fun kv => decide (kv.1 = Sum.inr n)) = none := by
      rw [List.findIdx?_eq_none_iff]
      intro kv hkv
      exact decide_eq_false fun z => hn (List.mem_map.mpr ⟨kv, hkv, z⟩)
    rw [e2] at e
    rw [Array.findIdx?_eq_none_iff] at e ⊢
    intro x hx
    obtain ⟨k, k1, _⟩ := hk x hx
    have z := e x hx
    rcases keyIs_shape k1 with ⟨i, t, rfl, ek⟩ | ⟨y, t, rfl, ek⟩
    · rw [ek]; rfl
    · rw [ek] at z ⊢
      simpa [keyIs, Value.isStrOf, Value.isStr] using z
  have no_ref : es.any (·.refKey) = false := by
    rw [Array.any_eq_false']
    intro x hx
    obtain ⟨k, k1, _⟩ := hk x hx
    rcases keyIs_shape k1 with ⟨i, t, rfl, ek⟩ | ⟨y, t, rfl, ek⟩ <;> simp [DictEntry.refKey, ek]
  intro Γ p _
  simp only [nsSet, strHash, Sem.wp_bind', Sem.wp_cmd_ask, Sem.wp_pure', Sem.wp_cmd_mkText]
  rw [Sem.wp_loadPart_of (model P w) Γ _ p { s with toks := s.toks + 1 } (o := o) _ ho]
  simp only [hdat, aRefKeyMayBeTheName_eq, aRefKeyMayBeTheNameByArray, no_ref, Bool.and_false, Bool.false_eq_true, if_false, Sem.wp_cmd_updatePart]
  refine ⟨by rw [ho]; rfl, hQ _ _ ?_ (Heap.SameBut.update ..)⟩
  obtain ⟨c, dd, dt, sl⟩ := o
  obtain ⟨rfl, rfl, rfl⟩ := hc
  subst hdat
  refine ⟨_, es.push ⟨_, .str n s.toks, v⟩, ep + 1, Heap.get?_update_self _ ho (by simp only [Obj.putName_eq, Obj.putNameByArray, none_is]; rfl), by simp only [Obj.putName_eq, Obj.putNameByArray, none_is]; exact ⟨rfl, rfl, rfl⟩, by simp only [Obj.putName_eq, Obj.putNameByArray, none_is]; rfl, ?_, ?_, ?_⟩
  · intro x hx
    rcases Array.mem_push.mp hx with z | z
    · exact hk x z
    · subst z
      exact ⟨Sum.inr n, keyIs_str n s.toks, rfl⟩
  · rw [Array.toList_push]
    exact Pairs.append (knd := mixKind P w) hp (k := Sum.inr n) (key := .str n s.toks) (keyIs_str n s.toks) _ _
  · rw [List.map_append, List.nodup_append]
    refine ⟨hnd, List.nodup_cons.mpr ⟨List.not_mem_nil, List.nodup_nil⟩, fun a ha b hb z => ?_⟩
    rw [List.map_cons, List.map_nil, List.mem_singleton] at hb
    subst z
    rw [hb] at ha
    exact hn ha
section
variable {P : Program} {w : World} {A : Around} {E : Value → Shared → Prop} {s : Shared}
theorem dictPut_new {d : Addr} {kvs : List (Key × Value)} {k : Key} {key v : Value} {Q : Unit → Shared → Prop} (hkey : keyIs k key = true) (hd : s.heap.DictOf (mixKind P w) d kvs) (hn : k ∉ kvs.map (·.1)) (hz : kvs.length ≤ sizeLine)
    (hQ : ∀ h', h'.DictOf (mixKind P w) d (kvs ++ [(k, v)]) → Heap.SameBut d s.heap h' → Q () { s with heap := h' }) : wpAny (model P w) A (dictPut d (keyH w k) key v) Q E s := by
  obtain ⟨o, es, ep, ho, hc, hdat, hk, hp, hnd⟩ := hd
  have hes : es.size ≤ sizeLine := by
    have e1 := hp.length
    have e2 : es.toList.length = es.size := by simp
    omega
  have none_is : (es.findIdx? fun e => (mixKind P w).is k e.key) = none := by
    have e1 := hp.findIdx k
    have e2 : (kvs.findIdx? fun kv => decide (kv.1 = k)) = none := by
      rw [List.findIdx?_eq_none_iff]
      intro kv hkv
      exact decide_eq_false fun z => hn (List.mem_map.mpr ⟨kv, hkv, z⟩)
    rw [e2] at e1
    obtain ⟨l⟩ := es
    rw [List.findIdx?_toArray]
    exact e1
  unfold dictPut
  refine wpAny_bind (wpAny_dictFind_of (knd := mixKind P w) (k := k) hkey ho hdat hk ?_)
  rw [none_is]
  refine wpAny_updateDictKeys (hz := hes) ho hdat (hQ _ ⟨_, _, ep + 1, Heap.get?_update_self _ ho (Obj.isFreed_of_dict (Obj.data_mapDictKeys hdat _)), hc.mapDictKeys _, Obj.data_mapDictKeys hdat _, hk.push hkey _, ?_, ?_⟩ (Heap.SameBut.update ..))
  · rw [Array.toList_push]
    exact Pairs.append (knd := mixKind P w) hp hkey _ _
  · rw [List.map_append, List.nodup_append]
    refine ⟨hnd, List.nodup_cons.mpr ⟨List.not_mem_nil, List.nodup_nil⟩, fun a ha b hb z => ?_⟩
    rw [List.map_cons, List.map_nil, List.mem_singleton] at hb
    subst z
    rw [hb] at ha
    exact hn ha
theorem pairs_at {P : Program} {w : World} {l : List DictEntry} {kvs : List (Key × Value)} (h : Pairs (mixKind P w) l kvs) : ∀ {i : Nat} {e : DictEntry}, l[i]? = some e → ∃ k v, kvs[i]? = some (k, v) ∧ keyIs k e.key = true ∧ e.val = v := by
  induction h with
  | nil => intro i e z; cases z
  | @cons e0 kv es kvs h1 h2 _ ih =>
    intro i e z
    cases i with
    | zero => cases z; exact ⟨kv.1, kv.2, rfl, h1, h2⟩
    | succ j => exact ih z
theorem merge_run {d a : Addr} {kvs : List (Key × Value)} {un : Bool} {Q : Unit → Shared → Prop} (ha : s.heap.DictOf (mixKind P w) a kvs) (hd : s.heap.DictOf (mixKind P w) d []) (hne : a ≠ d) (hsm : (a == sysModules) = false) (hz : kvs.length ≤ sizeLine)
    (hQ : ∀ h', h'.DictOf (mixKind P w) d kvs → Heap.SameBut d s.heap h' → Q () { s with heap := h' }) : wpAny (model P w) A (mergeMapping d (.ref a) un) Q E s := by
  have hT := ha.typeIs
  obtain ⟨o, es, ep, ho, hc, hdat, hk, hp, hnd⟩ := ha
  have hlen : es.size = kvs.length := by
    have := hp.length
    simpa using this
  unfold mergeMapping
  refine wpAny_bind (wpAny_isInstance hT (b := true) (by first | rfl | kernel_rfl) ?_)
  dsimp only
  rw [if_pos rfl]
  refine wpAny_bind (wpAny_specialOf hT F.slot_dict_iter.lookup ?_)
  rw [show ((some (Value.builtin "dict.__iter__") == some (Value.builtin "dict.__iter__")) = true) from by decide +kernel]
  refine wpAny_bind (wpAny_pure ?_)
  dsimp only
  rw [if_neg (by rw [hsm]; exact Bool.false_ne_true)]
  obtain ⟨od, esd, epd, hod, hcd, hdatd, hkd, hpd, hndd⟩ := hd
  have ed : esd = #[] := by
    have := hpd.length
    exact Array.eq_empty_of_size_eq_zero (by simpa using this)
  subst ed
  refine wpAny_bind (wpAny_dictEntries hod hdatd ?_)
  rw [if_pos (show (#[] : Array DictEntry).isEmpty = true from rfl)]
  refine wpAny_bind (wpAny_dictEntries ho hdat (wpAny_bind ?_))
  refine MeetsSeq2.wpAny_forIn_array _ (fun rest _ s' => s = s' ∧ ∀ e ∈ rest, ∃ k, keyIs k e.key = true) _ ?_ ?_ _ _ ⟨rfl, fun e he => ?_⟩
  · rintro e rest _ _ ⟨rfl, hr⟩
    obtain ⟨k, k1⟩ := hr e List.mem_cons_self
    have hr' : ∀ e ∈ rest, ∃ k, keyIs k e.key = true := fun e' he' => hr e' (List.mem_cons_of_mem _ he')
    rcases keyIs_shape k1 with ⟨i, t, rfl, ek⟩ | ⟨y, t, rfl, ek⟩
    · rw [ek]
      exact wpAny_pure ⟨rfl, hr'⟩
    · rw [ek]
      exact wpAny_pure ⟨rfl, hr'⟩
  · rintro _ _ ⟨rfl, _⟩
    refine wpAny_bind (wpAny_dictEntries ho hdat (wpAny_bind (wpAny_dictEpoch ho hdat (wpAny_bind ?_))))
    refine wpAny_forIn_list _ (fun rest _ s' => ∃ i h', i ≤ kvs.length ∧ rest = (List.range kvs.length).drop i ∧ s' = { s with heap := h' } ∧ h'.DictOf (mixKind P w) d (kvs.take i) ∧ Heap.SameBut d s.heap h') _ ?_ ?_ _ _ ⟨0, s.heap, Nat.zero_le _, by rw [hlen]; rfl, rfl, ⟨od, #[], epd, hod, hcd, hdatd, hkd, hpd, hndd⟩, Heap.SameBut.refl _ _⟩
    · rintro x rest _ s' ⟨i, h', hi, er, rfl, hd', sb⟩
      have hlt : i < kvs.length := by
        apply Classical.byContradiction
        intro hge
        rw [List.drop_eq_nil_of_le (by rw [List.length_range]; omega)] at er
        cases er
      rw [List.drop_eq_getElem_cons (by rw [List.length_range]; exact hlt)] at er
      injection er with er1 er2
      rw [List.getElem_range] at er1
      subst er1
      have hoa : h'.get? a = some o := (sb.2 a hne).trans ho
      refine wpAny_bind (wpAny_dictEntries hoa hdat ?_)
      obtain ⟨e, he⟩ : ∃ e, es[x]? = some e := ⟨es[x]'(by omega), Array.getElem?_eq_getElem (by omega)⟩
      have heL : es.toList[x]? = some e := by rw [Array.getElem?_toList]; exact he
      obtain ⟨k, v, kv, k1, ev⟩ := pairs_at hp heL
      obtain ⟨k', k1', kh⟩ := hk e (Array.mem_of_getElem? he)
      have ek : k' = k := (mixKind P w).inj e.key k' k k1' k1
      subst ek
      have hnk : k' ∉ (kvs.take x).map (·.1) := by
        intro hm
        have e3 : kvs.map (·.1) = (kvs.take x).map (·.1) ++ (kvs.drop x).map (·.1) := by rw [← List.map_append, List.take_append_drop]
        rw [e3, List.nodup_append] at hnd
        refine hnd.2.2 k' hm k' ?_ rfl
        obtain ⟨hx1, hx2⟩ := List.getElem?_eq_some_iff.mp kv
        rw [List.drop_eq_getElem_cons hx1, hx2]
        exact List.mem_cons_self
      rw [he]
      dsimp only
      rw [kh, ev]
      have put : ∀ s0 : Shared, s0 = { s with heap := h' } → wpAny (model P w) A (dictPut d (keyH w k') e.key v) (fun _ s'' => ∃ h'', s'' = { s with heap := h'' } ∧ h''.DictOf (mixKind P w) d (kvs.take (x + 1)) ∧ Heap.SameBut d s.heap h'') E s0 := by
        rintro _ rfl
        refine dictPut_new k1 hd' hnk (by rw [List.length_take]; omega) fun h'' hd'' sb' => ⟨h'', rfl, ?_, sb.trans sb'⟩
        rw [List.take_succ, kv]
        exact hd''
      refine wpAny_bind (wpAny_holding (wpAny_mono (Q := fun _ s'' => ∃ h'', s'' = { s with heap := h'' } ∧ h''.DictOf (mixKind P w) d (kvs.take (x + 1)) ∧ Heap.SameBut d s.heap h'') ?_ ?_ fun _ _ z => z))
      rotate_left
      · rintro _ _ ⟨h'', rfl, hd'', sb''⟩
        refine wpAny_bind (wpAny_dictEpoch (s := { s with heap := h'' }) ((sb''.2 a hne).trans ho) hdat ?_)
        rw [if_neg (by simp)]
        exact wpAny_pure ⟨x + 1, h'', hlt, er2, rfl, hd'', sb''⟩
      by_cases hu : un = true
      · rw [if_pos hu]
        obtain ⟨od', esd', epd', hod', hcd', hdatd', hkd', hpd', hndd'⟩ := hd'
        refine wpAny_bind (wpAny_dictFind_of (knd := mixKind P w) (k := k') (s := { s with heap := h' }) k1 hod' hdatd' hkd' ?_)
        have none_is : (esd'.findIdx? fun e => (mixKind P w).is k' e.key) = none := by
          have e1 := hpd'.findIdx k'
          have e2 : ((kvs.take x).findIdx? fun kv => decide (kv.1 = k')) = none := by
            rw [List.findIdx?_eq_none_iff]
            intro kv hkv
            exact decide_eq_false fun z => hnk (List.mem_map.mpr ⟨kv, hkv, z⟩)
          rw [e2] at e1
          obtain ⟨l⟩ := esd'
          rw [List.findIdx?_toArray]
          exact e1
        rw [none_is, if_neg (by simp)]
        exact put _ rfl
      · rw [if_neg hu]
        exact put _ rfl
    · rintro _ s' ⟨i, h', hi, er, rfl, hd', sb⟩
      have hge : kvs.length ≤ i := by
        apply Classical.byContradiction
        intro hlt
        rw [List.drop_eq_getElem_cons (by rw [List.length_range]; omega)] at er
        cases er
      refine wpAny_pure (hQ h' ?_ sb)
      rw [List.take_of_length_le hge] at hd'
      exact hd'
  · obtain ⟨k, k1, _⟩ := hk e (Array.mem_toList_iff.mp he)
    exact ⟨k, k1⟩
end
end L2.LqX


set_option Elab.async false
set_option linter.all false
set_option maxRecDepth 100000
set_option maxHeartbeats 4000000
namespace L2.LqX
open PySem PySem.Spec PyProof.Rows L2
section
variable {M : Model} {A : Around} {E : Value → Shared → Prop} {s : Shared}
theorem call_star {f : Value} {first : List Value} {pos : Pos} {Q : Value → Shared → Prop} {Pr : Heap → Prop} {args : List (Bool × Sem Value)} {kws : List (Option Str × Sem Value)} (hst : (args.any (·.1) || kws.any (·.1.isNone)) = true)
    (hk : ∀ h, Pr h → ∃ k, (k = Keeper.frame ∨ k = Keeper.machine ∨ k = Keeper.boundFrame) ∧ PySem.W.Looks M h (keeperOf f) k)
    (h : wpAny M A (evalArgs f true args kws) (fun a s₁ => Pr s₁.heap ∧ wpAny M A (call f (first ++ a.pos) a.kw) Q E s₁) E s) : wpAny M A (callWith pos f first args kws) Q E s := by
  unfold callWith
  refine wpAny_bind (wpAny_holding (wpAny_mono h (fun a s₁ h₁ => wpAny_bind (wpAny_standAt ?_)) fun _ _ x => x))
  obtain ⟨k, hk', L⟩ := hk _ h₁.1
  rw [hst]
  refine wpAny_bind (L.here ?_)
  have tail : ∀ {t : Sem Value}, wpAny M A t Q E s₁ → wpAny M A (t >>= fun r => holding [r] point >>= fun _ => pure r) Q E s₁ :=
    fun ht => wpAny_bind (wpAny_mono ht (fun r s₂ hr => wpAny_bind (wpAny_holding (wpAny_point (wpAny_pure hr)))) fun _ _ x => x)
  have marked (mk : Value) : wpAny M A (callMarked mk f (first ++ a.pos) a.kw) Q E s₁ := by unfold callMarked; exact Calls.wpAny_keep h₁.2
  rcases hk' with rfl | rfl | rfl <;> dsimp only <;> first | exact tail (marked _) | exact tail (wpAny_operating h₁.2)
theorem evalArgs_one {f : Value} {x y : Sem Value} {rest : List (Bool × Sem Value)} {Q : Args → Shared → Prop} (h : wpAny M A (spliced ((false, x) :: rest)) (fun vs s1 => wpAny M A (mergedKeywords f [(none, y)]) (fun d s2 => wpAny M A (keywordsIn f d) (fun kw s3 => Q ⟨vs, kw⟩ s3) E s2) E s1) E s) :
    wpAny M A (evalArgs f true ((false, x) :: rest) [(none, y)]) Q E s := by
  unfold evalArgs
  show wpAny M A (spliced ((false, x) :: rest) >>= _) Q E s
  refine wpAny_bind (wpAny_mono h (fun vs s' h' => ?_) fun _ _ x => x)
  refine wpAny_bind (wpAny_pure ?_)
  refine wpAny_holding ?_
  refine wpAny_bind (wpAny_mono h' (fun d s2 h2 => ?_) fun _ _ x => x)
  refine wpAny_bind (wpAny_pure (wpAny_bind (wpAny_holding (wpAny_mono h2 (fun kw s3 h3 => wpAny_pure h3) fun _ _ x => x))))
end
section
variable {P : Program} {w : World} {A : Around} {E : Value → Shared → Prop} {s : Shared}
/-- ** of one dict: a new dict is laid, what it shall hold is read, and copied into it -/
theorem merged_run {f : Value} {x : Sem Value} {Q : Addr → Shared → Prop}
    (h : wpAny (model P w) A x (fun v s1 => ∃ a kvs, v = .ref a ∧ s1.heap.DictOf (mixKind P w) a kvs ∧ s1.heap.DictOf (mixKind P w) s.heap.objs.size [] ∧ a ≠ s.heap.objs.size ∧ (a == sysModules) = false ∧ kvs.length ≤ sizeLine ∧
      ∀ h', h'.DictOf (mixKind P w) s.heap.objs.size kvs → Heap.SameBut s.heap.objs.size s1.heap h' → Q s.heap.objs.size { s1 with heap := h' }) E { s with heap := s.heap.push { cls := .type "dict", data := .dict #[] } }) :
    wpAny (model P w) A (mergedKeywords f [(none, x)]) Q E s := by
  unfold mergedKeywords
  refine wpAny_bind (wpAny_alloc ?_)
  refine wpAny_bind (wpAny_holding ?_)
  refine wpAny_bind ?_
  rw [List.forIn_cons]
  refine wpAny_bind ?_
  dsimp only
  refine wpAny_bind (wpAny_pure ?_)
  refine wpAny_bind (wpAny_mono h (fun v s1 h1 => ?_) fun _ _ z => z)
  obtain ⟨a, kvs, rfl, ha, hd, hne, hsm, hz, hq⟩ := h1
  refine wpAny_bind (wpAny_onRaise (wpAny_holding (wpAny_tryCatch (wpAny_onRaise (merge_run ha hd hne hsm hz fun h' hd' sb => ?_)))))
  refine wpAny_pure ?_
  dsimp only
  rw [List.forIn_nil]
  exact wpAny_pure (wpAny_pure (wpAny_pure (hq h' hd' sb)))
theorem keywords_run {f : Value} {d : Addr} {kvs : List (Str × Value)} {Q : List (Str × Value) → Shared → Prop} (hd : s.heap.DictOf (mixKind P w) d (kvs.map fun kv => (Sum.inr kv.1, kv.2))) (h : Q kvs s) : wpAny (model P w) A (keywordsIn f d) Q E s := by
  obtain ⟨o, es, ep, ho, hc, hdat, hk, hp, hnd⟩ := hd
  unfold keywordsIn
  refine wpAny_bind (wpAny_dictEntries ho hdat (wpAny_bind ?_))
  refine MeetsSeq2.wpAny_forIn_array _ (fun rest b s' => s = s' ∧ ∃ i, rest = es.toList.drop i ∧ b = kvs.take i) _ ?_ ?_ _ _ ⟨rfl, 0, rfl, rfl⟩
  · rintro e rest b _ ⟨rfl, i, er, rfl⟩
    have hi : es.toList[i]? = some e := by
      rw [← List.head?_drop, ← er]
      rfl
    obtain ⟨k, v, kv, k1, ev⟩ := pairs_at hp hi
    rw [List.getElem?_map] at kv
    obtain ⟨⟨n, u⟩, e1, e2⟩ := Option.map_eq_some_iff.mp kv
    cases e2
    obtain ⟨t, ek⟩ : ∃ t, e.key = .str n t := by
      rcases keyIs_shape k1 with ⟨_, _, z, _⟩ | ⟨y, t, z, ek⟩
      · cases z
      · cases z; exact ⟨t, ek⟩
    rw [ek]
    refine wpAny_pure ⟨rfl, i + 1, ?_, ?_⟩
    · rw [← List.drop_drop, ← er]
      rfl
    · rw [List.take_succ, e1, ev]
      rfl
  · rintro b _ ⟨rfl, i, er, rfl⟩
    have hl : kvs.length ≤ i := by
      have e1 := hp.length
      have e2 := congrArg List.length er
      rw [List.length_drop] at e2
      rw [List.length_map] at e1
      simp at e2 e1
      omega
    rw [List.take_of_length_le hl]
    exact wpAny_pure h
end
end L2.LqX


set_option Elab.async false
set_option linter.all false
set_option maxRecDepth 100000
set_option maxHeartbeats 4000000
namespace L2.LqX
open PySem PySem.Spec PyProof.Rows L2
section
variable {P : Program} {w : World} {A : Around} {E : Value → Shared → Prop} {s : Shared}
/-- a def (a, b=.., **c) -/
structure Kw2 (p : Arguments) (a b c : Str) : Prop where
  po : p.posonlyargs = []
  ar : p.args.map (·.arg) = [a, b]
  ko : p.kwonlyargs = []
  va : p.vararg = none
  kw : ∃ q, p.kwarg = some q ∧ q.arg = c
  ne : a ≠ b
theorem fill_run {d : Addr} : ∀ (kus dn : List (Str × Value)) {s : Shared} {Q : PUnit → Shared → Prop}, s.heap.DictOf (mixKind P w) d (dn.map fun kv => (Sum.inr kv.1, kv.2)) → ((dn ++ kus).map (·.1)).Nodup →
    (∀ h' t', h'.DictOf (mixKind P w) d ((dn ++ kus).map fun kv => (Sum.inr kv.1, kv.2)) → Heap.SameBut d s.heap h' → Q PUnit.unit { s with heap := h', toks := t' }) →
    wpAny (model P w) A (List.foldlM (fun (_ : PUnit) (a : Str × Value) => nsSet d a.1 a.2) PUnit.unit kus) Q E s
  | [], dn, s, Q, hd, _, hQ => by
    rw [List.foldlM_nil]
    refine wpAny_pure ?_
    have := hQ s.heap s.toks (by rw [List.append_nil]; exact hd) (Heap.SameBut.refl _ _)
    exact this
  | (k, v) :: rest, dn, s, Q, hd, hn, hQ => by
    rw [List.foldlM_cons]
    have e1 : dn ++ (k, v) :: rest = (dn ++ [(k, v)]) ++ rest := by rw [List.append_assoc]; rfl
    rw [e1] at hn hQ
    refine wpAny_bind (nsSet_new hd ?_ fun h2 t2 hd2 sb2 => ?_)
    · intro hm
      rw [List.map_map] at hm
      obtain ⟨kv, m1, m2⟩ := List.mem_map.mp hm
      have m3 : kv.1 = k := Sum.inr.inj m2
      rw [List.map_append, List.map_append, List.nodup_append, List.nodup_append] at hn
      exact hn.1.2.2 k (List.mem_map.mpr ⟨kv, m1, m3⟩) k List.mem_cons_self rfl
    · refine fill_run rest (dn ++ [(k, v)]) (s := { s with heap := h2, toks := t2 }) (by rw [List.map_append]; exact hd2) hn fun h3 t3 hd3 sb3 => ?_
      exact hQ h3 t3 hd3 (sb2.trans sb3)
/-- how the two are given: by place, by name, or not at all -/
inductive Two (a b : Str) (dv ua ub : Value) : List Value → List (Str × Value) → Prop
  | pos : Two a b dv ua ub [ua, ub] []
  | key : Two a b dv ua ub [ua] [(b, ub)]
  | dft : ub = dv → Two a b dv ua ub [ua] []
theorem bind_two {p : Arguments} {a b c x qual : Str} {body : List Stmt} {scope : Scope} {T : Addr} {kV doc pm cdv ct : Value} {an : Option Addr} {us : List Value} {pre kus : List (Str × Value)} {Q : List (Str × Value) → Shared → Prop} {dv ua ub : Value} (K2 : Kw2 p a b c)
    (hT : ∀ (Q' : Option (Array Value) → Shared → Prop), Q' (some #[dv]) s → wpAny (model P w) A (seqItems? (.ref T)) Q' E s)
    (hkn : ∀ kv ∈ kus, kv.1 ≠ a ∧ kv.1 ≠ b) (hnd : (kus.map (·.1)).Nodup) (hz : kus.length ≤ sizeLine)
    (hu : Two a b dv ua ub us pre)
    (hQ : ∀ h' t', h'.DictOf (mixKind P w) s.heap.objs.size (kus.map fun kv => (Sum.inr kv.1, kv.2)) → Heap.SameBut s.heap.objs.size (s.heap.push { cls := .type "dict", data := .dict #[] }) h' → Q [(a, ua), (b, ub), (c, .ref s.heap.objs.size)] { s with heap := h', toks := t' }) :
    wpAny (model P w) A (bindArgs (PySem.W.fnOf x qual p body scope (.ref T) kV doc pm an cdv ct) ⟨us, pre ++ kus⟩) Q E s := by
  obtain ⟨q, hq, rfl⟩ := K2.kw
  have hne := K2.ne
  have hne' : ¬ b = a := fun z => hne z.symm
  have run : ∀ (sl : List (Str × Value)) (Qf : List (Str × Value) × List (Str × Value) → Shared → Prop) (body : Str × Value → List (Str × Value) × List (Str × Value) → Sem (ForInStep (List (Str × Value) × List (Str × Value)))),
      (∀ k v ex, k ≠ a → k ≠ b → body (k, v) (sl, ex) = pure (ForInStep.yield (sl, ex ++ [(k, v)]))) → Qf (sl, kus) s → wpAny (model P w) A (forIn kus (sl, ([] : List (Str × Value))) body) Qf E s := by
    intro sl Qf body hb hf
    refine wpAny_forIn_list _ (fun rest st s' => s = s' ∧ ∃ i, rest = kus.drop i ∧ st = (sl, kus.take i)) _ ?_ ?_ _ _ ⟨rfl, 0, rfl, rfl⟩
    · rintro ⟨k, v⟩ rest _ _ ⟨rfl, i, er, rfl⟩
      have hi : kus[i]? = some (k, v) := by
        rw [← List.head?_drop, ← er]
        rfl
      obtain ⟨k1, k2⟩ := hkn _ (List.mem_of_getElem? hi)
      rw [hb k v _ k1 k2]
      refine wpAny_pure ⟨rfl, i + 1, ?_, ?_⟩
      · rw [← List.drop_drop, ← er]
        rfl
      · rw [List.take_succ, hi]
        rfl
    · rintro _ _ ⟨rfl, i, er, rfl⟩
      have hl : kus.length ≤ i := by
        have e2 := congrArg List.length er
        rw [List.length_drop] at e2
        simp at e2
        omega
      rw [List.take_of_length_le hl]
      exact hf
  unfold bindArgs
  simp only [PySem.W.fnOf, K2.po, K2.ar, K2.ko, K2.va, hq, List.map_nil, List.nil_append, List.append_nil]
  have fin : ∀ {Q' : PUnit → Shared → Prop}, (∀ h' t', h'.DictOf (mixKind P w) s.heap.objs.size (kus.map fun kv => (Sum.inr kv.1, kv.2)) → Heap.SameBut s.heap.objs.size (s.heap.push { cls := .type "dict", data := .dict #[] }) h' → Q' PUnit.unit { s with heap := h', toks := t' }) →
      wpAny (model P w) A (List.foldlM (fun (_ : PUnit) (a : Str × Value) => nsSet s.heap.objs.size a.1 a.2) PUnit.unit kus) Q' E { s with heap := s.heap.push { cls := .type "dict", data := .dict #[] } } :=
    fun h => fill_run kus [] (s := { s with heap := s.heap.push { cls := .type "dict", data := .dict #[] } }) (Heap.DictOf.new _) hnd h
  have hz' : ¬ sizeLine + 1 < kus.length := by omega
  cases hu with
  | pos =>
    refine wpAny_bind ?_
    refine run _ _ _ (fun k v ex k1 k2 => ?_) ?_
    · simp [k1, k2]
    · refine wpAny_bind (hT _ ?_)
      simp [hz', List.lookup, hne, hne', beq_eq_false_iff_ne.mpr hne']
      refine wpAny_bind (wpAny_alloc (wpAny_map (fin hQ)))
  | key =>
    rw [List.cons_append, List.nil_append, List.forIn_cons]
    refine wpAny_bind (wpAny_bind ?_)
    simp [List.lookup, hne, hne', beq_eq_false_iff_ne.mpr hne']
    refine wpAny_pure ?_
    dsimp only
    refine run _ _ _ (fun k v ex k1 k2 => ?_) ?_
    · simp [k1, k2]
    · refine wpAny_bind (hT _ ?_)
      simp [hz', List.lookup, hne, hne', beq_eq_false_iff_ne.mpr hne']
      refine wpAny_bind (wpAny_alloc (wpAny_map (fin hQ)))
  | dft e =>
    subst e
    refine wpAny_bind ?_
    refine run _ _ _ (fun k v ex k1 k2 => ?_) ?_
    · simp [k1, k2]
    · refine wpAny_bind (hT _ ?_)
      simp [hz', List.lookup, hne, hne', beq_eq_false_iff_ne.mpr hne']
      refine wpAny_bind (wpAny_alloc (wpAny_map (fin hQ)))
end
end L2.LqX


set_option Elab.async false
set_option linter.all false
set_option maxRecDepth 100000
set_option maxHeartbeats 4000000
namespace L2.LqX
open PySem PySem.Spec PyProof.Rows L2
theorem cxUpN {P : Program} {w : World} : StX.CXUp (L2N.CX P w) := by
  rintro outer s H s2 H2 E e s' un kp ho ⟨a, B, H', cls, d, ea, fl, hok, ub, na, os, ag, he⟩
  refine ⟨a, B, H', cls, d, ea, fl, hok, ⟨fun b o q n hb => ub.keep b o (kp b o q) (un.free b o q n (by simp)) hb, fun b o q hb => ub.slot b o (kp b o q) hb, fun b o q n => ub.free b o (kp b o q) (un.free b o q n (by simp)),
    fun b o q hb => ub.there b o (kp b o q) hb, fun b xs q => ub.tups b xs (un.tups b xs q), fun b o xs q => ub.frzs b o xs (un.frzs b o xs q), fun b ps q => ?_⟩, na, os.trans ho, ag, he⟩
  obtain ⟨m1, e1⟩ := un.tbls b ps q
  obtain ⟨m2, e2⟩ := ub.tbls b _ e1
  exact ⟨m1 ++ m2, by rw [e2, Array.append_assoc]⟩
/-- keywords' names and values -/
abbrev KwV : List (Str × V) → List (Str × Value) → Prop := KV
def kKey (kvs : List (Str × V)) : List (Key × V) := kvs.map fun kv => (Sum.inr kv.1, kv.2)
theorem kv_key : ∀ {kvs : List (Str × V)} {kus : List (Str × Value)}, KwV kvs kus → KV (kKey kvs) (kus.map fun kv => ((Sum.inr kv.1 : Key), kv.2))
  | _, _, .nil => .nil
  | _, _, .cons ⟨e, r⟩ t => .cons ⟨congrArg Sum.inr e, r⟩ (kv_key t)
theorem kv_len : ∀ {kvs : List (Str × V)} {kus : List (Str × Value)}, KwV kvs kus → kvs.length = kus.length
  | _, _, .nil => rfl
  | _, _, .cons _ t => congrArg Nat.succ (kv_len t)
theorem kv_names : ∀ {kvs : List (Str × V)} {kus : List (Str × Value)}, KwV kvs kus → kvs.map (·.1) = kus.map (·.1)
  | _, _, .nil => rfl
  | _, _, .cons ⟨e, _⟩ t => by rw [List.map_cons, List.map_cons, e, kv_names t]
section
variable {P : Program} {w : World} {K : PySem.W.Frag} {mg : Str → Option Value} {base : Heap}
/-- a promise by values and keywords -/
def FnA (P : Program) (w : World) (K : PySem.W.Frag) (mg : Str → Option Value) (base : Heap) (CX : CXT) (k : Nat) (f : Addr) (sp : List V → List (Str × V) → Hp → VK → XK → Prop) : Prop :=
  ∀ (A : Around) (outer : List Env) (s : Shared) (H : Hp) (us : List Value) (vs : List V) (kus : List (Str × Value)) (kvs : List (Str × V)) (Q : VK) (E : XK), Room k A → Env0 P w K mg base A outer s H → Vals vs us → KwV kvs kus → sp vs kvs H Q E →
    codeAny (model P w) A (.call (.ref f) ⟨us, kus⟩) (CR CX outer P w H s Q E) s
theorem env0_new {A : Around} {outer : List Env} {s : Shared} {H : Hp} {o : Obj} {u : HO} {h' : Heap} {t' : Nat} (e0 : Env0 P w K mg base A outer s H) (sb : Heap.SameBut s.heap.objs.size (s.heap.push o) h') (new : ObjOk P w (upd H s.heap.objs.size u) h' s.heap.objs.size u) :
    Env0 P w K mg base A outer { s with heap := h', toks := t' } (upd H s.heap.objs.size u) := by
  have kp : ∀ b x, s.heap.get? b = some x → h'.get? b = some x := fun b x e => (sb.2 b (Nat.ne_of_lt (Heap.lt_size e))).trans (Heap.get?_push_of_some _ e)
  have sz : h'.objs.size = s.heap.objs.size + 1 := by rw [sb.1, Heap.size_push]
  refine ⟨e0.frames, e0.mod, fun b x e => ⟨kp b x (e0.bs b x e).1, ?_⟩, ?_, Heap.FunFrames.of_keeps (fun b x e _ => ⟨x, kp b x e, rfl⟩) e0.funs, fun b hb => ?_, e0.hok.laid kp (Nat.le_refl _) new, e0.bare⟩
  · rw [upd_ne (Nat.ne_of_lt (Heap.lt_size (e0.bs b x e).1))]
    exact (e0.bs b x e).2
  · show base.objs.size ≤ h'.objs.size
    rw [sz]
    exact Nat.le_succ_of_le e0.bsz
  · obtain ⟨_, x, hx, _⟩ := e0.funs.mem hb
    rw [upd_ne (Nat.ne_of_lt (Heap.lt_size hx))]
    exact e0.frf b hb
/-- the two, as values of the layer -/
inductive TwoV (a b : Str) (dv ua ub : V) : List V → List (Str × V) → Prop
  | pos : TwoV a b dv ua ub [ua, ub] []
  | key : TwoV a b dv ua ub [ua] [(b, ub)]
  | dft : ub = dv → TwoV a b dv ua ub [ua] []
def spKw (a b : Str) (dv : V) (sp : Sp) : List V → List (Str × V) → Hp → VK → XK → Prop := fun vs kvs H Q E => ∃ (ua ub : V) (pre rest : List (Str × V)), kvs = pre ++ rest ∧ TwoV a b dv ua ub vs pre ∧ (∀ kv ∈ rest, kv.1 ≠ a ∧ kv.1 ≠ b) ∧ (rest.map (·.1)).Nodup ∧ rest.length ≤ sizeLine ∧
  ∀ d, H d = none → sp [ua, ub, .ref d] (upd H d (.dK (kKey rest))) Q E
theorem kv_split : ∀ {pre rest : List (Str × V)} {kus : List (Str × Value)}, KwV (pre ++ rest) kus → ∃ k1 k2, kus = k1 ++ k2 ∧ KwV pre k1 ∧ KwV rest k2
  | [], _, kus, r => ⟨[], kus, rfl, .nil, r⟩
  | _ :: pre, rest, _, .cons a r => by
    obtain ⟨k1, k2, e, r1, r2⟩ := kv_split (pre := pre) (rest := rest) r
    exact ⟨_ :: k1, k2, by rw [e]; rfl, .cons a r1, r2⟩
theorem fn_two {CX : CXT} {k : Nat} {f : Addr} {fd : FuncData} {x qual a b c : Str} {p : Arguments} {body : List Stmt} {scope : Scope} {N : List Str} {dv : V} {sp : Sp} (F : FunD K x qual p body scope [dv] [] f fd) (K2 : Kw2 p a b c) (S : FnScope N [a, b, c] scope) (hCX : StX.CXUp CX)
    (hbody : ∀ (cdv : Value) (A : Around) (outer : List Env) (s : Shared) (H : Hp) (vs : List V) (Q : VK) (E : XK), Room k (A.deeper (envOfC qual scope s.heap.objs.size f cdv)) → sp vs H Q E →
      ∃ t, PSs (cxOf CX P w K mg base N qual scope f cdv A outer s H E) body t ∧ t { nx := fun _ H' => Q .non H', rt := Q } (start N vs) H) :
    FnA P w K mg base CX (k + 1) f (spKw a b dv sp) := by
  obtain ⟨oc, od, dV, kV, doc, pm, an, cdv, ct, osl, rfl, lk, hcd, hD, hK⟩ := F.ex
  rcases hD with ⟨z, _⟩ | ⟨_, T, o, its, m, rfl, lT, oT, rT⟩
  · cases z
  cases rT with
  | cons rT1 rT2 =>
    cases rT2
    rename_i du
    intro A outer s H us vs kus kvs Q E hr e0 r rk ⟨ua, ub, pre, rest, ek, tw, hkn, hnd, hz, hq⟩
    subst ek
    obtain ⟨k1, k2, rfl, rp, rr⟩ := kv_split rk
    have KX : K.In s.heap := e0.mod.kin.keeps fun b o e => (e0.bs b o e).1
    have hn : H s.heap.objs.size = none := e0.hok.fresh (Nat.le_refl _)
    refine StX.run_bnd lk hcd S hr e0 (G := fun xs H2 => xs = [ua, ub, V.ref s.heap.objs.size] ∧ H2 = upd H s.heap.objs.size (.dK (kKey rest))) (fun A' Ex Q' h => ?_) fun s2 H2 xs ⟨ex, eH⟩ hr' => ?_
    · obtain ⟨wa, wb, tw', ra, rb⟩ : ∃ wa wb, Two a b du wa wb us k1 ∧ RelV ua wa ∧ RelV ub wb := by
        cases tw with
        | pos =>
          cases rp
          cases r with
          | cons r1 r2 => cases r2 with
            | cons r2 r3 => cases r3; exact ⟨_, _, .pos, r1, r2⟩
        | key =>
          cases r with
          | cons r1 r2 =>
            cases r2
            cases rp with
            | cons p1 p2 =>
              cases p2
              rename_i kw
              obtain ⟨nm, wv⟩ := kw
              obtain ⟨e1, e2⟩ := p1
              cases e1
              exact ⟨_, _, .key, r1, e2⟩
        | dft e =>
          subst e
          cases rp
          cases r with
          | cons r1 r2 => cases r2; exact ⟨_, _, .dft rfl, r1, rT1⟩
      have nm := kv_names rr
      have mem : ∀ kv ∈ k2, kv.1 ∈ rest.map (·.1) := fun kv hkv => by rw [nm]; exact List.mem_map.mpr ⟨kv, hkv, rfl⟩
      refine bind_two K2 (fun Q2 hq2 => wpAny_seqItems (KX _ _ lT) oT hq2) (fun kv hkv => ?_) (by rw [← nm]; exact hnd) (by rw [← kv_len rr]; exact hz) tw' fun h' t' hd sb => ?_
      · obtain ⟨kv', m1, m2⟩ := List.mem_map.mp (mem kv hkv)
        rw [← m2]
        exact hkn kv' m1
      · have kp : ∀ b x, s.heap.get? b = some x → h'.get? b = some x := fun b x e => (sb.2 b (Nat.ne_of_lt (Heap.lt_size e))).trans (Heap.get?_push_of_some _ e)
        have new : ObjOk P w (upd H s.heap.objs.size (.dK (kKey rest))) h' s.heap.objs.size (.dK (kKey rest)) := by
          refine ⟨by unfold kKey; rw [List.length_map]; exact hz, ?_, _, kv_key rr, hd⟩
          exact beq_eq_false_iff_ne.mpr (Nat.ne_of_gt (StX.env0_big e0))
        have un : Un (frs outer) [] H (upd H s.heap.objs.size (.dK (kKey rest))) s.heap h' := Un.laid kp (Nat.le_refl _) hn
        exact h { s with heap := h', toks := t' } _ [ua, ub, V.ref s.heap.objs.size] [wa, wb, .ref s.heap.objs.size] (env0_new e0 sb new) un rfl (fun e s' => hCX outer s H { s with heap := h', toks := t' } _ E e s' un kp rfl) (.cons ra (.cons rb (.cons rfl .nil))) rfl ⟨rfl, rfl⟩
    · subst ex eH
      exact hbody cdv A outer s2 _ _ Q E hr' (hq _ hn)
end
end L2.LqX


set_option Elab.async false
set_option linter.all false
set_option maxRecDepth 100000
set_option maxHeartbeats 4000000
namespace L2.LqX
open PySem PySem.Spec PyProof.Rows L2
abbrev SpA := List V → List (Str × V) → Hp → VK → XK → Prop
theorem kv_zip : ∀ {ks : List Str} {zs : List V} {ws : List Value}, Vals zs ws → KwV (ks.zip zs) (ks.zip ws)
  | [], _, _, _ => by rw [List.zip_nil_left, List.zip_nil_left]; exact .nil
  | _ :: _, _, _, .nil => .nil
  | _ :: _, _, _, .cons a r => .cons ⟨rfl, a⟩ (kv_zip r)
/-- a new instance, made by __init__'s promise -/
def tMade (C : Addr) (sp : SpA) (E : XK) (vs : List V) (kvs : List (Str × V)) (Q : VK) (H : Hp) : Prop := ∀ x dx, H x = none → H dx = none → dx ≠ x → sp (.ref x :: vs) kvs (upd (upd H dx (.own x)) x (.ins C dx [])) (fun v H3 => v = .non ∧ Q (.ref x) H3) E
section
variable {X : Cx} {CX : CXT} {k : Nat} {f C : Addr} {sp : SpA} {E : XK} {pos : Pos} {fe e : Expr} {es : List Expr} {kws : List Keyword} {tf : TE} {t tk : TA} {ks : List Str}
theorem run_makeA {pins : List (Addr × Obj)} {σ : L2.St} {H : Hp} {s : Shared} {Q : VK} {us : List Value} {vs : List V} {kus : List (Str × Value)} {kvs : List (Str × V)} (M : Mk X.K C f) (F : FnA X.prog X.w X.K X.mg X.base CX k f sp) (hr : Room (k + 1) X.A)
    (hx : Passes CX X E) (I : Inv X pins σ H s) (r : Vals vs us) (rk : KwV kvs kus) (h : tMade C sp E vs kvs Q H) : wpAny (model X.prog X.w) X.A (call (.ref C) us kus) (EP X pins σ Q) X.xe s := by
  have hq := h (s.heap.objs.size + 1) s.heap.objs.size (I.hok.fresh (Nat.le_succ _)) (I.hok.fresh (Nat.le_refl _)) (Nat.ne_of_lt (Nat.lt_succ_self _))
  have I2 := Inv.made (C := C) I
  have r1 : Vals (V.ref (s.heap.objs.size + 1) :: vs) (Value.ref (s.heap.objs.size + 1) :: us) := .cons rfl r
  refine wpAny_call (make_map (f := f) I.kIn M.makes M.init (beq_iff_eq.mp M.fn) (codeAny_mono (F _ X.stack _ _ (Value.ref (s.heap.objs.size + 1) :: us) _ kus kvs _ E (hr.make C us kus) (I2.env0.make C us kus) r1 rk hq) fun r s' hq' => ?_))
  cases r with
  | error e => exact hx pins σ _ _ e s' I2 hq'
  | ok fl =>
    cases fl with
    | ret u =>
      obtain ⟨v, H', I3, rv, ev, q3⟩ := I2.after hq'
      subst ev
      exact ⟨rv, ⟨V.ref (s.heap.objs.size + 1), H', I3, rfl, q3⟩⟩
    | next => exact False.elim hq'
    | brk => exact False.elim hq'
    | cont => exact False.elim hq'
/-- C(e, .., k = v, ..) -/
def tMkA (C : Addr) (sp : SpA) (E : XK) (ks : List Str) (tf : TE) (t tk : TA) : TE := fun σ H Q => tf σ H fun y H0 => y = .ref C ∧ t σ H0 fun vs H1 => tk σ H1 fun zs H2 => tMade C sp E vs (ks.zip zs) Q H2
theorem pe_makeA (hf : PE X fe tf) (M : Mk X.K C f) (F : FnA X.prog X.w X.K X.mg X.base CX k f sp) (hr : Room (k + 1) X.A) (hx : Passes CX X E) (ha : PA X (e :: es) t) (hkw : PK X kws tk)
    (ht : eval (.Call fe (e :: es) kws pos) X.env = (do callWith pos (← eval fe X.env) [] (backTo pos (starEach (e :: es) X.env)) (backToKw pos (keywordEach kws X.env))) := by rfl)
    (hall : (backToKw pos (keywordEach kws X.env)).all (·.1.isSome) = true := by rfl) (hks : (backToKw pos (keywordEach kws X.env)).filterMap (·.1) = ks := by rfl)
    (he : starEach (e :: es) X.env = (false, eval e X.env) :: starEach es X.env := by rfl)
    (hpl : ((backTo pos (starEach (e :: es) X.env)).any (·.1) || (backToKw pos (keywordEach kws X.env)).any (·.1.isNone)) = false := by rfl) : PE X (.Call fe (e :: es) kws pos) (tMkA C sp E ks tf t tk) := by
  refine ⟨fun pins s σ H Q I h => ?_⟩
  rw [ht]
  refine wpAny_bind (thn (hf.run pins s σ H _ I h) fun u s0 ⟨y, H0, I0, ry, ey, q⟩ => ?_)
  subst ey
  obtain rfl : u = Value.ref C := ry
  refine PySem.W.callWith_KW (h₀ := X.base) I0.ok.mod.kin M.kp hall (thn (ha.run pos pins s0 σ H0 _ I0 q) fun us s1 ⟨vs, H1, I1, r, q1⟩ => ?_) hpl he
  refine thn (hkw.run pos pins s1 σ H1 _ I1 q1) fun ws s2 ⟨zs, H2, I2, rz, q2⟩ => ⟨I2.kIn, ?_⟩
  rw [hks]
  exact run_makeA M F hr hx I2 r (kv_zip rz) q2
theorem pe_makeA0 (hf : PE X fe tf) (M : Mk X.K C f) (F : FnA X.prog X.w X.K X.mg X.base CX k f sp) (hr : Room (k + 1) X.A) (hx : Passes CX X E) (hkw : PK X kws tk)
    (ht : eval (.Call fe [] kws pos) X.env = (do callWith pos (← eval fe X.env) [] (backTo pos (starEach [] X.env)) (backToKw pos (keywordEach kws X.env))) := by rfl)
    (hall : (backToKw pos (keywordEach kws X.env)).all (·.1.isSome) = true := by rfl) (hks : (backToKw pos (keywordEach kws X.env)).filterMap (·.1) = ks := by rfl)
    (hpl : ((backTo pos (starEach [] X.env)).any (·.1) || (backToKw pos (keywordEach kws X.env)).any (·.1.isNone)) = false := by rfl) : PE X (.Call fe [] kws pos) (tMkA C sp E ks tf tNil tk) := by
  refine ⟨fun pins s σ H Q I h => ?_⟩
  rw [ht]
  refine wpAny_bind (thn (hf.run pins s σ H _ I h) fun u s0 ⟨y, H0, I0, ry, ey, q⟩ => ?_)
  subst ey
  obtain rfl : u = Value.ref C := ry
  refine PySem.W.callWith_KW0 (h₀ := X.base) I0.ok.mod.kin M.kp hall ?_ hpl
  refine thn (hkw.run pos pins s0 σ H0 _ I0 q) fun ws s2 ⟨zs, H2, I2, rz, q2⟩ => ⟨I2.kIn, ?_⟩
  rw [hks]
  exact run_makeA M F hr hx I2 .nil (kv_zip rz) q2
theorem key_back : ∀ {kvs : List (Str × V)} {vs : List (Key × Value)}, KV (kKey kvs) vs → ∃ kus : List (Str × Value), vs = kus.map (fun kv => ((Sum.inr kv.1 : Key), kv.2)) ∧ KwV kvs kus
  | [], _, .nil => ⟨[], rfl, .nil⟩
  | (n, v) :: kvs, (k, u) :: _, .cons ⟨e, r⟩ t => by
    obtain ⟨kus, e1, r1⟩ := key_back t
    have e2 : (Sum.inr n : Key) = k := e
    subst e2
    exact ⟨(n, u) :: kus, by rw [e1]; rfl, .cons ⟨rfl, r⟩ r1⟩
/-- C(e, .., **d): what d holds is copied into a new dict, then handed over -/
def tMkD (C : Addr) (sp : SpA) (E : XK) (tf : TE) (t : TA) (td : TE) : TE := fun σ H Q => tf σ H fun y H0 => y = .ref C ∧ t σ H0 fun vs H1 => ∀ d, H1 d = none → td σ (upd H1 d (.dK [])) fun y2 H2 => ∃ (b : Addr) (kvs : List (Str × V)), y2 = .ref b ∧ H2 b = some (.dK (kKey kvs)) ∧ b ≠ d ∧ H2 d = some (.dK []) ∧
  tMade C sp E vs kvs Q (upd H2 d (.dK (kKey kvs)))
theorem pe_makeD {td : TE} {ed : Expr} {kp : Pos} (hf : PE X fe tf) (M : Mk X.K C f) (F : FnA X.prog X.w X.K X.mg X.base CX k f sp) (hr : Room (k + 1) X.A) (hx : Passes CX X E) (ha : PA X (e :: es) t) (hd : PE X ed td)
    (ht : eval (.Call fe (e :: es) [⟨none, ed, kp⟩] pos) X.env = (do callWith pos (← eval fe X.env) [] (backTo pos (starEach (e :: es) X.env)) (backToKw pos (keywordEach [⟨none, ed, kp⟩] X.env))) := by rfl)
    (hks : backToKw pos (keywordEach [⟨none, ed, kp⟩] X.env) = [(none, do let v ← eval ed X.env; standAt pos; pure v)] := by rfl)
    (he : starEach (e :: es) X.env = (false, eval e X.env) :: starEach es X.env := by rfl) :
    PE X (.Call fe (e :: es) [⟨none, ed, kp⟩] pos) (tMkD C sp E tf t td) := by
  refine ⟨fun pins s σ H Q I h => ?_⟩
  rw [ht]
  refine wpAny_bind (thn (hf.run pins s σ H _ I h) fun u s0 ⟨y, H0, I0, ry, ey, q⟩ => ?_)
  subst ey
  obtain rfl : u = Value.ref C := ry
  have h1 := ha.run pos pins s0 σ H0 _ I0 q
  rw [hks]
  rw [he] at h1 ⊢
  refine call_star (Pr := X.K.In) (by simp) (PySem.W.keeps_K M.kp) (evalArgs_one (thn h1 fun us s1 ⟨vs, H1, I1, r, q1⟩ => ?_))
  refine merged_run ?_
  have hn : H1 s1.heap.objs.size = none := I1.fresh
  have hsm : (s1.heap.objs.size == sysModules) = false := beq_eq_false_iff_ne.mpr (Nat.ne_of_gt I1.big)
  have I1' : Inv X pins σ (upd H1 s1.heap.objs.size (.dK [])) { s1 with heap := s1.heap.push { cls := .type "dict", data := .dict #[] } } :=
    Inv.laid (t' := s1.toks) I1 (fun b u e => Heap.get?_push_of_some _ e) (Nat.le_refl _) ⟨Nat.zero_le _, hsm, [], .nil, Heap.DictOf.new _⟩
  refine wpAny_bind (thn (hd.run pins _ σ _ _ I1' (q1 _ hn)) fun v s2 ⟨y2, H2, I2, ry2, b, kvs, ey2, eb, hne, ed2, q2⟩ => wpAny_bind (wpAny_standAt (wpAny_pure ?_)))
  subst ey2
  obtain rfl : v = Value.ref b := ry2
  obtain ⟨z, hsb, vs2, rel, dd⟩ := dk_rd I2.hok (.inl eb)
  obtain ⟨kus, e1, rk⟩ := key_back rel
  subst e1
  obtain ⟨_, _, vs3, rel3, dd3⟩ := dk_rd I2.hok (.inl ed2)
  cases rel3
  refine ⟨b, _, rfl, dd, dd3, hne, hsb, by rw [List.length_map, ← kv_len rk]; unfold kKey at z; rw [List.length_map] at z; exact z, fun h' hd' sb => ?_⟩
  have I3 : Inv X pins σ (upd H2 s1.heap.objs.size (.dK (kKey kvs))) { s2 with heap := h' } := by
    refine Inv.write (t' := s2.toks) I2 (x := s1.heap.objs.size) (e := s1.heap.objs.size) (by rw [ed2]; trivial) (.inl rfl) (fun c u hc e => (sb.2 c hc).trans e) ?_ ⟨z, hsm, _, kv_key rk, hd'⟩
    obtain ⟨o, _, _, ho, _⟩ := hd'
    exact ⟨o, ho⟩
  refine keywords_run (s := { s2 with heap := h' }) hd' ⟨I3.kIn, ?_⟩
  exact run_makeA M F hr hx I3 r rk q2
end
end L2.LqX


set_option Elab.async false
set_option linter.all false
set_option maxRecDepth 100000
set_option maxHeartbeats 4000000
namespace L2.LqX
open PySem PySem.Spec PyProof.Rows L2
/-- a method of one's own, as Python itself calls it -/
structure OwnM (K : PySem.W.Frag) (C : Addr) (name : Str) (g : Addr) : Prop where
  at_ : PySem.W.findIn K (.ref C) name = some (some (.ref g))
  fn : PySem.W.isFn K (.ref g) = true
  fi : PySem.W.fnIn K g = true
section
variable {X : Cx} {CX : CXT} {k : Nat} {g C : Addr} {sp : Sp} {E : XK} {pins : List (Addr × Obj)} {σ : L2.St} {H : Hp} {s : Shared} {Q : VK} {us : List Value} {vs : List V}
/-- the callee runs, somewhere behind the body's frame -/
theorem run_at {A' : Around} (F : FnR X.prog X.w X.K X.mg X.base CX k g sp) (hr : Room k A') (e0 : Env0 X.prog X.w X.K X.mg X.base A' X.stack s H) (hx : Passes CX X E) (I : Inv X pins σ H s) (r : Vals vs us) (h : sp vs H Q E) :
    wpAny (model X.prog X.w) A' (call (.ref g) us) (EP X pins σ Q) X.xe s := by
  refine wpAny_call (codeAny_mono (F A' X.stack s H us vs Q E hr e0 r h) fun r s' hq => ?_)
  cases r with
  | error e => exact hx pins σ H s e s' I hq
  | ok fl =>
    cases fl with
    | ret u => exact I.after hq
    | next => exact False.elim hq
    | brk => exact False.elim hq
    | cont => exact False.elim hq
theorem ins_at {a dx : Addr} {fs : List (Str × V)} (I : Inv X pins σ H s) (e : H a = some (.ins C dx fs)) : ∃ ox od, PySem.W.InstAt s.heap a ox C od := by
  obtain ⟨mA, O, _⟩ := ins_get I.hok e
  obtain ⟨od, J, _⟩ := O.look
  exact ⟨_, _, J⟩
/-- o[i] by the own method -/
def rIxO (C : Addr) (sp : Sp) (E : XK) : R2 := fun x y H Q => ∃ (a dx : Addr) (fs : List (Str × V)), x = .ref a ∧ H a = some (.ins C dx fs) ∧ sp [x, y] H Q E
theorem ix_own (m : OwnM X.K C "__getitem__" g) (F : FnR X.prog X.w X.K X.mg X.base CX k g sp) (hr : Room (k + 1) X.A) (hx : Passes CX X E) {b : Expr} {a : Expr} {ta tb : TE} {pos : Pos} (ha : PE X a ta) (hb : PE X b tb)
    (hsl : ∀ x i, subscripted b true x i = runValue (.builtin "lifetime.subscript" ⟨[x, i], []⟩)) : PE X (.Subscript a b pos) (tOp (rIxO C sp E) ta tb) := by
  refine ⟨fun pins s σ H Q I h => ?_⟩
  refine Subscript_ (binT ha hb I h fun v u s2 x y H2 I2 rx ry q => ?_)
  obtain ⟨c, dx, fs, rfl, e, q⟩ := q
  obtain rfl : v = Value.ref c := rx
  obtain ⟨ox, od, J⟩ := ins_at I2 e
  obtain ⟨m0, F0⟩ := I2.fr
  exact PySem.W.sub_K F0 I2.mod.kin J m.at_ m.fi m.fn (run_at (us := [.ref c, u]) (vs := [.ref c, y]) F hr.in1 I2.env0.in1 hx I2 (.cons rfl (.cons ry .nil)) q) (hsl _ _)
/-- str(o) by the own method -/
def rStrO (C : Addr) (sp : Sp) (E : XK) : List V → Hp → VK → Prop := fun xs H Q => ∃ (a dx : Addr) (fs : List (Str × V)), xs = [.ref a] ∧ H a = some (.ins C dx fs) ∧ sp [.ref a] H (fun v H' => ∃ z, v = .str z ∧ Q v H') E
theorem call_strO (m : OwnM X.K C "__str__" g) (F : FnR X.prog X.w X.K X.mg X.base CX k g sp) (hr : Room (k + 2) X.A) (hx : Passes CX X E) : CallR X (.type "str") (rStrO C sp E) := by
  intro pins s σ H xs us Q I r ⟨c, dx, fs, ex, e, q⟩
  subst ex
  cases r with
  | cons r1 r2 =>
    cases r2
    rename_i u
    obtain rfl : u = Value.ref c := r1
    obtain ⟨ox, od, J⟩ := ins_at I e
    refine PySem.W.kso_call (hr.in1.in1.units0) I.kIn J m.at_ m.fn (wpAny_mono (run_at (us := [.ref c]) (vs := [.ref c]) F hr.in1.in1 I.env0.in1.in1 hx I (.cons rfl .nil) q) (fun v s' hv => ?_) fun _ _ z => z)
    obtain ⟨y, H', I', ry, z, rfl, q'⟩ := hv
    obtain ⟨t, rfl⟩ : ∃ t, v = .str z t := ry
    exact ⟨.str z, H', I', ⟨t, rfl⟩, q'⟩
/-- o == p by the own method, where both are of one class -/
def rEqO (C : Addr) (sp : Sp) (E : XK) : R2 := fun x y H Q => ∃ (a dx : Addr) (fs : List (Str × V)) (b dy : Addr) (gs : List (Str × V)), x = .ref a ∧ H a = some (.ins C dx fs) ∧ y = .ref b ∧ H b = some (.ins C dy gs) ∧ sp [x, y] H (fun v H' => (∃ t, v = .bl t) ∧ Q v H') E
theorem op_eqO (m : OwnM X.K C "__eq__" g) (F : FnR X.prog X.w X.K X.mg X.base CX k g sp) (hr : Room k X.A) (hx : Passes CX X E) : OpR X (compareOp .Eq) (rEqO C sp E) := by
  intro pins s σ H x y v u Q I rx ry ⟨a, dx, fs, b, dy, gs, ex, e, ey, e2, q⟩
  subst ex ey
  obtain rfl : v = Value.ref a := rx
  obtain rfl : u = Value.ref b := ry
  obtain ⟨ox, od, J⟩ := ins_at I e
  obtain ⟨oy, oe, J2⟩ := ins_at I e2
  obtain ⟨m0, F0⟩ := I.fr
  unfold compareOp
  refine PySem.W.cmp_K (op := .Eq) (tb := .ref C) (hr.units0) F0 I.mod.kin J (J2.type) (by unfold PySem.W.notFirst; simp) m.at_ m.fn (wpAny_mono (run_at (us := [.ref a, .ref b]) (vs := [.ref a, .ref b]) F hr I.env0 hx I (.cons rfl (.cons rfl .nil)) q) (fun v s' hv => ?_) fun _ _ z => z)
  obtain ⟨z, H', I', rz, ⟨t, rfl⟩, q'⟩ := hv
  obtain rfl : v = Value.bool t := rz
  exact ⟨.bl t, H', I', rfl, q'⟩
end
end L2.LqX


set_option Elab.async false
set_option linter.all false
set_option maxRecDepth 100000
set_option maxHeartbeats 4000000
namespace L2.LqX
open PySem PySem.Spec PyProof.Rows L2
section
variable {X : Cx} {pos : Pos}
/-- a, .., *b, .. = a list -/
def gStar (K : PySem.W.Frag) (n i : Nat) (t : TGs) : TG := fun v σ H Q => ∃ a xs, v = .ref a ∧ SqL K H a xs ∧ n ≤ xs.length + 1 ∧
  ∀ d, H d = none → t (xs.take i ++ [.ref d] ++ (xs.drop i).drop (xs.length + 1 - n)) σ (upd H d (.lst ((xs.drop i).take (xs.length + 1 - n)))) Q
theorem vals_take : ∀ {n : Nat} {xs : List V} {us : List Value}, Vals xs us → Vals (xs.take n) (us.take n)
  | 0, _, _, _ => by rw [List.take_zero, List.take_zero]; exact .nil
  | n + 1, _, _, .nil => .nil
  | n + 1, _, _, .cons a r => .cons a (vals_take r)
theorem vals_drop : ∀ {n : Nat} {xs : List V} {us : List Value}, Vals xs us → Vals (xs.drop n) (us.drop n)
  | 0, _, _, r => r
  | n + 1, _, _, .nil => .nil
  | n + 1, _, _, .cons _ r => vals_drop (n := n) r
theorem pg_star {es : List Expr} {k n i : Nat} {t : TGs} (hc : X.calm = true) (h : PGs X es t) (hi : i < n)
    (hn : (assignEach es X.env).length = n := by rfl) (hst : (assignEach es X.env).findIdx? (·.1) = some i := by rfl) : PG X (.Tuple es k pos) (gStar X.K n i t) := by
  refine ⟨fun pins s σ H v u Q I r hw => ?_⟩
  obtain ⟨a, xs, e1, hq, hle, hw⟩ := hw
  subst e1
  cases r
  obtain ⟨its, rv, pl, hz⟩ := I.list hq
  have hlen := rv.length
  have hl : s.heap.IsList a its.toArray := by
    obtain ⟨o, m, e, c, d, q⟩ := pl
    exact ⟨o, e, c, m, q⟩
  have hlt : a ≠ s.heap.objs.size := by obtain ⟨o, ho, _⟩ := hl; exact Nat.ne_of_lt (Heap.lt_size ho)
  rw [PyProof.Rows.assign_Tuple]
  refine wpAny_bind (wpAny_standAt ?_)
  unfold unpack
  rw [hn, hst]
  refine wpAny_bind (wpAny_holding ?_)
  unfold unpackItems
  refine wpAny_bind ?_
  unfold notIterableAtAll
  refine wpAny_bind (wpAny_specialOf hl.typeIs F.slot_list_iter.lookup ?_)
  refine wpAny_pure ?_
  simp only [Bool.false_eq_true, if_false]
  refine wpAny_bind (wpAny_holding (wpAny_pyIter_list hl ?_))
  refine wpAny_bind (wpAny_holding (PySem.W.kun_draw hlt i 0 _ _ ⟨_, Heap.get?_push_size _ rfl, rfl, rfl⟩ (hl.push _) (by simp; omega) fun h₁ hit₁ hs₁ => ?_))
  have hl₁ : h₁.IsList a its.toArray := (hl.push _).extBut hs₁.extBut hlt
  rw [Nat.zero_add] at hit₁
  have hit₁' := hit₁
  obtain ⟨oi, hoi, _⟩ := hit₁'
  have hl₁' := hl₁
  obtain ⟨ol, hol, _⟩ := hl₁'
  rw [List.drop_zero]
  have hfl : (its.take i).length = i := by rw [List.length_take]; omega
  rw [if_neg (show ¬ ((its.take i).length < i) by rw [hfl]; omega)]
  refine wpAny_bind (wpAny_holding (PySem.W.kun_collect (s := { s with heap := h₁ }) (T := "list_iterator") (.inr (.inr (.inl rfl))) (Walks.list (A := X.A.in1) (I.ok.hd hc) s.heap.objs.size a hlt its.toArray) (fun j u st => st.1.typeIs) (k := i) (by simp; omega) ⟨hit₁, hl₁⟩ (Heap.lt_size hoi) (Heap.lt_size hol) (fun h₂ tk hk => ?_) (by simp; omega)))
  have hrl : (its.drop i).length = its.length - i := by rw [List.length_drop]
  have hmid : (its.drop i).length - (n - 1 - i) = xs.length + 1 - n := by rw [hrl]; omega
  show wpAny _ _ (if (its.drop i).length < n - 1 - i then _ else _) _ _ _
  rw [if_neg (by rw [hrl]; omega)]
  show wpAny _ _ (newList ((its.drop i).take ((its.drop i).length - (n - 1 - i))) >>= fun d => pure (its.take i ++ [d] ++ (its.drop i).drop ((its.drop i).length - (n - 1 - i)))) _ _ _
  rw [hmid]
  have I2 : Inv X pins σ H { s with heap := h₂, toks := tk } := I.kept fun b o e => hk b o (Nat.ne_of_lt (Heap.lt_size e)) (hs₁.extBut b o (Nat.ne_of_lt (Heap.lt_size e)) (Heap.get?_push_of_some _ e))
  have hzm : ((its.drop i).take (xs.length + 1 - n)).length ≤ sizeLine := by rw [List.length_take, hrl]; omega
  refine wpAny_bind (wpAny_newList ?_ hzm)
  refine wpAny_pure ?_
  have rm : Vals ((xs.drop i).take (xs.length + 1 - n)) ((its.drop i).take (xs.length + 1 - n)) := vals_take (vals_drop rv)
  have I3 := Inv.lnew (t' := tk) I2 rm (by rw [rm.length]; exact hzm)
  exact h.run pins _ σ _ _ _ Q I3 (((vals_take rv).append (.cons (show RelV (V.ref h₂.objs.size) (Value.ref h₂.objs.size) from rfl) .nil)).append (vals_drop (vals_drop rv))) (hw _ I2.fresh)
end
end L2.LqX


set_option Elab.async false
set_option linter.all false
set_option maxRecDepth 100000
set_option maxHeartbeats 4000000
namespace L2.LqX
open PySem PySem.Spec PyProof.Rows L2
/-! zip of two or three, each a list (true) or a tuple (false) -/
def iterK (k : Bool) (h : Heap) (it l : Addr) (i : Nat) : Prop := match k with | true => h.IsListIter it l i | false => h.IsTupleIter it l i
def seqK (k : Bool) (h : Heap) (l : Addr) (items : Array Value) : Prop := match k with | true => h.IsList l items | false => h.IsTuple l items
def SqK (K : PySem.W.Frag) (k : Bool) (H : Hp) (a : Addr) (xs : List V) : Prop := match k with | true => SqL K H a xs | false => SqT K H a xs
def itObj (k : Bool) (l : Addr) : Obj := match k with | true => { cls := .type "list_iterator", data := .fields #[.ref l, .int 0 0] } | false => { cls := .type "tuple_iterator", data := .fields #[.ref l, .int 0 0] }
theorem draws_k {P : Program} {w : World} {A : Around} (k : Bool) (hh : A.handled = none) (it l : Addr) (hne : l ≠ it) (items : Array Value) : Draws P w A it [it, l] items.size (fun i v => items[i]? = some v) (fun i h => iterK k h it l i ∧ seqK k h l items) := by
  cases k
  · exact Draws.tuple hh it l hne items
  · exact Draws.list hh it l hne items
theorem begins_k (k : Bool) (l : Addr) (items : Array Value) : Begins (.ref l) (itObj k l) (fun h => seqK k h l items) := by
  cases k
  · exact begins_tuple l items
  · exact begins_list l items
theorem iterK_at {k : Bool} {h h' : Heap} {it l : Addr} {i : Nat} (x : iterK k h it l i) (e : ∀ o, h.get? it = some o → h'.get? it = some o) : iterK k h' it l i := by
  cases k
  · exact Heap.IsTupleIter.at x e
  · exact Heap.IsListIter.at x e
theorem iterK_obj {k : Bool} {h : Heap} {it l : Addr} {i : Nat} (x : iterK k h it l i) : ∃ o, h.get? it = some o ∧ ∀ v, o.data ≠ .cell v := by
  cases k
  · obtain ⟨o, e, _, d⟩ := (x : h.IsTupleIter it l i)
    exact ⟨o, e, fun v q => by rw [d] at q; cases q⟩
  · obtain ⟨o, e, _, d⟩ := (x : h.IsListIter it l i)
    exact ⟨o, e, fun v q => by rw [d] at q; cases q⟩
theorem iterK_new {k : Bool} {h : Heap} {it l : Addr} (e : h.get? it = some (itObj k l)) : iterK k h it l 0 := by
  cases k
  · exact ⟨_, e, rfl, rfl⟩
  · exact ⟨_, e, rfl, rfl⟩
theorem seqK_lt {k : Bool} {h : Heap} {l : Addr} {items : Array Value} (x : seqK k h l items) : l < h.objs.size := by
  cases k
  · obtain ⟨o, e, _⟩ := (x : h.IsTuple l items)
    exact Heap.lt_size e
  · obtain ⟨o, e, _⟩ := (x : h.IsList l items)
    exact Heap.lt_size e
section
variable {X : Cx} {pins : List (Addr × Obj)} {σ : L2.St} {H : Hp} {s : Shared}
theorem inv_k {k : Bool} {a : Addr} {xs : List V} (I : Inv X pins σ H s) (h : SqK X.K k H a xs) : ∃ its : List Value, Vals xs its ∧ seqK k s.heap a its.toArray ∧ xs.length ≤ sizeLine := by
  cases k
  · exact I.tuple h
  · obtain ⟨its, r, p, z⟩ := I.list h
    exact ⟨its, r, p.isList, z⟩
theorem inj_k {k : Bool} {a : Addr} {xs ys : List V} (I : Inv X pins σ H s) (h : SqK X.K k H a xs) (h' : SqK X.K k H a ys) : xs = ys := by
  cases k
  · exact I.tuple_inj h h'
  · exact I.list_inj h h'
end
def Itz2 (K : PySem.W.Frag) (k1 k2 : Bool) (a b : Addr) : It :=
  ⟨fun i H => ∃ (xs ys : List V) (x y : V), SqK K k1 H a xs ∧ SqK K k2 H b ys ∧ xs[i]? = some x ∧ ys[i]? = some y,
    fun i H v H' => ∃ T x y, v = .ref T ∧ H T = none ∧ H' = upd H T (.tup [x, y]) ∧ (∀ xs, SqK K k1 H a xs → xs[i]? = some x) ∧ ∀ ys, SqK K k2 H b ys → ys[i]? = some y,
    fun i H => ∃ xs ys : List V, SqK K k1 H a xs ∧ SqK K k2 H b ys ∧ i ≤ xs.length ∧ i ≤ ys.length ∧ (i = xs.length ∨ i = ys.length)⟩
theorem sep2 (n a b : Nat) (ha : a < n) (hb : b < n) : ZipSep2 (n + 4) (n + 2) (n + 3) n (n + 1) [n, a] [n + 1, b] := by
  constructor <;> simp only [List.mem_cons, List.not_mem_nil, or_false, ne_eq, not_or] <;> (try simp only [show ∀ x y : Nat, (@Eq Addr x y) = (@Eq Nat x y) from fun _ _ => rfl]) <;> first | omega | exact .inl rfl | exact .inl trivial
theorem turn_z2 {P : Program} {w : World} {K : PySem.W.Frag} {elts : List Expr} {kk : Nat} {tpos : Pos} {k1 k2 : Bool} {a b z TI TO i1 i2 : Addr} (S : ZipSep2 z TI TO i1 i2 [i1, a] [i2, b]) (na : a ≠ i1) (nb : b ≠ i2) :
    Turn P w K (.Tuple elts kk tpos) (Itz2 K k1 k2 a b) [z, TI, TO, i1, i2] z (fun i h => IsZip h z TI TO .none ∧ IsTupOf2 h TI (.ref i1) (.ref i2) ∧ (∃ x y, IsTupOf2 h TO x y) ∧ iterK k1 h i1 a i ∧ iterK k2 h i2 b i) where
  mem := by simp
  obj := fun i h st c hc => by
    obtain ⟨hz, hTI, ⟨x, y, hTO⟩, h1, h2⟩ := st
    have e' : c = z ∨ c = TI ∨ c = TO ∨ c = i1 ∨ c = i2 := by simpa using hc
    rcases e' with q | q | q | q | q
    · rw [q]; exact ⟨_, hz, fun v q => nomatch q⟩
    · rw [q]; exact ⟨_, hTI, fun v q => nomatch q⟩
    · rw [q]; exact ⟨_, hTO, fun v q => nomatch q⟩
    · rw [q]; exact iterK_obj h1
    · rw [q]; exact iterK_obj h2
  keep := fun i h h' st k => by
    obtain ⟨hz, hTI, ⟨x, y, hTO⟩, h1, h2⟩ := st
    exact ⟨k z (by simp) _ hz, k TI (by simp) _ hTI, ⟨x, y, k TO (by simp) _ hTO⟩, iterK_at h1 fun o q => k i1 (by simp) o q, iterK_at h2 fun o q => k i2 (by simp) o q⟩
  item := by
    intro X hP hw hK hc i pins s σ H E I hf st hg
    subst hP hw hK
    obtain ⟨hz, hTI, ⟨x0, y0, hTO⟩, h1, h2⟩ := st
    obtain ⟨xs, ys, x, y, hqx, hqy, hx, hy⟩ := hg
    obtain ⟨its, rv, p, _⟩ := inv_k I hqx
    obtain ⟨its2, rv2, p2, _⟩ := inv_k I hqy
    obtain ⟨u, hu, ru⟩ := rv.get hx
    obtain ⟨u2, hu2, ru2⟩ := rv2.get hy
    have hzl : z < s.heap.objs.size := Heap.lt_size hz
    have l1 : i < its.toArray.size := by obtain ⟨q, _⟩ := List.getElem?_eq_some_iff.mp hu; simpa using q
    have l2 : i < its2.toArray.size := by obtain ⟨q, _⟩ := List.getElem?_eq_some_iff.mp hu2; simpa using q
    refine wpAny_pyNext_zipD2_item S (draws_k k1 (A := X.A.in1) (I.ok.hd hc) i1 a na its.toArray) (draws_k k2 (A := X.A.in1) (I.ok.hd hc) i2 b nb its2.toArray) hz hTI hTO ⟨h1, p⟩ ⟨h2, p2⟩ l1 l2 fun v1 v2 h' tk e1 e2 z' TO' h1' h2' hT hsz hk => ?_
    have ev1 : v1 = u := by simpa [hu] using e1.symm
    have ev2 : v2 = u2 := by simpa [hu2] using e2.symm
    subst ev1 ev2
    refine ⟨_, rfl, wpAny_letOwnedTupleGo_zip (s := { s with heap := h', toks := tk }) z' fun h'' z'' sb => ?_⟩
    have hT2 : h''.get? s.heap.objs.size = some { cls := .type "tuple", data := .seq #[v1, v2] } := (sb.2 _ (Nat.ne_of_gt hzl)).trans hT
    have new : ObjOk X.prog X.w (upd H s.heap.objs.size (.tup [x, y])) h'' s.heap.objs.size (.tup [x, y]) :=
      ⟨by show 2 ≤ sizeLine; decide, [v1, v2], .cons ru (.cons ru2 .nil), ⟨_, hT2, rfl, _, rfl⟩⟩
    have I1 : Inv X pins σ (upd H s.heap.objs.size (.tup [x, y])) { s with heap := h'', toks := tk } :=
      I.turnedNew (t' := tk) (ch := [z, TI, TO, i1, i2]) (fun c o hb q => (sb.2 c (fun q' => hb (by simp [q']))).trans (hk c o (fun q' => hb (by simp [q'])) (fun q' => hb (by simp [q'])) (fun q' => hb (by simp [q'])) (fun q' => hb (by simp [q'])) q)) hf (Nat.le_refl _) new
    refine ⟨.ref s.heap.objs.size, _, I1, rfl, ⟨_, x, y, rfl, I.hok.fresh (Nat.le_refl _), rfl, fun l hl => by rw [inj_k I hl hqx]; exact hx, fun l hl => by rw [inj_k I hl hqy]; exact hy⟩, ⟨z'', ?_, ⟨v1, v2, ?_⟩, ?_, ?_⟩, fun c hcm => ?_⟩
    · exact (sb.2 _ S.TIz).trans (hk _ _ S.TIz S.TITO S.TIi1 S.TIi2 hTI)
    · exact (sb.2 _ S.TOz).trans TO'
    · exact iterK_at h1'.1 fun o q => (sb.2 _ S.zi1.symm).trans q
    · exact iterK_at h2'.1 fun o q => (sb.2 _ S.zi2.symm).trans q
    · have hlt : c < s.heap.objs.size := by
        have e' : c = z ∨ c = TI ∨ c = TO ∨ c = i1 ∨ c = i2 := by simpa using hcm
        rcases e' with q | q | q | q | q
        · rw [q]; exact hzl
        · rw [q]; exact Heap.lt_size hTI
        · rw [q]; exact Heap.lt_size hTO
        · rw [q]; obtain ⟨_, e1, _⟩ := iterK_obj h1; exact Heap.lt_size e1
        · rw [q]; obtain ⟨_, e2, _⟩ := iterK_obj h2; exact Heap.lt_size e2
      rw [upd_ne (Nat.ne_of_lt hlt)]
      exact (hf c hcm).1
  done := by
    intro X hP hw hK hc i pins s σ H E I hf st hg
    subst hP hw hK
    obtain ⟨hz, hTI, ⟨x0, y0, hTO⟩, h1, h2⟩ := st
    obtain ⟨xs, ys, hqx, hqy, le1, le2, hend⟩ := hg
    obtain ⟨its, rv, p, _⟩ := inv_k I hqx
    obtain ⟨its2, rv2, p2, _⟩ := inv_k I hqy
    have l1 := rv.length
    have l2 := rv2.length
    exact wpAny_pyNext_zipD2_end S (draws_k k1 (A := X.A.in1) (I.ok.hd hc) i1 a na its.toArray) (draws_k k2 (A := X.A.in1) (I.ok.hd hc) i2 b nb its2.toArray) hz hTI hTO ⟨h1, p⟩ ⟨h2, p2⟩ (by simp; omega) (by simp; omega) (by simp; omega) fun h' tk hk => ⟨rfl, I.turnedL (t' := tk) (ch := [z, TI, TO, i1, i2]) (fun c o hb q =>
      hk c o (fun q' => hb (by simp [q'])) (fun q' => hb (by simp [q'])) (fun q' => hb (by simp [q'])) (fun q' => hb (by simp [q'])) q) hf⟩
  self := fun A i s Q E st h => wpAny_pyIter_zip st.1 h
def iZip2 (K : PySem.W.Frag) (k1 k2 : Bool) (ta : TA) : TI := fun σ H R => ta σ H fun vs H1 => ∃ a b xs ys, vs = [.ref a, .ref b] ∧ SqK K k1 H1 a xs ∧ SqK K k2 H1 b ys ∧ R (Itz2 K k1 k2 a b) H1
theorem pi_z2 {X : Cx} {k1 k2 : Bool} {e e2 : Expr} {ta : TA} {p pos tpos : Pos} {elts : List Expr} {kk : Nat} (hg : Gl X "zip") (hm : X.mg "zip" = none) (ha : PA X [e, e2] ta)
    (hs : starEach [e, e2] X.env = (false, eval e X.env) :: starEach [e2] X.env := by rfl) (hpl : (backTo pos (starEach [e2] X.env)).any (·.1) = false := by rfl) :
    PI X (.Tuple elts kk tpos) (.Call (.Name "zip" p) [e, e2] [] pos) (iZip2 X.K k1 k2 ta) := by
  refine ⟨fun pins s σ H R I h => ?_⟩
  refine Call_ (ld_blt I hg hm PyProof.Rows.boot_zip (PyProof.Rows.callWith_type1 (thn (ha.run pos pins s σ H _ I h) fun us s1 ⟨vs, H1, I1, r1, q1⟩ => ?_) hs hpl))
  obtain ⟨a, b, xs, ys, ex, hqx, hqy, q⟩ := q1
  subst ex
  cases r1 with
  | cons r rr =>
    cases rr with
    | cons r' rr =>
      cases rr
      cases r
      cases r'
      obtain ⟨its, rv, p1, _⟩ := inv_k I1 hqx
      obtain ⟨its2, rv2, p2, _⟩ := inv_k I1 hqy
      have la := seqK_lt p1
      have lb := seqK_lt p2
      refine zip_begins2 (begins_k k1 a its.toArray) (begins_k k2 b its2.toArray) p1 p2 fun h' hz hTI hTO h1 h2 hsz hk => wpAny_pyIter_zip hz ?_
      have I2 : Inv X pins σ H1 { s1 with heap := h' } := I1.kept (t' := s1.toks) hk
      refine ⟨s1.heap.objs.size + 4, [s1.heap.objs.size + 4, s1.heap.objs.size + 2, s1.heap.objs.size + 3, s1.heap.objs.size, s1.heap.objs.size + 1], _, _, H1, rfl, I2, turn_z2 (sep2 s1.heap.objs.size a b la lb) (Nat.ne_of_lt la) (Nat.ne_of_lt (Nat.lt_succ_of_lt lb)), ⟨hz, hTI, ⟨_, _, hTO⟩, iterK_new h1, iterK_new h2⟩, fun c hcm => ?_, q⟩
      have hle : s1.heap.objs.size ≤ c := by
        have e' : c = s1.heap.objs.size + 4 ∨ c = s1.heap.objs.size + 2 ∨ c = s1.heap.objs.size + 3 ∨ c = s1.heap.objs.size ∨ c = s1.heap.objs.size + 1 := by simpa using hcm
        rcases e' with z | z | z | z | z <;> rw [z] <;> first | exact Nat.le_refl _ | exact Nat.le_add_right _ _
      exact I1.fpOk hle (I1.hok.fresh hle)
theorem walk_z2 {K : PySem.W.Frag} {k1 k2 : Bool} {a b : Addr} {xs ys : List V} {n : Nat} (hn : n = min xs.length ys.length) : Walk (Itz2 K k1 k2 a b) n (fun H => SqK K k1 H a xs ∧ SqK K k2 H b ys) (YPair (fun i => xs[i]?) (fun i => ys[i]?)) := by
  subst hn
  refine ⟨fun i _ hi q => ?_, fun _ q => ⟨xs, ys, q.1, q.2, by omega, by omega, by omega⟩, fun i H v H' _ q y => ?_⟩
  · have h1 : i < xs.length := by omega
    have h2 : i < ys.length := by omega
    exact ⟨xs, ys, xs[i], ys[i], q.1, q.2, by simp [h1], by simp [h2]⟩
  · obtain ⟨T, x, z, h1, h2, h3, h4, h5⟩ := y
    exact ⟨T, x, z, h1, h2, h3, h4 xs q.1, h5 ys q.2⟩
def Itz3 (K : PySem.W.Frag) (k1 k2 k3 : Bool) (a b c : Addr) : It :=
  ⟨fun i H => ∃ (xs ys zs : List V) (x y z : V), SqK K k1 H a xs ∧ SqK K k2 H b ys ∧ SqK K k3 H c zs ∧ xs[i]? = some x ∧ ys[i]? = some y ∧ zs[i]? = some z,
    fun i H v H' => ∃ T x y z, v = .ref T ∧ H T = none ∧ H' = upd H T (.tup [x, y, z]) ∧ (∀ xs, SqK K k1 H a xs → xs[i]? = some x) ∧ (∀ ys, SqK K k2 H b ys → ys[i]? = some y) ∧ ∀ zs, SqK K k3 H c zs → zs[i]? = some z,
    fun i H => ∃ xs ys zs : List V, SqK K k1 H a xs ∧ SqK K k2 H b ys ∧ SqK K k3 H c zs ∧ i ≤ xs.length ∧ i ≤ ys.length ∧ i ≤ zs.length ∧ (i = xs.length ∨ i = ys.length ∨ i = zs.length)⟩
theorem sep3 (n a b c : Nat) (ha : a < n) (hb : b < n) (hc : c < n) : ZipSep3 (n + 5) (n + 3) (n + 4) n (n + 1) (n + 2) [n, a] [n + 1, b] [n + 2, c] := by
  constructor <;> simp only [List.mem_cons, List.not_mem_nil, or_false, ne_eq, not_or] <;> (try simp only [show ∀ x y : Nat, (@Eq Addr x y) = (@Eq Nat x y) from fun _ _ => rfl]) <;> first | omega | exact .inl rfl | exact .inl trivial
theorem turn_z3 {P : Program} {w : World} {K : PySem.W.Frag} {elts : List Expr} {kk : Nat} {tpos : Pos} {k1 k2 k3 : Bool} {a b c z TI TO i1 i2 i3 : Addr} (S : ZipSep3 z TI TO i1 i2 i3 [i1, a] [i2, b] [i3, c]) (na : a ≠ i1) (nb : b ≠ i2) (nc : c ≠ i3) :
    Turn P w K (.Tuple elts kk tpos) (Itz3 K k1 k2 k3 a b c) [z, TI, TO, i1, i2, i3] z (fun i h => IsZip h z TI TO .none ∧ IsTupOf3 h TI (.ref i1) (.ref i2) (.ref i3) ∧ (∃ x y t, IsTupOf3 h TO x y t) ∧ iterK k1 h i1 a i ∧ iterK k2 h i2 b i ∧ iterK k3 h i3 c i) where
  mem := by simp
  obj := fun i h st d hc => by
    obtain ⟨hz, hTI, ⟨x, y, t, hTO⟩, h1, h2, h3⟩ := st
    have e' : d = z ∨ d = TI ∨ d = TO ∨ d = i1 ∨ d = i2 ∨ d = i3 := by simpa using hc
    rcases e' with q | q | q | q | q | q
    · rw [q]; exact ⟨_, hz, fun v q => nomatch q⟩
    · rw [q]; exact ⟨_, hTI, fun v q => nomatch q⟩
    · rw [q]; exact ⟨_, hTO, fun v q => nomatch q⟩
    · rw [q]; exact iterK_obj h1
    · rw [q]; exact iterK_obj h2
    · rw [q]; exact iterK_obj h3
  keep := fun i h h' st k => by
    obtain ⟨hz, hTI, ⟨x, y, t, hTO⟩, h1, h2, h3⟩ := st
    exact ⟨k z (by simp) _ hz, k TI (by simp) _ hTI, ⟨x, y, t, k TO (by simp) _ hTO⟩, iterK_at h1 fun o q => k i1 (by simp) o q, iterK_at h2 fun o q => k i2 (by simp) o q, iterK_at h3 fun o q => k i3 (by simp) o q⟩
  item := by
    intro X hP hw hK hc i pins s σ H E I hf st hg
    subst hP hw hK
    obtain ⟨hz, hTI, ⟨x0, y0, t0, hTO⟩, h1, h2, h3⟩ := st
    obtain ⟨xs, ys, zs, x, y, t, hqx, hqy, hqz, hx, hy, ht⟩ := hg
    obtain ⟨its, rv, p, _⟩ := inv_k I hqx
    obtain ⟨its2, rv2, p2, _⟩ := inv_k I hqy
    obtain ⟨its3, rv3, p3, _⟩ := inv_k I hqz
    obtain ⟨u, hu, ru⟩ := rv.get hx
    obtain ⟨u2, hu2, ru2⟩ := rv2.get hy
    obtain ⟨u3, hu3, ru3⟩ := rv3.get ht
    have hzl : z < s.heap.objs.size := Heap.lt_size hz
    have l1 : i < its.toArray.size := by obtain ⟨q, _⟩ := List.getElem?_eq_some_iff.mp hu; simpa using q
    have l2 : i < its2.toArray.size := by obtain ⟨q, _⟩ := List.getElem?_eq_some_iff.mp hu2; simpa using q
    have l3 : i < its3.toArray.size := by obtain ⟨q, _⟩ := List.getElem?_eq_some_iff.mp hu3; simpa using q
    refine wpAny_pyNext_zipD3_item S (draws_k k1 (A := X.A.in1) (I.ok.hd hc) i1 a na its.toArray) (draws_k k2 (A := X.A.in1) (I.ok.hd hc) i2 b nb its2.toArray) (draws_k k3 (A := X.A.in1) (I.ok.hd hc) i3 c nc its3.toArray) hz hTI hTO ⟨h1, p⟩ ⟨h2, p2⟩ ⟨h3, p3⟩ l1 l2 l3 fun v1 v2 v3 h' tk e1 e2 e3 z' TO' h1' h2' h3' hT hsz hk => ?_
    have ev1 : v1 = u := by simpa [hu] using e1.symm
    have ev2 : v2 = u2 := by simpa [hu2] using e2.symm
    have ev3 : v3 = u3 := by simpa [hu3] using e3.symm
    subst ev1 ev2 ev3
    refine ⟨_, rfl, wpAny_letOwnedTupleGo_zip (s := { s with heap := h', toks := tk }) z' fun h'' z'' sb => ?_⟩
    have hT2 : h''.get? s.heap.objs.size = some { cls := .type "tuple", data := .seq #[v1, v2, v3] } := (sb.2 _ (Nat.ne_of_gt hzl)).trans hT
    have new : ObjOk X.prog X.w (upd H s.heap.objs.size (.tup [x, y, t])) h'' s.heap.objs.size (.tup [x, y, t]) :=
      ⟨by show 3 ≤ sizeLine; decide, [v1, v2, v3], .cons ru (.cons ru2 (.cons ru3 .nil)), ⟨_, hT2, rfl, _, rfl⟩⟩
    have I1 : Inv X pins σ (upd H s.heap.objs.size (.tup [x, y, t])) { s with heap := h'', toks := tk } :=
      I.turnedNew (t' := tk) (ch := [z, TI, TO, i1, i2, i3]) (fun c o hb q => (sb.2 c (fun q' => hb (by simp [q']))).trans (hk c o (fun q' => hb (by simp [q'])) (fun q' => hb (by simp [q'])) (fun q' => hb (by simp [q'])) (fun q' => hb (by simp [q'])) (fun q' => hb (by simp [q'])) q)) hf (Nat.le_refl _) new
    refine ⟨.ref s.heap.objs.size, _, I1, rfl, ⟨_, x, y, t, rfl, I.hok.fresh (Nat.le_refl _), rfl, fun l hl => by rw [inj_k I hl hqx]; exact hx, fun l hl => by rw [inj_k I hl hqy]; exact hy, fun l hl => by rw [inj_k I hl hqz]; exact ht⟩, ⟨z'', ?_, ⟨v1, v2, v3, ?_⟩, ?_, ?_, ?_⟩, fun d hcm => ?_⟩
    · exact (sb.2 _ S.TIz).trans (hk _ _ S.TIz S.TITO S.TIi1 S.TIi2 S.TIi3 hTI)
    · exact (sb.2 _ S.TOz).trans TO'
    · exact iterK_at h1'.1 fun o q => (sb.2 _ S.zi1.symm).trans q
    · exact iterK_at h2'.1 fun o q => (sb.2 _ S.zi2.symm).trans q
    · exact iterK_at h3'.1 fun o q => (sb.2 _ S.zi3.symm).trans q
    · have hlt : d < s.heap.objs.size := by
        have e' : d = z ∨ d = TI ∨ d = TO ∨ d = i1 ∨ d = i2 ∨ d = i3 := by simpa using hcm
        rcases e' with q | q | q | q | q | q
        · rw [q]; exact hzl
        · rw [q]; exact Heap.lt_size hTI
        · rw [q]; exact Heap.lt_size hTO
        · rw [q]; obtain ⟨_, e1, _⟩ := iterK_obj h1; exact Heap.lt_size e1
        · rw [q]; obtain ⟨_, e2, _⟩ := iterK_obj h2; exact Heap.lt_size e2
        · rw [q]; obtain ⟨_, e3, _⟩ := iterK_obj h3; exact Heap.lt_size e3
      rw [upd_ne (Nat.ne_of_lt hlt)]
      exact (hf d hcm).1
  done := by
    intro X hP hw hK hc i pins s σ H E I hf st hg
    subst hP hw hK
    obtain ⟨hz, hTI, ⟨x0, y0, t0, hTO⟩, h1, h2, h3⟩ := st
    obtain ⟨xs, ys, zs, hqx, hqy, hqz, le1, le2, le3, hend⟩ := hg
    obtain ⟨its, rv, p, _⟩ := inv_k I hqx
    obtain ⟨its2, rv2, p2, _⟩ := inv_k I hqy
    obtain ⟨its3, rv3, p3, _⟩ := inv_k I hqz
    have l1 := rv.length
    have l2 := rv2.length
    have l3 := rv3.length
    exact wpAny_pyNext_zipD3_end S (draws_k k1 (A := X.A.in1) (I.ok.hd hc) i1 a na its.toArray) (draws_k k2 (A := X.A.in1) (I.ok.hd hc) i2 b nb its2.toArray) (draws_k k3 (A := X.A.in1) (I.ok.hd hc) i3 c nc its3.toArray) hz hTI hTO ⟨h1, p⟩ ⟨h2, p2⟩ ⟨h3, p3⟩ (by simp; omega) (by simp; omega) (by simp; omega) (by simp; omega) fun h' tk hk => ⟨rfl, I.turnedL (t' := tk) (ch := [z, TI, TO, i1, i2, i3]) (fun c o hb q =>
      hk c o (fun q' => hb (by simp [q'])) (fun q' => hb (by simp [q'])) (fun q' => hb (by simp [q'])) (fun q' => hb (by simp [q'])) (fun q' => hb (by simp [q'])) q) hf⟩
  self := fun A i s Q E st h => wpAny_pyIter_zip st.1 h
def iZip3 (K : PySem.W.Frag) (k1 k2 k3 : Bool) (ta : TA) : TI := fun σ H R => ta σ H fun vs H1 => ∃ a b c xs ys zs, vs = [.ref a, .ref b, .ref c] ∧ SqK K k1 H1 a xs ∧ SqK K k2 H1 b ys ∧ SqK K k3 H1 c zs ∧ R (Itz3 K k1 k2 k3 a b c) H1
theorem pi_z3 {X : Cx} {k1 k2 k3 : Bool} {e e2 e3 : Expr} {ta : TA} {p pos tpos : Pos} {elts : List Expr} {kk : Nat} (hg : Gl X "zip") (hm : X.mg "zip" = none) (ha : PA X [e, e2, e3] ta)
    (hs : starEach [e, e2, e3] X.env = (false, eval e X.env) :: starEach [e2, e3] X.env := by rfl) (hpl : (backTo pos (starEach [e2, e3] X.env)).any (·.1) = false := by rfl) :
    PI X (.Tuple elts kk tpos) (.Call (.Name "zip" p) [e, e2, e3] [] pos) (iZip3 X.K k1 k2 k3 ta) := by
  refine ⟨fun pins s σ H R I h => ?_⟩
  refine Call_ (ld_blt I hg hm PyProof.Rows.boot_zip (PyProof.Rows.callWith_type1 (thn (ha.run pos pins s σ H _ I h) fun us s1 ⟨vs, H1, I1, r1, q1⟩ => ?_) hs hpl))
  obtain ⟨a, b, c, xs, ys, zs, ex, hqx, hqy, hqz, q⟩ := q1
  subst ex
  cases r1 with
  | cons r rr =>
    cases rr with
    | cons r' rr =>
      cases rr with
      | cons r'' rr =>
        cases rr
        cases r
        cases r'
        cases r''
        obtain ⟨its, rv, p1, _⟩ := inv_k I1 hqx
        obtain ⟨its2, rv2, p2, _⟩ := inv_k I1 hqy
        obtain ⟨its3, rv3, p3, _⟩ := inv_k I1 hqz
        have la := seqK_lt p1
        have lb := seqK_lt p2
        have lc := seqK_lt p3
        refine zip_begins3 (begins_k k1 a its.toArray) (begins_k k2 b its2.toArray) (begins_k k3 c its3.toArray) p1 p2 p3 fun h' hz hTI hTO h1 h2 h3 hsz hk => wpAny_pyIter_zip hz ?_
        have I2 : Inv X pins σ H1 { s1 with heap := h' } := I1.kept (t' := s1.toks) hk
        refine ⟨s1.heap.objs.size + 5, [s1.heap.objs.size + 5, s1.heap.objs.size + 3, s1.heap.objs.size + 4, s1.heap.objs.size, s1.heap.objs.size + 1, s1.heap.objs.size + 2], _, _, H1, rfl, I2, turn_z3 (sep3 s1.heap.objs.size a b c la lb lc) (Nat.ne_of_lt la) (Nat.ne_of_lt (Nat.lt_succ_of_lt lb)) (Nat.ne_of_lt (Nat.lt_succ_of_lt (Nat.lt_succ_of_lt lc))), ⟨hz, hTI, ⟨_, _, _, hTO⟩, iterK_new h1, iterK_new h2, iterK_new h3⟩, fun d hcm => ?_, q⟩
        have hle : s1.heap.objs.size ≤ d := by
          have e' : d = s1.heap.objs.size + 5 ∨ d = s1.heap.objs.size + 3 ∨ d = s1.heap.objs.size + 4 ∨ d = s1.heap.objs.size ∨ d = s1.heap.objs.size + 1 ∨ d = s1.heap.objs.size + 2 := by simpa using hcm
          rcases e' with z | z | z | z | z | z <;> rw [z] <;> first | exact Nat.le_refl _ | exact Nat.le_add_right _ _
        exact I1.fpOk hle (I1.hok.fresh hle)
/-- a new triple -/
def YTrip (xs ys zs : Nat → Option V) : Nat → Hp → V → Hp → Prop := fun i H v H' => ∃ T x y z, v = .ref T ∧ H T = none ∧ H' = upd H T (.tup [x, y, z]) ∧ xs i = some x ∧ ys i = some y ∧ zs i = some z
theorem walk_z3 {K : PySem.W.Frag} {k1 k2 k3 : Bool} {a b c : Addr} {xs ys zs : List V} {n : Nat} (h1 : xs.length = n) (h2 : ys.length = n) (h3 : zs.length = n) : Walk (Itz3 K k1 k2 k3 a b c) n (fun H => SqK K k1 H a xs ∧ SqK K k2 H b ys ∧ SqK K k3 H c zs) (YTrip (fun i => xs[i]?) (fun i => ys[i]?) (fun i => zs[i]?)) := by
  refine ⟨fun i _ hi q => ?_, fun _ q => ⟨xs, ys, zs, q.1, q.2.1, q.2.2, by omega, by omega, by omega, by omega⟩, fun i H v H' _ q y => ?_⟩
  · have e1 : i < xs.length := by omega
    have e2 : i < ys.length := by omega
    have e3 : i < zs.length := by omega
    exact ⟨xs, ys, zs, xs[i], ys[i], zs[i], q.1, q.2.1, q.2.2, by simp [e1], by simp [e2], by simp [e3]⟩
  · obtain ⟨T, x, y, z, g1, g2, g3, g4, g5, g6⟩ := y
    exact ⟨T, x, y, z, g1, g2, g3, g4 xs q.1, g5 ys q.2.1, g6 zs q.2.2⟩
end L2.LqX


set_option Elab.async false
set_option linter.all false
set_option maxRecDepth 100000
set_option maxHeartbeats 4000000
namespace L2.LqX
open PySem PySem.Spec PyProof.Rows L2
section
variable {P : Program} {w : World} {A : Around} {E : Value → Shared → Prop} {s : Shared}
theorem dictPut_any {d : Addr} {kvs : List (Key × Value)} {k : Key} {key v : Value} {Q : Unit → Shared → Prop} (hkey : keyIs k key = true) (hd : s.heap.DictOf (mixKind P w) d kvs) (hz : kvs.length ≤ sizeLine)
    (hQ : ∀ h', h'.DictOf (mixKind P w) d (stored kvs k v) → Heap.SameBut d s.heap h' → Q () { s with heap := h' }) : wpAny (model P w) A (dictPut d (keyH w k) key v) Q E s := by
  by_cases hin : k ∈ kvs.map (·.1)
  · obtain ⟨o, es, ep, ho, hc, hdat, hk, hp, hnd⟩ := hd
    have hidx : (es.findIdx? fun e => (mixKind P w).is k e.key) = kvs.findIdx? fun kv => decide (kv.1 = k) := by
      have e1 := hp.findIdx k
      obtain ⟨l⟩ := es
      rw [List.findIdx?_toArray]
      exact e1
    obtain ⟨i, hi⟩ : ∃ i, (kvs.findIdx? fun kv => decide (kv.1 = k)) = some i := by
      obtain ⟨kv, m1, m2⟩ := List.mem_map.mp hin
      cases q : kvs.findIdx? fun kv => decide (kv.1 = k) with
      | some i => exact ⟨i, rfl⟩
      | none =>
        have := List.findIdx?_eq_none_iff.mp q kv m1
        rw [decide_eq_true m2] at this
        cases this
    have hany : (kvs.any fun kv => decide (kv.1 = k)) = true := by
      obtain ⟨kv, m1, m2⟩ := List.mem_map.mp hin
      exact List.any_eq_true.mpr ⟨kv, m1, decide_eq_true m2⟩
    rw [hi] at hidx
    unfold dictPut
    refine wpAny_bind (wpAny_dictFind_of (knd := mixKind P w) (k := k) hkey ho hdat hk ?_)
    rw [hidx]
    refine wpAny_updateDict ho hdat (hQ _ ⟨_, _, ep, Heap.get?_update_self _ ho (Obj.isFreed_of_dict (Obj.data_mapDict hdat _)), hc.mapDict _, Obj.data_mapDict hdat _, hk.modify _ _, ?_, ?_⟩ (Heap.SameBut.update ..))
    · rw [stored, if_pos hany]
      have hl : (es.toList.findIdx? fun e => (mixKind P w).is k e.key) = some i := by rw [← hidx]; obtain ⟨l⟩ := es; simp
      have := hp.modify hnd hl v
      obtain ⟨l⟩ := es
      simpa using this
    · rw [stored, if_pos hany, keys_map_store]
      exact hnd
  · have hany : ¬ (kvs.any fun kv => decide (kv.1 = k)) = true := by
      rw [List.any_eq_true]
      rintro ⟨kv, hkv, he⟩
      exact hin (List.mem_map.mpr ⟨kv, hkv, of_decide_eq_true he⟩)
    refine dictPut_new hkey hd hin hz fun h' hd' sb => hQ h' ?_ sb
    rw [stored, if_neg hany]
    exact hd'
theorem merge_one {d a : Addr} {kvs : List (Key × Value)} {k : Key} {u : Value} {Q : Unit → Shared → Prop} (ha : s.heap.DictOf (mixKind P w) a [(k, u)]) (hd : s.heap.DictOf (mixKind P w) d kvs) (hn0 : kvs ≠ []) (hne : a ≠ d) (hsm : (a == sysModules) = false) (hz : kvs.length ≤ sizeLine)
    (hQ : ∀ h', h'.DictOf (mixKind P w) d (stored kvs k u) → Heap.SameBut d s.heap h' → Q () { s with heap := h' }) : wpAny (model P w) A (mergeMapping d (.ref a) false) Q E s := by
  have hT := ha.typeIs
  have hd0 := hd
  obtain ⟨o, es, ep, ho, hc, hdat, hk, hp, hnd⟩ := ha
  obtain ⟨od, esd, epd, hod, hcd, hdatd, hkd, hpd, hndd⟩ := hd
  have hlen : es.size = 1 := by
    have := hp.length
    simpa using this
  unfold mergeMapping
  refine wpAny_bind (wpAny_isInstance hT (b := true) (by first | rfl | kernel_rfl) ?_)
  dsimp only
  rw [if_pos rfl]
  refine wpAny_bind (wpAny_specialOf hT F.slot_dict_iter.lookup ?_)
  rw [show ((some (Value.builtin "dict.__iter__") == some (Value.builtin "dict.__iter__")) = true) from by decide +kernel]
  refine wpAny_bind (wpAny_pure ?_)
  dsimp only
  rw [if_neg (by rw [hsm]; exact Bool.false_ne_true)]
  refine wpAny_bind (wpAny_dictEntries hod hdatd ?_)
  have hem : ¬ esd.isEmpty = true := by
    intro z
    have e1 := hpd.length
    have e2 : esd.size = 0 := by simpa [Array.isEmpty] using z
    have e3 : kvs.length = 0 := by
      rw [← e1]
      simpa using e2
    exact hn0 (List.eq_nil_of_length_eq_zero e3)
  rw [if_neg hem]
  refine wpAny_bind (wpAny_dictEntries ho hdat (wpAny_bind (wpAny_dictEpoch ho hdat (wpAny_bind ?_))))
  rw [hlen, show List.range 1 = [0] from rfl, List.forIn_cons]
  refine wpAny_bind (wpAny_bind (wpAny_dictEntries ho hdat ?_))
  obtain ⟨e, he⟩ : ∃ e, es[0]? = some e := ⟨es[0]'(by omega), Array.getElem?_eq_getElem (by omega)⟩
  have heL : es.toList[0]? = some e := by rw [Array.getElem?_toList]; exact he
  obtain ⟨k0, v, kv, k1, ev⟩ := pairs_at hp heL
  cases kv
  obtain ⟨k', k1', kh⟩ := hk e (Array.mem_of_getElem? he)
  have ek : k' = k := (mixKind P w).inj e.key k' k k1' k1
  subst ek
  rw [he]
  dsimp only
  rw [kh, ev]
  refine wpAny_bind (wpAny_holding ?_)
  rw [if_neg Bool.false_ne_true]
  refine dictPut_any k1 hd0 hz fun h' hd' sb => ?_
  refine wpAny_bind (wpAny_dictEpoch (s := { s with heap := h' }) ((sb.2 a hne).trans ho) hdat ?_)
  rw [if_neg (by simp)]
  refine wpAny_pure ?_
  dsimp only
  rw [List.forIn_nil]
  exact wpAny_pure (wpAny_pure (hQ h' hd' sb))
end
section
variable {X : Cx}
/-- {**d, k: v} -/
def tDisp (td tk tv : TE) : TE := fun σ H Q => ∀ d, H d = none → td σ (upd H d (.dK [])) fun y H1 => ∃ (b : Addr) (kvs : List (Key × V)), y = .ref b ∧ H1 b = some (.dK kvs) ∧ b ≠ d ∧ H1 d = some (.dK []) ∧ kvs ≠ [] ∧ kvs.length < sizeLine ∧
  ∀ c, c ≠ d → H1 c = none → tk σ (upd (upd H1 d (.dK kvs)) c (.dK [])) fun yk H2 => tv σ H2 fun yv H3 => ∃ k : Key, yk = kV k ∧ H3 c = some (.dK []) ∧ H3 d = some (.dK kvs) ∧ Q (.ref d) (upd (upd H3 c (.dK [(k, yv)])) d (.dK (putK kvs k yv)))
theorem pe_disp {ed ek ev : Expr} {td tk tv : TE} {pos : Pos} (hd : PE X ed td) (hk : PE X ek tk) (hv : PE X ev tv) : PE X (.Dict [none, some ek] [ed, ev] pos) (tDisp td tk tv) := by
  refine ⟨fun pins s σ H Q I h => ?_⟩
  show wpAny _ _ (do standAt pos; dictDisplay [(none, do let x ← eval ed X.env; standAt pos; pure x), (some (eval ek X.env), do let x ← eval ev X.env; standAt pos; pure x)]) _ _ _
  refine wpAny_bind (wpAny_standAt ?_)
  unfold dictDisplay
  dsimp only
  rw [List.forIn_cons]
  refine wpAny_bind (wpAny_bind ?_)
  dsimp only
  refine wpAny_bind ?_
  rw [if_pos (show (List.isEmpty ([] : List (Sem Value × Sem Value))) = true from rfl)]
  refine wpAny_pure ?_
  dsimp only
  have hn : H s.heap.objs.size = none := I.fresh
  have hsm : (s.heap.objs.size == sysModules) = false := beq_eq_false_iff_ne.mpr (Nat.ne_of_gt I.big)
  have I1 : Inv X pins σ (upd H s.heap.objs.size (.dK [])) { s with heap := s.heap.push { cls := .type "dict", data := .dict #[] } } :=
    Inv.laid (t' := s.toks) I (fun b u e => Heap.get?_push_of_some _ e) (Nat.le_refl _) ⟨Nat.zero_le _, hsm, [], .nil, Heap.DictOf.new _⟩
  refine wpAny_bind (wpAny_alloc ?_)
  refine wpAny_bind (wpAny_holding (wpAny_bind (thn (hd.run pins _ σ _ _ I1 (h _ hn)) fun v s2 ⟨y, H1, I2, ry, b, kvs, ey, eb, hne, ed0, hk0, hkl, q⟩ => wpAny_bind (wpAny_standAt (wpAny_pure ?_)))))
  subst ey
  obtain rfl : v = Value.ref b := ry
  obtain ⟨z, hsb, vs, rel, dd⟩ := dk_rd I2.hok (.inl eb)
  obtain ⟨_, _, vs0, rel0, dd0⟩ := dk_rd I2.hok (.inl ed0)
  cases rel0
  have hzl : vs.length ≤ sizeLine := by rw [← rel.length]; exact z
  refine wpAny_bind (wpAny_onRaise (wpAny_tryCatch (wpAny_onRaise (wpAny_holding (merge_run dd dd0 hne hsb hzl fun h' hd' sb => ?_)))))
  have I3 : Inv X pins σ (upd H1 s.heap.objs.size (.dK kvs)) { s2 with heap := h' } := by
    refine Inv.write (t' := s2.toks) I2 (x := s.heap.objs.size) (e := s.heap.objs.size) (by rw [ed0]; trivial) (.inl rfl) (fun c u hc e => (sb.2 c hc).trans e) ?_ ⟨z, hsm, vs, rel, hd'⟩
    obtain ⟨o, _, _, ho, _⟩ := hd'
    exact ⟨o, ho⟩
  refine wpAny_pure ?_
  dsimp only
  rw [List.forIn_cons]
  refine wpAny_bind ?_
  dsimp only
  rw [if_neg (by simp)]
  refine wpAny_pure ?_
  dsimp only
  rw [List.forIn_nil]
  refine wpAny_pure ?_
  dsimp only
  refine wpAny_bind ?_
  rw [if_neg (by simp)]
  refine wpAny_bind (wpAny_holding ?_)
  unfold subDict
  refine wpAny_bind (wpAny_alloc ?_)
  refine wpAny_bind (wpAny_holding ?_)
  rw [if_pos (by simp)]
  have hn3 : upd H1 s.heap.objs.size (.dK kvs) h'.objs.size = none := I3.fresh
  have hcd : h'.objs.size ≠ s.heap.objs.size := by
    intro z
    rw [z, upd_same] at hn3
    cases hn3
  have hn4 : H1 h'.objs.size = none := by
    rw [upd_ne hcd] at hn3
    exact hn3
  have hsm3 : (h'.objs.size == sysModules) = false := beq_eq_false_iff_ne.mpr (Nat.ne_of_gt I3.big)
  have I4 : Inv X pins σ (upd (upd H1 s.heap.objs.size (.dK kvs)) h'.objs.size (.dK [])) { s2 with heap := h'.push { cls := .type "dict", data := .dict #[] } } :=
    Inv.laid (s := { s2 with heap := h' }) (t' := s2.toks) I3 (fun b u e => Heap.get?_push_of_some _ e) (Nat.le_refl _) ⟨Nat.zero_le _, hsm3, [], .nil, Heap.DictOf.new _⟩
  refine wpAny_bind ?_
  rw [List.nil_append]
  unfold evalPairs
  refine wpAny_bind (thn (hk.run pins _ σ _ _ I4 (q _ hcd hn4)) fun kv s5 ⟨yk, H5, I5, rk, q5⟩ => ?_)
  refine wpAny_bind (wpAny_holding (wpAny_bind (thn (hv.run pins s5 σ H5 _ I5 q5) fun vv s6 ⟨yv, H6, I6, rv, k, ek2, ec, edd, q6⟩ => wpAny_bind (wpAny_standAt (wpAny_pure ?_)))))
  subst ek2
  unfold evalPairs
  refine wpAny_bind (wpAny_holding (wpAny_pure (wpAny_pure (wpAny_holding ?_))))
  rw [List.forIn_cons]
  refine wpAny_bind ?_
  dsimp only
  obtain ⟨_, _, vs6, rel6, dd6⟩ := dk_rd I6.hok (.inl ec)
  cases rel6
  refine wpAny_bind (wpAny_bind (wpAny_dictSet_pairs (knd := mixKind X.prog X.w) (k := k) (kV_is rk) dd6 (fun h7 hd7 sb7 => ?_) (Nat.zero_le _)))
  refine wpAny_pure ?_
  dsimp only
  rw [List.forIn_nil]
  refine wpAny_pure (wpAny_pure (wpAny_pure ?_))
  have st0 : stored ([] : List (Key × Value)) k vv = [(k, vv)] := by
    unfold stored
    rw [if_neg (by simp)]
    rfl
  rw [st0] at hd7
  have I7 : Inv X pins σ (upd H6 h'.objs.size (.dK [(k, yv)])) { s6 with heap := h7, toks := s6.toks + 1 } := by
    refine Inv.write (t' := s6.toks + 1) I6 (x := h'.objs.size) (e := h'.objs.size) (by rw [ec]; trivial) (.inl rfl) (fun c u hc e => (sb7.2 c hc).trans e) ?_ ⟨by show 1 ≤ sizeLine; decide, hsm3, [(k, vv)], .cons ⟨rfl, rv⟩ .nil, hd7⟩
    obtain ⟨o, _, _, ho, _⟩ := hd7
    exact ⟨o, ho⟩
  have edd7 : upd H6 h'.objs.size (.dK [(k, yv)]) s.heap.objs.size = some (.dK kvs) := by
    rw [upd_ne hcd.symm]
    exact edd
  obtain ⟨z8, _, vs8, rel8, dd8⟩ := dk_rd I7.hok (.inl edd7)
  have h80 : vs8 ≠ [] := by
    intro z
    subst z
    cases rel8
    exact hk0 rfl
  refine wpAny_bind (wpAny_onRaise (wpAny_holding (merge_one (s := { s6 with heap := h7, toks := s6.toks + 1 }) hd7 dd8 h80 hcd hsm3 (by rw [← rel8.length]; exact z8) fun h9 hd9 sb9 => ?_)))
  refine wpAny_pure (wpAny_pure ?_)
  have I9 : Inv X pins σ (upd (upd H6 h'.objs.size (.dK [(k, yv)])) s.heap.objs.size (.dK (putK kvs k yv))) { s6 with heap := h9, toks := s6.toks + 1 } := by
    refine Inv.write (s := { s6 with heap := h7, toks := s6.toks + 1 }) (t' := s6.toks + 1) I7 (x := s.heap.objs.size) (e := s.heap.objs.size) (by rw [edd7]; trivial) (.inl rfl) (fun c u hc e => (sb9.2 c hc).trans e) ?_ ⟨?_, hsm, _, KV.put rel8 k rv, hd9⟩
    · obtain ⟨o, _, _, ho, _⟩ := hd9
      exact ⟨o, ho⟩
    · have := length_putK kvs k yv
      omega
  exact ⟨.ref s.heap.objs.size, _, I9, rfl, q6⟩
end
end L2.LqX


set_option Elab.async false
set_option linter.all false
set_option maxRecDepth 100000
set_option maxHeartbeats 4000000
namespace L2.LqX
open PySem PySem.Spec PyProof.Rows L2
/-- o.m(k = v, ..), the names in the def's order -/
def tMethK (C : Addr) (m : Str) (n : Nat) (sp : Sp) (E : XK) (ta : TE) (tk : TA) : TE := fun σ H Q => ta σ H fun x H1 => ∃ (a dx : Addr) (fs : List (Str × V)), x = .ref a ∧ H1 a = some (.ins C dx fs) ∧ fs.lookup m = none ∧ tk σ H1 fun zs H2 => zs.length = n ∧ sp (.ref a :: zs) H2 Q E
/-- keywords in the def's order -/
def KwIn (K : PySem.W.Frag) (fd : FuncData) (p : Str) (ks : List Str) : Prop := ∀ (s : Shared) (u : Value) (ws : List Value), K.In s.heap → ws.length = ks.length → BindsTo s fd ⟨[u], ks.zip ws⟩ ((p :: ks).zip (u :: ws))
theorem kw_in {K : PySem.W.Frag} {x qual : Str} {st : Stmt} {f : Addr} {fd : FuncData} {p : Str} {ks : List Str} (F : Fun K x qual st f fd)
    (h : ∀ (kV doc pm : Value) (an : Option Addr) (cdv ct : Value) (u : Value) (ws : List Value), ws.length = ks.length → bindArgs (PySem.W.fnOf x qual (defArgs st) (defBody st) (defScope st) Value.none kV doc pm an cdv ct) ⟨[u], ks.zip ws⟩ = pure ((p :: ks).zip (u :: ws))) : KwIn K fd p ks := by
  intro s u ws _ hl
  obtain ⟨oc, od, kV, doc, pm, an, cdv, ct, osl, rfl, _⟩ := F.ex
  exact BindsTo.of_eq (h kV doc pm an cdv ct u ws hl)
section
variable {X : Cx} {CX : CXT} {k : Nat} {f C : Addr} {fd : FuncData} {p m : Str} {ks : List Str} {sp : Sp} {E : XK} {o : Expr} {ta : TE} {tk : TA} {kws : List Keyword} {apos pos : Pos}
theorem pe_methK {pl : Sem Bool} (he : PE X o ta) (c : Cls X.K C) (hm : Meth X.K C m f) (F : FnOk X.prog X.w X.K X.mg X.base CX k f fd (p :: ks) sp) (hr : Room k X.A) (hb : KwIn X.K fd p ks) (hx : Passes CX X E) (hkw : PK X kws tk)
    (hall : (backToKw pos (keywordEach kws X.env)).all (·.1.isSome) = true := by rfl) (hks : (backToKw pos (keywordEach kws X.env)).filterMap (·.1) = ks := by rfl)
    (hpl : ((backTo pos (starEach [] X.env)).any (·.1) || (backToKw pos (keywordEach kws X.env)).any (·.1.isNone)) = false := by rfl)
    (ht : eval (.Call (.Attribute o m apos) [] kws pos) X.env = (do
      let ov ← eval o X.env
      standAt apos.atName
      let (f, first) ← holding [ov] (getMethod ov m pl)
      callWith pos f first (backTo pos (starEach [] X.env)) (backToKw pos (keywordEach kws X.env))) := by rfl) :
    PE X (.Call (.Attribute o m apos) [] kws pos) (tMethK C m ks.length sp E ta tk) := by
  refine ⟨fun pins s σ H Q I h => ?_⟩
  refine PySem.W.methodCall_KW (pl := pl) (thn (he.run pins s σ H _ I h) fun u s1 ⟨x, H1, I1, rx, a, dx, fs, ex, ea, l, q⟩ => ?_) ht
  subst ex
  obtain rfl : u = Value.ref a := rx
  refine getmeth_ok I1 ea c hm l ?_
  refine PySem.W.callWith_KW0 (first := [.ref a]) (h₀ := X.base) I.ok.mod.kin hm.kp hall ?_ hpl
  refine thn (hkw.run pos pins s1 σ H1 _ I1 q) fun ws s2 ⟨zs, H2, I2, rz, hz, q2⟩ => ⟨I2.kIn, ?_⟩
  rw [hks, List.append_nil]
  have hl : ws.length = ks.length := rz.length.symm.trans hz
  refine wpAny_call (codeAny_mono (F.run X.A X.stack s2 H2 ⟨[.ref a], ks.zip ws⟩ (.ref a :: ws) (.ref a :: zs) Q E hr I2.env0 (hb s2 (.ref a) ws I2.kIn hl) (.cons rfl rz) q2) fun r s' hq => ?_)
  cases r with
  | error e => exact hx pins σ H2 s2 e s' I2 hq
  | ok fl =>
    cases fl with
    | ret u => exact I2.after hq
    | next => exact False.elim hq
    | brk => exact False.elim hq
    | cont => exact False.elim hq
end
end L2.LqX


set_option Elab.async false
set_option linter.all false
set_option maxRecDepth 100000
set_option maxHeartbeats 4000000
/-! o != p by an own __eq__; o == p where p is a text or a list -/
namespace L2.LqX
open PySem PySem.Spec PyProof.Rows L2
section
variable {prog : Program} {w : World} {A : Around} {E : Value → Shared → Prop} {s : Shared} {K : PySem.W.Frag} {x C f : Addr} {ox : Obj} {od : Option Obj} {b tb : Value}
/-- what an own == leaves of a != -/
def NeBack (Q : Value → Shared → Prop) (v : Value) (s' : Shared) : Prop := ∃ t, v = .bool t ∧ Q (.bool (!t)) s'
theorem one_ne {Q : Value → Shared → Prop} (hu : A.in1.units < cLine) (KX : K.In s.heap) (J : PySem.W.InstAt s.heap x ox C od) (hm : PySem.W.mroIn K C (.type "object") = some true) (he : PySem.W.findIn K (.ref C) "__eq__" = some (some (.ref f))) (hf : PySem.W.isFn K (.ref f) = true)
    (h : wpAny (model prog w) A.in1 (call (.ref f) [.ref x, b]) (NeBack Q) E s) : wpAny (model prog w) A (call (.builtin "object.__ne__") [.ref x, b]) Q E s := by
  refine wpAny_call (codeAny_call_builtin PySem.F.cmp_object.ne.plain PySem.F.cmpEntry_ne (PySem.W.check_slot (i := "object.__ne__") (owner := "object") (n := "__ne__") (by decide +kernel) (by decide +kernel) (J.type.andThen (PySem.W.looks_mroIn KX hm)) (PySem.F.cmpArgs_ne _ _) ?_))
  unfold Builtin.«object.__ne__»
  refine wpAny_bind (m := slotArgs "__ne__" 1 _) (wpAny_pure ?_)
  refine wpAny_bind (m := cRoomFor _ _) (wpAny_cRoomFor hu ?_)
  refine wpAny_bind (m := callSpecialIfBound? (.ref x) (Str.ofString "__eq__") _) (PySem.W.ifBound_K KX J he hf (wpAny_mono h (fun r s' hq => ?_) fun _ _ y => y))
  obtain ⟨t, rfl, q⟩ := hq
  exact wpAny_bind (wpAny_truthy_bool (wpAny_pure q))
/-- a built-in slot, found in an own class -/
theorem bound_B {M : Model} {name : Str} {id : String} {args : List Value} {Q : Option Value → Shared → Prop} (KX : K.In s.heap) (J : PySem.W.InstAt s.heap x ox C od) (hs : PySem.W.findIn K (.ref C) name = some (some (.builtin id)))
    (hb : ∀ self, bindSpecial (.builtin id) self = pure (.builtin id, [self])) (h : wpAny M A (call (.builtin id) (.ref x :: args)) (fun v => Q (some v)) E s) : wpAny M A (callSpecialIfBound? (.ref x) name args) Q E s := by
  have last : wpAny M A (call (.builtin id) ([.ref x] ++ args) >>= fun v => pure (some v)) Q E s := wpAny_bind (wpAny_mono h (fun v s' q => wpAny_pure q) fun _ _ q => q)
  simp only [bindSpecialIfBound?, callSpecialIfBound?]
  refine wpAny_holding (wpAny_bind (wpAny_bind (wpAny_bind (J.type.here ((PySem.W.looks_findIn KX hs).here (wpAny_bind (wpAny_askSetting (wpAny_ite ?_))))))))
  split
  · exact wpAny_bind ((PySem.W.Looks.of_pure (hb _)).here (wpAny_pure (by exact last)))
  · exact wpAny_tryCatch (wpAny_bind ((PySem.W.Looks.of_pure (hb _)).here (wpAny_pure (by exact last))))
theorem ne_first {Q : Value → Shared → Prop} (hu : A.units < cLine) (KX : K.In s.heap) (J : PySem.W.InstAt s.heap x ox C od) (hb : PySem.W.Looks (model prog w) s.heap (typeOf b) tb) (hn : PySem.W.notFirst K C tb = true)
    (h : wpAny (model prog w) A (callSpecialIfBound? (.ref x) "__ne__" [b]) (fun r s' => ∃ t, r = some (.bool t) ∧ Q (.bool t) s') E s) : wpAny (model prog w) A (richCompare .NotEq (.ref x) b) Q E s := by
  have one : wpAny (model prog w) A (tryCompare (.ref x) "__ne__" b) (fun r s' => ∃ v, r = some v ∧ Q v s') E s := by
    unfold tryCompare
    refine wpAny_bind (wpAny_mono h (fun r s' ⟨t, er, q⟩ => ?_) fun _ _ e => e)
    subst er
    exact wpAny_pure ⟨_, rfl, q⟩
  unfold richCompare
  simp only [oneThing_ref]
  refine wpAny_holding (wpAny_bind (wpAny_cRoomFor hu (wpAny_bind (J.type.here (wpAny_bind (hb.here ?_))))))
  have go : ∀ {t : Sem (Option Value)} {c : Value → Sem Value} {d : Sem Value}, wpAny (model prog w) A t (fun r s' => ∃ v, r = some v ∧ Q v s') E s → wpAny (model prog w) A (t >>= fun r => match r with | some v => pure v | none => d) Q E s := fun ht =>
    wpAny_bind (wpAny_mono ht (fun r s' ⟨v, er, q⟩ => by subst er; exact wpAny_pure q) fun _ _ e => e)
  split
  · rename_i q
    have e : PySem.W.subIn K tb (.ref C) = some false := by
      rcases Bool.or_eq_true_iff.mp hn with z | z
      · rw [beq_iff_eq.mp z] at q
        simp at q
      · exact beq_iff_eq.mp z
    refine wpAny_bind ((PySem.W.looks_subIn KX e).here ?_)
    rw [if_neg Bool.false_ne_true]
    refine wpAny_bind (wpAny_mono one (fun r s' ⟨v, er, z⟩ => ?_) fun _ _ e => e)
    subst er
    exact wpAny_pure z
  · refine wpAny_bind (wpAny_pure ?_)
    rw [if_neg Bool.false_ne_true]
    refine wpAny_bind (wpAny_mono one (fun r s' ⟨v, er, z⟩ => ?_) fun _ _ e => e)
    subst er
    exact wpAny_pure z
end
section
variable {X : Cx} {CX : CXT} {k : Nat} {g C : Addr} {sp : Sp} {E : XK}
/-- o != p by the own ==, both of one class -/
def rNeO (C : Addr) (sp : Sp) (E : XK) : R2 := fun x y H Q => ∃ (a dx : Addr) (fs : List (Str × V)) (b dy : Addr) (gs : List (Str × V)), x = .ref a ∧ H a = some (.ins C dx fs) ∧ y = .ref b ∧ H b = some (.ins C dy gs) ∧ sp [x, y] H (fun v H' => ∃ t, v = .bl t ∧ Q (.bl (!t)) H') E
theorem op_neO (m : OwnM X.K C "__eq__" g) (hn : PySem.W.findIn X.K (.ref C) "__ne__" = some (some (.builtin "object.__ne__"))) (hm : PySem.W.mroIn X.K C (.type "object") = some true) (F : FnR X.prog X.w X.K X.mg X.base CX k g sp) (hr : Room (k + 1) X.A) (hx : Passes CX X E) : OpR X (compareOp .NotEq) (rNeO C sp E) := by
  intro pins s σ H x y v u Q I rx ry ⟨a, dx, fs, b, dy, gs, ex, e, ey, e2, q⟩
  subst ex ey
  obtain rfl : v = Value.ref a := rx
  obtain rfl : u = Value.ref b := ry
  obtain ⟨ox, od, J⟩ := ins_at I e
  obtain ⟨oy, oe, J2⟩ := ins_at I e2
  unfold compareOp
  refine ne_first hr.units0 I.kIn J J2.type (by unfold PySem.W.notFirst; simp) (bound_B I.kIn J hn (fun self => PySem.F.cmp_object.ne.bind self) ?_)
  refine one_ne hr.in1.units0 I.kIn J hm m.at_ m.fn (wpAny_mono (run_at (us := [.ref a, .ref b]) (vs := [.ref a, .ref b]) F hr.in1 I.env0.in1 hx I (.cons rfl (.cons rfl .nil)) q) (fun v s' hv => ?_) fun _ _ z => z)
  obtain ⟨z, H', I', rz, t, rfl, q'⟩ := hv
  obtain rfl : v = Value.bool t := rz
  exact ⟨t, rfl, _, rfl, .bl (!t), H', I', rfl, q'⟩
/-- o == p by the own ==, p a text or a list -/
def rEqOther (K : PySem.W.Frag) (C : Addr) (sp : Sp) (E : XK) : R2 := fun x y H Q => ∃ (a dx : Addr) (fs : List (Str × V)), x = .ref a ∧ H a = some (.ins C dx fs) ∧ ((∃ z, y = .str z) ∨ ∃ b zs, y = .ref b ∧ SqL K H b zs) ∧ sp [x, y] H (fun v H' => (∃ t, v = .bl t) ∧ Q v H') E
theorem op_eqOther (m : OwnM X.K C "__eq__" g) (F : FnR X.prog X.w X.K X.mg X.base CX k g sp) (hr : Room k X.A) (hx : Passes CX X E) : OpR X (compareOp .Eq) (rEqOther X.K C sp E) := by
  intro pins s σ H x y v u Q I rx ry ⟨a, dx, fs, ex, e, hy, q⟩
  subst ex
  obtain rfl : v = Value.ref a := rx
  obtain ⟨ox, od, J⟩ := ins_at I e
  obtain ⟨m0, F0⟩ := I.fr
  have run := run_at (us := [.ref a, u]) (vs := [.ref a, y]) F hr I.env0 hx I (.cons rfl (.cons ry .nil)) q
  have fin : wpAny (model X.prog X.w) X.A (call (.ref g) [.ref a, u]) (PySem.W.CmpBack (EP X pins σ Q)) X.xe s := by
    refine wpAny_mono run (fun v s' hv => ?_) fun _ _ z => z
    obtain ⟨z, H', I', rz, ⟨t, rfl⟩, q'⟩ := hv
    obtain rfl : v = Value.bool t := rz
    exact ⟨.bl t, H', I', rfl, q'⟩
  unfold compareOp
  rcases hy with ⟨z, rfl⟩ | ⟨b, zs, rfl, hq⟩
  · obtain ⟨t, rfl⟩ : ∃ t, u = .str z t := ry
    exact PySem.W.cmp_K (op := .Eq) (tb := .type "str") (hr.units0) F0 I.mod.kin J (PySem.W.Looks.of_pure rfl) (by rfl) m.at_ m.fn fin
  · obtain rfl : u = Value.ref b := ry
    obtain ⟨its, rv, p, hz⟩ := I.list hq
    obtain ⟨o, ho, hc, _⟩ := p.isList
    refine PySem.W.cmp_K (op := .Eq) (tb := .type "list") (hr.units0) F0 I.mod.kin J ?_ (by rfl) m.at_ m.fn fin
    rw [← hc]
    exact (PySem.W.Looks.ld (part := none) ho).andThen .now
end
end L2.LqX


set_option Elab.async false
set_option linter.all false
set_option maxRecDepth 100000
set_option maxHeartbeats 4000000
/-! a walk over what an own __iter__ gives: iter(a tuple) -/
namespace L2.LqX
open PySem PySem.Spec PyProof.Rows L2 ItX
/-- a tuple's iterator, at place i -/
def ItT (t it : Addr) (i : Nat) : HO := .ext fun h => h.IsTupleIter it t i
theorem itT_ok {P : Program} {w : World} {H : Hp} {h : Heap} {t it : Addr} {i : Nat} (e : h.IsTupleIter it t i) : ObjOk P w H h it (ItT t it i) := by
  refine ⟨e, ?_, fun h1 h2 q k => q.at fun o z => k o z⟩
  obtain ⟨o, q, _⟩ := e
  exact ⟨o, q⟩
section
variable {X : Cx} {pins : List (Addr × Obj)} {σ : L2.St} {H : Hp} {s : Shared}
theorem itT_get {t it : Addr} {i : Nat} (I : Inv X pins σ H s) (e : H it = some (ItT t it i)) : s.heap.IsTupleIter it t i := (I.hok it _ e).1
/-- iter(t) -/
def rIterT (K : PySem.W.Frag) (n : Nat) : List V → Hp → VK → Prop := fun xs H Q => ∃ (t : Addr) (zs : List V), xs = [.ref t] ∧ SqT K H t zs ∧ ∀ it, n ≤ it → H it = none → Q (.ref it) (upd H it (ItT t it 0))
theorem call_iterT : CallR X (.builtin "iter") (rIterT X.K X.s_0.heap.objs.size) := by
  intro pins s σ H xs us Q I r h
  obtain ⟨l, zs, rfl, hq, q⟩ := h
  obtain ⟨u, rfl, ru⟩ := vals1 r
  cases ru
  obtain ⟨its, rv, p, hz⟩ := I.tuple hq
  refine Calls.call_function_entry (by decide +kernel) (by decide +kernel) PySem.W.kdk_entry_iter (PySem.W.kdk_args_iter _) ?_
  unfold Builtin.«iter»
  refine wpAny_bind (m := someArgs "iter" 1 2 _) (wpAny_of_eq (a := [Value.ref l]) (by first | rfl | kernel_rfl!) ?_)
  show wpAny _ _ (pyIter (.ref l) >>= fun v => ret v) _ _ _
  refine wpAny_bind (wpAny_pyIter_tuple (show s.heap.IsTuple l its.toArray from p) (wpAny_pure ⟨_, rfl, ?_⟩))
  exact ⟨.ref s.heap.objs.size, _, I.laid (t' := s.toks) (fun b u e => Heap.get?_push_of_some _ e) (Nat.le_refl _) (itT_ok ⟨_, Heap.get?_push_size _ rfl, rfl, rfl⟩), rfl, q _ I.sz (I.hok.fresh (Nat.le_refl _))⟩
end
/-- a promise that knows the heap's size at the call -/
abbrev SpN := Nat → List V → Hp → VK → XK → Prop
def FnN (P : Program) (w : World) (K : PySem.W.Frag) (mg : Str → Option Value) (base : Heap) (CX : CXT) (k : Nat) (f : Addr) (sp : SpN) : Prop :=
  ∀ (A : Around) (outer : List Env) (s : Shared) (H : Hp) (us : List Value) (vs : List V) (Q : VK) (E : XK), Room k A → Env0 P w K mg base A outer s H → Vals vs us → sp s.heap.objs.size vs H Q E →
    codeAny (model P w) A (.call (.ref f) ⟨us, []⟩) (CR CX outer P w H s Q E) s
section
variable {P : Program} {w : World} {K : PySem.W.Frag} {mg : Str → Option Value} {base : Heap}
theorem fnN {CX : CXT} {k : Nat} {x qual : Str} {st : Stmt} {f : Addr} {fd : FuncData} {N ps : List Str} {sp : SpN} (D : Fun K x qual st f fd) (S : FnScope N ps (defScope st)) (bd : Binds K fd ps []) (len : ∀ n vs H Q E, sp n vs H Q E → vs.length = ps.length)
    (walk : ∀ (cdv : Value) (A : Around) (outer : List Env) (s : Shared) (H : Hp) (vs : List V) (Q : VK) (E : XK), Room k (A.deeper (envOfC qual (defScope st) s.heap.objs.size f cdv)) → sp s.heap.objs.size vs H Q E →
      ∃ t, PSs (cxOf CX P w K mg base N qual (defScope st) f cdv A outer s H E) (defBody st) t ∧ t { nx := fun _ H' => Q .non H', rt := Q } (start N vs) H) : FnN P w K mg base CX (k + 1) f sp := by
  intro A outer s H us vs Q E room env rel hs
  have ln := len _ _ _ _ _ hs
  have inK : K.In s.heap := env.mod.kin.keeps fun b o z => (env.bs b o z).1
  have bnd := bd s us inK (by rw [List.append_nil, ← rel.length]; exact ln)
  obtain ⟨oc, od, kV, doc, pm, an, cdv, ct, osl, rfl, at_, code⟩ := D.ex
  rw [List.append_nil] at bnd
  refine codeAny_call_function room.depth (inK _ _ at_) rfl S.co S.gen rfl (PySem.W.codeRec_of inK code) (bnd _ _ _ _ ?_)
  refine wpAny_newFunctionEnv_cells S.kind (fun y hy => ?_) fun env1 e1 s1 entered => ?_
  · rcases S.par y.1 (List.of_mem_zip hy).1 with z | z
    · exact .inl z
    · exact .inr ⟨z, PySem.W.cellsFrom_some _ _ _ (.inl z)⟩
  subst e1
  refine ⟨(env.mod.nolimit.keeps fun b o z => (env.bs b o z).1).keeps entered.toInCall.keep, codeAny_func ?_⟩
  obtain ⟨t, pt, ht⟩ := walk cdv A outer s H vs Q E (room.deeper _) hs
  refine wpAny_mono (pt.run [] s1 (start N vs) H _ (inv_start S room.hd env ln rel entered) ht) (fun fl s' z => ?_) fun _ _ z => z
  match fl, z with
  | .ret u, ⟨v, _, H', J, rv, q⟩ => exact ⟨v, H', J.os, J.bare, J.base, J.hok, rv, q⟩
  | .next, ⟨_, H', J, q⟩ => exact ⟨.non, H', J.os, J.bare, J.base, J.hok, rfl, q⟩
  | .brk, ⟨_, _, _, q⟩ => exact q.elim
  | .cont, ⟨_, _, _, q⟩ => exact q.elim
end
section
variable {X : Cx} {CX : CXT} {k : Nat} {g C : Addr} {sp : SpN} {E : XK} {tg e : Expr} {te : TE}
/-- for x in o: the own __iter__ gives a tuple's iterator; behind it the iterator is forgotten -/
def iOwn (K : PySem.W.Frag) (C : Addr) (sp : SpN) (E : XK) (te : TE) : TI := fun σ H R => te σ H fun x H1 => ∃ (a dx : Addr) (fs : List (Str × V)), x = .ref a ∧ H1 a = some (.ins C dx fs) ∧
  ∀ n, sp n [.ref a] H1 (fun v H2 => ∃ it t, v = .ref it ∧ n ≤ it ∧ H2 it = some (ItT t it 0) ∧ R (Itt K t) (dropH H2 it)) E
theorem pi_own (m : OwnM X.K C "__iter__" g) (F : FnN X.prog X.w X.K X.mg X.base CX k g sp) (hr : Room k X.A) (hx : Passes CX X E) (he : PE X e te) : PI X tg e (iOwn X.K C sp E te) := by
  refine ⟨fun pins s σ H R I h => ?_⟩
  refine thn (he.run pins s σ H _ I h) fun v s1 ⟨x, H1, I1, r1, a, dx, fs, ex, ea, q⟩ => ?_
  subst ex
  obtain rfl : v = Value.ref a := r1
  obtain ⟨ox, od, J⟩ := ins_at I1 ea
  obtain ⟨m0, F0⟩ := I1.fr
  refine PySem.W.owit_iter F0 I1.mod.kin J m.at_ m.fn (wpAny_call (codeAny_mono (F X.A X.stack s1 H1 [.ref a] [.ref a] _ E hr I1.env0 (.cons rfl .nil) (q _)) fun r s' hq => ?_))
  cases r with
  | error z => exact hx pins σ H1 s1 z s' I1 hq
  | ok fl =>
    cases fl with
    | ret u =>
      obtain ⟨v, H2, I2, rv, it, t, ev, hn, hi, q2⟩ := I1.after hq
      subst ev
      obtain rfl : u = Value.ref it := rv
      have st := itT_get I2 hi
      have hi' := hi
      unfold ItT at hi'
      refine wpAny_specialOf st.typeIs PySem.F.slot_tuple_iterator_next.lookup ?_
      refine ⟨it, [it], _, _, dropH H2 it, rfl, inv_drop I2 hi', turn_tuple t it, st, fun b hb => ?_, q2⟩
      have z : b = it := by simpa using hb
      rw [z]
      exact inv_fp I2 hi (Nat.le_trans I1.sz hn)
    | next => exact False.elim hq
    | brk => exact False.elim hq
    | cont => exact False.elim hq
/-- list(o) -/
def rListT (K : PySem.W.Frag) (C : Addr) (sp : SpN) (E : XK) : List V → Hp → VK → Prop := fun xs H Q => ∃ (a dx : Addr) (fs : List (Str × V)), xs = [.ref a] ∧ H a = some (.ins C dx fs) ∧
  ∀ q n, H q = none → sp n [.ref a] (upd H q (.lst [])) (fun v H2 => ∃ it t zs, v = .ref it ∧ n ≤ it ∧ H2 it = some (ItT t it 0) ∧ (∀ H3, SqT K H3 t zs) ∧ H2 a = some (.ins C dx fs) ∧ H2 q = some (.lst []) ∧ zs.length ≤ sizeLine ∧ Q (.ref q) (upd (dropH H2 it) q (.lst zs))) E
theorem tup_loop {pins : List (Addr × Obj)} {σ : L2.St} {A1 : Around} {t it q : Addr} {zs : List V} {Rs : Result → Shared → Prop} (hd : A1.in1.handled = none) (hne : q ≠ it) (hz : zs.length ≤ sizeLine) (hT : ∀ H3, SqT X.K H3 t zs) :
    ∀ (m i : Nat) (H : Hp) (s : Shared), zs.length - i = m → i ≤ zs.length → Inv X pins σ H s → H q = some (.lst (zs.take i)) → FpOk X pins H it → s.heap.IsTupleIter it t i → (∀ s', Inv X pins σ (upd H q (.lst zs)) s' → Rs (.ok (.ret .none)) s') →
      codeAny (model X.prog X.w) A1 (.builtin "list.extend.loop" ⟨[.ref q, .ref it, .none], []⟩) Rs s := by
  intro m
  induction m with
  | zero =>
    intro i H s hm hi I hq hf st fin
    obtain ⟨its, rv, p, _⟩ := I.tuple (hT H)
    obtain ⟨f0, f1, f2, f3, f4, f5⟩ := hf
    have ei : i = zs.length := by omega
    have hl := rv.length
    refine codeAny_builtin PySem.F.entry_extend_loop ?_
    rw [Around.under_plainId PySem.F.plain_extend_loop _]
    show wpAny _ A1.in1 (pyNext (.ref it) >>= fun r => _) _ _ s
    refine wpAny_bind (wpAny_pyNext_tuple_end hd st (show s.heap.IsTuple t its.toArray from p) (by simp; omega) fun h' eb => wpAny_pure (fin _ ?_))
    have J : Inv X pins σ H { s with heap := h' } := I.turned (t' := s.toks) (fun b o hb e => eb b o hb e) f0 f1 f3 f4 f5
    have eH : upd H q (.lst zs) = H := by
      funext b
      by_cases hb : b = q
      · rw [hb, upd_same, hq, ei, List.take_length]
      · rw [upd_ne hb]
    rw [eH]
    exact J
  | succ m ih =>
    intro i H s hm hi I hq hf st fin
    obtain ⟨its, rv, p, _⟩ := I.tuple (hT H)
    obtain ⟨f0, f1, f2, f3, f4, f5⟩ := id hf
    have hlt : i < zs.length := by omega
    have hx : zs[i]? = some zs[i] := List.getElem?_eq_getElem hlt
    obtain ⟨u, hu, ru⟩ := rv.get hx
    refine codeAny_builtin PySem.F.entry_extend_loop ?_
    rw [Around.under_plainId PySem.F.plain_extend_loop _]
    show wpAny _ A1.in1 (pyNext (.ref it) >>= fun r => _) _ _ s
    refine wpAny_bind (wpAny_pyNext_tuple_item st (show s.heap.IsTuple t its.toArray from p) (x := u) (by simpa using hu) fun h' st' sb => ?_)
    have J : Inv X pins σ H { s with heap := h' } := I.turned (t' := s.toks) (fun b o hb e => (sb.2 b hb).trans e) f0 f1 f3 f4 f5
    show wpAny _ A1.in1 (updateSeq q (·.push u) >>= fun _ => _) _ _ _
    obtain ⟨z, its2, k2, r2, hl2, e2⟩ := J.lstM hq
    have hlen : (zs.take i).length = i := by rw [List.length_take]; omega
    have stp : zs.take (i + 1) = zs.take i ++ [zs[i]] := by rw [List.take_succ, hx]; rfl
    refine wpAny_bind (wpAny_updateSeq e2 rfl (wpAny_pure ⟨plainId_quiet PySem.F.plain_extend_loop _, ?_⟩) (by rw [List.size_toArray]; omega) (by show (its2.toArray.push u).size ≤ sizeLine + 1; rw [Array.size_push, List.size_toArray]; omega))
    have J2 := J.lset (f := (·.push u)) (its' := its2 ++ [u]) (ys := zs.take (i + 1)) (t' := s.toks) hq e2 (by simp) (by rw [stp]; exact r2.append (.cons ru .nil)) (by rw [List.length_take]; omega)
    refine ih (i + 1) _ _ (by omega) hlt J2 upd_same ⟨by rw [upd_ne (Ne.symm hne)]; exact f0, f1, f2, f3, f4, f5⟩ (st'.at fun o e => ?_) fun s' I' => fin s' (by rw [upd_upd] at I'; exact I')
    exact (Heap.get?_update_other _ _ hne).trans e
end
end L2.LqX


set_option Elab.async false
set_option linter.all false
set_option maxRecDepth 100000
set_option maxHeartbeats 4000000
/-! list(o), the own __iter__ gives a tuple's iterator -/
namespace L2.LqX
open PySem PySem.Spec PyProof.Rows L2 ItX
/-- a class that tells nothing of a length -/
structure NoLen (K : PySem.W.Frag) (C : Addr) : Prop where
  len : PySem.W.findIn K (.ref C) "__len__" = some none
  hint : PySem.W.findIn K (.ref C) "__length_hint__" = some none
abbrev eList : Obj := { cls := .type "list", data := .seq #[] }
section
variable {X : Cx} {CX : CXT} {k : Nat} {g C : Addr} {sp : SpN} {E : XK}
theorem no_hint {M : Model} {A : Around} {E : Value → Shared → Prop} {s : Shared} {Q : Bool → Shared → Prop} {K : PySem.W.Frag} {a : Addr} {ox : Obj} {od : Option Obj} (N : NoLen K C) (inK : K.In s.heap) (J : PySem.W.InstAt s.heap a ox C od) (q : Q true s) :
    wpAny M A (Builtin.List.listLengthHint (.ref a)) Q E s := by
  unfold Builtin.List.listLengthHint
  refine wpAny_bind (wpAny_bind (J.type.here ((PySem.W.looks_findIn inK N.len).here ?_)))
  refine PySem.W.KFB.if_not rfl (PySem.W.KFB.if_not rfl ?_)
  exact wpAny_bind (wpAny_bind (J.type.here ((PySem.W.looks_findIn inK N.hint).here (wpAny_pure q))))
theorem extend_own {pins : List (Addr × Obj)} {σ : L2.St} {H : Hp} {s : Shared} {A1 : Around} {Rs : Result → Shared → Prop} {a dx q : Addr} {fs : List (Str × V)} {Q : VK} (N : NoLen X.K C) (m : OwnM X.K C "__iter__" g) (F : FnN X.prog X.w X.K X.mg X.base CX k g sp) (hx : Passes CX X E) (room : Room k A1.in1) (frm : A1.in1.frames = X.A.frames)
    (hd : A1.in1.handled = none) (I : Inv X pins σ H s) (ha : H a = some (.ins C dx fs)) (hq : H q = some (.lst []))
    (hs : sp s.heap.objs.size [.ref a] H (fun v H2 => ∃ it t zs, v = .ref it ∧ s.heap.objs.size ≤ it ∧ H2 it = some (ItT t it 0) ∧ (∀ H3, SqT X.K H3 t zs) ∧ H2 a = some (.ins C dx fs) ∧ H2 q = some (.lst []) ∧ zs.length ≤ sizeLine ∧ Q (.ref q) (upd (dropH H2 it) q (.lst zs))) E)
    (fin : ∀ H' s', Inv X pins σ H' s' → Q (.ref q) H' → Rs (.ok (.ret .none)) s') (err : ∀ e s', X.xe e s' → Rs (.error e) s') :
    wpAny (model X.prog X.w) A1.in1 (Builtin.List.listExtendWith (.ref q) (.ref a) .none)
      (fun w s' => match w with | .done f => Rs (.ok f) s' | .again c' => c'.quiet = true ∧ codeAny (model X.prog X.w) A1 c' Rs s') (fun e s' => Rs (.error e) s') s := by
  have hne : q ≠ a := ne_of hq ha (fun z => nomatch z)
  obtain ⟨ox, od, J⟩ := ins_at I ha
  obtain ⟨m0, F0⟩ := I.fr
  unfold Builtin.List.listExtendWith
  refine wpAny_bind (J.type.here ?_)
  simp only [show Builtin.List.listSameRef (.ref q) (.ref a) = false by simp [Builtin.List.listSameRef, hne], show (Value.ref C == Value.type "list") = false from rfl, show (Value.ref C == Value.type "tuple") = false from rfl, Bool.or_false, Bool.false_eq_true, if_false]
  have env : Env0 X.prog X.w X.K X.mg X.base A1.in1 X.stack s H := by
    have z := I.env0
    exact ⟨frm.trans z.frames, z.mod, z.bs, z.bsz, z.funs, z.frf, z.hok, z.bare⟩
  refine wpAny_bind (PySem.W.owit_iter F0 I.ok.mod.kin J m.at_ m.fn (wpAny_call (codeAny_mono (F A1.in1 X.stack s H [.ref a] [.ref a] _ E room env (.cons rfl .nil) hs) fun r s1 hr => ?_)))
  cases r with
  | error z => exact err z s1 (hx pins σ H s z s1 I hr)
  | ok fl =>
    cases fl with
    | next => exact False.elim hr
    | brk => exact False.elim hr
    | cont => exact False.elim hr
    | ret u =>
      obtain ⟨v, H2, os, bare, un, hok, rv, it, t, zs, ev, hn, hi, hT, ha2, hq2, hz, hQ⟩ := hr
      obtain ⟨hh, gg, dd, tk, os'⟩ := s1
      obtain rfl : os' = s.os := os
      have I2 := I.call (h' := hh) (g' := gg) (d' := dd) (t' := tk) (ch := []) un hok bare (fun b z => absurd z (by simp))
      subst ev
      obtain rfl : u = Value.ref it := rv
      have st := itT_get I2 hi
      have hi' := hi
      unfold ItT at hi'
      have I3 := inv_drop I2 hi'
      have fp := inv_fp I2 hi (Nat.le_trans I.sz hn)
      have nqi : q ≠ it := fun z => by
        rw [z, hi] at hq2
        cases hq2
      have nai : a ≠ it := fun z => by
        rw [z, hi] at ha2
        cases ha2
      have hq3 : dropH H2 it q = some (.lst []) := by
        rw [dropH_ne nqi]
        exact hq2
      obtain ⟨oy, oe, J3⟩ := ins_at I3 (show dropH H2 it a = some (.ins C dx fs) by rw [dropH_ne nai]; exact ha2)
      refine wpAny_specialOf st.typeIs PySem.F.slot_tuple_iterator_next.lookup ?_
      refine wpAny_bind (wpAny_holding (no_hint N I3.kIn J3 ?_))
      have go : ∀ s', Inv X pins σ (dropH H2 it) s' → s'.heap.IsTupleIter it t 0 → codeAny (model X.prog X.w) A1 (.builtin "list.extend.loop" ⟨[.ref q, .ref it, .none], []⟩) Rs s' := fun s' J st' =>
        tup_loop hd nqi hz hT zs.length 0 (dropH H2 it) s' rfl (Nat.zero_le _) J (by rw [hq3]; rfl) fp st' fun s'' J' => fin _ s'' J' hQ
      refine wpAny_ite_split (fun _ => ?_) (fun _ => wpAny_pure ⟨plainId_quiet PySem.F.plain_extend_loop _, go _ I3 st⟩)
      refine wpAny_bind (wpAny_rule (wpAny_bind ?_))
      show wpAny _ _ (updateSeq q (·.push .none) >>= fun (_ : Unit) => updateSeq q (·.pop)) _ _ _
      obtain ⟨z4, its4, k4, r4, hl4, e4⟩ := I3.lstM hq3
      cases r4
      refine wpAny_bind (wpAny_updateSeq e4 rfl ?_)
      have I4 := I3.lset (f := (·.push Value.none)) (its' := [Value.none]) (ys := [.non]) (t' := tk) hq3 e4 (by simp) (.cons rfl .nil) (by show 1 ≤ sizeLine; decide)
      obtain ⟨z5, its5, k5, r5, hl5, e5⟩ := I4.lstM upd_same
      obtain ⟨u5, rfl, ru5⟩ := r5.one
      refine wpAny_updateSeq e5 rfl (wpAny_pure ⟨plainId_quiet PySem.F.plain_extend_loop _, ?_⟩) (by show 1 ≤ sizeLine; decide) (by show 0 ≤ sizeLine + 1; exact Nat.zero_le _)
      have I5 := I4.lset (f := (·.pop)) (its := [u5]) (its' := []) (ys := []) (t' := tk) upd_same e5 (by rfl) .nil (Nat.zero_le _)
      rw [upd_upd] at I5
      have same : upd (dropH H2 it) q (.lst []) = dropH H2 it := by
        funext b
        by_cases hb : b = q
        · rw [hb, upd_same, hq3]
        · rw [upd_ne hb]
      rw [same] at I5
      exact go _ I5 (st.at fun o e => (Heap.get?_update_other _ _ nqi).trans ((Heap.get?_update_other _ _ nqi).trans e))
theorem call_listT (N : NoLen X.K C) (m : OwnM X.K C "__iter__" g) (F : FnN X.prog X.w X.K X.mg X.base CX k g sp) (hx : Passes CX X E) (hc : X.calm = true) (hr : Room (k + 2) X.A) : CallR X (.type "list") (rListT X.K C sp E) := by
  intro pins s σ H xs us Q I rv ⟨a, dx, fs, ex, ha, h⟩
  subst ex
  obtain ⟨u, rfl, ru⟩ := rv.one
  cases ru
  have new : H s.heap.objs.size = none := I.hok.fresh (Nat.le_refl _)
  refine callType_codes (Q₁ := fun o s1 => o = .ref s.heap.objs.size ∧ s1 = { s with heap := s.heap.push eList }) PySem.F.called_list (PySem.F.typeCall_list_1 _) PySem.F.entry_list_init (code_list_new _ ⟨rfl, rfl⟩) fun o s1 ⟨eo, es⟩ => ?_
  subst eo es
  have at_ : (s.heap.push eList).get? s.heap.objs.size = some eList := Heap.get?_push_size _ rfl
  have I1 : Inv X pins σ (upd H s.heap.objs.size (.lst [])) { s with heap := s.heap.push eList } := I.lnew (its := []) (t' := s.toks) .nil (Nat.zero_le _)
  refine ⟨⟨_, at_, rfl⟩, PySem.F.args_list_init_2 _ _, ?_⟩
  show wpAny _ _ (Builtin.List.listItems (.ref s.heap.objs.size) >>= fun old => Builtin.List.listUpdate (.ref s.heap.objs.size) (fun _ => #[]) >>= fun _ => letGo old.toList.reverse >>= fun _ => Builtin.List.listExtendWith (.ref s.heap.objs.size) (.ref a) .none) _ _ _
  refine wpAny_bind ?_
  unfold Builtin.List.listItems
  refine wpAny_bind (wpAny_seqItems at_ rfl (wpAny_pure ?_))
  refine wpAny_bind ?_
  show wpAny _ _ (updateSeq s.heap.objs.size (fun _ => #[])) _ _ _
  refine wpAny_updateSeq at_ rfl ?_
  have I2 := I1.lset (f := fun _ => #[]) (its := []) (its' := []) (ys := []) (t' := s.toks) upd_same at_ rfl .nil (Nat.zero_le _)
  rw [upd_upd] at I2
  refine wpAny_bind (wpAny_letGo ?_)
  exact extend_own (A1 := X.A.in1) (Rs := wants (fun r s2 => r = .none ∧ EP X pins σ Q (.ref s.heap.objs.size) s2) X.xe) N m F hx hr.in1.in1 rfl (I.ok.hd hc) I2 (by rw [upd_ne (ne_of_none ha new)]; exact ha) upd_same (h _ _ new)
    (fun H' s' J q => ⟨rfl, .ref s.heap.objs.size, H', J, rfl, q⟩) fun e s' z => z
end
end L2.LqX


set_option Elab.async false
set_option linter.all false
set_option maxRecDepth 100000
set_option maxHeartbeats 4000000
/-! C.m() and C.m(k = v) of a classmethod -/
namespace L2.LqX
open PySem PySem.Spec PyProof.Rows L2 ClX
section
variable {X : Cx} {CX : CXT} {k : Nat} {C p g : Addr} {mc : Value} {m : Str} {sp : Sp} {E : XK} {o : Expr} {ta : TE} {apos pos : Pos} {pl : Sem Bool}
/-- C.m() -/
def tCM0 (C : Addr) (sp : Sp) (E : XK) (ta : TE) : TE := fun σ H Q => ta σ H fun x H1 => x = .ref C ∧ sp [.ref C] H1 Q E
theorem pe_cmeth0 (he : PE X o ta) (r : CRead X.K C mc) (c : CMet X.K C mc m p g) (F : FnR X.prog X.w X.K X.mg X.base CX k g sp) (hr : Room k X.A) (hx : Passes CX X E)
    (ht : eval (.Call (.Attribute o m apos) [] [] pos) X.env = (do
      let ov ← eval o X.env
      standAt apos.atName
      let (f, first) ← holding [ov] (getMethod ov m pl)
      callWith pos f first (backTo pos (starEach [] X.env)) (backToKw pos (keywordEach [] X.env))) := by rfl) :
    PE X (.Call (.Attribute o m apos) [] [] pos) (tCM0 C sp E ta) := by
  refine ⟨fun pins s σ H Q I h => ?_⟩
  refine PySem.W.methodCall_KW (pl := pl) (thn (he.run pins s σ H _ I h) fun u s1 ⟨x, H1, I1, rx, ex, q⟩ => ?_) ht
  subst ex
  obtain rfl : u = Value.ref C := rx
  refine getmethcm_ok I1 r c fun s2 I2 => ?_
  exact PySem.W.callWith_M0 (first := []) ⟨pin_at I2, I2.kIn⟩ c.fi (run_cm (us := []) (vs := []) F hr hx I2 .nil q)
/-- C.m(k = v, ..) -/
def tCMK (C : Addr) (n : Nat) (sp : Sp) (E : XK) (ta : TE) (tk : TA) : TE := fun σ H Q => ta σ H fun x H1 => x = .ref C ∧ tk σ H1 fun zs H2 => zs.length = n ∧ sp (.ref C :: zs) H2 Q E
theorem pe_cmethK {fd : FuncData} {a : Str} {ks : List Str} {kws : List Keyword} {tk : TA} (he : PE X o ta) (r : CRead X.K C mc) (c : CMet X.K C mc m p g) (F : FnOk X.prog X.w X.K X.mg X.base CX k g fd (a :: ks) sp) (hr : Room k X.A) (hb : KwIn X.K fd a ks) (hx : Passes CX X E) (hkw : PK X kws tk)
    (hall : (backToKw pos (keywordEach kws X.env)).all (·.1.isSome) = true := by rfl) (hks : (backToKw pos (keywordEach kws X.env)).filterMap (·.1) = ks := by rfl)
    (hpl : ((backTo pos (starEach [] X.env)).any (·.1) || (backToKw pos (keywordEach kws X.env)).any (·.1.isNone)) = false := by rfl)
    (ht : eval (.Call (.Attribute o m apos) [] kws pos) X.env = (do
      let ov ← eval o X.env
      standAt apos.atName
      let (f, first) ← holding [ov] (getMethod ov m pl)
      callWith pos f first (backTo pos (starEach [] X.env)) (backToKw pos (keywordEach kws X.env))) := by rfl) :
    PE X (.Call (.Attribute o m apos) [] kws pos) (tCMK C ks.length sp E ta tk) := by
  refine ⟨fun pins s σ H Q I h => ?_⟩
  refine PySem.W.methodCall_KW (pl := pl) (thn (he.run pins s σ H _ I h) fun u s1 ⟨x, H1, I1, rx, ex, q⟩ => ?_) ht
  subst ex
  obtain rfl : u = Value.ref C := rx
  refine getmethcm_ok I1 r c fun s2 I2 => ?_
  refine PySem.W.callWith_of (P := PySem.W.MethP X.K _ g (.ref C)) hpl (PySem.W.keeps_M c.fi) (evalArgs_kw2_nil hall ?_)
  refine thn (hkw.run pos _ s2 σ H1 _ I2 q) fun ws s3 ⟨zs, H2, I3, rz, hz, q2⟩ => ⟨⟨pin_at I3, I3.kIn⟩, ?_⟩
  rw [hks]
  have hl : ws.length = ks.length := rz.length.symm.trans hz
  refine thn (Q := EP X ((s1.heap.objs.size, PySem.W.methodObj (.ref g) (.ref C)) :: pins) σ Q) (wpAny_call (PySem.W.method_call (pin_at I3) (codeAny_mono (F.run X.A X.stack s3 H2 ⟨[.ref C], ks.zip ws⟩ (.ref C :: ws) (.ref C :: zs) Q E hr I3.env0 (hb s3 (.ref C) ws I3.kIn hl) (.cons rfl rz) q2) fun r s' hq => ?_))) fun _ _ y => unpinE y
  cases r with
  | error e => exact hx _ σ H2 s3 e s' I3 hq
  | ok fl =>
    cases fl with
    | ret u => exact I3.after hq
    | next => exact False.elim hq
    | brk => exact False.elim hq
    | cont => exact False.elim hq
end
end L2.LqX


set_option Elab.async false
set_option linter.all false
set_option maxRecDepth 100000
set_option maxHeartbeats 4000000
/-! y = {k: v for x in xs} -/
namespace L2.LqX
open PySem PySem.Spec PyProof.Rows L2
abbrev Blks (X : Cx) (scope : Scope) (R : Cx → Prop) : Prop := ∀ (s : Shared) (H : Hp) (C : Addr) (cl : List (Str × Addr)) (fp : List Addr), R (X.blk s H scope (compEnvC scope cl C X.env) fp)
theorem ps_setDc {X : Cx} {i : Nat} {y : Str} {py : Pos} {kx vx tg iter : Expr} {ifs : List Expr} {scope : Scope} {own : List (Str × Nat)} {pos spos : Pos} {wi : TI} {g : TG} {tt : TT} {tk tv : TE} (hc : X.calm = true) (hN : X.N.Nodup) (hy : X.N[i]? = some y) (hyl : X.env.scope.names.lookup y = some .local)
    (hsw : swapsWith (.DictComp kx vx [⟨tg, iter, ifs, 0⟩] scope pos) (some (.Name y py)) spos.line X.env = pure true) (hi : PI X tg iter wi) (ok : BlkOk X.N X.env.scope scope own)
    (hg : Blks X scope fun Z => PG Z tg g) (ht : Blks X scope fun Z => PTs Z ifs tt) (hk : Blks X scope fun Z => PE Z kx tk) (he : Blks X scope fun Z => PE Z vx tv) (hs : ∀ x, foldedSetIterable iter X.env x = pure x := by intro _; rfl) :
    PS X (.Assign [.Name y py] (.DictComp kx vx [⟨tg, iter, ifs, 0⟩] scope pos) spos) (tAsg (tDc wi g tt tk tv (own.map (·.2))) (gName i)) := by
  refine ⟨fun pins s σ H D I h => ?_⟩
  rw [exec_Assign_Name_used _ _ _ _ hsw]
  refine wpAny_bind (wpAny_standAt (wpAny_bind ?_))
  have h0 : tDc wi g tt tk tv (own.map (·.2)) σ H (fun x H1 => gName i x σ H1 D.nx) := h
  show wpAny _ X.A (comprehension (.DictComp kx vx [⟨tg, iter, ifs, 0⟩] scope pos) scope X.env (firstIterPos [⟨tg, iter, ifs, 0⟩] pos) newDict false (eval iter X.env) (some (assign (.Name y py) X.env)) >>= fun _ => pure PUnit.unit) _ _ s
  refine wpAny_bind (thn (dc_core (Qf := fun _ s' => SP X pins D .next s') hc hN I hi ok hg ht hk he hs h0 fun L C s' m H' I' q hn f => ?_) fun _ s' hq => wpAny_pure (wpAny_pure hq))
  show wpAny _ _ (assign (.Name y py) X.env (.ref L)) _ _ _
  refine wpAny_assign_Name (store_ok2 (v := V.ref L) I' hN hy (.inl hyl) rfl (fun s2 I2 ⟨a, sb, ha⟩ => ?_) (.inr hyl))
  obtain ⟨f0, f1, f2, f3, f4, f5⟩ := f
  have off : C ≠ a := by
    rcases ha with z | z
    · rw [z]
      exact f1
    · exact fun e => f4 y a z e.symm
  exact ⟨m, hn.sameBut sb off, fun h3 sb3 => ⟨_, H', I2.turned (t' := s2.toks) (fun b o hb e => (sb3.2 b hb).trans e) f0 f1 f3 f4 f5, q⟩⟩
theorem sw_dict {kx vx : Expr} {gs : List Comprehension} {scope : Scope} {pos py : Pos} {y : Str} {l : Nat} {env : Env} (hk : env.scope.kind = .function) (hy : env.scope.names.lookup y = some .local) (hl : (py.line == pos.line) = true)
    (ha : (scope.names.any fun (n, k) => n == y && (k == .local || k == .cell)) = false) : swapsWith (.DictComp kx vx gs scope pos) (some (.Name y py)) l env = pure true := by
  have e1 : env.kindOf y = some .local := hy
  have e2 : env.blockKind = .function := by
    unfold Env.blockKind
    rw [hk]
    rfl
  unfold swapsWith
  simp only [e2, e1, ha, Expr.pos, hl]
  rfl
end L2.LqX


set_option Elab.async false
set_option linter.all false
set_option maxRecDepth 100000
set_option maxHeartbeats 4000000
/-! C.m(e, ..) of a classmethod, and C(..), what leaves wished for at the slots -/
namespace L2.LqX
open PySem PySem.Spec PyProof.Rows L2 ClX
section
variable {X : Cx} {CX : CXT} {k : Nat} {C p g : Addr} {mc : Value} {m : Str} {sp : Sp} {E : L2.St → XK} {o e : Expr} {es : List Expr} {ta : TE} {t : TA} {apos pos : Pos} {pl : Sem Bool}
def tCMAt (C : Addr) (sp : Sp) (E : L2.St → XK) (ta : TE) (t : TA) : TE := fun σ H Q => ta σ H fun x H1 => x = .ref C ∧ t σ H1 fun vs H2 => sp (.ref C :: vs) H2 Q (E σ)
theorem pe_cmethAt (he : PE X o ta) (r : CRead X.K C mc) (c : CMet X.K C mc m p g) (F : FnR X.prog X.w X.K X.mg X.base CX k g sp) (hr : Room k X.A) (hx : ∀ σ, PassesAt CX X σ (E σ)) (ha : PA X (e :: es) t)
    (hst : starEach (e :: es) X.env = (false, eval e X.env) :: starEach es X.env := by rfl) (hpl : (backTo pos (starEach es X.env)).any (·.1) = false := by rfl)
    (ht : eval (.Call (.Attribute o m apos) (e :: es) [] pos) X.env = (do
      let ov ← eval o X.env
      standAt apos.atName
      let (f, first) ← holding [ov] (getMethod ov m pl)
      callWith pos f first (backTo pos (starEach (e :: es) X.env)) (backToKw pos (keywordEach [] X.env))) := by rfl) :
    PE X (.Call (.Attribute o m apos) (e :: es) [] pos) (tCMAt C sp E ta t) := by
  refine ⟨fun pins s σ H Q I h => ?_⟩
  refine PySem.W.methodCall_KW (pl := pl) (thn (he.run pins s σ H _ I h) fun u s1 ⟨x, H1, I1, rx, ex, q⟩ => ?_) ht
  subst ex
  obtain rfl : u = Value.ref C := rx
  refine getmethcm_ok I1 r c fun s2 I2 => ?_
  refine callwith_cm I2 (base_none I1 (Nat.le_refl _)) c.fi (thn (ha.run pos _ s2 σ H1 _ I2 q) fun us s3 ⟨vs, H2, I3, rv, q2⟩ => ⟨⟨pin_at I3, I3.kIn⟩, ?_⟩) hst hpl
  refine thn (Q := EP X ((s1.heap.objs.size, PySem.W.methodObj (.ref g) (.ref C)) :: pins) σ Q) (wpAny_call (PySem.W.method_call (pin_at I3) (codeAny_mono (F X.A X.stack s3 H2 (.ref C :: us) (.ref C :: vs) Q (E σ) hr I3.env0 (.cons rfl rv) q2) fun r s' hq => ?_))) fun _ _ y => unpinE y
  cases r with
  | error z => exact hx σ _ H2 s3 z s' I3 hq
  | ok fl =>
    cases fl with
    | ret u => exact I3.after hq
    | next => exact False.elim hq
    | brk => exact False.elim hq
    | cont => exact False.elim hq
end
end L2.LqX


set_option Elab.async false
set_option linter.all false
set_option maxRecDepth 100000
set_option maxHeartbeats 4000000
/-! s[::k] of a text: signs of it, not more of them -/
namespace L2.LqX
open PySem PySem.Spec PyProof.Rows L2
theorem sliceBy_mem {z : Str} {l u : Option (Int × Tok)} {st : Int × Tok} : ∀ c ∈ TL.tl (Txt.sliceBy z l u st), c ∈ TL.tl z := by
  intro c hc
  unfold Txt.sliceBy at hc
  split at hc
  · exact hc
  · have h1 : c ∈ (PySem.slicePicked z l u (some st)).filterMap (z.cps[·]?) := hc
    obtain ⟨i, _, hi⟩ := List.mem_filterMap.mp h1
    exact Array.mem_toList_iff.mpr (Array.mem_of_getElem? hi)
section
variable {X : Cx} {e st : Expr} {te ts : TE} {p2 pos : Pos}
def tStep (te ts : TE) : TE := fun σ H Q => te σ H fun x H1 => ts σ H1 fun y H2 => ∃ (z : Str) (k : Int), x = .str z ∧ y = .int k ∧ k ≠ 0 ∧ z.length ≤ sizeLine ∧ ∀ z' : Str, z'.length ≤ z.length → (∀ c ∈ TL.tl z', c ∈ TL.tl z) → Q (.str z') H2
theorem pe_step (he : PE X e te) (hs : PE X st ts) : PE X (.Subscript e (.Slice none none (some st) p2) pos) (tStep te ts) := by
  refine ⟨fun pins s σ H Q I h => ?_⟩
  refine Subscript_ (thn (he.run pins s σ H _ I h) fun v s1 ⟨x, H1, I1, r1, q1⟩ => ?_)
  refine wpAny_Slice (thn (po_none.run pins s1 σ H1 (fun o H' => o = none ∧ H' = H1) I1 ⟨rfl, rfl⟩) fun vl s2 ⟨o2, H2, I2, pl, eo2, eH2⟩ => thn (po_none.run pins s2 σ H2 (fun o H' => o = none ∧ H' = H2) I2 ⟨rfl, rfl⟩) fun vu s3 ⟨o3, H3, I3, pu, eo3, eH3⟩ => ?_)
  subst eo2 eH2 eo3 eH3
  cases pl
  cases pu
  rw [evalPart_some]
  refine thn (hs.run pins s3 σ _ _ I3 q1) fun vs s4 ⟨y, H4, I4, r4, z, k, ex, ey, hk, hz, q⟩ => ?_
  subst ex ey
  obtain ⟨t, rfl⟩ := r1
  obtain ⟨uk, rfl⟩ := r4
  have hk' : (k == 0) = false := beq_eq_false_iff_ne.mpr hk
  have le := Txt.sliceBy_le z none none (k, uk) hk
  have I5 : Inv X pins σ H4 { s4 with heap := s4.heap.push { cls := .type "slice", data := .fields #[.none, .none, .int k uk] } } := I4.kept (t' := s4.toks) fun b ob q => Heap.get?_push_of_some _ q
  show wpAny (model X.prog X.w) X.A (subscriptTail e (.Slice none none (some st) p2) (.str z t) (.ref s4.heap.objs.size)) (EP X pins σ Q) X.xe { s4 with heap := s4.heap.push { cls := .type "slice", data := .fields #[.none, .none, .int k uk] } }
  refine tail_any (ops := [.ref s4.heap.objs.size, .str z t]) (typeIs_str _ _ _) F.slot_str_getitem.lookup ?_ (by with_unfolding_all rfl)
  refine wpAny_getItem_str_slice (l := none) (u := none) (st := some (k, uk)) ⟨_, Heap.get?_push_size _ rfl, rfl, rfl⟩ hk' (post_val_or_str ⟨Nat.le_trans le hz, fun t' c => ?_⟩)
  exact ⟨.str (Txt.sliceBy z none none (k, uk)), H4, I5.kept (t' := c) fun _ _ z => z, ⟨t', rfl⟩, q _ le sliceBy_mem⟩
end
end L2.LqX


set_option Elab.async false
set_option linter.all false
set_option maxRecDepth 100000
set_option maxHeartbeats 8000000
/-! Books: the two plain defs -/
namespace L2.LqX
open PySem PySem.Spec PyProof.Rows L2
theorem passN {X : Cx} : Passes (L2N.CX X.prog X.w) X E0 := fun _ _ _ _ _ _ _ h => by
  obtain ⟨_, _, _, _, _, _, _, _, _, _, _, _, z⟩ := h
  exact z.elim
section
variable {P : Program} {w : World} {K : PySem.W.Frag} {mg : Str → Option Value} {base : Heap}
/-- a def that may raise, with the context None -/
theorem okN {x qual : Str} {st : Stmt} {f : Addr} {fd : FuncData} {N ps : List Str} {k : Nat} {sp : Sp} (F : Fun K x qual st f fd) (S : FnScope N ps (defScope st)) (len : ∀ vs H Q E, sp vs H Q E → vs.length = ps.length)
    (hbody : ∀ (cdv : Value) (A : Around) (outer : List Env) (s : Shared) (H : Hp) (vs : List V) (Q : VK) (E : XK), Room k (A.deeper (envOfC qual (defScope st) s.heap.objs.size f cdv)) → sp vs H Q E →
      L2N.Takes (cxOf (L2N.CX P w) P w K mg base N qual (defScope st) f cdv A outer s H E) (fun cls d _ H' => E cls d H') →
      ∃ t, PSs (cxOf (L2N.CX P w) P w K mg base N qual (defScope st) f cdv A outer s H E) (defBody st) t ∧ t { nx := fun _ H' => Q .non H', rt := Q } (start N vs) H) : FnOk P w K mg base (L2N.CX P w) (k + 1) f fd ps sp := by
  obtain ⟨oc, od, kV, doc, pm, an, cdv, ct, osl, rfl, lk, hcd⟩ := F.ex
  exact fn_of lk hcd S len fun A outer s H vs Q E hr hsp => hbody cdv A outer s H vs Q E hr hsp (L2N.takes_of rfl rfl rfl rfl)
end
section
variable {X : Cx}
def rInT (K : PySem.W.Frag) (neg : Bool) : R2 := fun x y H Q => ∃ d ds, Dp K H x d ∧ Dp K H y (.tuple ds) ∧ SeqAt.shaped d = true ∧ SeqAt.shaped (.tuple ds) = true ∧ Q (.bl (if neg then !(ds.any fun z => PyData.eqv z d) else ds.any fun z => PyData.eqv z d)) H
theorem op_inT (hu : X.A.units + 65 < cLine) : OpR X (compareOp .In) (rInT X.K false) := by
  intro pins s σ H x y v u Q I rx ry h
  obtain ⟨d, ds, hd, he, sd, se, q⟩ := h
  obtain ⟨as, r1⟩ := Dp.reads I d x v hd rx
  obtain ⟨bs, r2⟩ := Dp.reads I (.tuple ds) y u he ry
  exact SeqAt.in_tuple_reads r2 r1 (SeqAt.canLay_of_shaped se) (SeqAt.canLay_of_shaped sd) (room_in_shaped sd hu) ⟨.bl _, H, I, rfl, q⟩
theorem op_notInT (hu : X.A.units + 65 < cLine) : OpR X (compareOp .NotIn) (rInT X.K true) := by
  intro pins s σ H x y v u Q I rx ry h
  obtain ⟨d, ds, hd, he, sd, se, q⟩ := h
  obtain ⟨as, r1⟩ := Dp.reads I d x v hd rx
  obtain ⟨bs, r2⟩ := Dp.reads I (.tuple ds) y u he ry
  exact SeqAt.notIn_tuple_reads r2 r1 (SeqAt.canLay_of_shaped se) (SeqAt.canLay_of_shaped sd) (room_in_shaped sd hu) ⟨.bl _, H, I, rfl, q⟩
end
end L2.LqX
namespace Lq
open PySem L2 L2.LqX
abbrev sBook : Stmt := topS 9
abbrev sBuilt : Stmt := topS 10
abbrev sUsual : Stmt := topS 11
def looks : List Str := ["walk", "list", "len", "truth", "count", "any", "has", "item", "part"]
def ways3 : List Str := ["keep", "ask", "anew"]
def kept4 : List Str := ["walk", "list", "len", "truth"]
def wayOf (x : Str) : Str := if kept4.contains x then "keep" else "ask"
theorem same_new {H : Hp} {p : Addr} {o : HO} (h : H p = none) : Same H (upd H p o) := fun b u z => by
  rw [upd_ne (ne_of_none z h)]
  exact z
theorem iT {c : Prop} [Decidable c] {A B : Prop} (h : c) (x : A) : if decide c = true then A else B := by
  rw [decide_eq_true h]
  exact x
theorem iF {c : Prop} [Decidable c] {A B : Prop} (h : ¬ c) (x : B) : if decide c = true then A else B := by
  rw [decide_eq_false h]
  exact x
theorem inV_strs (x : Str) (l : List Str) : inV (.str x) (l.map V.str) = l.contains x := by
  induction l with
  | nil => rfl
  | cons y l ih =>
    rw [List.map_cons, List.contains_cons]
    show (eqV (.str y) (.str x) || inV (.str x) (l.map V.str)) = _
    rw [ih]
    congr 1
    show (y == x) = (x == y)
    by_cases e : y = x
    · rw [e]
    · rw [beq_eq_false_iff_ne.mpr e, beq_eq_false_iff_ne.mpr fun z => e z.symm]
def isBu (d : PyData) : Bool := PyData.eqv d (.str "late") || PyData.eqv d (.str "early")
theorem isBu_str (x : Str) : isBu (.str x) = (decide (x = "late") || decide (x = "early")) := rfl
/-- the promise of is_built -/
def spBuilt (K : PySem.W.Frag) : Sp := fun vs H Q _ => ∃ (v : V) (d : PyData), vs = [v] ∧ Dp K H v d ∧ SeqAt.shaped d = true ∧ Q (.bl (isBu d)) H
/-- the promise of usual_way -/
def spUsual : Sp := fun vs H Q _ => ∃ x : Str, vs = [.str x] ∧ ∀ H', Same H H' → Q (.str (wayOf x)) H'
section
variable {P : Program} {w : World} {K : PySem.W.Frag} {mg : Str → Option Value} {base : Heap}
theorem scBuilt : FnScope ["thing"] ["thing"] (defScope sBuilt) := ⟨rfl, rfl, rfl, by decide +kernel, rfl, by decide +kernel, by decide +kernel⟩
theorem ok_built {f : Addr} {fd : FuncData} (F : Fun K "is_built" "is_built" sBuilt f fd) : FnOk P w K mg base CX0 1 f fd ["thing"] (spBuilt K) := by
  refine F.ok scBuilt (fun vs H Q E h => ?_) (fun cdv A outer s H vs Q E hr h => ?_)
  · obtain ⟨_, _, rfl, _⟩ := h
    rfl
  · obtain ⟨v, d, rfl, hd, sd, k⟩ := h
    have hu64 : (A.deeper (PyProof.Rows.envOfC "is_built" (defScope sBuilt) s.heap.objs.size f cdv)).units + 64 < cLine := by have := hr.un; omega
    refine ⟨_, pss_one (ps_ret (pe_or (pe_cmpR (op_eqD hu64) (pv 0) pe_str (nomark _)) (pe_one (pe_cmpR (op_eqD hu64) (pv 0) pe_str (nomark _))))), ?_⟩
    refine ⟨_, rfl, d, .str "late", hd, .str _, sd, by decide +kernel, _, rfl, ite2 (fun h => ?_) (fun h => ?_)⟩
    · unfold isBu at k
      rw [h, Bool.true_or] at k
      exact k
    · unfold isBu at k
      rw [Bool.eq_false_iff.mpr h, Bool.false_or] at k
      exact ⟨_, rfl, d, .str "early", hd, .str _, sd, by decide +kernel, k⟩
theorem scUsual : FnScope ["look"] ["look"] (defScope sUsual) := ⟨rfl, rfl, rfl, by decide +kernel, rfl, by decide +kernel, by decide +kernel⟩
theorem ok_usual {f : Addr} {fd : FuncData} (F : Fun K "usual_way" "usual_way" sUsual f fd) : FnOk P w K mg base CX0 1 f fd ["look"] spUsual := by
  refine F.ok scUsual (fun vs H Q E h => ?_) (fun cdv A outer s H vs Q E hr h => ?_)
  · obtain ⟨x, rfl, _⟩ := h
    rfl
  · obtain ⟨x, rfl, k⟩ := h
    refine ⟨_, pss_one (ps_ret (pe_ifExp (pt_cmpR op_in_seq (pv 0) (pe_tup (pa_cons pe_str (pa_cons pe_str (pa_cons pe_str (pa_cons pe_str pa_nil))))) (by rfl)) pe_str pe_str)), ?_⟩
    refine ⟨_, rfl, (by show 4 ≤ sizeLine; decide), fun p np => ⟨p, kept4.map V.str, rfl, .inr (.inl (.inl upd_same)), rfl, rfl, _, rfl, ?_⟩⟩
    have k' := k _ (same_new (o := .tup (kept4.map V.str)) np)
    rw [show (if false = true then !inV (.str x) (kept4.map V.str) else inV (.str x) (kept4.map V.str)) = kept4.contains x from inV_strs x kept4]
    unfold wayOf at k'
    refine ite2 (fun h => ?_) (fun h => ?_)
    · rw [if_pos h] at k'
      exact k'
    · rw [if_neg h] at k'
      exact k' 
end
end Lq


set_option Elab.async false
set_option linter.all false
set_option maxRecDepth 100000
set_option maxHeartbeats 8000000
/-! Book.__init__ -/
namespace Lq
open PySem L2 L2.LqX PyProof.Rows
/-- an error with one field, as it is made -/
structure ErF (P : Program) (w : World) (K : PySem.W.Frag) (mg : Str → Option Value) (base : Heap) (nm fld : Str) (c : Addr) : Prop where
  g : mg nm = some (.ref c)
  xf : XfC K c
  nf : PySem.W.findIn K (.ref c) fld = some none
  ex : ∃ (B newId initId : String) (bB : List Value) (ps : List Str) (fI : Addr) (fdI : FuncData), ExcBaseFacts B newId initId bB ∧ XC K c B newId ∧ PySem.W.findIn K (.ref c) "__init__" = some (some (.ref fI)) ∧
    PySem.W.typeIn K (.ref fI) = some (.type "function") ∧ FnOk P w K mg base CX0 6 fI fdI ps (spInit K c fld 4) ∧ Binds K fdI ps []
theorem pmk_er {X : Cx} (K0 : PySem.W.Frag) (eK : K0 = X.K) {c : Addr} {nm fld : Str} {e : Expr} {es : List Expr} {ta : TA} {p pos : Pos} (M : ErF X.prog X.w X.K X.mg X.base nm fld c) (hr : Room 7 X.A) (hg : Gl X nm) (ha : PA X (e :: es) ta)
    (hdb : (nm == ("__debug__" : Str)) = false := by decide) (he : starEach (e :: es) X.env = (false, eval e X.env) :: starEach es X.env := by rfl) (hpl : (backTo pos (starEach es X.env)).any (·.1) = false := by rfl) : L2N.PMk X (.Call (.Name nm p) (e :: es) [] pos) (tMkO c (spInit K0 c fld 4) [] ta) := by
  subst eK
  obtain ⟨B, newId, initId, bB, ps, fI, fdI, FB, T, iC, tI, F1, hb⟩ := M.ex
  exact pmk_x FB T iC tI F1 hr hb pass0 hg M.g ha hdb he hpl
/-- what the class Book must have -/
structure BkF (K : PySem.W.Frag) (mg : Str → Option Value) (C aL aW : Addr) (mc : Value) : Prop where
  gB : mg "Book" = some (.ref C)
  rd : ClX.CRead K C mc
  vL : ClX.CVal K C mc "LOOKS" (.ref aL) (.ref aL)
  vW : ClX.CVal K C mc "WAYS" (.ref aW) (.ref aW)
  tL : ∀ H, SqT K H aL (looks.map V.str)
  tW : ∀ H, SqT K H aW (ways3.map V.str)
  cl : Cls K C
  nB : NoAttr K C "built"
  nO : NoAttr K C "order"
  nC : NoAttr K C "chosen"
  ca : PySem.W.findIn K (.ref C) "__class__" = some (some (.builtin "object.__class__"))
  cg : PySem.W.specialIn K (.builtin "object.__class__") "__get__" = some (some (.builtin "getset_descriptor.__get__"))
  ct : PySem.W.takesIn K (.builtin "object.__class__") = some true
  cm : PySem.W.mroIn K C (.type "object") = some true
  ck : PySem.W.kitOne K (.ref C) (.ref C) = some true
def waysD : List PyData := ways3.map PyData.str
/-- what stands for a look -/
def wy (kvs : List (Str × V)) (l : Str) : Str := match valV (kKey kvs) (Sum.inr l) with
  | some (.str z) => z
  | _ => wayOf l
/-- no way, or one of the three -/
def OkW (o : Option V) : Prop := o = none ∨ ∃ z, z ∈ ways3 ∧ o = some (.str z)
def bkF (b : Str) (aL d : Addr) : List (Str × V) := [("built", .str b), ("order", .ref aL), ("chosen", .ref d)]
def chosen (f : Str → Str) : List (Str × V) := looks.map fun l => (l, .str (f l))
/-- data that are none of some -/
structure NotOf (K : PySem.W.Frag) (H : Hp) (v : V) (d : PyData) (ds : List PyData) : Prop where
  at_ : Dp K H v d
  sh : SeqAt.shaped d = true
  dp : d.depth ≤ 4
  st : short 1000 d
  no : (ds.any fun z => PyData.eqv z d) = false
theorem NotOf.same {K : PySem.W.Frag} {H H' : Hp} {v : V} {d : PyData} {ds : List PyData} (h : NotOf K H v d ds) (e : Same H H') : NotOf K H' v d ds := ⟨dp_same e h.at_, h.sh, h.dp, h.st, h.no⟩
/-- an error with the field fl that holds d leaves -/
def Leaves (K : PySem.W.Frag) (c : Addr) (fl : Str) (d : PyData) (H : Hp) (E : XK) : Prop := ∀ (x : Addr) (v' : V) (H' : Hp), Same H H' → H' x = some (.xd [(fl, v')]) → Dp K H' v' d → E (.ref c) (some x) H'
theorem Leaves.same {K : PySem.W.Frag} {c : Addr} {fl : Str} {d : PyData} {H H1 : Hp} {E : XK} (h : Leaves K c fl d H E) (e : Same H H1) : Leaves K c fl d H1 E := fun x v' H' e' => h x v' H' (e.trans e')
def GoodB (b : Str) : Prop := b = "late" ∨ b = "early"
/-- the first keyword that is no look, in ascending order -/
def FirstNo (names : List Str) (x : Str) : Prop := x ∈ names ∧ x ∉ looks ∧ ∀ ys : List Str, ys.Perm names → sortedS ys = true → ∀ (i : Nat) (y : Str), ys[i]? = some y → y ∉ looks → (∀ (j : Nat) (y' : Str), j < i → ys[j]? = some y' → y' ∈ looks) → y = x
/-- __init__(self, built, ways) -/
def spBook (K : PySem.W.Frag) (C aL cBad cNo : Addr) : Sp := fun vs H Q E => ∃ (a dx d0 : Addr) (v0 : V) (dd : PyData) (kvs : List (Str × V)), vs = [.ref a, v0, .ref d0] ∧ NotOf K H v0 dd [] ∧ H a = some (.ins C dx []) ∧ H d0 = some (.dK (kKey kvs)) ∧ kvs.length < 64 ∧
  ((isBu dd = false ∧ Leaves K cBad "thing" dd H E) ∨
   ∃ b, v0 = .str b ∧ dd = .str b ∧ GoodB b ∧ ((∃ x, FirstNo (kvs.map (·.1)) x ∧ Leaves K cNo "look" (.str x) H E) ∨
  ((∀ kv ∈ kvs, kv.1 ∈ looks) ∧ (((∀ l ∈ looks, OkW (valV (kKey kvs) (Sum.inr l))) ∧ ∀ d H', (∀ c o, H c = some o → c ≠ a → H' c = some o) → H' a = some (.ins C dx (bkF b aL d)) → H' d = some (.dK (kKey (chosen (wy kvs)))) → Q .non H') ∨
   ∃ (i : Nat) (l : Str) (v : V) (d : PyData), looks[i]? = some l ∧ (∀ j l', j < i → looks[j]? = some l' → OkW (valV (kKey kvs) (Sum.inr l'))) ∧ valV (kKey kvs) (Sum.inr l) = some v ∧ NotOf K H v d waysD ∧ Leaves K cBad "thing" d H E))))
theorem valV_none {kvs : List (Str × V)} {l : Str} (h : ∀ kv ∈ kvs, kv.1 ≠ l) : valV (kKey kvs) (Sum.inr l) = none := by
  unfold valV
  rw [List.find?_eq_none.mpr]
  · rfl
  · intro kv hkv
    unfold kKey at hkv
    obtain ⟨kv0, m1, rfl⟩ := List.mem_map.mp hkv
    intro z
    exact h kv0 m1 (Sum.inr.inj (of_decide_eq_true z))
theorem looks_nodup : looks.Nodup := by decide +kernel
theorem not_before {i : Nat} {l : Str} (h : looks[i]? = some l) : l ∉ looks.take i := by
  intro hm
  have e : looks = looks.take i ++ looks.drop i := (List.take_append_drop i looks).symm
  have nd := looks_nodup
  rw [e, List.nodup_append] at nd
  refine nd.2.2 l hm l ?_ rfl
  obtain ⟨h1, h2⟩ := List.getElem?_eq_some_iff.mp h
  rw [List.drop_eq_getElem_cons h1, h2]
  exact List.mem_cons_self
theorem put_next {i : Nat} {l : Str} (h : looks[i]? = some l) (g : Str → V) : putK (kKey ((looks.take i).map fun l => (l, g l))) (Sum.inr l) (g l) = kKey ((looks.take (i + 1)).map fun l => (l, g l)) := by
  rw [putK_new _ (valV_none fun kv hkv => ?_)]
  · rw [List.take_succ, h, Option.toList_some, List.map_append]
    unfold kKey
    rw [List.map_append]
    rfl
  · obtain ⟨l', m1, rfl⟩ := List.mem_map.mp hkv
    intro z
    exact not_before h (z ▸ m1)
abbrev sInit : Stmt := inClass sBook 2
theorem scInit : FnScope ["self", "built", "ways", "keyword", "look"] ["self", "built", "ways"] (defScope sInit) := ⟨rfl, rfl, rfl, by decide +kernel, rfl, by decide +kernel, by decide +kernel⟩
theorem kwInit : Kw2 (defArgs sInit) "self" "built" "ways" := ⟨rfl, rfl, rfl, rfl, ⟨_, rfl, rfl⟩, by decide⟩
section
variable {P : Program} {w : World} {K : PySem.W.Frag} {mg : Str → Option Value} {base : Heap}
theorem ok_book {f : Addr} {fd : FuncData} {C aL aW cBad cNo fB fU : Addr} {mc : Value} {fdB fdU : FuncData} (F : FunD K "__init__" "Book.__init__" (defArgs sInit) (defBody sInit) (defScope sInit) [.str "late"] [] f fd) (B : BkF K mg C aL aW mc) (eB : ErF P w K mg base "BadBook" "thing" cBad) (eN : ErF P w K mg base "NoLook" "look" cNo)
    (GB : FnOk P w K mg base CX0 1 fB fdB ["thing"] (spBuilt K)) (bB : Binds K fdB ["thing"] []) (kB : PySem.W.keepIn K (.ref fB) = true) (mB : mg "is_built" = some (.ref fB))
    (GU : FnOk P w K mg base CX0 1 fU fdU ["look"] spUsual) (bU : Binds K fdU ["look"] []) (kU : PySem.W.keepIn K (.ref fU) = true) (mU : mg "usual_way" = some (.ref fU)) (mS : mg "sorted" = none) :
    FnA P w K mg base (L2N.CX P w) 8 f (spKw "self" "built" (.str "late") (spBook K C aL cBad cNo)) := by
  refine fn_two F kwInit scInit cxUpN fun cdv A outer s H vs Q E hr h => ?_
  obtain ⟨a, dx, d0, v0, dd, kvs, rfl, n0, ha, hd0, hk64, h⟩ := h
  have tk : L2N.Takes (cxOf (L2N.CX P w) P w K mg base ["self", "built", "ways", "keyword", "look"] "Book.__init__" (defScope sInit) f cdv A outer s H E) (fun cls d _ H' => E cls d H') := L2N.takes_of rfl rfl rfl rfl
  have hu : (A.deeper (PyProof.Rows.envOfC "Book.__init__" (defScope sInit) s.heap.objs.size f cdv)).units + 65 < cLine := by have := hr.un; omega
  have hu1 : (A.deeper (PyProof.Rows.envOfC "Book.__init__" (defScope sInit) s.heap.objs.size f cdv)).units + 1 < cLine := by omega
  refine ⟨_, pss_cons (ps_if (pt_not (pt_val (pe_call GB (hr.mono (by decide)) (by rfl) mB kB bB .nil pass0 (pa_cons (pv 1) pa_nil)))) (pss_one (L2N.ps_raise rfl tk (pmk_er K rfl eB hr (by rfl) (pa_cons (pv 1) pa_nil)))) pss_nil)
    (pss_cons (ps_for PassesOwn.leaving rfl (pi_list (pe_callB (call_sortedD rfl) (by rfl) mS PyProof.Rows.boot_sorted (pa_cons (pv 2) pa_nil))) (pg_name (i := 3) scInit.nd rfl (Or.inl rfl))
      (pss_one (ps_if (pt_cmpR op_notIn_seq (pv 3) (ClX.pe_cval (pe_glob (v := .ref C) (by rfl) B.gB rfl)) (by rfl)) (pss_one (L2N.ps_raise rfl tk (pmk_er K rfl eN hr (by rfl) (pa_cons (pv 3) pa_nil)))) pss_nil)))
    (pss_cons (ps_for PassesOwn.leaving rfl (pi_tup (ClX.pe_cval (pe_glob (v := .ref C) (by rfl) B.gB rfl))) (pg_name (i := 4) scInit.nd rfl (Or.inl rfl))
      (pss_one (ps_if (PW.pt (pw_and (pt_cmp (pc_din hu1 (pv 4) (pv 2))) (pw_and1 (pt_cmpR (op_notInT hu) (pe_dget hu1 (pv 2) (pv 4) (fun _ _ => rfl)) (ClX.pe_cval (pe_glob (v := .ref C) (by rfl) B.gB rfl)) (by rfl)))))
        (pss_one (L2N.ps_raise rfl tk (pmk_er K rfl eB hr (by rfl) (pa_cons (pe_dget hu1 (pv 2) (pv 4) (fun _ _ => rfl)) pa_nil)))) pss_nil)))
    (pss_cons (ps_fld (pv 0) (pv 1) rfl) (pss_cons (ps_fld (pv 0) (ClX.pe_cval (pe_glob (v := .ref C) (by rfl) B.gB rfl)) rfl) (pss_one (ps_fld (pv 0) (pe_dc (own := [("look", 4)]) (g := gName 4) (tt := tYes) rfl scInit.nd (pi_tup (ClX.pe_cval (pe_glob (v := .ref C) (by rfl) B.gB rfl))) (blkOk_by (own := [("look", 4)]) (N := ["self", "built", "ways", "keyword", "look"]) (sc := defScope sInit) (by decide +kernel))
      (fun _ _ _ _ _ => pg_name scInit.nd rfl (Or.inl rfl)) (fun _ _ _ _ _ => pts_nil) (fun _ _ _ _ _ => pv 4) (fun _ _ _ _ _ => pe_ifExp (pt_cmp (pc_din hu1 (pv 4) (pv 2))) (pe_dget hu1 (pv 2) (pv 4) (fun _ _ => rfl)) (pe_call GU (hr.mono (by decide)) (by rfl) mU kU bU .nil pass0 (pa_cons (pv 4) pa_nil)))) rfl)))))), ?_⟩
  have nd : (kKey kvs).map (·.1) = (kvs.map (·.1)).map Sum.inr := by
    unfold kKey
    rw [List.map_map, List.map_map]
    rfl
  refine ⟨_, rfl, v0, dd, rfl, n0.at_, n0.sh, _, rfl, ?_⟩
  rcases h with ⟨hbu, kl⟩ | ⟨b, ev, ed, hb, h⟩
  · rw [hbu]
    exact raised rfl n0.at_ n0.dp n0.st fun x v' H' e nx l hv => kl x v' H' e l hv
  subst ev ed
  have hbb : isBu (.str b) = true := by
    rcases hb with rfl | rfl <;> decide +kernel
  rw [hbb]
  refine ⟨_, rfl, d0, kKey kvs, kvs.map (·.1), rfl, .inl hd0, nd, by rw [List.length_map]; exact hk64, fun ys p hp hso np => ?_⟩
  have e1 : Same H (upd H p (.lst (ys.map V.str))) := same_new np
  refine ⟨p, rfl, ⟨_, .inl (.inl upd_same)⟩, for_list (xs := ys.map V.str) (fun i σ' H' => ∃ x3 : Option V, σ' = [some (.ref a), some (.str b), some (.ref d0), x3, none] ∧ H' = upd H p (.lst (ys.map V.str)) ∧ ∀ (j : Nat) (y' : Str), j < i → ys[j]? = some y' → y' ∈ looks) ⟨_, rfl, rfl, fun _ _ z => absurd z (Nat.not_lt_zero _)⟩ ?_ ?_ ?_⟩
  · rintro i σ' H' _ ⟨x3, rfl, rfl, _⟩
    exact .inl (.inl upd_same)
  · rintro i x σ' H' hx ⟨x3, rfl, rfl, hpre⟩
    rw [List.getElem?_map] at hx
    obtain ⟨y, hy, rfl⟩ := Option.map_eq_some_iff.mp hx
    refine ⟨_, rfl, C, mc, .ref aL, .ref aL, rfl, B.rd, B.vL, aL, looks.map V.str, rfl, .inr (B.tL _), rfl, rfl, _, rfl, ?_⟩
    by_cases hyl : y ∈ looks
    · rw [show (if true = true then !inV (.str y) (looks.map V.str) else inV (.str y) (looks.map V.str)) = false from by rw [if_pos rfl, inV_strs, List.contains_iff_mem.mpr hyl]; rfl]
      refine ⟨_, rfl, rfl, fun j y' hj hy' => ?_⟩
      by_cases q : j = i
      · rw [q, hy] at hy'
        cases hy'
        exact hyl
      · exact hpre j y' (by omega) hy'
    · rw [show (if true = true then !inV (.str y) (looks.map V.str) else inV (.str y) (looks.map V.str)) = true from by rw [if_pos rfl, inV_strs, Bool.eq_false_iff.mpr fun z => hyl (List.contains_iff_mem.mp z)]; rfl]
      rcases h with ⟨x, hF, kl⟩ | ⟨hks, _⟩
      · have ex : y = x := hF.2.2 ys hp hso i y hy hyl hpre
        subst ex
        exact raised rfl (.str _) (Nat.zero_le _) (by simp [short]) fun x v' H' e nx l hv => kl x v' H' (e1.trans e) l hv
      · exfalso
        apply hyl
        obtain ⟨kv, m1, m2⟩ := List.mem_map.mp (hp.mem_iff.mp (List.mem_of_getElem? hy))
        rw [← m2]
        exact hks kv m1
  · rintro σ' H' ⟨x3, rfl, rfl, hall0⟩
    rcases h with ⟨x, hF, kl⟩ | ⟨hks, h⟩
    · exfalso
      obtain ⟨j, hj⟩ := List.getElem?_of_mem (hp.mem_iff.mpr hF.1)
      have hjl : j < (ys.map V.str).length := by rw [List.length_map]; exact (List.getElem?_eq_some_iff.mp hj).1
      exact hF.2.1 (hall0 j x hjl hj)
    obtain ⟨H1, eH1⟩ : ∃ H1, H1 = upd H p (.lst (ys.map V.str)) := ⟨_, rfl⟩
    rw [← eH1] at e1 ⊢
    have hd1 : H1 d0 = some (.dK (kKey kvs)) := e1 _ _ hd0
    have ha1 : H1 a = some (.ins C dx []) := e1 _ _ ha
    have dW : ∀ H', Dp K H' (.ref aW) (.tuple waysD) := fun H' => .tup (B.tW H') (.cons (.str _) (.cons (.str _) (.cons (.str _) .nil)))
    have no : ∀ v d, Dp K H v d → (waysD.any fun z => PyData.eqv z d) = false → ¬ OkW (some v) := by
      intro v d hd hf z
      rcases z with z | ⟨z, m, e⟩
      · cases z
      · cases e
        cases hd
        have : (waysD.any fun y => PyData.eqv y (.str z)) = true := by
          have mz : z = "keep" ∨ z = "ask" ∨ z = "anew" := by simpa [ways3] using m
          rcases mz with rfl | rfl | rfl <;> decide +kernel
        rw [this] at hf
        cases hf
    refine ⟨C, mc, .ref aL, .ref aL, rfl, B.rd, B.vL, aL, rfl, ⟨_, B.tL _⟩, for_tup (xs := looks.map V.str) (fun i σ' H' => ∃ x4 : Option V, σ' = [some (.ref a), some (.str b), some (.ref d0), x3, x4] ∧ H' = H1 ∧ ∀ j l', j < i → looks[j]? = some l' → OkW (valV (kKey kvs) (Sum.inr l'))) ⟨_, rfl, rfl, fun _ _ z => absurd z (Nat.not_lt_zero _)⟩ ?_ ?_ ?_⟩
    · rintro i σ' H' _ ⟨x4, rfl, rfl, _⟩
      exact B.tL _
    · rintro i x σ' H' hx ⟨x4, rfl, rfl, hok⟩
      rw [List.getElem?_map] at hx
      obtain ⟨l, hl, rfl⟩ := Option.map_eq_some_iff.mp hx
      have nxt : OkW (valV (kKey kvs) (Sum.inr l)) → ∀ j l', j < i + 1 → looks[j]? = some l' → OkW (valV (kKey kvs) (Sum.inr l')) := fun o j l' hj hl' => by
        by_cases e : j = i
        · subst e
          rw [hl] at hl'
          cases hl'
          exact o
        · exact hok j l' (by omega) hl'
      have key : OkW (valV (kKey kvs) (Sum.inr l)) ∨ ∃ v d, valV (kKey kvs) (Sum.inr l) = some v ∧ NotOf K H v d waysD ∧ Leaves K cBad "thing" d H E := by
        rcases h with ⟨hall, _⟩ | ⟨i0, l0, v, d, h1, h2, h3, hN, h9⟩
        · exact .inl (hall l (List.mem_of_getElem? hl))
        · rcases Nat.lt_trichotomy i i0 with z | z | z
          · exact .inl (h2 i l z hl)
          · subst z
            rw [hl] at h1
            cases h1
            exact .inr ⟨v, d, h3, hN, h9⟩
          · have := hok i0 l0 z h1
            rw [h3] at this
            exact absurd this (no v d hN.at_ hN.no)
      rcases key with ok | ⟨v, d, hv, ⟨hd, sd, h6, h7, h8⟩, h9⟩
      · have nx := nxt ok
        rcases ok with hv | ⟨z, mz, hv⟩
        · refine ⟨_, rfl, _, rfl, d0, none, rfl, by rw [← hv]; exact DGet.k (k := Sum.inr l) hd1, _, rfl, ?_⟩
          exact ⟨_, rfl, rfl, nx⟩
        · have dg : DGet H' d0 (kV (Sum.inr l)) (some (.str z)) := by rw [← hv]; exact DGet.k (k := Sum.inr l) hd1
          refine ⟨_, rfl, _, rfl, d0, _, rfl, dg, _, rfl, ?_⟩
          refine ⟨_, rfl, _, rfl, d0, _, rfl, dg, C, mc, .ref aW, .ref aW, rfl, B.rd, B.vW, .str z, waysD, .str _, dW _, ?_, by decide +kernel, _, rfl, ?_⟩
          · have mz' : z = "keep" ∨ z = "ask" ∨ z = "anew" := by simpa [ways3] using mz
            rcases mz' with rfl | rfl | rfl <;> decide +kernel
          · have hin : (waysD.any fun y => PyData.eqv y (.str z)) = true := by
              have mz' : z = "keep" ∨ z = "ask" ∨ z = "anew" := by simpa [ways3] using mz
              rcases mz' with rfl | rfl | rfl <;> decide +kernel
            rw [show (if true = true then !(waysD.any fun y => PyData.eqv y (.str z)) else waysD.any fun y => PyData.eqv y (.str z)) = false from by rw [if_pos rfl, hin]; rfl]
            exact ⟨_, rfl, rfl, nx⟩
      · have dg : DGet H' d0 (kV (Sum.inr l)) (some v) := by rw [← hv]; exact DGet.k (k := Sum.inr l) hd1
        refine ⟨_, rfl, _, rfl, d0, _, rfl, dg, _, rfl, ?_⟩
        refine ⟨_, rfl, _, rfl, d0, _, rfl, dg, C, mc, .ref aW, .ref aW, rfl, B.rd, B.vW, d, waysD, dp_same e1 hd, dW _, sd, by decide +kernel, _, rfl, ?_⟩
        rw [show (if true = true then !(waysD.any fun y => PyData.eqv y d) else waysD.any fun y => PyData.eqv y d) = true from by rw [if_pos rfl, h8]; rfl]
        obtain ⟨v', ev, core⟩ := raised (σ := [some v]) (i := 0) (C := cBad) (f := "thing") (n := 4) (Qx := E) rfl (dp_same e1 hd) h6 h7 fun x v' H' e nx l hv' => h9 x v' H' (e1.trans e) l hv'
        cases ev
        exact ⟨_, rfl, _, rfl, d0, _, rfl, dg, core⟩
    · rintro σ' H' ⟨x4, rfl, rfl, hok⟩
      rcases h with ⟨hall, hq⟩ | ⟨i0, l0, v, d, h1, h2, h3, hN, h9⟩
      rotate_left
      · have hi0 : i0 < 9 := by
          obtain ⟨z, _⟩ := List.getElem?_eq_some_iff.mp h1
          exact z
        have := hok i0 l0 (by rw [List.length_map]; exact hi0) h1
        rw [h3] at this
        exact absurd this (no v d hN.at_ hN.no)
      refine ⟨_, rfl, _, rfl, a, C, dx, _, rfl, ha1, B.cl, B.nB, by decide, ?_⟩
      refine ⟨C, mc, .ref aL, .ref aL, rfl, B.rd, B.vL, _, rfl, a, C, dx, _, rfl, upd_same, B.cl, B.nO, by show 1 < 1000; decide, ?_⟩
      obtain ⟨H2, eH2⟩ : ∃ H2, H2 = upd (upd H' a (HO.ins C dx (putF "built" (V.str b) []))) a (HO.ins C dx (putF "order" (V.ref aL) (putF "built" (V.str b) []))) := ⟨_, rfl⟩
      have k2 : ∀ c o, H' c = some o → c ≠ a → H2 c = some o := fun c o z hc => by
        rw [eH2, upd_ne hc, upd_ne hc]
        exact z
      have a2 : H2 a = some (.ins C dx (putF "order" (V.ref aL) (putF "built" (V.str b) []))) := by
        rw [eH2]
        exact upd_same
      have da : d0 ≠ a := by
        intro z
        rw [z, ha1] at hd1
        cases hd1
      have d2 : H2 d0 = some (.dK (kKey kvs)) := k2 _ _ hd1 da
      rw [← eH2]
      refine ⟨C, mc, .ref aL, .ref aL, rfl, B.rd, B.vL, aL, rfl, ⟨_, B.tL _⟩, fun D nD => dc_tup (xs := looks.map V.str) (fun i H3 => H3 D = some (.dK (kKey ((looks.take i).map fun l => (l, .str (wy kvs l))))) ∧ ∀ c o, H2 c = some o → H3 c = some o) ⟨upd_same, same_new nD⟩ (fun _ _ _ _ => B.tL _) ?_ ?_⟩
      · rintro i x H3 hx ⟨hD, k3⟩
        rw [List.getElem?_map] at hx
        obtain ⟨l, hl, rfl⟩ := Option.map_eq_some_iff.mp hx
        refine ⟨rfl, ?_⟩
        have len : ∀ H5 : Hp, (kKey ((looks.take i).map fun l => (l, V.str (wy kvs l)))).length < sizeLine := fun _ => by
          unfold kKey
          rw [List.length_map, List.length_map, List.length_take]
          have : looks.length = 9 := rfl
          have : 9 < sizeLine := by decide
          omega
        have fin : ∀ (H5 : Hp) (z : Str), Same H3 H5 → wy kvs l = z → ∃ kvs_1 k, V.str l = kV k ∧ H5 D = some (HO.dK kvs_1) ∧ kvs_1.length < sizeLine ∧ (upd H5 D (HO.dK (putK kvs_1 k (.str z)))) D = some (.dK (kKey ((looks.take (i + 1)).map fun l => (l, .str (wy kvs l))))) ∧ ∀ c o, H2 c = some o → (upd H5 D (HO.dK (putK kvs_1 k (.str z)))) c = some o := by
          intro H5 z e5 ez
          refine ⟨_, Sum.inr l, rfl, e5 _ _ hD, len H5, ?_, fun c o q => ?_⟩
          · rw [upd_same, ← ez, put_next hl fun l => V.str (wy kvs l)]
          · rw [upd_ne (ne_of_none q nD)]
            exact e5 _ _ (k3 c o q)
        refine ⟨_, rfl, ?_⟩
        rcases hall l (List.mem_of_getElem? hl) with hv | ⟨z, mz, hv⟩
        · refine ⟨_, rfl, _, rfl, d0, none, rfl, by rw [← hv]; exact DGet.k (k := Sum.inr l) (k3 _ _ d2), _, rfl, ?_⟩
          refine ⟨_, rfl, l, rfl, fun H5 e5 => fin H5 (wayOf l) e5 ?_⟩
          unfold wy
          rw [hv]
        · have dg : DGet H3 d0 (kV (Sum.inr l)) (some (.str z)) := by rw [← hv]; exact DGet.k (k := Sum.inr l) (k3 _ _ d2)
          refine ⟨_, rfl, _, rfl, d0, _, rfl, dg, _, rfl, ?_⟩
          refine ⟨_, rfl, _, rfl, d0, _, rfl, dg, fin H3 z (Same.refl _) ?_⟩
          unfold wy
          rw [hv]
      · rintro H3 ⟨hD, k3⟩
        refine ⟨_, rfl, a, C, dx, _, rfl, k3 _ _ a2, B.cl, B.nC, by show 2 < 1000; decide, ?_⟩
        have Da : D ≠ a := by
          intro z
          rw [z, a2] at nD
          cases nD
        refine hq D _ (fun c o z hc => ?_) upd_same ?_
        · rw [upd_ne hc]
          exact k3 _ _ (k2 _ _ (e1 _ _ z) hc)
        · rw [upd_ne Da, hD]
          rfl
end
end Lq


set_option Elab.async false
set_option linter.all false
set_option maxRecDepth 100000
set_option maxHeartbeats 8000000
/-! Books: made, as text -/
namespace Lq
open PySem L2 L2.LqX
def IsBook (C aL : Addr) (H : Hp) (a : Addr) (b : Str) (f : Str → Str) : Prop := ∃ dx d, H a = some (.ins C dx (bkF b aL d)) ∧ H d = some (.dK (kKey (chosen f)))
theorem IsBook.same {C aL : Addr} {H H' : Hp} {a : Addr} {b : Str} {f : Str → Str} (h : IsBook C aL H a b f) (e : Same H H') : IsBook C aL H' a b f := by
  obtain ⟨dx, d, h1, h2⟩ := h
  exact ⟨dx, d, e _ _ h1, e _ _ h2⟩
theorem val_chosen (f : Str → Str) {l : Str} (h : l ∈ looks) : valV (kKey (chosen f)) (Sum.inr l) = some (.str (f l)) := by
  have e : l = "walk" ∨ l = "list" ∨ l = "len" ∨ l = "truth" ∨ l = "count" ∨ l = "any" ∨ l = "has" ∨ l = "item" ∨ l = "part" := by simpa [looks] using h
  rcases e with rfl | rfl | rfl | rfl | rfl | rfl | rfl | rfl | rfl <;> rfl
theorem dp_strs (K : PySem.W.Frag) (H : Hp) : ∀ l : List Str, DpAll K H (l.map V.str) (l.map PyData.str)
  | [] => .nil
  | _ :: l => .cons (.str _) (dp_strs K H l)
def partOf (f : Str → Str) (l : Str) : Str := l ++ ":" ++ f l
def bookText (b : Str) (f : Str → Str) : Str := Txt.join " " (b :: looks.map (partOf f))
abbrev sStr : Stmt := inClass sBook 9
def GoodF (f : Str → Str) : Prop := ∀ l, l ∈ looks → f l ∈ ways3
theorem emp_app (x : Str) : Str.empty ++ x = x := by
  apply TL.ext_tl
  rw [TL.tl_append]
  rfl
theorem len_way {z : Str} (h : z ∈ ways3) : z.length ≤ 4 := (by decide +kernel : ∀ z ∈ ways3, z.length ≤ 4) z h
theorem len_look {z : Str} (h : z ∈ looks) : z.length ≤ 5 := (by decide +kernel : ∀ z ∈ looks, z.length ≤ 5) z h
theorem len_app (x y : Str) : (x ++ y).length = x.length + y.length := by
  rw [TL.len_tl, TL.len_tl x, TL.len_tl y, TL.tl_append, List.length_append]
theorem len_part {f : Str → Str} (hf : GoodF f) {l : Str} (h : l ∈ looks) : (partOf f l).length ≤ 10 := by
  unfold partOf
  rw [len_app, len_app]
  have h1 := len_look h
  have h2 := len_way (hf l h)
  have h3 : (":" : Str).length = 1 := by decide +kernel
  omega
theorem len_built {b : Str} (h : GoodB b) : b.length ≤ 5 := by
  rcases h with rfl | rfl <;> decide +kernel
def tPart (K : PySem.W.Frag) : TE := fun σ H Q => tJs [tFmt (tVar 1), tC (.str ":"), tFmt (tDGet (tFld K (tVar 0) "chosen") (tVar 1))] Str.empty σ H fun out H1 => Q (.str out) H1
def spStr (C aL : Addr) : Sp := fun vs H Q _ => ∃ (a : Addr) (b : Str) (f : Str → Str), vs = [.ref a] ∧ IsBook C aL H a b f ∧ GoodB b ∧ GoodF f ∧ ∀ H', Same H H' → Q (.str (bookText b f)) H'
section
variable {P : Program} {w : World} {K : PySem.W.Frag} {mg : Str → Option Value} {base : Heap}
theorem scStr : FnScope ["self", "look"] ["self"] (defScope sStr) := ⟨rfl, rfl, rfl, by decide +kernel, rfl, by decide +kernel, by decide +kernel⟩
theorem ok_str {f : Addr} {fd : FuncData} {C aL aW : Addr} {mc : Value} (F : Fun K "__str__" "Book.__str__" sStr f fd) (B : BkF K mg C aL aW mc) : FnOk P w K mg base CX0 1 f fd ["self"] (spStr C aL) := by
  refine F.ok scStr (fun vs H Q E h => ?_) (fun cdv A outer s H vs Q E hr h => ?_)
  · obtain ⟨_, _, _, rfl, _⟩ := h
    rfl
  · obtain ⟨a, b, g, rfl, ⟨dx, d, ha, hd⟩, hb, hg, k⟩ := h
    have hu1 : (A.deeper (PyProof.Rows.envOfC "Book.__str__" (defScope sStr) s.heap.objs.size f cdv)).units + 1 < cLine := by have := hr.un; omega
    refine ⟨_, pss_one (ps_ret (pe_join pe_str (pe_op op_cat (pe_lst (pa_cons (pe_fld (pv 0) rfl) pa_nil)) (pe_lc (own := [("look", 1)]) (g := gName 1) (tt := tYes) (te := tPart K) rfl scStr.nd (pi_tup (ClX.pe_cval (pe_glob (v := .ref C) (by rfl) B.gB rfl))) (blkOk_by (own := [("look", 1)]) (N := ["self", "look"]) (sc := defScope sStr) (by decide +kernel))
      (fun _ _ _ _ _ => pg_name (i := 1) scStr.nd rfl (Or.inl rfl)) (fun _ _ _ _ _ => pts_nil) (fun _ _ _ _ _ => pe_joined (.cons (pe_fmt (pv 1)) (.cons pe_str (.cons (pe_fmt (pe_dget hu1 (pe_fld (pv 0) rfl) (pv 1) (fun _ _ => rfl))) .nil)))))))), ?_⟩
    refine ⟨⟨_, rfl⟩, _, rfl, a, C, dx, _, _, rfl, ha, B.cl, B.nB, rfl, (by show 1 ≤ sizeLine; decide), fun p1 n1 => ?_⟩
    have s1 := same_new (o := .lst [V.str b]) n1
    refine ⟨C, mc, .ref aL, .ref aL, rfl, B.rd, B.vL, aL, rfl, ⟨_, B.tL _⟩, fun D nD => lc_tup (g := gName 1) (tt := tYes) (te := tPart K) (vs := [1]) (xs := looks.map V.str) (fun i H3 => H3 D = some (.lst ((looks.take i).map fun l => .str (partOf g l))) ∧ Same (upd H p1 (.lst [V.str b])) H3) ⟨upd_same, same_new nD⟩ (fun _ _ _ _ => B.tL _) ?_ ?_⟩
    · rintro i x H3 hx ⟨hD, k3⟩
      rw [List.getElem?_map] at hx
      obtain ⟨l, hl, rfl⟩ := Option.map_eq_some_iff.mp hx
      have ml := List.mem_of_getElem? hl
      have l1 := len_look ml
      have l2 := len_way (hg l ml)
      have l3 : (":" : Str).length = 1 := by decide +kernel
      have sl : (100 : Nat) ≤ sizeLine := by decide
      refine ⟨rfl, ?_⟩
      refine ⟨_, rfl, .inl ⟨l, rfl, by omega, l, rfl, by rw [emp_app]; omega, ":", rfl, by rw [emp_app, len_app]; omega, ?_⟩⟩
      have dg : DGet H3 d (kV (Sum.inr l)) (some (.str (g l))) := by
        rw [← val_chosen g ml]
        exact DGet.k (k := Sum.inr l) (k3 _ _ (s1 _ _ hd))
      refine ⟨_, rfl, a, C, dx, _, _, rfl, k3 _ _ (s1 _ _ ha), B.cl, B.nC, rfl, _, rfl, d, _, rfl, dg, .inl ⟨g l, rfl, by omega, g l, rfl, by rw [emp_app, len_app, len_app]; omega, ?_⟩⟩
      refine ⟨_, hD, ?_, ?_, ?_⟩
      · rw [List.length_map, List.length_take]
        have : looks.length = 9 := rfl
        omega
      · rw [upd_same, emp_app, List.take_succ, hl, Option.toList_some, List.map_append]
        rfl
      · intro c o z
        rw [upd_ne (ne_of_none z nD)]
        exact k3 _ _ z
    · rintro H3 ⟨hD, k3⟩
      have hD' : H3 D = some (.lst ((looks.map (partOf g)).map V.str)) := by
        rw [hD, List.map_map]
        rfl
      refine ⟨p1, D, [V.str b], (looks.map (partOf g)).map V.str, rfl, rfl, k3 _ _ upd_same, hD', by show 10 ≤ sizeLine; decide, fun p np => ?_⟩
      refine ⟨" ", p, b :: looks.map (partOf g), rfl, rfl, .inl (.inl (.inl upd_same)), ?_, k _ ((s1.trans k3).trans (same_new np))⟩
      have h1 := len_built hb
      have bd : ∀ l, l ∈ looks → (partOf g l).length ≤ 10 := fun l hl => len_part hg hl
      have b0 := bd "walk" (by decide +kernel)
      have b1 := bd "list" (by decide +kernel)
      have b2 := bd "len" (by decide +kernel)
      have b3 := bd "truth" (by decide +kernel)
      have b4 := bd "count" (by decide +kernel)
      have b5 := bd "any" (by decide +kernel)
      have b6 := bd "has" (by decide +kernel)
      have b7 := bd "item" (by decide +kernel)
      have b8 := bd "part" (by decide +kernel)
      have hs : (" " : Str).length = 1 := by decide +kernel
      show b.length + ((partOf g "walk").length + ((partOf g "list").length + ((partOf g "len").length + ((partOf g "truth").length + ((partOf g "count").length + ((partOf g "any").length + ((partOf g "has").length + ((partOf g "item").length + ((partOf g "part").length + 0))))))))) + 10 * (" " : Str).length ≤ 16777216
      omega
end
/-- what a making of a book comes to -/
def Out (K : PySem.W.Frag) (C aL cBad cNo : Addr) (v0 : V) (dd : PyData) (rest : List (Str × V)) (H : Hp) (Q : VK) (E : XK) : Prop :=
  (isBu dd = false ∧ Leaves K cBad "thing" dd H E) ∨ ∃ b, v0 = .str b ∧ dd = .str b ∧ GoodB b ∧ ((∃ x, FirstNo (rest.map (·.1)) x ∧ Leaves K cNo "look" (.str x) H E) ∨
    ((∀ kv ∈ rest, kv.1 ∈ looks) ∧ (((∀ l ∈ looks, OkW (valV (kKey rest) (Sum.inr l))) ∧ ∀ x H', Same H H' → IsBook C aL H' x b (wy rest) → Q (.ref x) H') ∨
      ∃ (i : Nat) (l : Str) (v : V) (d : PyData), looks[i]? = some l ∧ (∀ j l', j < i → looks[j]? = some l' → OkW (valV (kKey rest) (Sum.inr l'))) ∧ valV (kKey rest) (Sum.inr l) = some v ∧ NotOf K H v d waysD ∧ Leaves K cBad "thing" d H E)))
theorem made {K : PySem.W.Frag} {C aL cBad cNo : Addr} {v0 : V} {dd : PyData} {vs : List V} {pre rest kvs : List (Str × V)} {H : Hp} {Q : VK} {E : XK} (hk : kvs = pre ++ rest) (tw : ∀ x : Addr, TwoV "self" "built" (.str "late") (.ref x) v0 (.ref x :: vs) pre) (n0 : NotOf K H v0 dd []) (hn : ∀ kv ∈ rest, kv.1 ≠ "self" ∧ kv.1 ≠ "built")
    (nd : (rest.map (·.1)).Nodup) (l64 : rest.length < 64) (out : Out K C aL cBad cNo v0 dd rest H Q E) : tMade C (spKw "self" "built" (.str "late") (spBook K C aL cBad cNo)) E vs kvs Q H := by
  intro x dx nx nd' hne
  have s1 : Same H (upd (upd H dx (.own x)) x (.ins C dx [])) := fun c o z => by
    rw [upd_ne (ne_of_none z nx), upd_ne (ne_of_none z nd')]
    exact z
  refine ⟨.ref x, v0, pre, rest, hk, tw x, hn, nd, Nat.le_trans (Nat.le_of_lt l64) (by decide), fun d3 n3 => ?_⟩
  have s2 : Same H (upd (upd (upd H dx (.own x)) x (.ins C dx [])) d3 (.dK (kKey rest))) := s1.trans (same_new n3)
  have hx3 : x ≠ d3 := fun z => by
    rw [← z, upd_same] at n3
    cases n3
  refine ⟨x, dx, d3, v0, dd, rest, rfl, n0.same s2, by rw [upd_ne hx3, upd_same], upd_same, l64, ?_⟩
  rcases out with ⟨h1, h2⟩ | ⟨b, h1, h2, h3, h⟩
  · exact .inl ⟨h1, h2.same s2⟩
  · refine .inr ⟨b, h1, h2, h3, ?_⟩
    rcases h with ⟨y, h4, h5⟩ | ⟨h4, h5⟩
    · exact .inl ⟨y, h4, h5.same s2⟩
    · refine .inr ⟨h4, ?_⟩
      rcases h5 with ⟨h6, h7⟩ | ⟨i, l, v, d, h6, h7, h8, h9, h10⟩
      · exact .inl ⟨h6, fun d H' keep ha hd => ⟨rfl, h7 x H' (fun c o z => keep c o (s2 _ _ z) (ne_of_none z nx)) ⟨dx, d, ha, hd⟩⟩⟩
      · exact .inr ⟨i, l, v, d, h6, h7, h8, h9.same s2, h10.same s2⟩
theorem val_map (G : Str → V) {l : Str} (h : l ∈ looks) : valV (kKey (looks.map fun x => (x, G x))) (Sum.inr l) = some (G l) := by
  have e : l = "walk" ∨ l = "list" ∨ l = "len" ∨ l = "truth" ∨ l = "count" ∨ l = "any" ∨ l = "has" ∨ l = "item" ∨ l = "part" := by simpa [looks] using h
  rcases e with rfl | rfl | rfl | rfl | rfl | rfl | rfl | rfl | rfl <;> rfl
theorem keys_map (G : Str → V) : (looks.map fun x => (x, G x)).map (·.1) = looks := by
  rw [List.map_map]
  exact List.map_id _
theorem not_named {kv : Str × V} {G : Str → V} (h : kv ∈ looks.map fun x => (x, G x)) : kv.1 ≠ "self" ∧ kv.1 ≠ "built" := by
  obtain ⟨x, m, rfl⟩ := List.mem_map.mp h
  exact (by decide +kernel : ∀ x ∈ looks, x ≠ "self" ∧ x ≠ "built") x m
theorem da_str {K : PySem.W.Frag} {H : Hp} {x : Str} (h : PyData.strOk x = true) : NotOf K H (.str x) (.str x) [] := ⟨.str _, by simp [SeqAt.shaped, PyData.canLay0, PyData.depth, h], Nat.zero_le _, by simp [short], rfl⟩
theorem good_ok {b : Str} (hb : GoodB b) : PyData.strOk b = true := by rcases hb with rfl | rfl <;> decide +kernel
theorem made9 {K : PySem.W.Frag} {C aL cBad cNo : Addr} {b : Str} {g : Str → Str} {H : Hp} {Q : VK} {E : XK} (hb : GoodB b) (hg : GoodF g) (k : ∀ x H', Same H H' → IsBook C aL H' x b g → Q (.ref x) H') : tMade C (spKw "self" "built" (.str "late") (spBook K C aL cBad cNo)) E [.str b] (looks.map fun x => (x, .str (g x))) Q H := by
  refine made (pre := []) (rest := looks.map fun x => (x, .str (g x))) rfl (fun x => .pos) (da_str (good_ok hb)) (fun kv hkv => not_named hkv) (by rw [keys_map]; exact looks_nodup) (by show 9 < 64; decide) (.inr ⟨b, rfl, rfl, hb, .inr ⟨fun kv hkv => ?_, .inl ⟨fun l hl => .inr ⟨g l, hg l hl, val_map (fun x => .str (g x)) hl⟩, fun x H' e hB => k x H' e ?_⟩⟩⟩)
  · obtain ⟨y, m, rfl⟩ := List.mem_map.mp hkv
    exact m
  · obtain ⟨dx, d, h1, h2⟩ := hB
    refine ⟨dx, d, h1, ?_⟩
    rw [h2]
    have e : chosen (wy (looks.map fun x => (x, .str (g x)))) = chosen g := by
      unfold chosen
      refine List.map_congr_left fun l hl => ?_
      unfold wy
      rw [val_map (fun x => .str (g x)) hl]
    rw [e]
end Lq


set_option Elab.async false
set_option linter.all false
set_option maxRecDepth 100000
set_option maxHeartbeats 8000000
/-! Texts -/
namespace Lq
open PySem L2 L2.LqX
/-- a book's text -/
def IsB (t : Str) : Prop := ∃ b f, GoodB b ∧ GoodF f ∧ t = bookText b f
def Asc (x : Str) : Prop := ∀ c ∈ TL.tl x, c < 128
theorem asc_ok {x : Str} (h : Asc x) : PyData.strOk x = true := by
  unfold PyData.strOk
  rw [Array.all_eq_true']
  intro c hc
  have := h c (Array.mem_toList_iff.mpr hc)
  exact decide_eq_true (by omega)
theorem asc_app {x y : Str} (hx : Asc x) (hy : Asc y) : Asc (x ++ y) := by
  intro c hc
  rw [TL.tl_append] at hc
  rcases List.mem_append.mp hc with h | h
  · exact hx c h
  · exact hy c h
theorem spl_ne (S : List Nat) : ∀ (l acc : List Nat), TL.spl S 0 acc l ≠ []
  | [], acc => by rw [TL.spl_nil]; simp
  | c :: r, acc => by
    cases h : TL.pre S (c :: r) with
    | true => rw [TL.spl_hit h]; simp
    | false => rw [TL.spl_miss h]; exact spl_ne S r _
theorem pre32 (c : Nat) (r : List Nat) : TL.pre [32] (c :: r) = decide (c = 32) := by
  unfold TL.pre
  show ([c] == [32]) = _
  by_cases h : c = 32
  · rw [h]; rfl
  · rw [decide_eq_false h]
    exact beq_eq_false_iff_ne.mpr (by simpa using h)
theorem joinL_cons (S p : List Nat) : ∀ {r : List (List Nat)}, r ≠ [] → TL.joinL S (p :: r) = p ++ (S ++ TL.joinL S r)
  | [], h => absurd rfl h
  | _ :: _, _ => rfl
theorem join_spl : ∀ (l acc : List Nat), TL.joinL [32] (TL.spl [32] 0 acc l) = acc ++ l
  | [], acc => by rw [TL.spl_nil, List.append_nil]; rfl
  | c :: r, acc => by
    by_cases h : c = 32
    · subst h
      rw [TL.spl_hit (pre32 32 r)]
      show TL.joinL [32] (acc :: TL.spl [32] 0 [] r) = _
      rw [joinL_cons _ _ (spl_ne _ _ _), join_spl r []]
      rfl
    · rw [TL.spl_miss (by rw [pre32]; exact decide_eq_false h), join_spl r (acc ++ [c]), List.append_assoc]
      rfl
theorem spl_free : ∀ (l acc : List Nat), 32 ∉ acc → ∀ p ∈ TL.spl [32] 0 acc l, 32 ∉ p
  | [], acc, ha, p, hp => by
    rw [TL.spl_nil] at hp
    rw [List.mem_singleton.mp hp]
    exact ha
  | c :: r, acc, ha, p, hp => by
    by_cases h : c = 32
    · subst h
      rw [TL.spl_hit (pre32 32 r)] at hp
      have hp : p ∈ acc :: TL.spl [32] 0 [] r := hp
      rcases List.mem_cons.mp hp with rfl | hp
      · exact ha
      · exact spl_free r [] (by simp) p hp
    · rw [TL.spl_miss (by rw [pre32]; exact decide_eq_false h)] at hp
      refine spl_free r (acc ++ [c]) (fun z => ?_) p hp
      rcases List.mem_append.mp z with z | z
      · exact ha z
      · exact h (List.mem_singleton.mp z).symm
theorem tl32 : TL.tl (" " : Str) = [32] := by decide +kernel
theorem tl58 : TL.tl (":" : Str) = [58] := by decide +kernel
theorem split_tl (x : Str) : (Txt.split x " ").map TL.tl = TL.spl [32] 0 [] (TL.tl x) := by
  rw [TL.split_spl x " " (by rw [tl32]; simp) (TL.kind_ok (by decide +kernel)), tl32]
theorem split_ne (x : Str) : Txt.split x " " ≠ [] := fun h => by
  have := split_tl x
  rw [h] at this
  exact spl_ne _ _ _ this.symm
theorem join_split (x : Str) : Txt.join " " (Txt.split x " ") = x := by
  apply TL.ext_tl
  rw [TL.join_eq, TL.tl_join, split_tl, tl32, join_spl]
  rfl
theorem split_free {x p : Str} (h : p ∈ Txt.split x " ") : 32 ∉ TL.tl p :=
  spl_free (TL.tl x) [] (by simp) _ (by rw [← split_tl]; exact List.mem_map.mpr ⟨p, h, rfl⟩)
theorem mem_joinL (S : List Nat) : ∀ {ps : List (List Nat)} {p : List Nat} {c : Nat}, p ∈ ps → c ∈ p → c ∈ TL.joinL S ps
  | [q], p, c, hp, hc => by
    rw [List.mem_singleton.mp hp] at hc
    exact hc
  | q :: r :: t, p, c, hp, hc => by
    rw [joinL_cons S q (by simp)]
    rcases List.mem_cons.mp hp with rfl | hp
    · exact List.mem_append.mpr (.inl hc)
    · exact List.mem_append.mpr (.inr (List.mem_append.mpr (.inr (mem_joinL S hp hc))))
theorem len_joinL' (S : List Nat) : ∀ {ps : List (List Nat)} {p : List Nat}, p ∈ ps → p.length ≤ (TL.joinL S ps).length
  | [q], p, hp => by
    rw [List.mem_singleton.mp hp]
    exact Nat.le_refl _
  | q :: r :: t, p, hp => by
    rw [joinL_cons S q (by simp), List.length_append, List.length_append]
    rcases List.mem_cons.mp hp with rfl | hp
    · omega
    · have := len_joinL' S hp
      omega
theorem split_mem {x p : Str} (h : p ∈ Txt.split x " ") : (∀ c ∈ TL.tl p, c ∈ TL.tl x) ∧ p.length ≤ x.length := by
  have e := join_split x
  have m : TL.tl p ∈ (Txt.split x " ").map TL.tl := List.mem_map.mpr ⟨p, h, rfl⟩
  have ex : TL.tl x = TL.joinL (TL.tl " ") ((Txt.split x " ").map TL.tl) := by rw [← TL.tl_join, ← TL.join_eq, e]
  refine ⟨fun c hc => ?_, ?_⟩
  · rw [ex]
    exact mem_joinL _ m hc
  · rw [TL.len_tl, TL.len_tl x, ex]
    exact len_joinL' _ m
theorem asc_split {x p : Str} (hx : Asc x) (h : p ∈ Txt.split x " ") : Asc p := fun c hc => hx c ((split_mem h).1 c hc)
/-- partition at the first sign -/
theorem part_cases (y : Str) (s : Nat) (ey : TL.tl y = [s]) (x : Str) : (s ∉ TL.tl x ∧ Txt.partition x y = (x, Str.empty, Str.empty)) ∨ ∃ a b, x = a ++ y ++ b ∧ s ∉ TL.tl a ∧ Txt.partition x y = (a, y, b) := by
  by_cases h : s ∈ TL.tl x
  · obtain ⟨p, q, e, hp⟩ := List.eq_append_cons_of_mem h
    refine .inr ⟨⟨p.toArray⟩, ⟨q.toArray⟩, ?_, hp, ?_⟩
    · apply TL.ext_tl
      rw [TL.tl_append, TL.tl_append, ey, e]
      show p ++ s :: q = p ++ [s] ++ q
      rw [List.append_assoc]
      rfl
    · have ex : x = ⟨p.toArray⟩ ++ y ++ ⟨q.toArray⟩ := by
        apply TL.ext_tl
        rw [TL.tl_append, TL.tl_append, ey, e]
        show p ++ s :: q = p ++ [s] ++ q
        rw [List.append_assoc]
        rfl
      rw [ex]
      exact TL.partition_app (s := s) (S := []) ey hp
  · exact .inl ⟨h, TL.partition_none (s := s) (S := []) ey h⟩
theorem join_two (x y : Str) (r : List Str) : Txt.join " " (x :: y :: r) = x ++ " " ++ Txt.join " " (y :: r) := by
  apply TL.ext_tl
  rw [TL.join_eq, TL.join_eq, TL.tl_append, TL.tl_append, TL.tl_join, TL.tl_join]
  show TL.tl x ++ (TL.tl " " ++ TL.joinL (TL.tl " ") ((y :: r).map TL.tl)) = _
  rw [List.append_assoc]
theorem join_one (x : Str) : Txt.join " " [x] = x := by
  rw [TL.join_eq]
  apply TL.ext_tl
  rw [TL.tl_join]
  rfl
theorem app_inj {a b y c d : Str} {s : Nat} (ey : TL.tl y = [s]) (ha : s ∉ TL.tl a) (hc : s ∉ TL.tl c) (h : a ++ y ++ b = c ++ y ++ d) : a = c ∧ b = d := by
  have h1 := TL.partition_app (b := b) (s := s) (S := []) ey ha
  rw [h, TL.partition_app (b := d) (s := s) (S := []) ey hc] at h1
  exact ⟨(congrArg Prod.fst h1).symm, (congrArg (fun z => z.2.2) h1).symm⟩
end Lq


set_option Elab.async false
set_option linter.all false
set_option maxRecDepth 100000
set_option maxHeartbeats 8000000
/-! Book.read of anything -/
namespace L2.LqX
open PySem PySem.Spec PyProof.Rows L2
theorem pgs_star {X : Cx} {e : Expr} {es : List Expr} {p : Pos} {t : TG} {u : TGs} (h1 : PG X e t) (h2 : PGs X es u)
    (hs : (assignEach (.Starred e p :: es) X.env).map (·.2) = assign e X.env :: (assignEach es X.env).map (·.2) := by rfl) : PGs X (.Starred e p :: es) (gCons t u) := by
  refine ⟨fun pins s σ H vs us Q I r h => ?_⟩
  obtain ⟨v, vr, e1, h⟩ := h
  subst e1
  cases r with
  | cons r rr =>
    rw [hs]
    refine assignInOrder_cons (thn (h1.run pins s σ H _ _ _ I r h) fun _ s1 ⟨σ1, H1, I1, q1⟩ => ?_)
    exact h2.run pins s1 σ1 H1 _ _ Q I1 rr q1
end L2.LqX
namespace Lq
open PySem L2 L2.LqX L2H
abbrev sRead : Stmt := inClass sBook 6
theorem no_sp {b : Str} {g : Str → Str} (hb : GoodB b) (hg : GoodF g) : ∀ p ∈ b :: looks.map (partOf g), 32 ∉ TL.tl p := by
  intro p hp
  rcases List.mem_cons.mp hp with rfl | hp
  · rcases hb with rfl | rfl <;> decide +kernel
  · obtain ⟨l, m, rfl⟩ := List.mem_map.mp hp
    unfold partOf
    rw [TL.tl_append, TL.tl_append]
    have h1 := (by decide +kernel : ∀ l ∈ looks, 32 ∉ TL.tl l) l m
    have h2 := (by decide +kernel : ∀ z ∈ ways3, 32 ∉ TL.tl z) _ (hg l m)
    have h3 : 32 ∉ TL.tl (":" : Str) := by decide +kernel
    intro z
    rcases List.mem_append.mp z with z | z
    · rcases List.mem_append.mp z with z | z
      · exact h1 z
      · exact h3 z
    · exact h2 z
theorem split_text {b : Str} {g : Str → Str} (hb : GoodB b) (hg : GoodF g) : Txt.split (bookText b g) " " = b :: looks.map (partOf g) :=
  TL.split_join (s := 32) (S := []) (by decide +kernel) (by decide +kernel) (by simp) (no_sp hb hg)
theorem part_part (g : Str → Str) {l : Str} (m : l ∈ looks) : Txt.partition (partOf g l) ":" = (l, (":" : Str), g l) :=
  TL.partition_app (s := 58) (S := []) (by decide +kernel) ((by decide +kernel : ∀ l ∈ looks, 58 ∉ TL.tl l) l m)
theorem len_joinL (S : List Nat) : ∀ ps : List (List Nat), (TL.joinL S ps).length ≤ (ps.map List.length).sum + ps.length * S.length
  | [] => Nat.zero_le _
  | [p] => by
    show p.length ≤ p.length + 0 + 1 * S.length
    omega
  | p :: q :: r => by
    have ih := len_joinL S (q :: r)
    show (p ++ (S ++ TL.joinL S (q :: r))).length ≤ p.length + ((q :: r).map List.length).sum + ((q :: r).length + 1) * S.length
    rw [List.length_append, List.length_append, Nat.add_mul]
    omega
theorem sum_le {α : Type} (F : α → Nat) (n : Nat) : ∀ l : List α, (∀ x ∈ l, F x ≤ n) → (l.map F).sum ≤ l.length * n
  | [], _ => Nat.zero_le _
  | x :: l, h => by
    have ih := sum_le F n l fun y hy => h y (List.mem_cons_of_mem _ hy)
    have h1 := h x List.mem_cons_self
    rw [List.map_cons, List.sum_cons, List.length_cons, Nat.add_mul]
    omega
theorem len_text {b : Str} {g : Str → Str} (hb : GoodB b) (hg : GoodF g) : (bookText b g).length ≤ 1000 := by
  unfold bookText
  rw [TL.len_tl, TL.join_eq, TL.tl_join]
  refine Nat.le_trans (len_joinL _ _) ?_
  rw [List.map_map, List.length_map]
  have h := sum_le (List.length ∘ TL.tl) 10 (b :: looks.map (partOf g)) fun p hp => by
    show (TL.tl p).length ≤ 10
    rw [← TL.len_tl]
    rcases List.mem_cons.mp hp with rfl | hp
    · have := len_built hb
      omega
    · obtain ⟨l, m, rfl⟩ := List.mem_map.mp hp
      exact len_part hg m
  have hl : (b :: looks.map (partOf g)).length = 10 := rfl
  have hs : (TL.tl (" " : Str)).length = 1 := by decide +kernel
  rw [hl] at h ⊢
  rw [hs]
  omega
/-- nine ways -/
structure Ways9 (ws : List Str) : Prop where
  len : ws.length = 9
  ok : ∀ z, z ∈ ws → z ∈ ways3
/-- a list of ways as a function of looks -/
def fOf (ws : List Str) : Str → Str := fun l => ((looks.zip ws).lookup l).getD "keep"
theorem fOf_at {ws : List Str} (h : ws.length = 9) {i : Nat} {l z : Str} (hl : looks[i]? = some l) (hz : ws[i]? = some z) : fOf ws l = z := by
  match ws, h with
  | [w0, w1, w2, w3, w4, w5, w6, w7, w8], _ =>
    match i, hl, hz with
    | 0, hl, hz => cases hl; cases hz; rfl
    | 1, hl, hz => cases hl; cases hz; rfl
    | 2, hl, hz => cases hl; cases hz; rfl
    | 3, hl, hz => cases hl; cases hz; rfl
    | 4, hl, hz => cases hl; cases hz; rfl
    | 5, hl, hz => cases hl; cases hz; rfl
    | 6, hl, hz => cases hl; cases hz; rfl
    | 7, hl, hz => cases hl; cases hz; rfl
    | 8, hl, hz => cases hl; cases hz; rfl
    | n + 9, hl, _ => cases hl
theorem good_fOf {ws : List Str} (h : Ways9 ws) : GoodF (fOf ws) := by
  intro l hl
  obtain ⟨i, hi⟩ := List.getElem?_of_mem hl
  have hlt : i < 9 := (List.getElem?_eq_some_iff.mp hi).1
  have hz : ws[i]? = some (ws[i]'(by rw [h.len]; exact hlt)) := List.getElem?_eq_getElem _
  rw [fOf_at h.len hi hz]
  exact h.ok _ (List.getElem_mem _)
theorem map_fOf {ws : List Str} (h : ws.length = 9) : looks.map (fOf ws) = ws := by
  match ws, h with
  | [w0, w1, w2, w3, w4, w5, w6, w7, w8], _ => rfl
def spRead (K : PySem.W.Frag) (C aL cBad : Addr) : Sp := fun vs H Q E => ∃ v : V, vs = [.ref C, v] ∧
  ((∃ x, v = .str x ∧ Asc x ∧ x.length ≤ 10000 ∧ (∀ b f, GoodB b → GoodF f → x = bookText b f → ∀ y H', Same H H' → IsBook C aL H' y b f → Q (.ref y) H') ∧ (¬ IsB x → Leaves K cBad "thing" (.str x) H E)) ∨
   ∃ (t : String) (d : PyData), TyX K H v (.type t) ∧ kitB t "str" = some false ∧ NotOf K H v d [] ∧ Leaves K cBad "thing" d H E)
theorem isB_split {x b : Str} {f : Str → Str} (hb : GoodB b) (hf : GoodF f) (e : x = bookText b f) : Txt.split x " " = b :: looks.map (partOf f) := by
  rw [e]
  exact split_text hb hf
/-- the ways of some parts -/
def waysOf (ps : List Str) : List Str := ps.map fun p => (Txt.partition p ":").2.2
section
variable {P : Program} {w : World} {K : PySem.W.Frag} {mg : Str → Option Value} {base : Heap}
abbrev NR : List Str := ["cls", "text", "built", "parts", "ways", "look", "part", "word", "colon", "way"]
theorem scRead : FnScope NR ["cls", "text"] (defScope sRead) := ⟨rfl, rfl, rfl, by decide +kernel, rfl, by decide +kernel, by decide +kernel⟩
theorem ok_read {f fI fB : Addr} {fd fdB : FuncData} {C aL aW cBad cNo : Addr} {mc : Value} (F : Fun K "read" "Book.read" sRead f fd) (B : BkF K mg C aL aW mc) (M : Mk K C fI) (GI : FnA P w K mg base (L2N.CX P w) 8 fI (spKw "self" "built" (.str "late") (spBook K C aL cBad cNo))) (eB : ErF P w K mg base "BadBook" "thing" cBad)
    (GB : FnOk P w K mg base CX0 1 fB fdB ["thing"] (spBuilt K)) (bB : Binds K fdB ["thing"] []) (kB : PySem.W.keepIn K (.ref fB) = true) (mB : mg "is_built" = some (.ref fB)) (hii : mg "isinstance" = none) (hst : mg "str" = none) (hlen : mg "len" = none) (hzip : mg "zip" = none) :
    FnOk P w K mg base (L2N.CX P w) 10 f fd ["cls", "text"] (spRead K C aL cBad) := by
  refine okN F scRead (fun vs H Q E h => ?_) (fun cdv A outer s H vs Q E hr h tk => ?_)
  · obtain ⟨_, rfl, _⟩ := h
    rfl
  obtain ⟨v, rfl, h⟩ := h
  have hu1 : (A.deeper (PyProof.Rows.envOfC "Book.read" (defScope sRead) s.heap.objs.size f cdv)).units + 1 < cLine := by have := hr.un; omega
  refine ⟨_, pss_cons (ps_if (pt_not (pt_val (pe_callB call_isi (by rfl) hii PyProof.Rows.boot_isinstance (pa_cons (pv 1) (pa_cons (pe_bltn (by rfl) hst PyProof.Rows.boot_str (v := .ty "str") rfl) pa_nil))))) (pss_one (L2N.ps_raise rfl tk (pmk_er K rfl eB (hr.mono (by decide)) (by rfl) (pa_cons (pv 1) pa_nil)))) pss_nil)
    (pss_cons (ps_asg (pe_split (pv 1) pe_str) (pg_star (n := 2) (i := 1) rfl (pgs_cons (pg_name (i := 2) scRead.nd rfl (Or.inl rfl)) (pgs_star (pg_name (i := 3) scRead.nd rfl (Or.inl rfl)) pgs_nil)) (by decide)))
    (pss_cons (ps_if (PW.pt (pw_or (pt_not (pt_val (pe_call GB (hr.mono (by decide)) (by rfl) mB kB bB .nil pass0 (pa_cons (pv 2) pa_nil)))) (pw_or1 (pt_cmpR op_ne (pe_callB call_len_seq (by rfl) hlen PySem.boot_len (pa_cons (pv 3) pa_nil)) (pe_callB call_len_seq (by rfl) hlen PySem.boot_len (pa_cons (ClX.pe_cval (pe_glob (v := .ref C) (by rfl) B.gB rfl)) pa_nil)) (nomark _))))) (pss_one (L2N.ps_raise rfl tk (pmk_er K rfl eB (hr.mono (by decide)) (by rfl) (pa_cons (pv 1) pa_nil)))) pss_nil)
    (pss_cons (ps_set (i := 4) scRead.nd rfl (Or.inl rfl) pe_dnewK)
    (pss_cons (ps_for PassesOwn.leaving rfl (pi_z2 (k1 := false) (k2 := true) (by rfl) hzip (pa_cons (ClX.pe_cval (pe_glob (v := .ref C) (by rfl) B.gB rfl)) (pa_cons (pv 3) pa_nil))) (pg_tup rfl (pgs_cons (pg_name (i := 5) scRead.nd rfl (Or.inl rfl)) (pgs_cons (pg_name (i := 6) scRead.nd rfl (Or.inl rfl)) pgs_nil)))
      (pss_cons (ps_asg (pe_partition (pv 6) pe_str) (pg_tup rfl (pgs_cons (pg_name (i := 7) scRead.nd rfl (Or.inl rfl)) (pgs_cons (pg_name (i := 8) scRead.nd rfl (Or.inl rfl)) (pgs_cons (pg_name (i := 9) scRead.nd rfl (Or.inl rfl)) pgs_nil)))))
      (pss_cons (ps_if (PW.pt (pw_or (pt_cmpR op_ne (pv 7) (pv 5) (nomark _)) (pw_or1 (pt_cmpR op_notIn_seq (pv 9) (ClX.pe_cval (pe_glob (v := .ref C) (by rfl) B.gB rfl)) (by rfl))))) (pss_one (L2N.ps_raise rfl tk (pmk_er K rfl eB (hr.mono (by decide)) (by rfl) (pa_cons (pv 1) pa_nil)))) pss_nil)
      (pss_one (ps_dput hu1 (pv 4) (pv 5) (pv 9) rfl)))))
    (pss_one (ps_ret (pe_makeD (E := E0) (pv 0) M GI hr passN (pa_cons (pv 2) pa_nil) (pv 4)))))))), ?_⟩
  rcases h with ⟨x, rfl, hx, hxl, k1, k2⟩ | ⟨t, d, ty, kt, n, kl⟩
  rotate_left
  · refine ⟨_, rfl, v, .ty "str", .type t, .type "str", false, rfl, .ty _, ty, kit_ty kt, _, rfl, ?_⟩
    exact raised rfl n.at_ n.dp n.st fun y v' H' e nx l hv => kl y v' H' e l hv
  have sl : (20000 : Nat) ≤ sizeLine := by decide
  refine ⟨_, rfl, .str _, .ty "str", .type "str", .type "str", true, rfl, .ty _, .base (.str _), kit_ty (by decide +kernel), _, rfl, ?_⟩
  have bad : ∀ {σ : L2.St} {H1 : Hp}, ¬ IsB x → Same H H1 → σ[1]? = some (some (.str x)) → tMkO cBad (spInit K cBad "thing" 4) [] (tCons (tVar 1) tNil) σ H1 E := fun nb e hs =>
    raised hs (.str _) (Nat.zero_le _) (by simp [short]) fun y v' H' e' nx l hv => k2 nb y v' H' (e.trans e') l hv
  obtain ⟨b, ps, esp⟩ : ∃ b ps, Txt.split x " " = b :: ps := by
    cases q : Txt.split x " " with
    | nil => exact absurd q (split_ne x)
    | cons b ps => exact ⟨b, ps, rfl⟩
  have asb : Asc b := asc_split hx (by rw [esp]; exact List.mem_cons_self)
  have lenp : ∀ p ∈ ps, p.length ≤ 10000 := fun p hp => Nat.le_trans (split_mem (by rw [esp]; exact List.mem_cons_of_mem _ hp)).2 hxl
  have noB : ∀ (h : IsB x), ∃ f, GoodB b ∧ GoodF f ∧ ps = looks.map (partOf f) := fun ⟨b', f, hb, hf, e⟩ => by
    have q := isB_split hb hf e
    rw [esp] at q
    injection q with q1 q2
    exact ⟨f, by rw [q1]; exact hb, hf, q2⟩
  refine ⟨_, rfl, ⟨_, rfl⟩, x, " ", rfl, rfl, by decide +kernel, by omega, ?_⟩
  rw [esp]
  intro p1 n1
  have s1 : Same H (upd H p1 (.lst ((b :: ps).map V.str))) := same_new n1
  refine ⟨p1, _, rfl, .inl (.inl upd_same), (by show 2 ≤ ((b :: ps).map V.str).length + 1; rw [List.length_map, List.length_cons]; omega), fun d nd => ⟨_, _, rfl, _, _, rfl, (by show List.drop _ (ps.map V.str) = []; refine List.drop_eq_nil_of_le ?_; rw [List.length_map, List.length_map, List.length_cons]; omega), ?_⟩⟩
  obtain ⟨H2, e2⟩ : ∃ H2, H2 = upd (upd H p1 (.lst ((b :: ps).map V.str))) d (.lst (ps.map V.str)) := ⟨_, rfl⟩
  have s2 : Same H H2 := by
    rw [e2]
    exact s1.trans (same_new nd)
  have d2 : H2 d = some (.lst (ps.map V.str)) := by
    rw [e2]
    exact upd_same
  rw [show upd (upd H p1 (.lst ((b :: ps).map V.str))) d (.lst ((((b :: ps).map V.str).drop 1).take (((b :: ps).map V.str).length + 1 - 2))) = H2 from by
    rw [e2]
    congr 2
    show (ps.map V.str).take _ = _
    rw [List.take_of_length_le]
    rw [List.length_map, List.length_map, List.length_cons]
    omega]
  refine ⟨_, rfl, .str b, .str b, rfl, .str _, (da_str (K := K) (H := H) (asc_ok asb)).sh, _, rfl, ?_⟩
  by_cases hb : GoodB b
  rotate_left
  · rw [show isBu (.str b) = false from by
      rw [isBu_str, decide_eq_false fun z => hb (.inl z), decide_eq_false fun z => hb (.inr z)]
      rfl]
    exact bad (fun h => hb (noB h).choose_spec.1) s2 rfl
  rw [show isBu (.str b) = true from by
    rcases hb with rfl | rfl <;> decide +kernel]
  refine ⟨_, rfl, d, _, rfl, .inl (.inl (.inl d2)), C, mc, .ref aL, .ref aL, rfl, B.rd, B.vL, aL, _, rfl, .inr (B.tL _), rfl, _, rfl, ?_⟩
  by_cases h9 : ps.length = 9
  rotate_left
  · rw [show (!decide (V.int ((ps.map V.str).length : Int) = V.int ((looks.map V.str).length : Int))) = true from by
      rw [decide_eq_false fun z => h9 ?_]
      · rfl
      · have z1 := V.int.inj z
        rw [List.length_map, List.length_map] at z1
        have z2 : looks.length = 9 := rfl
        omega]
    refine bad (fun h => h9 ?_) s2 rfl
    obtain ⟨f, _, _, e⟩ := noB h
    rw [e]
    rfl
  rw [show (!decide (V.int ((ps.map V.str).length : Int) = V.int ((looks.map V.str).length : Int))) = false from by
    rw [List.length_map, h9, decide_eq_true (show V.int ((9 : Nat) : Int) = V.int ((looks.map V.str).length : Int) from rfl)]
    rfl]
  intro p4 n4
  have s4 : Same H2 (upd H2 p4 (.dK [])) := same_new n4
  obtain ⟨g, eg⟩ : ∃ g, g = fOf (waysOf ps) := ⟨_, rfl⟩
  have lw : (waysOf ps).length = 9 := by
    unfold waysOf
    rw [List.length_map]
    exact h9
  have way : ∀ {i : Nat} {l p : Str}, looks[i]? = some l → ps[i]? = some p → (Txt.partition p ":").2.2 = g l := fun hl hp => by
    rw [eg, fOf_at lw hl (z := (Txt.partition _ ":").2.2) (by unfold waysOf; rw [List.getElem?_map, hp]; rfl)]
  refine ⟨C, mc, .ref aL, .ref aL, rfl, B.rd, B.vL, _, rfl, aL, d, looks.map V.str, ps.map V.str, rfl, B.tL _, .inl (.inl (s4 _ _ d2)), for_it (walk_z2 (n := 9) (xs := looks.map V.str) (ys := ps.map V.str) (by rw [List.length_map, List.length_map, h9]; rfl)) (fun i σ' H3 => ∃ x5 x6 x7 x8 x9 : Option V, σ' = [some (.ref C), some (.str x), some (.str b), some (.ref d), some (.ref p4), x5, x6, x7, x8, x9] ∧ H3 p4 = some (.dK (kKey ((looks.take i).map fun l => (l, .str (g l))))) ∧ Same H2 H3 ∧ ∀ j l, j < i → looks[j]? = some l → ps[j]? = some (partOf g l) ∧ g l ∈ ways3) ⟨_, _, _, _, _, rfl, upd_same, s4, fun _ _ z => absurd z (Nat.not_lt_zero _)⟩ ?_ ?_ ?_⟩
  · rintro i σ' H3 _ ⟨_, _, _, _, _, _, _, k3, _⟩
    exact ⟨B.tL _, .inl (.inl (k3 _ _ d2))⟩
  · rintro i v σ' H3 H4 hi ⟨x5, x6, x7, x8, x9, rfl, hD, k3, inv⟩ ⟨T, y, z, rfl, nT, rfl, hy, hz⟩
    have hy : (looks.map V.str)[i]? = some y := hy
    have hz : (ps.map V.str)[i]? = some z := hz
    rw [List.getElem?_map] at hy hz
    obtain ⟨l, hl, rfl⟩ := Option.map_eq_some_iff.mp hy
    obtain ⟨p, hp, rfl⟩ := Option.map_eq_some_iff.mp hz
    have ml := List.mem_of_getElem? hl
    have lp := lenp p (List.mem_of_getElem? hp)
    have s5 : Same H3 (upd H3 T (.tup [.str l, .str p])) := same_new nT
    refine ⟨T, [.str l, .str p], rfl, .inl (.inl upd_same), rfl, _, _, rfl, _, _, rfl, rfl, ?_⟩
    refine ⟨_, rfl, ⟨_, rfl⟩, p, ":", rfl, rfl, by decide +kernel, by omega, fun p6 n6 => ?_⟩
    obtain ⟨wd, cl, wa, epa⟩ : ∃ wd cl wa, Txt.partition p ":" = (wd, cl, wa) := ⟨_, _, _, rfl⟩
    rw [epa]
    have ew : wa = g l := by
      rw [← way hl hp, epa]
    refine ⟨p6, _, rfl, .inl (.inl upd_same), rfl, _, _, rfl, _, _, rfl, _, _, rfl, rfl, ?_⟩
    have s6 : Same H3 (upd (upd H3 T (.tup [.str l, .str p])) p6 (.tup [.str wd, .str cl, .str wa])) := s5.trans (same_new n6)
    have e26 : Same H (upd (upd H3 T (.tup [.str l, .str p])) p6 (.tup [.str wd, .str cl, .str wa])) := (s2.trans k3).trans s6
    -- what a book's text would give
    have isB : IsB x → wd = l ∧ wa ∈ ways3 := fun h => by
      obtain ⟨f', _, hf', e⟩ := noB h
      have e1 : p = partOf f' l := by
        rw [e, List.getElem?_map, hl] at hp
        exact (Option.some.inj hp).symm
      rw [e1, part_part f' ml] at epa
      injection epa with q1 q2
      injection q2 with q2 q3
      exact ⟨q1.symm, by rw [← q3]; exact hf' l ml⟩
    refine ⟨_, rfl, _, rfl, rfl, _, rfl, ?_⟩
    by_cases h1 : wd = l
    rotate_left
    · rw [show (!decide (V.str wd = V.str l)) = true from by rw [decide_eq_false fun q => h1 (V.str.inj q)]; rfl]
      exact bad (fun h => h1 (isB h).1) e26 rfl
    rw [show (!decide (V.str wd = V.str l)) = false from by rw [h1, decide_eq_true rfl]; rfl]
    refine ⟨_, rfl, C, mc, .ref aW, .ref aW, rfl, B.rd, B.vW, aW, ways3.map V.str, rfl, .inr (B.tW _), rfl, rfl, _, rfl, ?_⟩
    by_cases h2 : wa ∈ ways3
    rotate_left
    · rw [show (if true = true then !inV (.str wa) (ways3.map V.str) else inV (.str wa) (ways3.map V.str)) = true from by rw [if_pos rfl, inV_strs, Bool.eq_false_iff.mpr fun q => h2 (List.contains_iff_mem.mp q)]; rfl]
      exact bad (fun h => h2 (isB h).2) e26 rfl
    rw [show (if true = true then !inV (.str wa) (ways3.map V.str) else inV (.str wa) (ways3.map V.str)) = false from by rw [if_pos rfl, inV_strs, List.contains_iff_mem.mpr h2]; rfl]
    have ep : p = partOf g l := by
      rcases part_cases ":" 58 tl58 p with ⟨_, q⟩ | ⟨a', b', q1, _, q2⟩
      · rw [q] at epa
        injection epa with q1 q2
        injection q2 with q2 q3
        rw [← q3] at h2
        exact absurd h2 (by decide +kernel)
      · rw [q2] at epa
        injection epa with q3 q4
        injection q4 with q4 q5
        rw [q1, q3, q5, h1, ew]
        rfl
    refine ⟨_, rfl, _, rfl, _, rfl, p4, _, rfl, DPut.k (k := Sum.inr l) (s6 _ _ hD) ?_, _, _, _, _, _, rfl, ?_, fun c o q => ?_, fun j l' hj hl' => ?_⟩
    · unfold kKey
      rw [List.length_map, List.length_map, List.length_take]
      have : looks.length = 9 := rfl
      omega
    · rw [upd_same, ew, put_next hl fun l => V.str (g l)]
    · rw [upd_ne (ne_of_none q n4)]
      exact s6 _ _ (k3 _ _ q)
    · by_cases q : j = i
      · rw [q, hl] at hl'
        cases hl'
        rw [q]
        exact ⟨by rw [hp, ep], by rw [← ew]; exact h2⟩
      · exact inv j l' (by omega) hl'
  · rintro σ' H3 ⟨x5, x6, x7, x8, x9, rfl, hD, k3, inv⟩
    have hD' : H3 p4 = some (.dK (kKey (looks.map fun l => (l, .str (g l))))) := hD
    have hg : GoodF g := fun l hl => by
      obtain ⟨i, hi⟩ := List.getElem?_of_mem hl
      exact (inv i l (List.getElem?_eq_some_iff.mp hi).1 hi).2
    have eps : ps = looks.map (partOf g) := by
      apply List.ext_getElem?
      intro i
      rw [List.getElem?_map]
      cases hl : looks[i]? with
      | none =>
        have h10 : looks.length ≤ i := List.getElem?_eq_none_iff.mp hl
        rw [List.getElem?_eq_none_iff.mpr (by rw [h9]; exact h10)]
        rfl
      | some l => exact (inv i l (List.getElem?_eq_some_iff.mp hl).1 hl).1
    have ex : x = bookText b g := by
      rw [← join_split x, esp, eps]
      rfl
    refine ⟨_, rfl, rfl, _, rfl, fun d6 n6 => ⟨_, rfl, p4, looks.map fun l => (l, .str (g l)), rfl, same_new n6 _ _ hD', ne_of_none hD' n6, upd_same, ?_⟩⟩
    refine made9 hb hg fun y H' e hB => k1 b g hb hg ex y H' (fun c o z => e _ _ ?_) hB
    have q := k3 _ _ (s2 _ _ z)
    rw [upd_ne (ne_of_none q n6), upd_ne (ne_of_none q n6)]
    exact q
end
end Lq


set_option Elab.async false
set_option linter.all false
set_option maxRecDepth 100000
set_option maxHeartbeats 8000000
/-! _law_is_book -/
namespace Lq
open PySem L2 L2.LqX L2H
theorem part_free {f : Str → Str} (hf : GoodF f) {l : Str} (m : l ∈ looks) : 32 ∉ TL.tl (partOf f l) := by
  unfold partOf
  rw [TL.tl_append, TL.tl_append]
  have h1 := (by decide +kernel : ∀ l ∈ looks, 32 ∉ TL.tl l) l m
  have h2 := (by decide +kernel : ∀ z ∈ ways3, 32 ∉ TL.tl z) _ (hf l m)
  have h3 : 32 ∉ TL.tl (":" : Str) := by decide +kernel
  intro z
  rcases List.mem_append.mp z with z | z
  · rcases List.mem_append.mp z with z | z
    · exact h1 z
    · exact h3 z
  · exact h2 z
/-- what is left of a book's text from the i-th look on -/
def Rest (i : Nat) (y : Str) : Prop := ∃ f, GoodF f ∧ y = Txt.join " " ((looks.drop i).map (partOf f))
theorem looks_last : ∀ i, i < 9 → (looks.drop (i + 1) = [] ↔ looks[i]? = some ("part" : Str)) := by decide +kernel
theorem looks_later : ∀ i, i < 9 → ∀ l, looks[i]? = some l → l ∉ looks.drop (i + 1) := by
  intro i hi l hl
  have h := (by decide +kernel : ∀ i, i < 9 → (looks[i]?.getD "") ∉ looks.drop (i + 1)) i hi
  rw [hl] at h
  exact h
theorem emp_eq : ("" : Str) = Str.empty := rfl
theorem sp_ne : ¬ (" " : Str) = "" := by decide +kernel
theorem mem_sp {a b : Str} : 32 ∈ TL.tl (a ++ " " ++ b) := by
  rw [TL.tl_append, TL.tl_append, tl32]
  simp
theorem rest_step {i : Nat} {l y wd sp bh : Str} (hi : i < 9) (hl : looks[i]? = some l) (e : Txt.partition y " " = (wd, sp, bh)) : Rest i y ↔ ((∃ z, z ∈ ways3 ∧ wd = l ++ ":" ++ z) ∧ (sp = "" ↔ l = "part") ∧ Rest (i + 1) bh) := by
  have ml := List.mem_of_getElem? hl
  have hd : looks.drop i = l :: looks.drop (i + 1) := by
    obtain ⟨h1, h2⟩ := List.getElem?_eq_some_iff.mp hl
    rw [List.drop_eq_getElem_cons h1, h2]
  have last : looks.drop (i + 1) = [] ↔ l = "part" := by
    rw [looks_last i hi, hl]
    exact ⟨fun h => Option.some.inj h, fun h => by rw [h]⟩
  rcases part_cases " " 32 tl32 y with ⟨hn, q⟩ | ⟨a, b, ey, ha, q⟩
  · rw [q] at e
    injection e with e1 e2
    injection e2 with e2 e3
    subst e1 e2 e3
    constructor
    · rintro ⟨f, hf, hy⟩
      rw [hd, List.map_cons] at hy
      have hnil : looks.drop (i + 1) = [] := by
        cases hr : looks.drop (i + 1) with
        | nil => rfl
        | cons l2 r =>
          exfalso
          rw [hr, List.map_cons, join_two] at hy
          apply hn
          rw [hy]
          exact mem_sp
      rw [hnil, List.map_nil, join_one] at hy
      refine ⟨⟨f l, hf l ml, hy⟩, ⟨fun _ => last.mp hnil, fun _ => rfl⟩, f, hf, ?_⟩
      rw [hnil]
      rfl
    · rintro ⟨⟨z, hz, hy⟩, h2, _⟩
      have hnil := last.mpr (h2.mp rfl)
      refine ⟨fun _ => z, fun _ _ => hz, ?_⟩
      rw [hd, hnil, List.map_cons, List.map_nil, join_one, hy]
      rfl
  · rw [q] at e
    injection e with e1 e2
    injection e2 with e2 e3
    subst e1 e2 e3
    constructor
    · rintro ⟨f, hf, hy⟩
      rw [hd, List.map_cons] at hy
      cases hr : looks.drop (i + 1) with
      | nil =>
        exfalso
        rw [hr, List.map_nil, join_one] at hy
        apply part_free hf ml
        rw [← hy, ey]
        exact mem_sp
      | cons l2 r =>
        rw [hr, List.map_cons, join_two] at hy
        rw [ey] at hy
        obtain ⟨h1, h2⟩ := app_inj tl32 ha (part_free hf ml) hy
        refine ⟨⟨f l, hf l ml, h1⟩, ⟨fun z => absurd z sp_ne, fun z => ?_⟩, f, hf, ?_⟩
        · have := last.mpr z
          rw [hr] at this
          cases this
        · rw [h2, hr, List.map_cons]
    · rintro ⟨⟨z, hz, h1⟩, h2, f, hf, h3⟩
      cases hr : looks.drop (i + 1) with
      | nil => exact absurd (h2.mpr (last.mp hr)) sp_ne
      | cons l2 r =>
        have nl := looks_later i hi l hl
        refine ⟨fun x => if x = l then z else f x, fun x hx => ?_, ?_⟩
        · show (if x = l then z else f x) ∈ ways3
          split
          · exact hz
          · exact hf x hx
        · have em : (looks.drop (i + 1)).map (partOf fun x => if x = l then z else f x) = (looks.drop (i + 1)).map (partOf f) := by
            refine List.map_congr_left fun x hx => ?_
            show x ++ ":" ++ (if x = l then z else f x) = x ++ ":" ++ f x
            rw [if_neg (show ¬ x = l from fun q => nl (q ▸ hx))]
          rw [hd, List.map_cons, em, hr, List.map_cons, join_two, ← List.map_cons (f := partOf f), ← hr, ← h3, ey, h1]
          show l ++ ":" ++ z ++ " " ++ _ = l ++ ":" ++ (if l = l then z else f l) ++ " " ++ _
          rw [if_pos rfl]
theorem isB_step {x b sp bh : Str} (e : Txt.partition x " " = (b, sp, bh)) : IsB x ↔ (GoodB b ∧ ¬ sp = "" ∧ Rest 0 bh) := by
  have bfree : ∀ {b : Str}, GoodB b → 32 ∉ TL.tl b := fun h => by rcases h with rfl | rfl <;> decide +kernel
  have tx : ∀ (b : Str) (f : Str → Str), bookText b f = b ++ " " ++ Txt.join " " ((looks.drop 0).map (partOf f)) := fun b f => join_two b _ _
  rcases part_cases " " 32 tl32 x with ⟨hn, q⟩ | ⟨a, c, ey, ha, q⟩
  · rw [q] at e
    injection e with e1 e2
    injection e2 with e2 e3
    subst e1 e2 e3
    constructor
    · rintro ⟨b', f, hb, hf, h⟩
      exfalso
      apply hn
      rw [h, tx]
      exact mem_sp
    · rintro ⟨_, h, _⟩
      exact absurd rfl h
  · rw [q] at e
    injection e with e1 e2
    injection e2 with e2 e3
    subst e1 e2 e3
    constructor
    · rintro ⟨b', f, hb, hf, h⟩
      rw [ey, tx] at h
      obtain ⟨h1, h2⟩ := app_inj tl32 ha (bfree hb) h
      exact ⟨by rw [h1]; exact hb, sp_ne, f, hf, h2⟩
    · rintro ⟨hb, _, f, hf, h⟩
      exact ⟨a, f, hb, hf, by rw [tx, ← h, ey]⟩
theorem rest_nine (y : Str) : Rest 9 y ↔ y = "" := by
  constructor
  · rintro ⟨f, _, h⟩
    exact h
  · intro h
    exact ⟨fun _ => "keep", fun _ _ => (by decide +kernel : ("keep" : Str) ∈ ways3), h⟩
end Lq


set_option Elab.async false
set_option linter.all false
set_option maxRecDepth 100000
set_option maxHeartbeats 16000000
/-! _law_looks, _law_ways, _law_book_text, _law_is_book -/
namespace Lq
open PySem L2 L2.LqX L2H
abbrev sLooks : Stmt := topS 16
abbrev sWays : Stmt := topS 18
abbrev sText : Stmt := topS 19
abbrev sIsB : Stmt := topS 26
def spLooks : Sp := fun vs H Q _ => vs = [] ∧ ∀ p, H p = none → Q (.ref p) (upd H p (.lst (looks.map V.str)))
def spWays (K : PySem.W.Frag) : Sp := fun vs H Q _ => ∃ (a : Addr) (g s t : Int), vs = [.ref a] ∧ H a = some (.lst (srcL g s t)) ∧ Src g s t ∧ t + 9 < 100000 ∧
  ∀ (ws : List Str) (g' t' : Int) (p : Addr) (H' : Hp), Ways9 ws → (∀ c o, H c = some o → c ≠ a → H' c = some o) → H' a = some (.lst (srcL g' s t')) → Src g' s t' → t' ≤ t + 9 → H p = none → H' p = some (.lst (ws.map V.str)) → Q (.ref p) H'
def spText : Sp := fun vs H Q _ => ∃ (b : Str) (m : Addr) (ws : List Str), vs = [.str b, .ref m] ∧ GoodB b ∧ Ways9 ws ∧ H m = some (.lst (ws.map V.str)) ∧ ∀ H', Same H H' → Q (.str (bookText b (fOf ws))) H'
theorem looks_split : Txt.split "walk list len truth count any has item part" " " = looks := by
  have e : Txt.join " " looks = "walk list len truth count any has item part" := by decide +kernel
  rw [← e]
  exact TL.split_join (s := 32) (S := []) (by decide +kernel) (by decide +kernel) (by decide) (by decide +kernel)
section
variable {P : Program} {w : World} {K : PySem.W.Frag} {mg : Str → Option Value} {base : Heap}
theorem scLooks : FnScope [] [] (defScope sLooks) := ⟨rfl, rfl, rfl, by decide +kernel, rfl, by decide +kernel, by decide +kernel⟩
theorem ok_looks {f : Addr} {fd : FuncData} (F : Fun K "_law_looks" "_law_looks" sLooks f fd) : FnOk P w K mg base CX0 1 f fd [] spLooks := by
  refine F.ok scLooks (fun vs H Q E h => ?_) (fun cdv A outer s H vs Q E hr h => ?_)
  · obtain ⟨rfl, _⟩ := h
    rfl
  · obtain ⟨rfl, k⟩ := h
    refine ⟨_, pss_one (ps_ret (pe_split pe_str pe_str)), ?_⟩
    refine ⟨⟨_, rfl⟩, _, _, rfl, rfl, by decide +kernel, by decide +kernel, fun p np => ?_⟩
    rw [looks_split]
    exact k p np
theorem scWays : FnScope ["source", "view"] ["source"] (defScope sWays) := ⟨rfl, rfl, rfl, by decide +kernel, rfl, by decide +kernel, by decide +kernel⟩
theorem ok_ways {f fO fL : Addr} {fd fdO fdL : FuncData} (F : Fun K "_law_ways" "_law_ways" sWays f fd) (GO : FnOk P w K mg base CX0 2 fO fdO ["source", "some"] (spOf K)) (bO : Binds K fdO ["source", "some"] []) (kO : PySem.W.keepIn K (.ref fO) = true) (mO : mg "_law_of" = some (.ref fO))
    (GL : FnOk P w K mg base CX0 1 fL fdL [] spLooks) (bL : Binds K fdL [] []) (kL : PySem.W.keepIn K (.ref fL) = true) (mL : mg "_law_looks" = some (.ref fL)) : FnOk P w K mg base CX0 3 f fd ["source"] (spWays K) := by
  refine F.ok scWays (fun vs H Q E h => ?_) (fun cdv A outer s H vs Q E hr h => ?_)
  · obtain ⟨_, _, _, _, rfl, _⟩ := h
    rfl
  · obtain ⟨a, g, sd, t, rfl, ha, S, ht, k⟩ := h
    refine ⟨_, pss_one (ps_ret (pe_lc (own := [("view", 1)]) (g := gName 1) (tt := tYes) rfl scWays.nd (pi_list (pe_call0 GL (hr.mono (by decide)) (by rfl) mL kL bL .nil pass0)) (blkOk_by (own := [("view", 1)]) (N := ["source", "view"]) (sc := defScope sWays) (by decide +kernel))
      (fun _ _ _ _ _ => pg_name (i := 1) scWays.nd rfl (Or.inl rfl)) (fun _ _ _ _ _ => pts_nil) (fun _ _ _ _ _ => pe_call GO hr (by rfl) mO kO bO .nil pass0 (pa_cons (pv 0) (pa_cons (pe_lst (pa_cons pe_str (pa_cons pe_str (pa_cons pe_str pa_nil)))) pa_nil))))), ?_⟩
    refine ⟨rfl, fun pL nL => ⟨pL, rfl, ⟨_, .inl (.inl upd_same)⟩, fun D nD => ?_⟩⟩
    have pa : pL ≠ a := (ne_of_none ha nL).symm
    have s1 : Same H (upd H pL (.lst (looks.map V.str))) := same_new nL
    have Da : D ≠ a := (ne_of_none (s1 _ _ ha) nD).symm
    refine lc_list (xs := looks.map V.str) (fun i H3 => ∃ (ws : List Str) (g' t' : Int), ws.length = i ∧ (∀ z, z ∈ ws → z ∈ ways3) ∧ H3 D = some (.lst (ws.map V.str)) ∧ H3 a = some (.lst (srcL g' sd t')) ∧ Src g' sd t' ∧ t' ≤ t + i ∧ ∀ c o, upd H pL (.lst (looks.map V.str)) c = some o → c ≠ a → H3 c = some o)
      ⟨[], g, t, rfl, (fun z hz => by cases hz), upd_same, by rw [upd_ne Da.symm]; exact s1 _ _ ha, S, by omega, fun c o z _ => same_new nD _ _ z⟩ ?_ ?_ ?_
    · rintro i H3 _ ⟨ws, g', t', _, _, _, _, _, _, k3⟩
      exact .inl (.inl (k3 _ _ upd_same pa))
    · rintro i x H3 hx ⟨ws, g', t', lw, ow, hD, hA, S', ht', k3⟩
      have hi : i < 9 := (List.getElem?_eq_some_iff.mp hx).1
      refine ⟨rfl, ?_⟩
      refine ⟨_, rfl, (by show 3 ≤ sizeLine; decide), fun pw nw => ?_⟩
      have aw : a ≠ pw := ne_of_none hA nw
      have Dw : D ≠ pw := ne_of_none hD nw
      refine ⟨a, pw, g', sd, t', ways3.map V.str, rfl, by rw [upd_ne aw]; exact hA, S', by omega, .inl (.inl upd_same), aw, by decide, by decide, fun j v g2 t2 hv S2 h2 => ?_⟩
      rw [List.getElem?_map] at hv
      obtain ⟨z, hz, rfl⟩ := Option.map_eq_some_iff.mp hv
      refine ⟨ws.map V.str, by rw [upd_ne Da, upd_ne Dw]; exact hD, ?_, ws ++ [z], g2, t2, ?_, ?_, ?_, ?_, S2, by omega, ?_⟩
      · rw [List.length_map, lw]
        have : 9 < sizeLine := by decide
        omega
      · rw [List.length_append, lw]
        rfl
      · intro q hq
        rcases List.mem_append.mp hq with hq | hq
        · exact ow q hq
        · rw [List.mem_singleton.mp hq]
          exact List.mem_of_getElem? hz
      · rw [upd_same, List.map_append]
        rfl
      · rw [upd_ne Da.symm, upd_same]
      · intro c o q ca
        have cD : c ≠ D := ne_of_none q nD
        have q3 := k3 c o q ca
        rw [upd_ne cD, upd_ne ca, upd_ne (ne_of_none q3 nw)]
        exact q3
    · rintro H3 ⟨ws, g', t', lw, ow, hD, hA, S', ht', k3⟩
      exact k ws g' t' D H3 ⟨lw, ow⟩ (fun c o q ca => k3 c o (s1 _ _ q) ca) hA S' ht' (s1.free nD) hD
theorem scText : FnScope ["begun", "manners", "view", "way"] ["begun", "manners"] (defScope sText) := ⟨rfl, rfl, rfl, by decide +kernel, rfl, by decide +kernel, by decide +kernel⟩
theorem join_cons (b x : Str) (ps : List Str) : b ++ " " ++ Txt.join " " (x :: ps) = Txt.join " " (b :: x :: ps) := (join_two b x ps).symm
theorem ok_text {f fL : Addr} {fd fdL : FuncData} (F : Fun K "_law_book_text" "_law_book_text" sText f fd) (GL : FnOk P w K mg base CX0 1 fL fdL [] spLooks) (bL : Binds K fdL [] []) (kL : PySem.W.keepIn K (.ref fL) = true) (mL : mg "_law_looks" = some (.ref fL)) (hzip : mg "zip" = none) : FnOk P w K mg base CX0 2 f fd ["begun", "manners"] spText := by
  refine F.ok scText (fun vs H Q E h => ?_) (fun cdv A outer s H vs Q E hr h => ?_)
  · obtain ⟨_, _, _, rfl, _⟩ := h
    rfl
  · obtain ⟨b, m, ws, rfl, hb, W, hm, k⟩ := h
    refine ⟨_, pss_one (ps_ret (pe_op op_add_str (pe_op op_add_str (pv 0) pe_str) (pe_join pe_str (pe_lc (own := [("view", 2), ("way", 3)]) (g := gTup K 2 (gCons (gName 2) (gCons (gName 3) gNil))) (tt := tYes) rfl scText.nd (pi_z2 (k1 := true) (k2 := true) (by rfl) hzip (pa_cons (pe_call0 GL hr (by rfl) mL kL bL .nil pass0) (pa_cons (pv 1) pa_nil))) (blkOk_by (own := [("view", 2), ("way", 3)]) (N := ["begun", "manners", "view", "way"]) (sc := defScope sText) (by decide +kernel))
      (fun _ _ _ _ _ => pg_tup rfl (pgs_cons (pg_name (i := 2) scText.nd rfl (Or.inl rfl)) (pgs_cons (pg_name (i := 3) scText.nd rfl (Or.inl rfl)) pgs_nil))) (fun _ _ _ _ _ => pts_nil) (fun _ _ _ _ _ => pe_op op_add_str (pe_op op_add_str (pv 2) pe_str) (pv 3)))))), ?_⟩
    have sl : (2000 : Nat) ≤ sizeLine := by decide
    have hg := good_fOf W
    have lb := len_built hb
    have l1 : (" " : Str).length = 1 := by decide +kernel
    have l2 : (":" : Str).length = 1 := by decide +kernel
    refine ⟨_, rfl, b, " ", rfl, rfl, by omega, ⟨_, rfl⟩, rfl, fun pL nL => ⟨_, rfl, pL, m, looks.map V.str, ws.map V.str, rfl, .inl (.inl upd_same), .inl (.inl (same_new nL _ _ hm)), fun D nD => ?_⟩⟩
    have s1 : Same H (upd H pL (.lst (looks.map V.str))) := same_new nL
    refine lc_it (walk_z2 (n := 9) (xs := looks.map V.str) (ys := ws.map V.str) (by rw [List.length_map, List.length_map, W.len]; rfl)) (fun i H3 => H3 D = some (.lst ((looks.take i).map fun l => .str (partOf (fOf ws) l))) ∧ Same (upd H pL (.lst (looks.map V.str))) H3) ⟨upd_same, same_new nD⟩ ?_ ?_ ?_
    · rintro i H3 _ ⟨_, k3⟩
      exact ⟨.inl (.inl (k3 _ _ upd_same)), .inl (.inl (k3 _ _ (s1 _ _ hm)))⟩
    · rintro i v H3 H4 hi ⟨hD, k3⟩ ⟨T, x, y, rfl, nT, rfl, hx, hy⟩
      have hx : (looks.map V.str)[i]? = some x := hx
      have hy : (ws.map V.str)[i]? = some y := hy
      rw [List.getElem?_map] at hx hy
      obtain ⟨l, hl, rfl⟩ := Option.map_eq_some_iff.mp hx
      obtain ⟨z, hz, rfl⟩ := Option.map_eq_some_iff.mp hy
      have ml := List.mem_of_getElem? hl
      have hf := fOf_at W.len hl hz
      have l3 := len_look ml
      have l4 := len_way (W.ok z (List.mem_of_getElem? hz))
      refine ⟨T, [.str l, .str z], rfl, .inl (.inl upd_same), rfl, _, _, rfl, _, _, rfl, rfl, rfl, ?_⟩
      refine ⟨_, rfl, l, ":", rfl, rfl, by omega, _, rfl, l ++ ":", z, rfl, rfl, by rw [len_app]; omega, ?_⟩
      have TD : D ≠ T := ne_of_none hD nT
      refine ⟨_, by rw [upd_ne TD]; exact hD, ?_, ?_, fun c o q => ?_⟩
      · rw [List.length_map, List.length_take]
        have : looks.length = 9 := rfl
        omega
      · rw [upd_same, List.take_succ, hl, Option.toList_some, List.map_append]
        show _ = some (HO.lst (_ ++ [V.str (partOf (fOf ws) l)]))
        unfold partOf
        rw [hf]
      · have q3 := k3 c o q
        rw [upd_ne (ne_of_none q nD), upd_ne (ne_of_none q3 nT)]
        exact q3
    · rintro H3 ⟨hD, k3⟩
      have hD' : H3 D = some (.lst ((looks.map (partOf (fOf ws))).map V.str)) := by
        rw [hD, List.map_map]
        rfl
      refine ⟨" ", D, looks.map (partOf (fOf ws)), rfl, rfl, .inl (.inl (.inl hD')), ?_, b ++ " ", _, rfl, rfl, ?_, ?_⟩
      · have h := sum_le (fun x : Str => x.length) 10 (looks.map (partOf (fOf ws))) fun p hp => by
          obtain ⟨l, ml, rfl⟩ := List.mem_map.mp hp
          exact len_part hg ml
        have hl : (looks.map (partOf (fOf ws))).length = 9 := rfl
        rw [hl] at h ⊢
        rw [l1]
        omega
      · rw [← len_app, show b ++ " " ++ Txt.join " " (looks.map (partOf (fOf ws))) = bookText b (fOf ws) from join_cons b _ _]
        have := len_text hb hg
        omega
      · rw [show b ++ " " ++ Txt.join " " (looks.map (partOf (fOf ws))) = bookText b (fOf ws) from join_cons b _ _]
        exact k H3 (s1.trans k3)
def spIsB : Sp := fun vs H Q _ => ∃ x : Str, vs = [.str x] ∧ x.length ≤ 10000 ∧ ∀ r H', Same H H' → (r = true ↔ IsB x) → Q (.bl r) H'
abbrev NB : List Str := ["text", "begun", "space", "behind", "view", "word", "way"]
theorem scIsB : FnScope NB ["text"] (defScope sIsB) := ⟨rfl, rfl, rfl, by decide +kernel, rfl, by decide +kernel, by decide +kernel⟩
theorem part_len {x a s b : Str} (e : Txt.partition x " " = (a, s, b)) : a.length ≤ x.length ∧ b.length ≤ x.length := by
  rcases part_cases " " 32 tl32 x with ⟨_, q⟩ | ⟨c, d, ex, _, q⟩
  · rw [q] at e
    injection e with e1 e2
    injection e2 with e2 e3
    subst e1 e2 e3
    exact ⟨Nat.le_refl _, Nat.zero_le _⟩
  · rw [q] at e
    injection e with e1 e2
    injection e2 with e2 e3
    subst e1 e2 e3
    rw [ex, len_app, len_app]
    omega
theorem ok_isB {f fL : Addr} {fd fdL : FuncData} (F : Fun K "_law_is_book" "_law_is_book" sIsB f fd) (GL : FnOk P w K mg base CX0 1 fL fdL [] spLooks) (bL : Binds K fdL [] []) (kL : PySem.W.keepIn K (.ref fL) = true) (mL : mg "_law_looks" = some (.ref fL)) : FnOk P w K mg base CX0 2 f fd ["text"] spIsB := by
  refine F.ok scIsB (fun vs H Q E h => ?_) (fun cdv A outer s H vs Q E hr h => ?_)
  · obtain ⟨_, rfl, _⟩ := h
    rfl
  obtain ⟨x, rfl, hxl, k⟩ := h
  have sl : (20000 : Nat) ≤ sizeLine := by decide
  refine ⟨_, pss_cons (ps_asg (pe_partition (pv 0) pe_str) (pg_tup rfl (pgs_cons (pg_name (i := 1) scIsB.nd rfl (Or.inl rfl)) (pgs_cons (pg_name (i := 2) scIsB.nd rfl (Or.inl rfl)) (pgs_cons (pg_name (i := 3) scIsB.nd rfl (Or.inl rfl)) pgs_nil)))))
    (pss_cons (ps_if (PW.pt (pw_or (pt_cmpR op_notIn_seq (pv 1) (pe_tup (pa_cons pe_str (pa_cons pe_str pa_nil))) (by rfl)) (pw_or1 (pt_cmpR op_eq (pv 2) pe_str (nomark _))))) (pss_one (ps_ret pe_bl)) pss_nil)
    (pss_cons (ps_for PassesOwn.never rfl (pi_list (pe_call0 GL hr (by rfl) mL kL bL .nil pass0)) (pg_name (i := 4) scIsB.nd rfl (Or.inr rfl))
      (pss_cons (ps_asg (pe_partition (pv 3) pe_str) (pg_tup rfl (pgs_cons (pg_name (i := 5) scIsB.nd rfl (Or.inl rfl)) (pgs_cons (pg_name (i := 2) scIsB.nd rfl (Or.inl rfl)) (pgs_cons (pg_name (i := 3) scIsB.nd rfl (Or.inl rfl)) pgs_nil)))))
      (pss_one (ps_if (PW.pt (pw_or (pt_cmpR op_notIn_seq (pv 5) (pe_lc (own := [("way", 6)]) (g := gName 6) (tt := tYes) rfl scIsB.nd (pi_tup (pe_tup (pa_cons pe_str (pa_cons pe_str (pa_cons pe_str pa_nil))))) (blkOk_by (own := [("way", 6)]) (N := NB) (sc := defScope sIsB) (by decide +kernel))
          (fun _ _ _ _ _ => pg_name (i := 6) scIsB.nd rfl (Or.inl rfl)) (fun _ _ _ _ _ => pts_nil) (fun _ _ _ _ _ => pe_op op_add_str (pe_op op_add_str (pv 4) pe_str) (pv 6))) (by rfl))
        (pw_or1 (pt_cmpR op_ne (pe_cmpR op_eq (pv 2) pe_str (nomark _)) (pe_cmpR op_eq (pv 4) pe_str (nomark _)) (nomark _))))) (pss_one (ps_ret pe_bl)) pss_nil))))
    (pss_one (ps_ret (pe_cmpR op_eq (pv 3) pe_str (nomark _)))))), ?_⟩
  obtain ⟨b, sp, bh, ep⟩ : ∃ b sp bh, Txt.partition x " " = (b, sp, bh) := ⟨_, _, _, rfl⟩
  have st0 := isB_step ep
  refine ⟨_, rfl, ⟨_, rfl⟩, x, " ", rfl, rfl, by decide +kernel, by omega, fun p1 n1 => ?_⟩
  rw [ep]
  refine ⟨p1, _, rfl, .inl (.inl upd_same), rfl, _, _, rfl, _, _, rfl, _, _, rfl, rfl, ?_⟩
  have s1 : Same H (upd H p1 (.tup [.str b, .str sp, .str bh])) := same_new n1
  refine ⟨_, rfl, (by show 2 ≤ sizeLine; decide), fun p2 n2 => ⟨p2, (["late", "early"] : List Str).map V.str, rfl, .inr (.inl (.inl upd_same)), rfl, rfl, _, rfl, ?_⟩⟩
  have s2 : Same H (upd (upd H p1 (.tup [.str b, .str sp, .str bh])) p2 (.tup [.str "late", .str "early"])) := s1.trans (same_new n2)
  rw [show (if true = true then !inV (.str b) ((["late", "early"] : List Str).map V.str) else inV (.str b) ((["late", "early"] : List Str).map V.str)) = !(["late", "early"] : List Str).contains b from by rw [if_pos rfl, inV_strs]]
  by_cases hb : GoodB b
  rotate_left
  · have h0 : (["late", "early"] : List Str).contains b = false := Bool.eq_false_iff.mpr fun z => hb (by simpa [GoodB] using List.contains_iff_mem.mp z)
    rw [h0]
    exact k false _ s2 ⟨(fun z => nomatch z), fun z => absurd (st0.mp z).1 hb⟩
  rw [show (!(["late", "early"] : List Str).contains b) = false from by
    rcases hb with rfl | rfl <;> decide +kernel]
  refine ⟨_, rfl, rfl, _, rfl, ?_⟩
  by_cases hsp : sp = ""
  · rw [show decide (V.str sp = V.str "") = true from decide_eq_true (by rw [hsp])]
    exact k false _ s2 ⟨(fun z => nomatch z), fun z => absurd hsp (st0.mp z).2.1⟩
  rw [show decide (V.str sp = V.str "") = false from decide_eq_false fun z => hsp (V.str.inj z)]
  have eq0 : IsB x ↔ Rest 0 bh := ⟨fun z => (st0.mp z).2.2, fun z => st0.mpr ⟨hb, hsp, z⟩⟩
  refine ⟨rfl, fun pL nL => ⟨pL, rfl, ⟨_, .inl (.inl upd_same)⟩, ?_⟩⟩
  have s3 := s2.trans (same_new (o := .lst (looks.map V.str)) nL)
  obtain ⟨H3, eH3⟩ : ∃ H3, H3 = upd (upd (upd H p1 (.tup [.str b, .str sp, .str bh])) p2 (.tup [.str "late", .str "early"])) pL (.lst (looks.map V.str)) := ⟨_, rfl⟩
  have hL3 : H3 pL = some (.lst (looks.map V.str)) := by
    rw [eH3]
    exact upd_same
  have s3' : Same H H3 := by
    rw [eH3]
    exact s3
  have hbl := (part_len ep).2
  rw [show upd (upd (upd H p1 (.tup [.str b, .str sp, .str bh])) p2 (.tup [.str "late", .str "early"])) pL (.lst (looks.map V.str)) = H3 from eH3.symm]
  refine for_list (xs := looks.map V.str) (fun i σ' H' => ∃ (y sq : Str) (x4 x5 : Option V), σ' = [some (.str x), some (.str b), some (.str sq), some (.str y), x4, x5, none] ∧ Same H3 H' ∧ (IsB x ↔ Rest i y) ∧ y.length ≤ 10000) ⟨bh, sp, _, _, rfl, Same.refl _, eq0, by omega⟩ ?_ ?_ ?_
  · rintro i σ' H' _ ⟨_, _, _, _, _, e, _⟩
    exact .inl (.inl (e _ _ hL3))
  · rintro i v σ' H' hv ⟨y, sq, x4, x5, rfl, e, eqv_, hyl⟩
    have hi : i < 9 := (List.getElem?_eq_some_iff.mp hv).1
    rw [List.getElem?_map] at hv
    obtain ⟨l, hl, rfl⟩ := Option.map_eq_some_iff.mp hv
    have ml := List.mem_of_getElem? hl
    obtain ⟨wd, sp', bh', ep'⟩ : ∃ wd sp' bh', Txt.partition y " " = (wd, sp', bh') := ⟨_, _, _, rfl⟩
    have stp := rest_step hi hl ep'
    have pl := part_len ep'
    refine ⟨_, rfl, ⟨_, rfl⟩, y, " ", rfl, rfl, by decide +kernel, by omega, fun q1 m1 => ?_⟩
    rw [ep']
    refine ⟨q1, _, rfl, .inl (.inl upd_same), rfl, _, _, rfl, _, _, rfl, _, _, rfl, rfl, ?_⟩
    have t1 : Same H' (upd H' q1 (.tup [.str wd, .str sp', .str bh'])) := same_new m1
    refine ⟨_, rfl, (by show 3 ≤ sizeLine; decide), fun q2 m2 => ⟨q2, rfl, ⟨ways3.map V.str, .inl (.inl upd_same)⟩, fun D nD => ?_⟩⟩
    have t2 : Same H' (upd (upd H' q1 (.tup [.str wd, .str sp', .str bh'])) q2 (.tup (ways3.map V.str))) := t1.trans (same_new m2)
    refine lc_tup (xs := ways3.map V.str) (fun j H5 => H5 D = some (.lst (((ways3.take j).map fun z => l ++ ":" ++ z).map V.str)) ∧ Same (upd (upd H' q1 (.tup [.str wd, .str sp', .str bh'])) q2 (.tup (ways3.map V.str))) H5) ⟨upd_same, same_new nD⟩ (fun j H5 _ h5 => .inl (.inl (h5.2 _ _ upd_same))) ?_ ?_
    · rintro j v H5 hv ⟨hD, e5⟩
      have hj : j < 3 := (List.getElem?_eq_some_iff.mp hv).1
      rw [List.getElem?_map] at hv
      obtain ⟨z, hz, rfl⟩ := Option.map_eq_some_iff.mp hv
      have l1 := len_look ml
      have l2 := len_way (List.mem_of_getElem? hz)
      have l3 : (":" : Str).length = 1 := by decide +kernel
      refine ⟨rfl, ?_⟩
      refine ⟨_, rfl, l, ":", rfl, rfl, by omega, _, rfl, l ++ ":", z, rfl, rfl, by rw [len_app]; omega, ?_⟩
      refine ⟨_, hD, ?_, ?_, fun c o q => ?_⟩
      · rw [List.length_map, List.length_map, List.length_take]
        have : ways3.length = 3 := rfl
        omega
      · rw [upd_same, List.take_succ, hz, Option.toList_some, List.map_append, List.map_append]
        rfl
      · rw [upd_ne (ne_of_none q nD)]
        exact e5 _ _ q
    rintro H5 ⟨hD, e5⟩
    have e35 : Same H3 H5 := (e.trans t2).trans e5
    have hD' : H5 D = some (.lst ((ways3.map fun z => l ++ ":" ++ z).map V.str)) := hD
    refine ⟨D, (ways3.map fun z => l ++ ":" ++ z).map V.str, rfl, .inl (.inl (.inl hD')), rfl, rfl, _, rfl, ?_⟩
    rw [show (if true = true then !inV (.str wd) ((ways3.map fun z => l ++ ":" ++ z).map V.str) else inV (.str wd) ((ways3.map fun z => l ++ ":" ++ z).map V.str)) = !(ways3.map fun z => l ++ ":" ++ z).contains wd from by rw [if_pos rfl, inV_strs]]
    have key : (ways3.map fun z => l ++ ":" ++ z).contains wd = true ↔ ∃ z, z ∈ ways3 ∧ wd = l ++ ":" ++ z := by
      rw [List.contains_iff_mem, List.mem_map]
      exact ⟨fun ⟨z, h1, h2⟩ => ⟨z, h1, h2.symm⟩, fun ⟨z, h1, h2⟩ => ⟨z, h1, h2.symm⟩⟩
    cases hw : (ways3.map fun z => l ++ ":" ++ z).contains wd with
    | false =>
      refine k false _ (s3'.trans e35) ⟨(fun z => nomatch z), fun z => ?_⟩
      have := key.mpr (stp.mp (eqv_.mp z)).1
      rw [hw] at this
      cases this
    | true =>
      refine ⟨_, rfl, rfl, _, rfl, rfl, rfl, _, rfl, ?_⟩
      by_cases hs : (sp' = "" ↔ l = "part")
      · rw [show (!decide (V.bl (decide (V.str sp' = V.str "")) = V.bl (decide (V.str l = V.str "part")))) = false from by
          rw [show decide (V.str sp' = V.str "") = decide (V.str l = V.str "part") from decide_eq_decide.mpr ⟨fun z => by rw [hs.mp (V.str.inj z)], fun z => by rw [hs.mpr (V.str.inj z)]⟩, decide_eq_true rfl]
          rfl]
        exact ⟨bh', sp', _, _, rfl, e35, ⟨fun z => (stp.mp (eqv_.mp z)).2.2, fun z => eqv_.mpr (stp.mpr ⟨key.mp hw, hs, z⟩)⟩, by omega⟩
      · rw [show (!decide (V.bl (decide (V.str sp' = V.str "")) = V.bl (decide (V.str l = V.str "part")))) = true from by
          rw [decide_eq_false fun z => hs ?_]
          · rfl
          · have z1 := V.bl.inj z
            have z2 := decide_eq_decide.mp z1
            exact ⟨fun q => V.str.inj (z2.mp (by rw [q])), fun q => V.str.inj (z2.mpr (by rw [q]))⟩]
        exact k false _ (s3'.trans e35) ⟨(fun z => nomatch z), fun z => absurd (stp.mp (eqv_.mp z)).2.1 hs⟩
  · rintro σ' H' ⟨y, sq, x4, x5, rfl, e, eqv_, _⟩
    refine ⟨_, rfl, rfl, ?_⟩
    refine k _ H' (s3'.trans e) ?_
    have e9 : IsB x ↔ y = "" := eqv_.trans (rest_nine y)
    rw [decide_eq_true_iff, e9]
    exact ⟨fun z => V.str.inj z, fun z => by rw [z]⟩
end
end Lq


set_option Elab.async false
set_option linter.all false
set_option maxRecDepth 100000
set_option maxHeartbeats 16000000
/-! _law_read -/
namespace Lq
open PySem L2 L2.LqX L2H
abbrev sLRead : Stmt := topS 24
theorem takesN0 {X : Cx} : L2N.Takes X (fun _ _ _ _ => False) := fun _ _ x => by
  obtain ⟨_, _, _, _, _, _, _, _, _, _, _, _, _, _, _, _, z⟩ := x
  exact z.elim
theorem look1 {f : Str} {v : V} : List.lookup f [(f, v)] = some v := by simp [List.lookup]
theorem say {C aL : Addr} {H : Hp} {x : Addr} {b : Str} {f : Str → Str} {Q : VK} (hB : IsBook C aL H x b f) (hb : GoodB b) (hf : GoodF f) (k : ∀ H', Same H H' → Q (.str (bookText b f)) H') : rStrO C (fun vs H Q E => spStr C aL (vs ++ []) H Q E) E0 [.ref x] H Q := by
  obtain ⟨dx, d, h1, h2⟩ := id hB
  exact ⟨x, dx, _, rfl, h1, x, b, f, rfl, hB, hb, hf, fun H' e => ⟨_, rfl, k H' e⟩⟩
def spLRead (K : PySem.W.Frag) : Sp := fun vs H Q _ => ∃ v : V, vs = [v] ∧
  ((∃ x, v = .str x ∧ Asc x ∧ x.length ≤ 10000 ∧ ∀ (r : Str) p H', Same H H' → ((r = "book" ∧ IsB x) ∨ (r = "refused" ∧ ¬ IsB x)) → Dp K H' (.ref p) (.tuple [.str r, .str x]) → Q (.ref p) H') ∨
   ∃ (t : String) (d : PyData), TyX K H v (.type t) ∧ kitB t "str" = some false ∧ NotOf K H v d [] ∧ ∀ p H', Same H H' → Dp K H' (.ref p) (.tuple [.str "refused", d]) → Q (.ref p) H')
section
variable {P : Program} {w : World} {K : PySem.W.Frag} {mg : Str → Option Value} {base : Heap}
theorem scLRead : FnScope ["thing", "e"] ["thing"] (defScope sLRead) := ⟨rfl, rfl, rfl, by decide +kernel, rfl, by decide +kernel, by decide +kernel⟩
theorem ok_lread {f pR gR fS : Addr} {fd fdR fdS : FuncData} {C aL aW cBad : Addr} {mc : Value} (F : Fun K "_law_read" "_law_read" sLRead f fd) (B : BkF K mg C aL aW mc) (eB : ErF P w K mg base "BadBook" "thing" cBad) (xBB : PySem.W.exmOne K (.ref cBad) (.ref cBad) = some true)
    (cR : ClX.CMet K C mc "read" pR gR) (GR : FnOk P w K mg base (L2N.CX P w) 10 gR fdR ["cls", "text"] (spRead K C aL cBad)) (bR : Binds K fdR ["cls", "text"] [])
    (mS : OwnM K C "__str__" fS) (GS : FnOk P w K mg base CX0 1 fS fdS ["self"] (spStr C aL)) (bS : Binds K fdS ["self"] []) (hst : mg "str" = none) : FnOk P w K mg base CX0 11 f fd ["thing"] (spLRead K) := by
  have GSR : FnR P w K mg base CX0 1 fS (fun vs H Q E => spStr C aL (vs ++ []) H Q E) := GS.raw bS .nil
  have GRR : FnR P w K mg base (L2N.CX P w) 10 gR (fun vs H Q E => spRead K C aL cBad (vs ++ []) H Q E) := GR.raw bR .nil
  refine F.ok scLRead (fun vs H Q E h => ?_) (fun cdv A outer s H vs Q E hr h => ?_)
  · obtain ⟨_, rfl, _⟩ := h
    rfl
  obtain ⟨v, rfl, h⟩ := h
  refine ⟨_, pss_one (ps_try_all (i := 1) rfl rfl scLRead.nd rfl rfl takesN0 (fun W pn xe tk _ =>
      pss_one (ps_ret (pe_tup (pa_cons pe_str (pa_cons (pe_callTy (call_strO mS GSR (hr.mono (by decide)) (E := E0) pass0) (by rfl) hst PyProof.Rows.boot_str (pa_cons (pe_cmethAt (E := WE W) (pe_glob (v := .ref C) (by rfl) B.gB rfl) B.rd cR GRR hr (fun σ => L2N.passAt tk σ) (pa_cons (pv 0) pa_nil)) pa_nil)) pa_nil)))))
    (Hds.cons ⟨rfl, by decide, .inl eB.g⟩ (fun a oe cls d pn hz hf => pss_one (ps_ret (pe_tup (pa_cons pe_str (pa_cons (pe_xf eB.xf eB.nf hz.zc hf (pv 1)) pa_nil))))) Hds.nil)), ?_⟩
  have back : ∀ {d : PyData} {Wk : XK}, (∀ p H', Same H H' → Dp K H' (.ref p) (.tuple [.str "refused", d]) → Q (.ref p) H') → True := fun _ => trivial
  rcases h with ⟨x, rfl, hx, hxl, k⟩ | ⟨t, d, ty, kt, n, k⟩
  · refine ⟨rfl, _, rfl, .str x, rfl, .inl ⟨x, rfl, hx, hxl, fun b f hb hf e y H1 e1 hB => ?_, fun nb y v' H' e hy hv => ⟨true, xBB, fun _ a' na' => ?_, (fun z => nomatch z)⟩⟩⟩
    · refine say hB hb hf fun H2 e2 => ⟨(by show 2 ≤ sizeLine; decide), fun p np => k "book" p _ ((e1.trans e2).trans (same_new np)) (.inl ⟨rfl, b, f, hb, hf, e⟩) ?_⟩
      rw [← e]
      exact .tup (.inl (.inl upd_same)) (.cons (.str _) (.cons (.str _) .nil))
    · refine ⟨_, rfl, rfl, rfl, y, _, v', rfl, hy, look1, (by show 2 ≤ sizeLine; decide), fun p np => k "refused" p _ (e.trans (same_new np)) (.inr ⟨rfl, nb⟩) ?_⟩
      exact .tup (.inl (.inl upd_same)) (.cons (.str _) (.cons (dp_same (same_new np) hv) .nil))
  · refine ⟨rfl, _, rfl, v, rfl, .inr ⟨t, d, ty, kt, n, fun y v' H' e hy hv => ⟨true, xBB, fun _ a' na' => ?_, (fun z => nomatch z)⟩⟩⟩
    refine ⟨_, rfl, rfl, rfl, y, _, v', rfl, hy, look1, (by show 2 ≤ sizeLine; decide), fun p np => k p _ (e.trans (same_new np)) ?_⟩
    exact .tup (.inl (.inl upd_same)) (.cons (.str _) (.cons (dp_same (same_new np) hv) .nil))
end
end Lq


set_option Elab.async false
set_option linter.all false
set_option maxRecDepth 100000
set_option maxHeartbeats 16000000
/-! What a making of a book comes to -/
namespace Lq
open PySem L2 L2.LqX L2H PyProof.Rows
theorem eqv_str_comm (a : Str) : ∀ d : PyData, PyData.eqv (.str a) d = PyData.eqv d (.str a)
  | .str b => by
    show (a == b) = (b == a)
    by_cases e : a = b
    · rw [e]
    · rw [beq_eq_false_iff_ne.mpr e, beq_eq_false_iff_ne.mpr fun z => e z.symm]
  | .none => rfl
  | .bool _ => rfl
  | .int _ => rfl
  | .list _ => rfl
  | .tuple _ => rfl
  | .dict _ => rfl
theorem eqv_str_of {a : Str} : ∀ {d : PyData}, PyData.eqv d (.str a) = true → d = .str a
  | .str b, h => by
    have h1 : (b == a) = true := h
    rw [eq_of_beq h1]
theorem dp_str_of {K : PySem.W.Frag} {H : Hp} {v : V} {a : Str} (h : Dp K H v (.str a)) : v = .str a := by
  cases h
  rfl
theorem bu_str {K : PySem.W.Frag} {H : Hp} {v : V} {d : PyData} (h : Dp K H v d) (hb : isBu d = true) : ∃ b, v = .str b ∧ d = .str b ∧ GoodB b := by
  unfold isBu at hb
  rcases Bool.or_eq_true_iff.mp hb with z | z
  · have e := eqv_str_of z
    subst e
    exact ⟨_, dp_str_of h, rfl, .inl rfl⟩
  · have e := eqv_str_of z
    subst e
    exact ⟨_, dp_str_of h, rfl, .inr rfl⟩
def inW (d : PyData) : Bool := waysD.any fun z => PyData.eqv z d
theorem inW_ok {K : PySem.W.Frag} {H : Hp} {v : V} {d : PyData} (h : Dp K H v d) (hw : inW d = true) : OkW (some v) := by
  unfold inW at hw
  obtain ⟨z, mz, hz⟩ := List.any_eq_true.mp hw
  unfold waysD at mz
  obtain ⟨y, my, rfl⟩ := List.mem_map.mp mz
  rw [eqv_str_comm] at hz
  have e := eqv_str_of hz
  subst e
  exact .inr ⟨y, my, by rw [dp_str_of h]⟩
def firstBad (ds : List PyData) : PyData := match ds.find? (fun d => !inW d) with
  | some d => .tuple [.str "book", d]
  | none => .none
/-- what is due -/
def outD (way : Int) (d0 d1 d2 d3 : PyData) : PyData :=
  if isBu d0 = false then .tuple [.str "book", d0] else if way = 2 then .tuple [.str "look", .str "aside"] else if way = 3 then .tuple [.str "look", .str "look"] else
    firstBad (if way = 1 then [d2, d3, d1] else if way = 4 then [d2, d1, d3] else [])
theorem find_first {p : Str → Bool} : ∀ {ys : List Str} {x : Str}, ys.find? p = some x → ∀ (i : Nat) (y : Str), ys[i]? = some y → p y = true → (∀ (j : Nat) (y' : Str), j < i → ys[j]? = some y' → p y' = false) → y = x
  | [], _, h, _, _, _, _, _ => by cases h
  | z :: ys, x, h, i, y, hy, py, pre => by
    rw [List.find?_cons] at h
    cases i with
    | zero =>
      cases hy
      rw [py] at h
      exact Option.some.inj h
    | succ i =>
      have pz := pre 0 z (Nat.succ_pos _) rfl
      rw [pz] at h
      exact find_first h i y hy py fun j y' hj hy' => pre (j + 1) y' (Nat.succ_lt_succ hj) hy'
def no_look (y : Str) : Bool := !looks.contains y
theorem no_look_iff {y : Str} : no_look y = true ↔ y ∉ looks := by
  unfold no_look
  rw [Bool.not_eq_true', ← Bool.not_eq_true, List.contains_iff_mem]
theorem firstNo3 {n1 n2 n3 x : Str} (hx : x ∈ [n1, n2, n3]) (hl : x ∉ looks) (hn : [n1, n2, n3].Nodup)
    (h : ∀ p ∈ [n1, n2, n3], ∀ q ∈ [n1, n2, n3], ∀ r ∈ [n1, n2, n3], sortedS [p, q, r] = true → [p, q, r].Nodup → [p, q, r].find? no_look = some x) : FirstNo [n1, n2, n3] x := by
  refine ⟨hx, hl, fun ys hp hs i y hy ny pre => ?_⟩
  have hlen : ys.length = 3 := hp.length_eq
  match ys, hlen with
  | [p, q, r], _ =>
    have m : ∀ z ∈ [p, q, r], z ∈ [n1, n2, n3] := fun z hz => hp.mem_iff.mp hz
    have f := h p (m p (by simp)) q (m q (by simp)) r (m r (by simp)) hs (hp.nodup_iff.mpr hn)
    exact find_first f i y hy (no_look_iff.mpr ny) fun j y' hj hy' => by
      have := pre j y' hj hy'
      unfold no_look
      rw [List.contains_iff_mem.mpr this]
      rfl
theorem first_aside : FirstNo ["has", "walks", "aside"] "aside" := firstNo3 (by decide +kernel) (by decide +kernel) (by decide +kernel) (by decide +kernel)
theorem first_look : FirstNo ["item", "any", "look"] "look" := firstNo3 (by decide +kernel) (by decide +kernel) (by decide +kernel) (by decide +kernel)
theorem pre_of {p : Str → Prop} {i : Nat} (h : ∀ l ∈ looks.take i, p l) : ∀ (j : Nat) (l' : Str), j < i → looks[j]? = some l' → p l' := fun j l' hj hl' => h l' (by
  rw [List.mem_take_iff_getElem]
  obtain ⟨w1, w2⟩ := List.getElem?_eq_some_iff.mp hl'
  exact ⟨j, by omega, w2⟩)
theorem looks_all {p : Str → Prop} (h : p "walk" ∧ p "list" ∧ p "len" ∧ p "truth" ∧ p "count" ∧ p "any" ∧ p "has" ∧ p "item" ∧ p "part") : ∀ l, l ∈ looks → p l := by
  intro l hl
  have e : l = "walk" ∨ l = "list" ∨ l = "len" ∨ l = "truth" ∨ l = "count" ∨ l = "any" ∨ l = "has" ∨ l = "item" ∨ l = "part" := by simpa [looks] using hl
  obtain ⟨h0, h1, h2, h3, h4, h5, h6, h7, h8⟩ := h
  rcases e with rfl | rfl | rfl | rfl | rfl | rfl | rfl | rfl | rfl <;> assumption
/-- a making's ends -/
structure Ends3 (K : PySem.W.Frag) (C aL cBad cNo : Addr) (o : PyData) (H : Hp) (Q : VK) (E : XK) : Prop where
  ok : o = .none → ∀ x H' b f, Same H H' → IsBook C aL H' x b f → Q (.ref x) H'
  bad : ∀ d, o = .tuple [.str "book", d] → Leaves K cBad "thing" d H E
  no : ∀ y : Str, o = .tuple [.str "look", .str y] → Leaves K cNo "look" (.str y) H E
section
variable {K : PySem.W.Frag} {C aL cBad cNo : Addr} {v0 v1 v2 v3 : V} {d0 d1 d2 d3 : PyData} {H : Hp} {Q : VK} {E : XK}
theorem not_in {v : V} {d : PyData} (n : NotOf K H v d []) (h : inW d = false) : NotOf K H v d waysD := ⟨n.at_, n.sh, n.dp, n.st, h⟩
theorem fb3_1 {a b c : PyData} (h : inW a = false) : firstBad [a, b, c] = .tuple [.str "book", a] := by
  unfold firstBad
  rw [List.find?_cons, h]
  rfl
theorem fb3_2 {a b c : PyData} (h1 : inW a = true) (h : inW b = false) : firstBad [a, b, c] = .tuple [.str "book", b] := by
  unfold firstBad
  rw [List.find?_cons, h1, List.find?_cons, h]
  rfl
theorem fb3_3 {a b c : PyData} (h1 : inW a = true) (h2 : inW b = true) (h : inW c = false) : firstBad [a, b, c] = .tuple [.str "book", c] := by
  unfold firstBad
  rw [List.find?_cons, h1, List.find?_cons, h2, List.find?_cons, h]
  rfl
theorem fb3_4 {a b c : PyData} (h1 : inW a = true) (h2 : inW b = true) (h : inW c = true) : firstBad [a, b, c] = .none := by
  unfold firstBad
  rw [List.find?_cons, h1, List.find?_cons, h2, List.find?_cons, h]
  rfl
theorem out_bad {rest : List (Str × V)} {way : Int} (hb : isBu d0 = false) (k : Ends3 K C aL cBad cNo (outD way d0 d1 d2 d3) H Q E) : Out K C aL cBad cNo v0 d0 rest H Q E :=
  .inl ⟨hb, k.bad d0 (by unfold outD; rw [if_pos hb])⟩
theorem out_0 (n0 : NotOf K H v0 d0 []) (k : Ends3 K C aL cBad cNo (outD 0 d0 d1 d2 d3) H Q E) : Out K C aL cBad cNo v0 d0 [] H Q E := by
  cases hb : isBu d0 with
  | false => exact out_bad hb k
  | true =>
    obtain ⟨b, e1, e2, hG⟩ := bu_str n0.at_ hb
    refine .inr ⟨b, e1, e2, hG, .inr ⟨fun kv h => (by cases h), .inl ⟨fun l hl => .inl rfl, fun x H' e hB => k.ok ?_ x H' b _ e hB⟩⟩⟩
    unfold outD
    rw [if_neg (by rw [hb]; decide), if_neg (by decide), if_neg (by decide), if_neg (by decide), if_neg (by decide)]
    rfl
theorem out_2 (n0 : NotOf K H v0 d0 []) (k : Ends3 K C aL cBad cNo (outD 2 d0 d1 d2 d3) H Q E) : Out K C aL cBad cNo v0 d0 [("has", v1), ("walks", v2), ("aside", v3)] H Q E := by
  cases hb : isBu d0 with
  | false => exact out_bad hb k
  | true =>
    obtain ⟨b, e1, e2, hG⟩ := bu_str n0.at_ hb
    refine .inr ⟨b, e1, e2, hG, .inl ⟨"aside", first_aside, k.no "aside" ?_⟩⟩
    unfold outD
    rw [if_neg (by rw [hb]; decide), if_pos rfl]
theorem out_3 (n0 : NotOf K H v0 d0 []) (k : Ends3 K C aL cBad cNo (outD 3 d0 d1 d2 d3) H Q E) : Out K C aL cBad cNo v0 d0 [("item", v1), ("any", v2), ("look", v3)] H Q E := by
  cases hb : isBu d0 with
  | false => exact out_bad hb k
  | true =>
    obtain ⟨b, e1, e2, hG⟩ := bu_str n0.at_ hb
    refine .inr ⟨b, e1, e2, hG, .inl ⟨"look", first_look, k.no "look" ?_⟩⟩
    unfold outD
    rw [if_neg (by rw [hb]; decide), if_neg (by decide), if_pos rfl]
theorem out_1 (n0 : NotOf K H v0 d0 []) (n1 : NotOf K H v1 d1 []) (n2 : NotOf K H v2 d2 []) (n3 : NotOf K H v3 d3 []) (k : Ends3 K C aL cBad cNo (outD 1 d0 d1 d2 d3) H Q E) : Out K C aL cBad cNo v0 d0 [("part", v1), ("walk", v2), ("truth", v3)] H Q E := by
  cases hb : isBu d0 with
  | false => exact out_bad hb k
  | true =>
    obtain ⟨b, e1, e2, hG⟩ := bu_str n0.at_ hb
    have eo : outD 1 d0 d1 d2 d3 = firstBad [d2, d3, d1] := by
      unfold outD
      rw [if_neg (by rw [hb]; decide), if_neg (by decide), if_neg (by decide), if_pos rfl]
    refine .inr ⟨b, e1, e2, hG, .inr ⟨fun kv h => ?_, ?_⟩⟩
    · simp only [List.mem_cons, List.not_mem_nil, or_false] at h
      rcases h with rfl | rfl | rfl
      · exact (by decide +kernel : ("part" : Str) ∈ looks)
      · exact (by decide +kernel : ("walk" : Str) ∈ looks)
      · exact (by decide +kernel : ("truth" : Str) ∈ looks)
    cases h2 : inW d2 with
    | false => exact .inr ⟨0, "walk", v2, d2, rfl, fun j _ hj => absurd hj (Nat.not_lt_zero _), rfl, not_in n2 h2, k.bad d2 (by rw [eo, fb3_1 h2])⟩
    | true =>
      have o2 := inW_ok n2.at_ h2
      cases h3 : inW d3 with
      | false =>
        refine .inr ⟨3, "truth", v3, d3, rfl, pre_of fun l hl => ?_, rfl, not_in n3 h3, k.bad d3 (by rw [eo, fb3_2 h2 h3])⟩
        have e : l = "walk" ∨ l = "list" ∨ l = "len" := by simpa [looks] using hl
        rcases e with rfl | rfl | rfl
        · exact o2
        · exact .inl rfl
        · exact .inl rfl
      | true =>
        have o3 := inW_ok n3.at_ h3
        cases h1 : inW d1 with
        | false =>
          refine .inr ⟨8, "part", v1, d1, rfl, pre_of fun l hl => ?_, rfl, not_in n1 h1, k.bad d1 (by rw [eo, fb3_3 h2 h3 h1])⟩
          have e : l = "walk" ∨ l = "list" ∨ l = "len" ∨ l = "truth" ∨ l = "count" ∨ l = "any" ∨ l = "has" ∨ l = "item" := by simpa [looks] using hl
          rcases e with rfl | rfl | rfl | rfl | rfl | rfl | rfl | rfl
          · exact o2
          · exact .inl rfl
          · exact .inl rfl
          · exact o3
          · exact .inl rfl
          · exact .inl rfl
          · exact .inl rfl
          · exact .inl rfl
        | true =>
          have o1 := inW_ok n1.at_ h1
          exact .inl ⟨looks_all ⟨o2, .inl rfl, .inl rfl, o3, .inl rfl, .inl rfl, .inl rfl, .inl rfl, o1⟩, fun x H' e hB => k.ok (by rw [eo, fb3_4 h2 h3 h1]) x H' b _ e hB⟩
theorem out_4 (n0 : NotOf K H v0 d0 []) (n1 : NotOf K H v1 d1 []) (n2 : NotOf K H v2 d2 []) (n3 : NotOf K H v3 d3 []) (k : Ends3 K C aL cBad cNo (outD 4 d0 d1 d2 d3) H Q E) : Out K C aL cBad cNo v0 d0 [("len", v1), ("list", v2), ("count", v3)] H Q E := by
  cases hb : isBu d0 with
  | false => exact out_bad hb k
  | true =>
    obtain ⟨b, e1, e2, hG⟩ := bu_str n0.at_ hb
    have eo : outD 4 d0 d1 d2 d3 = firstBad [d2, d1, d3] := by
      unfold outD
      rw [if_neg (by rw [hb]; decide), if_neg (by decide), if_neg (by decide), if_neg (by decide), if_pos rfl]
    refine .inr ⟨b, e1, e2, hG, .inr ⟨fun kv h => ?_, ?_⟩⟩
    · simp only [List.mem_cons, List.not_mem_nil, or_false] at h
      rcases h with rfl | rfl | rfl
      · exact (by decide +kernel : ("len" : Str) ∈ looks)
      · exact (by decide +kernel : ("list" : Str) ∈ looks)
      · exact (by decide +kernel : ("count" : Str) ∈ looks)
    cases h2 : inW d2 with
    | false =>
      refine .inr ⟨1, "list", v2, d2, rfl, pre_of fun l hl => ?_, rfl, not_in n2 h2, k.bad d2 (by rw [eo, fb3_1 h2])⟩
      have e : l = "walk" := by simpa [looks] using hl
      subst e
      exact .inl rfl
    | true =>
      have o2 := inW_ok n2.at_ h2
      cases h1 : inW d1 with
      | false =>
        refine .inr ⟨2, "len", v1, d1, rfl, pre_of fun l hl => ?_, rfl, not_in n1 h1, k.bad d1 (by rw [eo, fb3_2 h2 h1])⟩
        have e : l = "walk" ∨ l = "list" := by simpa [looks] using hl
        rcases e with rfl | rfl
        · exact .inl rfl
        · exact o2
      | true =>
        have o1 := inW_ok n1.at_ h1
        cases h3 : inW d3 with
        | false =>
          refine .inr ⟨4, "count", v3, d3, rfl, pre_of fun l hl => ?_, rfl, not_in n3 h3, k.bad d3 (by rw [eo, fb3_3 h2 h1 h3])⟩
          have e : l = "walk" ∨ l = "list" ∨ l = "len" ∨ l = "truth" := by simpa [looks] using hl
          rcases e with rfl | rfl | rfl | rfl
          · exact .inl rfl
          · exact o2
          · exact o1
          · exact .inl rfl
        | true =>
          have o3 := inW_ok n3.at_ h3
          exact .inl ⟨looks_all ⟨.inl rfl, o2, o1, .inl rfl, o3, .inl rfl, .inl rfl, .inl rfl, .inl rfl⟩, fun x H' e hB => k.ok (by rw [eo, fb3_4 h2 h1 h3]) x H' b _ e hB⟩
end
end Lq


set_option Elab.async false
set_option linter.all false
set_option maxRecDepth 100000
set_option maxHeartbeats 16000000
/-! _law_made, _law_due -/
namespace Lq
open PySem L2 L2.LqX L2H
abbrev sMade : Stmt := topS 21
abbrev sDue : Stmt := topS 22
abbrev PM : List Str := ["way", "begun", "one", "two", "three"]
def spMade (K : PySem.W.Frag) (C aL cBad cNo : Addr) : Sp := fun vs H Q E => ∃ (way : Int) (v0 v1 v2 v3 : V) (d0 d1 d2 d3 : PyData), vs = [.int way, v0, v1, v2, v3] ∧ 0 ≤ way ∧ way < 5 ∧ NotOf K H v0 d0 [] ∧ NotOf K H v1 d1 [] ∧ NotOf K H v2 d2 [] ∧ NotOf K H v3 d3 [] ∧ Ends3 K C aL cBad cNo (outD way d0 d1 d2 d3) H Q E
theorem scMade : FnScope PM PM (defScope sMade) := ⟨rfl, rfl, rfl, by decide +kernel, rfl, by decide +kernel, by decide +kernel⟩
section
variable {P : Program} {w : World} {K : PySem.W.Frag} {mg : Str → Option Value} {base : Heap}
theorem ok_made {f fI : Addr} {fd : FuncData} {C aL aW cBad cNo : Addr} {mc : Value} (F : Fun K "_law_made" "_law_made" sMade f fd) (B : BkF K mg C aL aW mc) (M : Mk K C fI) (GI : FnA P w K mg base (L2N.CX P w) 8 fI (spKw "self" "built" (.str "late") (spBook K C aL cBad cNo))) : FnOk P w K mg base (L2N.CX P w) 10 f fd PM (spMade K C aL cBad cNo) := by
  refine okN F scMade (fun vs H Q E h => ?_) (fun cdv A outer s H vs Q E hr h tk => ?_)
  · obtain ⟨_, _, _, _, _, _, _, _, _, rfl, _⟩ := h
    rfl
  obtain ⟨way, v0, v1, v2, v3, d0, d1, d2, d3, rfl, hw0, hw1, n0, n1, n2, n3, k⟩ := h
  have ps := L2N.passes_call (E := E) tk fun _ _ _ _ h => h
  refine ⟨_, pss_cons (ps_if (pt_cmpR op_eq (pv 0) pe_int (nomark _)) (pss_one (ps_ret (pe_makeA (E := E) (ks := []) (pe_glob (v := .ref C) (by rfl) B.gB rfl) M GI hr ps (pa_cons (pv 1) pa_nil) pk_nil))) pss_nil)
    (pss_cons (ps_if (pt_cmpR op_eq (pv 0) pe_int (nomark _)) (pss_one (ps_ret (pe_makeA (E := E) (ks := ["part", "walk", "truth"]) (pe_glob (v := .ref C) (by rfl) B.gB rfl) M GI hr ps (pa_cons (pv 1) pa_nil) (pk_cons (pv 2) (pk_cons (pv 3) (pk_cons (pv 4) pk_nil)))))) pss_nil)
    (pss_cons (ps_if (pt_cmpR op_eq (pv 0) pe_int (nomark _)) (pss_one (ps_ret (pe_makeA (E := E) (ks := ["has", "walks", "aside"]) (pe_glob (v := .ref C) (by rfl) B.gB rfl) M GI hr ps (pa_cons (pv 1) pa_nil) (pk_cons (pv 2) (pk_cons (pv 3) (pk_cons (pv 4) pk_nil)))))) pss_nil)
    (pss_cons (ps_if (pt_cmpR op_eq (pv 0) pe_int (nomark _)) (pss_one (ps_ret (pe_makeA0 (E := E) (ks := ["built", "item", "any", "look"]) (pe_glob (v := .ref C) (by rfl) B.gB rfl) M GI hr ps (pk_cons (pv 1) (pk_cons (pv 2) (pk_cons (pv 3) (pk_cons (pv 4) pk_nil))))))) pss_nil)
    (pss_one (ps_ret (pe_makeA (E := E) (ks := ["len", "list", "count"]) (pe_glob (v := .ref C) (by rfl) B.gB rfl) M GI hr ps (pa_cons (pv 1) pa_nil) (pk_cons (pv 2) (pk_cons (pv 3) (pk_cons (pv 4) pk_nil))))))))), ?_⟩
  have no : ∀ {i j : Int} {A B : Prop}, i ≠ j → B → if decide (V.int i = V.int j) = true then A else B := fun h x => by
    rw [decide_eq_false fun z => h (V.int.inj z)]
    exact iteF x
  have yes : ∀ {i : Int} {A B : Prop}, A → if decide (V.int i = V.int i) = true then A else B := fun x => by
    rw [decide_eq_true rfl]
    exact iteT x
  have cs : way = 0 ∨ way = 1 ∨ way = 2 ∨ way = 3 ∨ way = 4 := by omega
  rcases cs with rfl | rfl | rfl | rfl | rfl
  · -- way 0
    refine ⟨_, rfl, rfl, _, rfl, yes ?_⟩
    refine ⟨rfl, _, rfl, ?_⟩
    unfold tNil
    exact made (pre := []) (rest := []) rfl (fun x => .pos) n0 (fun kv h => by cases h) List.nodup_nil (by show 0 < 64; decide) (out_0 n0 k)
  · -- way 1
    refine ⟨_, rfl, rfl, _, rfl, no (by decide) ?_⟩
    refine ⟨_, rfl, rfl, _, rfl, yes ?_⟩
    refine ⟨rfl, _, rfl, _, rfl, _, rfl, _, rfl, ?_⟩
    try unfold tNil
    exact made (pre := []) (rest := [("part", v1), ("walk", v2), ("truth", v3)]) rfl (fun x => .pos) n0 (fun kv h => by simp only [List.mem_cons, List.not_mem_nil, or_false] at h; rcases h with rfl | rfl | rfl; exact (by decide +kernel : ("part" : Str) ≠ "self" ∧ ("part" : Str) ≠ "built"); exact (by decide +kernel : ("walk" : Str) ≠ "self" ∧ ("walk" : Str) ≠ "built"); exact (by decide +kernel : ("truth" : Str) ≠ "self" ∧ ("truth" : Str) ≠ "built")) (show (["part", "walk", "truth"] : List Str).Nodup by decide +kernel) (by show 3 < 64; decide) (out_1 n0 n1 n2 n3 k)
  · -- way 2
    refine ⟨_, rfl, rfl, _, rfl, no (by decide) ?_⟩
    refine ⟨_, rfl, rfl, _, rfl, no (by decide) ?_⟩
    refine ⟨_, rfl, rfl, _, rfl, yes ?_⟩
    refine ⟨rfl, _, rfl, _, rfl, _, rfl, _, rfl, ?_⟩
    try unfold tNil
    exact made (pre := []) (rest := [("has", v1), ("walks", v2), ("aside", v3)]) rfl (fun x => .pos) n0 (fun kv h => by simp only [List.mem_cons, List.not_mem_nil, or_false] at h; rcases h with rfl | rfl | rfl; exact (by decide +kernel : ("has" : Str) ≠ "self" ∧ ("has" : Str) ≠ "built"); exact (by decide +kernel : ("walks" : Str) ≠ "self" ∧ ("walks" : Str) ≠ "built"); exact (by decide +kernel : ("aside" : Str) ≠ "self" ∧ ("aside" : Str) ≠ "built")) (show (["has", "walks", "aside"] : List Str).Nodup by decide +kernel) (by show 3 < 64; decide) (out_2 n0 k)
  · -- way 3
    refine ⟨_, rfl, rfl, _, rfl, no (by decide) ?_⟩
    refine ⟨_, rfl, rfl, _, rfl, no (by decide) ?_⟩
    refine ⟨_, rfl, rfl, _, rfl, no (by decide) ?_⟩
    refine ⟨_, rfl, rfl, _, rfl, yes ?_⟩
    refine ⟨rfl, _, rfl, _, rfl, _, rfl, _, rfl, ?_⟩
    unfold tNil
    exact made (pre := [("built", v0)]) (rest := [("item", v1), ("any", v2), ("look", v3)]) rfl (fun x => .key) n0 (fun kv h => by simp only [List.mem_cons, List.not_mem_nil, or_false] at h; rcases h with rfl | rfl | rfl; exact (by decide +kernel : ("item" : Str) ≠ "self" ∧ ("item" : Str) ≠ "built"); exact (by decide +kernel : ("any" : Str) ≠ "self" ∧ ("any" : Str) ≠ "built"); exact (by decide +kernel : ("look" : Str) ≠ "self" ∧ ("look" : Str) ≠ "built")) (show (["item", "any", "look"] : List Str).Nodup by decide +kernel) (by show 3 < 64; decide) (out_3 n0 k)
  · -- way 4
    refine ⟨_, rfl, rfl, _, rfl, no (by decide) ?_⟩
    refine ⟨_, rfl, rfl, _, rfl, no (by decide) ?_⟩
    refine ⟨_, rfl, rfl, _, rfl, no (by decide) ?_⟩
    refine ⟨_, rfl, rfl, _, rfl, no (by decide) ?_⟩
    refine ⟨rfl, _, rfl, _, rfl, _, rfl, _, rfl, ?_⟩
    try unfold tNil
    exact made (pre := []) (rest := [("len", v1), ("list", v2), ("count", v3)]) rfl (fun x => .pos) n0 (fun kv h => by simp only [List.mem_cons, List.not_mem_nil, or_false] at h; rcases h with rfl | rfl | rfl; exact (by decide +kernel : ("len" : Str) ≠ "self" ∧ ("len" : Str) ≠ "built"); exact (by decide +kernel : ("list" : Str) ≠ "self" ∧ ("list" : Str) ≠ "built"); exact (by decide +kernel : ("count" : Str) ≠ "self" ∧ ("count" : Str) ≠ "built")) (show (["len", "list", "count"] : List Str).Nodup by decide +kernel) (by show 3 < 64; decide) (out_4 n0 n1 n2 n3 k)
end
end Lq


set_option Elab.async false
set_option linter.all false
set_option maxRecDepth 100000
set_option maxHeartbeats 16000000
/-! _law_due, _law_told -/
namespace L2.LqX
open PySem PySem.Spec PyProof.Rows L2 L2H
/-- isinstance(e, c) of the caught exception, its class told by the reading -/
def rIsXc (K : PySem.W.Frag) (D a : Addr) (cls : Value) (d : Option Addr) : List V → Hp → VK → Prop := fun xs H Q => cls = .ref D ∧ rIsX K D a d xs H Q
theorem call_isXc {X : Cx} {a D : Addr} {oe : Obj} {cls : Value} {d : Option Addr} (C : ExcC X.K D) (hp : (a, oe) ∈ X.pn) (hz : Zc cls d oe) (hf : ∃ vs, oe.data = .fields vs) : CallR X (.builtin "isinstance") (rIsXc X.K D a cls d) := by
  intro pins s σ H xs us Q I r ⟨ec, h⟩
  subst ec
  exact call_isX C hp hz hf pins s σ H xs us Q I r h
end L2.LqX
namespace Lq
open PySem L2 L2.LqX L2H
abbrev sTold : Stmt := topS 23
theorem fb_filter (ds : List PyData) : firstBad ds = match ds.filter (fun d => !inW d) with
    | [] => .none
    | d :: _ => .tuple [.str "book", d] := by
  unfold firstBad
  rw [← List.head?_filter]
  cases ds.filter (fun d => !inW d) <;> rfl
def spDue (K : PySem.W.Frag) : Sp := fun vs H Q _ => ∃ (way : Int) (v0 v1 v2 v3 : V) (d0 d1 d2 d3 : PyData), vs = [.int way, v0, v1, v2, v3] ∧ 0 ≤ way ∧ way < 5 ∧ NotOf K H v0 d0 [] ∧ NotOf K H v1 d1 [] ∧ NotOf K H v2 d2 [] ∧ NotOf K H v3 d3 [] ∧ ∀ v H', Same H H' → Dp K H' v (outD way d0 d1 d2 d3) → Q v H'
abbrev ND : List Str := ["way", "begun", "one", "two", "three", "ordered", "bad", "thing"]
theorem scDue : FnScope ND PM (defScope sDue) := ⟨rfl, rfl, rfl, by decide +kernel, rfl, by decide +kernel, by decide +kernel⟩
theorem dpl_len {K : PySem.W.Frag} {H : Hp} : ∀ {vs : List V} {ds : List PyData}, DpAll K H vs ds → vs.length = ds.length
  | [], [], _ => rfl
  | _ :: _, _ :: _, .cons _ t => by rw [List.length_cons, List.length_cons, dpl_len t]
theorem dpl_app {K : PySem.W.Frag} {H : Hp} {v : V} {d : PyData} : ∀ {vs : List V} {ds : List PyData}, DpAll K H vs ds → Dp K H v d → DpAll K H (vs ++ [v]) (ds ++ [d])
  | [], [], _, h => .cons h .nil
  | _ :: _, _ :: _, .cons a t, h => .cons a (dpl_app t h)
section
variable {P : Program} {w : World} {K : PySem.W.Frag} {mg : Str → Option Value} {base : Heap}
theorem ok_due {f : Addr} {fd : FuncData} (F : Fun K "_law_due" "_law_due" sDue f fd) (hlen : mg "len" = none) : FnOk P w K mg base CX0 1 f fd PM (spDue K) := by
  refine F.ok scDue (fun vs H Q E h => ?_) (fun cdv A outer s H vs Q E hr h => ?_)
  · obtain ⟨_, _, _, _, _, _, _, _, _, rfl, _⟩ := h
    rfl
  obtain ⟨way, v0, v1, v2, v3, d0, d1, d2, d3, rfl, hw0, hw1, n0, n1, n2, n3, k⟩ := h
  have hu : (A.deeper (PyProof.Rows.envOfC "_law_due" (defScope sDue) s.heap.objs.size f cdv)).units + 65 < cLine := by have := hr.un; omega
  refine ⟨_, pss_cons (ps_if (pt_cmpR (op_notInT hu) (pv 1) (pe_tup (pa_cons pe_str (pa_cons pe_str pa_nil))) (by rfl)) (pss_one (ps_ret (pe_tup (pa_cons pe_str (pa_cons (pv 1) pa_nil))))) pss_nil)
    (pss_cons (ps_if (pt_cmpR op_eq (pv 0) pe_int (nomark _)) (pss_one (ps_ret (pe_tup (pa_cons pe_str (pa_cons pe_str pa_nil))))) pss_nil)
    (pss_cons (ps_if (pt_cmpR op_eq (pv 0) pe_int (nomark _)) (pss_one (ps_ret (pe_tup (pa_cons pe_str (pa_cons pe_str pa_nil))))) pss_nil)
    (pss_cons (ps_set (i := 5) scDue.nd rfl (Or.inl rfl) (pe_ix ix_list (pe_lst (pa_cons (pe_lst pa_nil) (pa_cons (pe_lst (pa_cons (pv 3) (pa_cons (pv 4) (pa_cons (pv 2) pa_nil)))) (pa_cons (pe_lst pa_nil) (pa_cons (pe_lst pa_nil) (pa_cons (pe_lst (pa_cons (pv 3) (pa_cons (pv 2) (pa_cons (pv 4) pa_nil)))) pa_nil)))))) (pv 0) (fun _ _ => rfl)))
    (pss_cons (ps_setLc (i := 6) (own := [("thing", 7)]) (g := gName 7) rfl scDue.nd rfl rfl (sw_true rfl rfl rfl (by decide +kernel)) (pi_list (pv 5)) (blkOk_by (own := [("thing", 7)]) (N := ND) (sc := defScope sDue) (by decide +kernel))
      (fun _ _ _ _ _ => pg_name (i := 7) scDue.nd rfl (Or.inl rfl)) (fun _ _ _ _ _ => pts_one (pt_cmpR (r := rInT K true) (op_notInT hu) (pv 7) (pe_tup (pa_cons pe_str (pa_cons pe_str (pa_cons pe_str pa_nil)))) (by rfl))) (fun _ _ _ _ _ => pv 7))
    (pss_one (ps_ret (pe_ifExp (pt_cmpR op_gt (pe_callB call_len_seq (by rfl) hlen PySem.boot_len (pa_cons (pv 6) pa_nil)) pe_int (nomark _)) (pe_tup (pa_cons pe_str (pa_cons (pe_ix ix_list (pv 6) pe_int (fun _ _ => rfl)) pa_nil))) pe_non))))))), ?_⟩
  have sl : (2000 : Nat) ≤ sizeLine := by decide
  have no : ∀ {i j : Int} {A B : Prop}, i ≠ j → B → if decide (V.int i = V.int j) = true then A else B := fun h x => by
    rw [decide_eq_false fun z => h (V.int.inj z)]
    exact iteF x
  have yes : ∀ {i j : Int} {A B : Prop}, i = j → A → if decide (V.int i = V.int j) = true then A else B := fun h x => by
    rw [decide_eq_true (by rw [h])]
    exact iteT x
  refine ⟨_, rfl, (by show 2 ≤ sizeLine; decide), fun p1 m1 => ⟨d0, [.str "late", .str "early"], dp_same (same_new m1) n0.at_, .tup (.inl (.inl upd_same)) (.cons (.str _) (.cons (.str _) .nil)), n0.sh, by decide +kernel, _, rfl, ?_⟩⟩
  have s1 : Same H (upd H p1 (.tup [.str "late", .str "early"])) := same_new m1
  have ebu : ([.str "late", .str "early"] : List PyData).any (fun z => PyData.eqv z d0) = isBu d0 := by
    show (PyData.eqv (.str "late") d0 || (PyData.eqv (.str "early") d0 || false)) = _
    rw [eqv_str_comm, eqv_str_comm, Bool.or_false]
    rfl
  rw [show (if true = true then !(([.str "late", .str "early"] : List PyData).any fun z => PyData.eqv z d0) else ([.str "late", .str "early"] : List PyData).any fun z => PyData.eqv z d0) = !isBu d0 from by rw [if_pos rfl, ebu]]
  cases hb : isBu d0 with
  | false =>
    refine ⟨_, rfl, (by show 2 ≤ sizeLine; decide), fun p2 m2 => k _ _ (s1.trans (same_new m2)) ?_⟩
    unfold outD
    rw [if_pos hb]
    exact .tup (.inl (.inl upd_same)) (.cons (.str _) (.cons (dp_same (s1.trans (same_new m2)) n0.at_) .nil))
  | true =>
    have nb : ¬ isBu d0 = false := by rw [hb]; decide
    by_cases w2 : way = 2
    · refine ⟨_, rfl, rfl, _, rfl, yes w2 ⟨(by show 2 ≤ sizeLine; decide), fun p2 m2 => k _ _ (s1.trans (same_new m2)) ?_⟩⟩
      unfold outD
      rw [if_neg nb, if_pos w2]
      exact .tup (.inl (.inl upd_same)) (.cons (.str _) (.cons (.str _) .nil))
    refine ⟨_, rfl, rfl, _, rfl, no w2 ?_⟩
    by_cases w3 : way = 3
    · refine ⟨_, rfl, rfl, _, rfl, yes w3 ⟨(by show 2 ≤ sizeLine; decide), fun p2 m2 => k _ _ (s1.trans (same_new m2)) ?_⟩⟩
      unfold outD
      rw [if_neg nb, if_neg w2, if_pos w3]
      exact .tup (.inl (.inl upd_same)) (.cons (.str _) (.cons (.str _) .nil))
    refine ⟨_, rfl, rfl, _, rfl, no w3 ?_⟩
    refine ⟨(by show 0 ≤ sizeLine; decide), fun q0 a0 => ⟨_, rfl, _, rfl, _, rfl, (by show 3 ≤ sizeLine; decide), fun q1 a1 => ⟨(by show 0 ≤ sizeLine; decide), fun q2 a2 => ⟨(by show 0 ≤ sizeLine; decide), fun q3 a3 => ⟨_, rfl, _, rfl, _, rfl, (by show 3 ≤ sizeLine; decide), fun q4 a4 => ⟨(by show 5 ≤ sizeLine; decide), fun pl al => ?_⟩⟩⟩⟩⟩⟩
    have t0 := same_new (o := .lst []) a0
    have t1 := same_new (o := .lst [v2, v3, v1]) a1
    have t2 := same_new (o := .lst []) a2
    have t3 := same_new (o := .lst []) a3
    have t4 := same_new (o := .lst [v2, v1, v3]) a4
    have tl := same_new (o := .lst [V.ref q0, V.ref q1, V.ref q2, V.ref q3, V.ref q4]) al
    obtain ⟨H2, eH2⟩ : ∃ H2, H2 = upd (upd (upd (upd (upd (upd (upd H p1 (.tup [.str "late", .str "early"])) q0 (.lst [])) q1 (.lst [v2, v3, v1])) q2 (.lst [])) q3 (.lst [])) q4 (.lst [v2, v1, v3])) pl (.lst [V.ref q0, V.ref q1, V.ref q2, V.ref q3, V.ref q4]) := ⟨_, rfl⟩
    have sH2 : Same H H2 := by
      rw [eH2]
      exact (((((s1.trans t0).trans t1).trans t2).trans t3).trans t4).trans tl
    have h0 : H2 q0 = some (.lst []) := by
      rw [eH2]
      exact tl _ _ (t4 _ _ (t3 _ _ (t2 _ _ (t1 _ _ upd_same))))
    have h1 : H2 q1 = some (.lst [v2, v3, v1]) := by
      rw [eH2]
      exact tl _ _ (t4 _ _ (t3 _ _ (t2 _ _ upd_same)))
    have h4 : H2 q4 = some (.lst [v2, v1, v3]) := by
      rw [eH2]
      exact tl _ _ upd_same
    have hl : H2 pl = some (.lst [V.ref q0, V.ref q1, V.ref q2, V.ref q3, V.ref q4]) := by
      rw [eH2]
      exact upd_same
    obtain ⟨q, xs, ds, hat, hq, dds, shs, eo⟩ : ∃ (q : Addr) (xs : List V) (ds : List PyData), atI [V.ref q0, V.ref q1, V.ref q2, V.ref q3, V.ref q4] way = some (.ref q) ∧ H2 q = some (.lst xs) ∧ DpAll K H2 xs ds ∧ (∀ d ∈ ds, SeqAt.shaped d = true) ∧ outD way d0 d1 d2 d3 = firstBad ds := by
      have e1 : ∀ way : Int, ¬ way = 2 → ¬ way = 3 → outD way d0 d1 d2 d3 = firstBad (if way = 1 then [d2, d3, d1] else if way = 4 then [d2, d1, d3] else []) := fun way h2 h3 => by
        unfold outD
        rw [if_neg nb, if_neg h2, if_neg h3]
      have cs : way = 0 ∨ way = 1 ∨ way = 4 := by omega
      rcases cs with rfl | rfl | rfl
      · exact ⟨q0, [], [], rfl, h0, .nil, fun d hd => (by cases hd), e1 0 (by decide) (by decide)⟩
      · refine ⟨q1, _, [d2, d3, d1], rfl, h1, .cons (dp_same sH2 n2.at_) (.cons (dp_same sH2 n3.at_) (.cons (dp_same sH2 n1.at_) .nil)), fun d hd => ?_, e1 1 (by decide) (by decide)⟩
        simp only [List.mem_cons, List.not_mem_nil, or_false] at hd
        rcases hd with rfl | rfl | rfl
        · exact n2.sh
        · exact n3.sh
        · exact n1.sh
      · refine ⟨q4, _, [d2, d1, d3], rfl, h4, .cons (dp_same sH2 n2.at_) (.cons (dp_same sH2 n1.at_) (.cons (dp_same sH2 n3.at_) .nil)), fun d hd => ?_, e1 4 (by decide) (by decide)⟩
        simp only [List.mem_cons, List.not_mem_nil, or_false] at hd
        rcases hd with rfl | rfl | rfl
        · exact n2.sh
        · exact n1.sh
        · exact n3.sh
    have xlen : xs.length ≤ 1000 := by
      have e2 := dpl_len dds
      have cs : way = 0 ∨ way = 1 ∨ way = 4 := by omega
      rcases cs with rfl | rfl | rfl
      · cases hat
        rw [h0] at hq
        cases hq
        decide
      · cases hat
        rw [h1] at hq
        cases hq
        show 3 ≤ 1000
        decide
      · cases hat
        rw [h4] at hq
        cases hq
        show 3 ≤ 1000
        decide
    refine ⟨_, rfl, pl, _, way, .ref q, rfl, rfl, .inl (.inl (by rw [← eH2]; exact hl)), hat, ?_⟩
    rw [← eH2]
    refine ⟨_, rfl, q, rfl, ⟨xs, .inl (.inl hq)⟩, fun D nD => ?_⟩
    refine lc_list (xs := xs) (fun i H3 => ∃ acc, H3 D = some (.lst acc) ∧ DpAll K H2 acc ((ds.take i).filter fun d => !inW d) ∧ acc.length ≤ i ∧ Same H2 H3) ⟨[], upd_same, .nil, Nat.le_refl _, same_new nD⟩ ?_ ?_ ?_
    · rintro i H3 _ ⟨_, _, _, _, e3⟩
      exact .inl (.inl (e3 _ _ hq))
    · rintro i x H3 hx ⟨acc, hD, da, la, e3⟩
      have hi : i < xs.length := (List.getElem?_eq_some_iff.mp hx).1
      obtain ⟨d, hd, dv⟩ := dpl_get dds hx
      have tk : (ds.take (i + 1)).filter (fun d => !inW d) = (ds.take i).filter (fun d => !inW d) ++ (if (!inW d) = true then [d] else []) := by
        rw [List.take_succ, hd, Option.toList_some, List.filter_append, List.filter_cons]
        rfl
      refine ⟨rfl, ?_⟩
      refine ⟨_, rfl, (by show 3 ≤ sizeLine; decide), fun pt nt => ⟨d, waysD, dp_same (e3.trans (same_new nt)) dv, .tup (.inl (.inl upd_same)) (dp_strs K _ ways3), shs d (List.mem_of_getElem? hd), by decide +kernel, _, rfl, ?_⟩⟩
      rw [show (if true = true then !(waysD.any fun z => PyData.eqv z d) else waysD.any fun z => PyData.eqv z d) = !inW d from by rw [if_pos rfl]; rfl]
      have ne : D ≠ pt := ne_of_none hD nt
      cases hw : inW d with
      | true =>
        refine ⟨acc, by rw [upd_ne ne]; exact hD, ?_, by omega, e3.trans (same_new nt)⟩
        rw [tk, if_neg (by rw [hw]; decide), List.append_nil]
        exact da
      | false =>
        refine ⟨_, rfl, acc, by rw [upd_ne ne]; exact hD, by omega, acc ++ [x], upd_same, ?_, by rw [List.length_append, List.length_singleton]; omega, fun c o z => ?_⟩
        · rw [tk, if_pos (by rw [hw]; rfl)]
          exact dpl_app da dv
        · rw [upd_ne (ne_of_none z nD)]
          exact same_new nt _ _ (e3 _ _ z)
    rintro H3 ⟨acc, hD, da, la, e3⟩
    have ed : (ds.take xs.length).filter (fun d => !inW d) = ds.filter (fun d => !inW d) := by
      rw [dpl_len dds, List.take_length]
    rw [ed] at da
    rw [eo, fb_filter] at k
    refine ⟨_, rfl, D, acc, rfl, .inl (.inl (.inl hD)), _, _, rfl, rfl, _, rfl, ?_⟩
    cases hf : ds.filter (fun d => !inW d) with
    | nil =>
      rw [hf] at da k
      cases da
      exact k .non H3 (sH2.trans e3) .non
    | cons d r =>
      rw [hf] at da k
      cases da with
      | cons a t =>
        rename_i v vs
        rw [show decide ((0 : Int) < (((v :: vs).length : Nat) : Int)) = true from decide_eq_true (by rw [List.length_cons]; omega)]
        refine ⟨_, rfl, D, v :: vs, 0, v, rfl, rfl, .inl (.inl hD), at_of (j := 0) rfl rfl, (by show 2 ≤ sizeLine; decide), fun p2 m2 => k _ _ ((sH2.trans e3).trans (same_new m2)) ?_⟩
        exact .tup (.inl (.inl upd_same)) (.cons (.str _) (.cons (dp_same (e3.trans (same_new m2)) a) .nil))
end
end Lq


set_option Elab.async false
set_option linter.all false
set_option maxRecDepth 100000
set_option maxHeartbeats 16000000
/-! _law_told, _law_thing -/
namespace Lq
open PySem L2 L2.LqX L2H
def spTold (K : PySem.W.Frag) : Sp := fun vs H Q _ => ∃ (way : Int) (v0 v1 v2 v3 : V) (d0 d1 d2 d3 : PyData), vs = [.int way, v0, v1, v2, v3] ∧ 0 ≤ way ∧ way < 5 ∧ NotOf K H v0 d0 [] ∧ NotOf K H v1 d1 [] ∧ NotOf K H v2 d2 [] ∧ NotOf K H v3 d3 [] ∧ ∀ v H', Same H H' → Dp K H' v (outD way d0 d1 d2 d3) → Q v H'
abbrev NT : List Str := ["way", "begun", "one", "two", "three", "e"]
theorem scTold : FnScope NT PM (defScope sTold) := ⟨rfl, rfl, rfl, by decide +kernel, rfl, by decide +kernel, by decide +kernel⟩
section
variable {P : Program} {w : World} {K : PySem.W.Frag} {mg : Str → Option Value} {base : Heap}
theorem ok_told {f fM : Addr} {fd fdM : FuncData} {C aL aW cBad cNo cL cF : Addr} {mc : Value} (F : Fun K "_law_told" "_law_told" sTold f fd) (B : BkF K mg C aL aW mc) (eB : ErF P w K mg base "BadBook" "thing" cBad) (eN : ErF P w K mg base "NoLook" "look" cNo) (gL : mg "LateError" = some (.ref cL)) (gF : mg "BadForm" = some (.ref cF)) (xB : ExcC K cBad)
    (xNN : PySem.W.exmOne K (.ref cNo) (.ref cNo) = some true) (xBN : PySem.W.exmOne K (.ref cBad) (.ref cNo) = some false) (xBL : PySem.W.exmOne K (.ref cBad) (.ref cL) = some true) (kBB : PySem.W.kitOne K (.ref cBad) (.ref cBad) = some true) (kBF : PySem.W.kitOne K (.ref cBad) (.ref cF) = some false)
    (GM : FnOk P w K mg base (L2N.CX P w) 10 fM fdM PM (spMade K C aL cBad cNo)) (bM : Binds K fdM PM []) (kM : PySem.W.keepIn K (.ref fM) = true) (mM : mg "_law_made" = some (.ref fM)) (hii : mg "isinstance" = none) : FnOk P w K mg base CX0 11 f fd PM (spTold K) := by
  refine F.ok scTold (fun vs H Q E h => ?_) (fun cdv A outer s H vs Q E hr h => ?_)
  · obtain ⟨_, _, _, _, _, _, _, _, _, rfl, _⟩ := h
    rfl
  obtain ⟨way, v0, v1, v2, v3, d0, d1, d2, d3, rfl, hw0, hw1, n0, n1, n2, n3, k⟩ := h
  refine ⟨_, pss_one (ps_try_all (i := 5) rfl rfl scTold.nd rfl rfl takesN0 (fun W pn xe tk _ =>
      pss_one (ps_ret (pe_ifExp (pt_val (pe_callB (r := rIsi K) call_isi (by rfl) hii PyProof.Rows.boot_isinstance (pa_cons (pe_callS (E := WE W) GM hr (by rfl) mM kM bM (fun σ => L2N.passAt tk σ) (pa_cons (pv 0) (pa_cons (pv 1) (pa_cons (pv 2) (pa_cons (pv 3) (pa_cons (pv 4) pa_nil)))))) (pa_cons (pe_glob (v := .ref C) (by rfl) B.gB rfl) pa_nil)))) pe_non pe_str)))
    (Hds.cons ⟨rfl, by decide, .inl eN.g⟩ (fun a oe cls d pn hz hf => pss_one (ps_ret (pe_tup (pa_cons pe_str (pa_cons (pe_xf eN.xf eN.nf hz.zc hf (pv 5)) pa_nil)))))
    (Hds.cons ⟨rfl, by decide, .inl gL⟩ (fun a oe cls d pn hz hf => pss_one (ps_ret (pe_ifExp (PW.pt (pw_and (pt_val (pe_callB (r := rIsXc K cBad a cls d) (call_isXc xB List.mem_cons_self hz.zc hf) (by rfl) hii PyProof.Rows.boot_isinstance (pa_cons (pv 5) (pa_cons (pe_glob (v := .ref cBad) (by rfl) eB.g rfl) pa_nil))))
        (pw_and1 (pt_not (pt_val (pe_callB (r := rIsXc K cBad a cls d) (call_isXc xB List.mem_cons_self hz.zc hf) (by rfl) hii PyProof.Rows.boot_isinstance (pa_cons (pv 5) (pa_cons (pe_glob (v := .ref cF) (by rfl) gF rfl) pa_nil)))))))) (pe_tup (pa_cons pe_str (pa_cons (pe_xf eB.xf eB.nf hz.zc hf (pv 5)) pa_nil))) pe_str))) Hds.nil))), ?_⟩
  refine ⟨_, rfl, _, rfl, _, rfl, _, rfl, _, rfl, way, v0, v1, v2, v3, d0, d1, d2, d3, rfl, hw0, hw1, n0, n1, n2, n3, ⟨fun eo x H' b g e hB => ?_, fun d eo x v' H' e hx hv => ⟨false, xBN, (fun z => nomatch z), fun _ => ⟨true, xBL, fun _ a' na' => ?_, (fun z => nomatch z)⟩⟩, fun y eo x v' H' e hx hv => ⟨true, xNN, fun _ a' na' => ?_, (fun z => nomatch z)⟩⟩⟩
  · obtain ⟨dx, d, hx, hd⟩ := hB
    refine ⟨.ref x, .ref C, .ref C, .ref C, true, rfl, .own _, .base (.ins hx B.cl B.ca B.cg B.ct B.cm), B.ck, _, rfl, ?_⟩
    refine k .non H' e ?_
    rw [eo]
    exact .non
  · have hDAt : DAt H' (some x) := fun dd ed => by
      cases ed
      exact ⟨_, hx⟩
    refine ⟨_, rfl, rfl, .ref cBad, .ref cBad, true, rfl, fun _ r => r, hDAt, kBB, _, rfl, ?_⟩
    refine ⟨_, rfl, rfl, .ref cF, .ref cF, false, rfl, fun _ r => r, hDAt, kBF, _, rfl, ?_⟩
    refine ⟨_, rfl, rfl, rfl, x, _, v', rfl, hx, look1, (by show 2 ≤ sizeLine; decide), fun p np => k _ _ (e.trans (same_new np)) ?_⟩
    rw [eo]
    exact .tup (.inl (.inl upd_same)) (.cons (.str _) (.cons (dp_same (same_new np) hv) .nil))
  · refine ⟨_, rfl, rfl, rfl, x, _, v', rfl, hx, look1, (by show 2 ≤ sizeLine; decide), fun p np => k _ _ (e.trans (same_new np)) ?_⟩
    rw [eo]
    exact .tup (.inl (.inl upd_same)) (.cons (.str _) (.cons (dp_same (same_new np) hv) .nil))
end
end Lq


set_option Elab.async false
set_option linter.all false
set_option maxRecDepth 100000
set_option maxHeartbeats 16000000
/-! _law_thing, _law_faulty -/
namespace Lq
open PySem L2 L2.LqX L2H
abbrev sThing : Stmt := topS 20
abbrev sFaulty : Stmt := topS 25
def things12 : List PyData := [.str "keep", .str "ask", .str "anew", .str "late", .str "early", .str "", .none, .bool true, .list [.str "keep"], .tuple [.str "ask"], .str "Keep", .str "asks"]
def okD (d : PyData) : Bool := SeqAt.shaped d && decide (d.depth ≤ 4)
theorem da_of {K : PySem.W.Frag} {H : Hp} {v : V} {d : PyData} (h : Dp K H v d) (o : okD d = true) (s : short 1000 d) : NotOf K H v d [] := by
  unfold okD at o
  simp only [Bool.and_eq_true, decide_eq_true_eq] at o
  exact ⟨h, o.1, o.2, s, rfl⟩
theorem things12_ok : ∀ d ∈ things12, okD d = true := fun d hd => List.all_eq_true.mp (show things12.all okD = true from by decide +kernel) d hd
theorem short12 : ∀ d ∈ things12, short 1000 d := by
  intro d hd
  simp only [things12, List.mem_cons, List.not_mem_nil, or_false] at hd
  rcases hd with rfl | rfl | rfl | rfl | rfl | rfl | rfl | rfl | rfl | rfl | rfl | rfl <;> simp [short, shortAll]
theorem del_upd {H : Hp} {a : Addr} {o : HO} : del (upd H a o) a = del H a := by
  funext b
  unfold del
  by_cases h : b = a
  · rw [if_pos h, if_pos h]
  · rw [if_neg h, if_neg h, upd_ne h]
theorem del_keep {H H' : Hp} {a : Addr} (k : ∀ c o, H c = some o → c ≠ a → H' c = some o) : Same (del H a) (del H' a) := fun c o z => by
  by_cases h : c = a
  · rw [h, del_same] at z
    cases z
  · rw [del_ne h] at z ⊢
    exact k c o z h
theorem del_off {H : Hp} {a : Addr} : Same (del H a) H := fun c o z => by
  by_cases h : c = a
  · rw [h, del_same] at z
    cases z
  · rw [del_ne h] at z
    exact z
def spThing (K : PySem.W.Frag) : Sp := fun vs H Q _ => ∃ (a : Addr) (g s t : Int), vs = [.ref a] ∧ H a = some (.lst (srcL g s t)) ∧ Src g s t ∧ t < 100000 ∧
  ∀ (v : V) (d : PyData) (g' t' : Int) (H' : Hp), (∀ c o, H c = some o → c ≠ a → H' c = some o) → H' a = some (.lst (srcL g' s t')) → Src g' s t' → t' ≤ t + 1 → NotOf K (del H' a) v d [] → Q v H'
theorem scThing : FnScope ["source"] ["source"] (defScope sThing) := ⟨rfl, rfl, rfl, by decide +kernel, rfl, by decide +kernel, by decide +kernel⟩
section
variable {P : Program} {w : World} {K : PySem.W.Frag} {mg : Str → Option Value} {base : Heap}
theorem ok_thing {f fO : Addr} {fd fdO : FuncData} (F : Fun K "_law_thing" "_law_thing" sThing f fd) (GO : FnOk P w K mg base CX0 2 fO fdO ["source", "some"] (spOf K)) (bO : Binds K fdO ["source", "some"] []) (kO : PySem.W.keepIn K (.ref fO) = true) (mO : mg "_law_of" = some (.ref fO)) : FnOk P w K mg base CX0 3 f fd ["source"] (spThing K) := by
  refine F.ok scThing (fun vs H Q E h => ?_) (fun cdv A outer s H vs Q E hr h => ?_)
  · obtain ⟨_, _, _, _, rfl, _⟩ := h
    rfl
  obtain ⟨a, g, sd, t, rfl, ha, S, ht, k⟩ := h
  refine ⟨_, pss_one (ps_ret (pe_call GO hr (by rfl) mO kO bO .nil pass0 (pa_cons (pv 0) (pa_cons (pe_lst (pa_cons pe_str (pa_cons pe_str (pa_cons pe_str (pa_cons pe_str (pa_cons pe_str (pa_cons pe_str (pa_cons pe_non (pa_cons pe_bl (pa_cons (pe_lst (pa_cons pe_str pa_nil)) (pa_cons (pe_tup (pa_cons pe_str pa_nil)) (pa_cons pe_str (pa_cons pe_str pa_nil))))))))))))) pa_nil)))), ?_⟩
  refine ⟨_, rfl, (by show 1 ≤ sizeLine; decide), fun q1 m1 => ⟨(by show 1 ≤ sizeLine; decide), fun q2 m2 => ⟨(by show 12 ≤ sizeLine; decide), fun pl ml => ?_⟩⟩⟩
  have t1 := same_new (o := .lst [V.str "keep"]) m1
  have t2 := same_new (o := .tup [V.str "ask"]) m2
  have tl := same_new (o := .lst [V.str "keep", V.str "ask", V.str "anew", V.str "late", V.str "early", V.str "", V.non, V.bl true, V.ref q1, V.ref q2, V.str "Keep", V.str "asks"]) ml
  obtain ⟨H1, eH1⟩ : ∃ H1, H1 = upd (upd (upd H q1 (.lst [V.str "keep"])) q2 (.tup [V.str "ask"])) pl (.lst [V.str "keep", V.str "ask", V.str "anew", V.str "late", V.str "early", V.str "", V.non, V.bl true, V.ref q1, V.ref q2, V.str "Keep", V.str "asks"]) := ⟨_, rfl⟩
  have s1 : Same H H1 := by
    rw [eH1]
    exact (t1.trans t2).trans tl
  have aq1 : q1 ≠ a := (ne_of_none ha m1).symm
  have aq2 : q2 ≠ a := (ne_of_none (t1 _ _ ha) m2).symm
  have apl : a ≠ pl := ne_of_none (t2 _ _ (t1 _ _ ha)) ml
  have h1 : del H1 a q1 = some (.lst [V.str "keep"]) := by
    rw [del_ne aq1, eH1]
    exact tl _ _ (t2 _ _ upd_same)
  have h2 : del H1 a q2 = some (.tup [V.str "ask"]) := by
    rw [del_ne aq2, eH1]
    exact tl _ _ upd_same
  have T : DpAll K (del H1 a) [V.str "keep", V.str "ask", V.str "anew", V.str "late", V.str "early", V.str "", V.non, V.bl true, V.ref q1, V.ref q2, V.str "Keep", V.str "asks"] things12 :=
    .cons (.str _) (.cons (.str _) (.cons (.str _) (.cons (.str _) (.cons (.str _) (.cons (.str _) (.cons .non (.cons (.bl _) (.cons (.lst (.inl (.inl h1)) (.cons (.str _) .nil)) (.cons (.tup (.inl (.inl h2)) (.cons (.str _) .nil)) (.cons (.str _) (.cons (.str _) .nil)))))))))))
  refine ⟨a, pl, g, sd, t, _, rfl, by rw [← eH1]; exact s1 _ _ ha, S, ht, .inl (.inl upd_same), apl, (by show 0 < 12; decide), (by show 12 ≤ 1000; decide), fun i v g' t' hv S' h' => ?_⟩
  rw [← eH1]
  obtain ⟨d, hd, dv⟩ := dpl_get T hv
  have md := List.mem_of_getElem? hd
  refine k v d g' t' _ (fun c o z ca => by rw [upd_ne ca]; exact s1 _ _ z) upd_same S' h' ?_
  rw [del_upd]
  exact da_of dv (things12_ok d md) (short12 d md)
end
/-! words -/
def sizeW (ws : List Str) : Nat := (ws.map Str.length).sum + ws.length
theorem len_joinL_eq (S : List Nat) : ∀ {ps : List (List Nat)}, ps ≠ [] → (TL.joinL S ps).length + S.length = (ps.map List.length).sum + ps.length * S.length
  | [], h => absurd rfl h
  | [p], _ => by
    show p.length + S.length = p.length + 0 + 1 * S.length
    omega
  | p :: q :: r, _ => by
    have ih := len_joinL_eq S (ps := q :: r) (by simp)
    rw [joinL_cons S p (by simp), List.length_append, List.length_append, List.map_cons, List.sum_cons, List.length_cons, Nat.add_mul]
    omega
theorem sum_len (ws : List Str) : ((ws.map TL.tl).map List.length).sum = (ws.map Str.length).sum := by
  rw [List.map_map]
  congr 1
theorem len_join {ws : List Str} (h : ws ≠ []) : (Txt.join " " ws).length + 1 = sizeW ws := by
  have e := len_joinL_eq (TL.tl " ") (ps := ws.map TL.tl) (by simpa using h)
  rw [sum_len, List.length_map, tl32] at e
  rw [TL.len_tl, TL.join_eq, TL.tl_join, tl32]
  unfold sizeW
  simp at e ⊢
  first | omega | exact e
theorem size_split (x : Str) : sizeW (Txt.split x " ") = x.length + 1 := by
  rw [← len_join (split_ne x), join_split]
theorem len_join_le (ws : List Str) : (Txt.join " " ws).length ≤ sizeW ws := by
  cases ws with
  | nil => exact Nat.zero_le _
  | cons w r =>
    have := len_join (ws := w :: r) (by simp)
    omega
theorem asc_join {ws : List Str} (h : ∀ w ∈ ws, Asc w) : Asc (Txt.join " " ws) := by
  have go : ∀ ps : List (List Nat), (∀ p ∈ ps, ∀ c ∈ p, c < 128) → ∀ c ∈ TL.joinL [32] ps, c < 128 := by
    intro ps
    induction ps with
    | nil => intro _ c hc; cases hc
    | cons p r ih =>
      intro hp c hc
      cases r with
      | nil => exact hp p List.mem_cons_self c hc
      | cons q r =>
        rw [joinL_cons [32] p (by simp)] at hc
        rcases List.mem_append.mp hc with z | z
        · exact hp p List.mem_cons_self c z
        · rcases List.mem_append.mp z with z | z
          · rw [List.mem_singleton.mp z]; decide
          · exact ih (fun p' hp' => hp p' (List.mem_cons_of_mem _ hp')) c z
  intro c hc
  rw [TL.join_eq, TL.tl_join, tl32] at hc
  refine go _ (fun p hp c hc => ?_) c hc
  obtain ⟨w, mw, rfl⟩ := List.mem_map.mp hp
  exact h w mw c hc
theorem sum_set : ∀ (l : List Nat) (i a : Nat), (l.set i a).sum ≤ l.sum + a
  | [], i, a => by simp
  | x :: l, 0, a => by
    show a + l.sum ≤ x + l.sum + a
    omega
  | x :: l, i + 1, a => by
    show x + (l.set i a).sum ≤ x + l.sum + a
    have := sum_set l i a
    omega
theorem size_set (ws : List Str) (i : Nat) (x : Str) : sizeW (ws.set i x) ≤ sizeW ws + x.length := by
  unfold sizeW
  rw [List.length_set, List.map_set]
  have := sum_set (ws.map Str.length) i x.length
  omega
theorem size_mem {w : Str} : ∀ {ws : List Str}, w ∈ ws → w.length ≤ sizeW ws
  | x :: ws, h => by
    unfold sizeW
    rw [List.map_cons, List.sum_cons, List.length_cons]
    rcases List.mem_cons.mp h with rfl | h
    · omega
    · have := size_mem h
      unfold sizeW at this
      omega
theorem size_app (a b : List Str) : sizeW (a ++ b) = sizeW a + sizeW b := by
  unfold sizeW
  rw [List.map_append, List.sum_append, List.length_append]
  omega
theorem size_sub : ∀ {a b : List Str}, a.Sublist b → sizeW a ≤ sizeW b
  | _, _, .slnil => Nat.le_refl _
  | _, _, .cons x h => by
    have := size_sub h
    unfold sizeW at this ⊢
    rw [List.map_cons, List.sum_cons, List.length_cons]
    omega
  | _, _, .cons₂ x h => by
    have := size_sub h
    unfold sizeW at this ⊢
    rw [List.map_cons, List.sum_cons, List.length_cons, List.map_cons, List.sum_cons, List.length_cons]
    omega
theorem cut_strs (ws : List Str) (lo hi : Option Int) : ∃ ws1 : List Str, cutV (ws.map V.str) lo hi = ws1.map V.str ∧ ws1.Sublist ws := by
  unfold cutV
  rw [← List.map_drop, ← List.map_take]
  exact ⟨_, rfl, (List.take_sublist _ _).trans (List.drop_sublist _ _)⟩
theorem asc_upper {x : Str} (h : Asc x) : Asc (Txt.upper x) := by
  have tab : ∀ c, c < 128 → ∀ e ∈ Unicode.upperOf c, e < 128 := by decide +kernel
  intro e he
  have h1 : e ∈ (x.cps.mapIdx fun _ c => (Unicode.upperOf c).toArray).flatten := Array.mem_toList_iff.mp he
  rw [Array.mem_flatten] at h1
  obtain ⟨l, hl, hel⟩ := h1
  obtain ⟨i, hi, rfl⟩ := Array.mem_mapIdx.mp hl
  exact tab _ (h _ (Array.mem_toList_iff.mpr (Array.getElem_mem hi))) e (by simpa using hel)
theorem asc_part {x a c b : Str} (h : Asc x) (e : Txt.partition x ":" = (a, c, b)) : Asc a ∧ a.length ≤ x.length := by
  rcases part_cases ":" 58 tl58 x with ⟨_, q⟩ | ⟨a', b', ex, _, q⟩
  · rw [q] at e
    injection e with e1 e2
    subst e1
    exact ⟨h, Nat.le_refl _⟩
  · rw [q] at e
    injection e with e1 e2
    subst e1
    refine ⟨fun c hc => h c ?_, ?_⟩
    · rw [ex, TL.tl_append, TL.tl_append]
      exact List.mem_append.mpr (.inl (List.mem_append.mpr (.inl hc)))
    · rw [ex, len_app, len_app]
      omega
end Lq


set_option Elab.async false
set_option linter.all false
set_option maxRecDepth 100000
set_option maxHeartbeats 16000000
/-! _law_faulty -/
namespace Lq
open PySem L2 L2.LqX L2H
def c0 : List Str := ["late", "early", "", "walk:keep", "len:ask", "late:ask"]
def c4 : List Str := ["keep", "ask", "anew", "", "new", "ask:ask"]
def c5a : List Str := [" ", ":", "a", ""]
def c5b : List Str := ["", " ", ":", "k"]
def okC (z : Str) : Bool := (TL.tl z).all (fun c => decide (c < 128)) && decide (z.length ≤ 9)
theorem okC_of {cs : List Str} (h : cs.all okC = true) {i : Nat} {v : V} (hv : (cs.map V.str)[i]? = some v) : ∃ z, v = .str z ∧ Asc z ∧ z.length ≤ 9 := by
  rw [List.getElem?_map] at hv
  obtain ⟨z, hz, rfl⟩ := Option.map_eq_some_iff.mp hv
  have o := List.all_eq_true.mp h z (List.mem_of_getElem? hz)
  unfold okC at o
  rw [Bool.and_eq_true, List.all_eq_true, decide_eq_true_eq] at o
  exact ⟨z, rfl, fun c hc => of_decide_eq_true (o.1 c hc), o.2⟩
theorem ok0 : c0.all okC = true := by decide +kernel
theorem ok4 : c4.all okC = true := by decide +kernel
theorem ok5a : c5a.all okC = true := by decide +kernel
theorem ok5b : c5b.all okC = true := by decide +kernel
def spFaulty : Sp := fun vs H Q _ => ∃ (a : Addr) (g s t : Int) (x : Str), vs = [.ref a, .str x] ∧ H a = some (.lst (srcL g s t)) ∧ Src g s t ∧ t + 5 < 100000 ∧ Asc x ∧ x.length ≤ 3000 ∧
  ∀ (y : Str) (g' t' : Int) (H' : Hp), (∀ c o, H c = some o → c ≠ a → H' c = some o) → H' a = some (.lst (srcL g' s t')) → Src g' s t' → t' ≤ t + 5 → Asc y → y.length ≤ 4 * x.length + 30 → Q (.str y) H'
abbrev NF : List Str := ["source", "text", "words", "at", "way", "other"]
theorem scFaulty : FnScope NF ["source", "text"] (defScope sFaulty) := ⟨rfl, rfl, rfl, by decide +kernel, rfl, by decide +kernel, by decide +kernel⟩
section
variable {P : Program} {w : World} {K : PySem.W.Frag} {mg : Str → Option Value} {base : Heap}
theorem ok_faulty {f fD fO : Addr} {fd fdD fdO : FuncData} (F : Fun K "_law_faulty" "_law_faulty" sFaulty f fd) (GD : FnOk P w K mg base CX0 1 fD fdD ["source", "many"] spDraw) (bD : Binds K fdD ["source", "many"] []) (kD : PySem.W.keepIn K (.ref fD) = true) (mD : mg "_law_draw" = some (.ref fD))
    (GO : FnOk P w K mg base CX0 2 fO fdO ["source", "some"] (spOf K)) (bO : Binds K fdO ["source", "some"] []) (kO : PySem.W.keepIn K (.ref fO) = true) (mO : mg "_law_of" = some (.ref fO)) (hlen : mg "len" = none) : FnOk P w K mg base CX0 3 f fd ["source", "text"] spFaulty := by
  refine F.ok scFaulty (fun vs H Q E h => ?_) (fun cdv A outer s H vs Q E hr h => ?_)
  · obtain ⟨_, _, _, _, _, rfl, _⟩ := h
    rfl
  obtain ⟨a, g, sd, t, x, rfl, ha, S, ht, hx, hxl, k⟩ := h
  refine ⟨_, pss_cons (ps_set (i := 2) scFaulty.nd rfl (Or.inl rfl) (pe_split (pv 1) pe_str))
    (pss_cons (ps_set (i := 3) scFaulty.nd rfl (Or.inl rfl) (pe_call GD (hr.mono (by decide)) (by rfl) mD kD bD .nil pass0 (pa_cons (pv 0) (pa_cons (pe_callB call_len_seq (by rfl) hlen PySem.boot_len (pa_cons (pv 2) pa_nil)) pa_nil))))
    (pss_cons (ps_set (i := 4) scFaulty.nd rfl (Or.inl rfl) (pe_call GD (hr.mono (by decide)) (by rfl) mD kD bD .nil pass0 (pa_cons (pv 0) (pa_cons pe_int pa_nil))))
    (pss_cons (ps_if (pt_cmpR op_eq (pv 4) pe_int (nomark _)) (pss_one (ps_set (i := 2) scFaulty.nd rfl (Or.inl rfl) (pe_op op_cat (pe_op op_cat (pe_slice sl_list (pv 2) po_none (po_some (pv 3))) (pe_lst (pa_cons (pe_call GO hr (by rfl) mO kO bO .nil pass0 (pa_cons (pv 0) (pa_cons (pe_lst (pa_cons pe_str (pa_cons pe_str (pa_cons pe_str (pa_cons pe_str (pa_cons pe_str (pa_cons pe_str pa_nil))))))) pa_nil))) pa_nil))) (pe_slice sl_list (pv 2) (po_some (pv 3)) po_none)))) pss_nil)
    (pss_cons (ps_if (pt_cmpR op_eq (pv 4) pe_int (nomark _)) (pss_one (ps_set (i := 2) scFaulty.nd rfl (Or.inl rfl) (pe_op op_cat (pe_slice sl_list (pv 2) po_none (po_some (pv 3))) (pe_slice sl_list (pv 2) (po_some (pe_op op_add (pv 3) pe_int)) po_none)))) pss_nil)
    (pss_cons (ps_if (pt_cmpR op_eq (pv 4) pe_int (nomark _)) (pss_one (ps_set (i := 2) scFaulty.nd rfl (Or.inl rfl) (pe_op op_cat (pe_op op_cat (pe_slice sl_list (pv 2) po_none (po_some (pv 3))) (pe_lst (pa_cons (pe_step (pe_ix ix_list (pv 2) (pv 3) (fun _ _ => rfl)) (pe_un un_neg pe_int)) pa_nil))) (pe_slice sl_list (pv 2) (po_some (pe_op op_add (pv 3) pe_int)) po_none)))) pss_nil)
    (pss_cons (ps_if (pt_cmpR op_eq (pv 4) pe_int (nomark _)) (pss_cons (ps_set (i := 5) scFaulty.nd rfl (Or.inl rfl) (pe_call GD (hr.mono (by decide)) (by rfl) mD kD bD .nil pass0 (pa_cons (pv 0) (pa_cons (pe_callB call_len_seq (by rfl) hlen PySem.boot_len (pa_cons (pv 2) pa_nil)) pa_nil)))) (pss_one (ps_asg (pe_tup (pa_cons (pe_ix ix_list (pv 2) (pv 5) (fun _ _ => rfl)) (pa_cons (pe_ix ix_list (pv 2) (pv 3) (fun _ _ => rfl)) pa_nil))) (pg_tup rfl (pgs_cons (pg_sub (pv 2) (pv 3) set_list) (pgs_cons (pg_sub (pv 2) (pv 5) set_list) pgs_nil)))))) pss_nil)
    (pss_cons (ps_if (pt_cmpR op_eq (pv 4) pe_int (nomark _)) (pss_one (ps_asg (pe_op op_add_str (pe_op op_add_str (pe_ix ix_tup (pe_partition (pe_ix ix_list (pv 2) (pv 3) (fun _ _ => rfl)) pe_str) pe_int (fun _ _ => rfl)) pe_str) (pe_call GO hr (by rfl) mO kO bO .nil pass0 (pa_cons (pv 0) (pa_cons (pe_lst (pa_cons pe_str (pa_cons pe_str (pa_cons pe_str (pa_cons pe_str (pa_cons pe_str (pa_cons pe_str pa_nil))))))) pa_nil)))) (pg_sub (pv 2) (pv 3) set_list))) pss_nil)
    (pss_cons (ps_if (pt_cmpR op_eq (pv 4) pe_int (nomark _)) (pss_one (ps_asg (pe_op op_add_str (pe_op op_add_str (pe_call GO hr (by rfl) mO kO bO .nil pass0 (pa_cons (pv 0) (pa_cons (pe_lst (pa_cons pe_str (pa_cons pe_str (pa_cons pe_str (pa_cons pe_str pa_nil))))) pa_nil))) (pe_ix ix_list (pv 2) (pv 3) (fun _ _ => rfl))) (pe_call GO hr (by rfl) mO kO bO .nil pass0 (pa_cons (pv 0) (pa_cons (pe_lst (pa_cons pe_str (pa_cons pe_str (pa_cons pe_str (pa_cons pe_str pa_nil))))) pa_nil)))) (pg_sub (pv 2) (pv 3) set_list))) pss_nil)
    (pss_cons (ps_if (pt_cmpR op_eq (pv 4) pe_int (nomark _)) (pss_one (ps_asg (pe_upper (pe_ix ix_list (pv 2) (pv 3) (fun _ _ => rfl))) (pg_sub (pv 2) (pv 3) set_list))) pss_nil)
    (pss_one (ps_ret (pe_join pe_str (pv 2))))))))))))), ?_⟩
  have slz : (100000 : Nat) ≤ sizeLine := by decide
  have no : ∀ {i j : Int} {A B : Prop}, i ≠ j → B → if decide (V.int i = V.int j) = true then A else B := fun h x => by
    rw [decide_eq_false fun z => h (V.int.inj z)]
    exact iteF x
  have yes : ∀ {i : Int} {A B : Prop}, A → if decide (V.int i = V.int i) = true then A else B := fun x => by
    rw [decide_eq_true rfl]
    exact iteT x
  obtain ⟨ws, ews⟩ : ∃ ws, ws = Txt.split x " " := ⟨_, rfl⟩
  have wne : ws ≠ [] := by rw [ews]; exact split_ne x
  have wpos : 0 < ws.length := List.length_pos_iff.mpr wne
  have wsz : sizeW ws = x.length + 1 := by rw [ews, size_split]
  have wasc : ∀ w ∈ ws, Asc w := fun w hw => asc_split hx (by rw [← ews]; exact hw)
  have wlen : ws.length ≤ sizeW ws := by unfold sizeW; omega
  refine ⟨_, rfl, ⟨_, rfl⟩, x, " ", rfl, rfl, by decide +kernel, by omega, ?_⟩
  rw [← ews]
  intro pw nw
  have apw : a ≠ pw := ne_of_none ha nw
  have s1 : Same H (upd H pw (.lst (ws.map V.str))) := same_new nw
  refine ⟨_, rfl, _, rfl, pw, ws.map V.str, rfl, .inl (.inl (.inl upd_same)), a, g, sd, t, ((ws.map V.str).length : Int), rfl, s1 _ _ ha, S, by omega, by rw [List.length_map]; omega, ?_, fun r g1 t1 r0 r1 S1 h1 => ?_⟩
  · rw [List.length_map]
    exact Nat.lt_of_le_of_lt (show (ws.length : Int).natAbs ≤ 100000 by omega) (by decide)
  rw [List.length_map] at r1
  refine ⟨_, rfl, a, g1, sd, t1, 8, rfl, upd_same, S1, by omega, by decide, by decide, fun way g2 t2 w0 w1 S2 h2 => ?_⟩
  obtain ⟨H0, eH0⟩ : ∃ H0, H0 = upd (upd (upd H pw (.lst (ws.map V.str))) a (.lst (srcL g1 sd t1))) a (.lst (srcL g2 sd t2)) := ⟨_, rfl⟩
  rw [← eH0]
  have ha0 : H0 a = some (.lst (srcL g2 sd t2)) := by
    rw [eH0]
    exact upd_same
  have hp0 : H0 pw = some (.lst (ws.map V.str)) := by
    rw [eH0, upd_ne apw.symm, upd_ne apw.symm]
    exact upd_same
  have keep0 : ∀ c o, H c = some o → c ≠ a → H0 c = some o := fun c o z ca => by
    rw [eH0, upd_ne ca, upd_ne ca]
    exact s1 _ _ z
  have hn : r.toNat < ws.length := by omega
  obtain ⟨wd, hwd⟩ : ∃ wd, ws[r.toNat]? = some wd := ⟨ws[r.toNat]'hn, List.getElem?_eq_getElem _⟩
  have mwd := List.mem_of_getElem? hwd
  have awd := wasc wd mwd
  have lwd := size_mem mwd
  have at0 : atI (ws.map V.str) r = some (.str wd) := at_of (j := r.toNat) (by omega) (by rw [List.getElem?_map, hwd]; rfl)
  have ixn : ∀ l : List Str, l.length = ws.length → ixN (l.map V.str).length r = some r.toNat := fun l e => by
    rw [List.length_map, e]
    unfold ixN
    rw [if_pos (by omega), if_pos (by omega)]
  have setm : ∀ (l : List Str) (i : Nat) (z : Str), (l.map V.str).set i (.str z) = (l.set i z).map V.str := fun l i z => (List.map_set).symm
  have seta : ∀ {l : List Str} {i : Nat} {z : Str}, (∀ w ∈ l, Asc w) → Asc z → ∀ w ∈ l.set i z, Asc w := fun h1 h2 w hw => by
    rcases List.mem_or_eq_of_mem_set hw with q | q
    · exact h1 w q
    · rw [q]
      exact h2
  have l1 : (":" : Str).length = 1 := by decide +kernel
  have a1 : Asc (":" : Str) := by unfold Asc; decide +kernel
  have cs : way = 0 ∨ way = 1 ∨ way = 2 ∨ way = 3 ∨ way = 4 ∨ way = 5 ∨ way = 6 ∨ way = 7 := by omega
  rcases cs with rfl | rfl | rfl | rfl | rfl | rfl | rfl | rfl
  · -- way 0
    refine ⟨_, rfl, rfl, _, rfl, yes ?_⟩
    obtain ⟨u1, eu1, su1⟩ := cut_strs ws none (some r)
    obtain ⟨u2, eu2, su2⟩ := cut_strs ws (some r) none
    have z1 := size_sub su1
    have z2 := size_sub su2
    have y1 : ∀ w ∈ u1, Asc w := fun w hw => wasc w (su1.subset hw)
    have y2 : ∀ w ∈ u2, Asc w := fun w hw => wasc w (su2.subset hw)
    have v1 : u1.length ≤ sizeW u1 := by unfold sizeW; omega
    have v2 : u2.length ≤ sizeW u2 := by unfold sizeW; omega
    refine ⟨_, rfl, _, rfl, _, rfl, pw, _, rfl, .inl (.inl hp0), fun p1 m1 => ?_⟩
    rw [eu1]
    have t1 : Same H0 (upd H0 p1 (.lst (u1.map V.str))) := same_new m1
    refine ⟨_, rfl, (by show 6 ≤ sizeLine; decide), fun q1 b1 => ?_⟩
    have t1q := t1.trans (same_new (o := .lst (c0.map V.str)) b1)
    have aq : a ≠ q1 := ne_of_none (t1 _ _ ha0) b1
    refine ⟨a, q1, g2, sd, t2, c0.map V.str, rfl, t1q _ _ ha0, S2, by omega, .inl (.inl upd_same), aq, by decide, by decide, fun i v g3 t3 hv S3 h3 => ?_⟩
    obtain ⟨z, rfl, az, lz⟩ := okC_of ok0 hv
    obtain ⟨H3, eH3⟩ : ∃ H3, H3 = upd (upd (upd H0 p1 (.lst (u1.map V.str))) q1 (.lst [V.str "late", V.str "early", V.str "", V.str "walk:keep", V.str "len:ask", V.str "late:ask"])) a (.lst (srcL g3 sd t3)) := ⟨_, rfl⟩
    rw [show upd (upd (upd H0 p1 (.lst (u1.map V.str))) q1 (.lst [V.str "late", V.str "early", V.str "", V.str "walk:keep", V.str "len:ask", V.str "late:ask"])) a (.lst (srcL g3 sd t3)) = H3 from eH3.symm]
    have k03 : ∀ c o, H0 c = some o → c ≠ a → H3 c = some o := fun c o z ca => by
      rw [eH3, upd_ne ca]
      exact t1q _ _ z
    have ha3 : H3 a = some (.lst (srcL g3 sd t3)) := by
      rw [eH3]
      exact upd_same
    have ap1 : a ≠ p1 := ne_of_none ha0 m1
    have hp13 : H3 p1 = some (.lst (u1.map V.str)) := by
      rw [eH3, upd_ne ap1.symm]
      exact same_new b1 _ _ upd_same
    have hpw3 := k03 _ _ hp0 apw.symm
    have keep3 : ∀ c o, H c = some o → c ≠ a → H3 c = some o := fun c o z ca => k03 c o (keep0 c o z ca) ca
    refine ⟨(by show 1 ≤ sizeLine; decide), fun p2 m2 => ?_⟩
    have t2' := same_new (o := .lst [V.str z]) m2
    refine ⟨p1, p2, _, _, rfl, rfl, t2' _ _ hp13, upd_same, by rw [List.length_map, List.length_singleton]; omega, fun p3 m3 => ?_⟩
    rw [show u1.map V.str ++ [V.str z] = (u1 ++ [z]).map V.str from by rw [List.map_append]; rfl]
    have t3' := t2'.trans (same_new (o := .lst ((u1 ++ [z]).map V.str)) m3)
    refine ⟨_, rfl, _, rfl, _, rfl, pw, _, rfl, .inl (.inl (t3' _ _ hpw3)), fun p4 m4 => ?_⟩
    rw [eu2]
    have t4' := t3'.trans (same_new (o := .lst (u2.map V.str)) m4)
    refine ⟨p3, p4, _, _, rfl, rfl, same_new m4 _ _ upd_same, upd_same, by rw [List.length_map, List.length_map, List.length_append, List.length_singleton]; omega, fun p5 m5 => ?_⟩
    rw [show (u1 ++ [z]).map V.str ++ u2.map V.str = (u1 ++ [z] ++ u2).map V.str from (List.map_append).symm]
    have t5' := t4'.trans (same_new (o := .lst ((u1 ++ [z] ++ u2).map V.str)) m5)
    have sz1 : sizeW [z] = z.length + 1 := by unfold sizeW; simp
    refine ⟨_, rfl, rfl, _, rfl, no (by decide) ?_⟩
    refine ⟨_, rfl, rfl, _, rfl, no (by decide) ?_⟩
    refine ⟨_, rfl, rfl, _, rfl, no (by decide) ?_⟩
    refine ⟨_, rfl, rfl, _, rfl, no (by decide) ?_⟩
    refine ⟨_, rfl, rfl, _, rfl, no (by decide) ?_⟩
    refine ⟨_, rfl, rfl, _, rfl, no (by decide) ?_⟩
    have szb : sizeW (u1 ++ [z] ++ u2) ≤ 4 * x.length + 30 := by rw [size_app, size_app, sz1]; omega
    refine ⟨⟨_, rfl⟩, _, rfl, " ", p5, u1 ++ [z] ++ u2, rfl, rfl, .inl (.inl (.inl (upd_same))), ?_, ?_⟩
    · have hsum : ((u1 ++ [z] ++ u2).map Str.length).sum + (u1 ++ [z] ++ u2).length ≤ 4 * x.length + 30 := szb
      have l32 : (" " : Str).length = 1 := by decide +kernel
      show ((u1 ++ [z] ++ u2).map Str.length).sum + (u1 ++ [z] ++ u2).length * (" " : Str).length ≤ 16777216
      rw [l32]
      omega
    exact k (Txt.join " " (u1 ++ [z] ++ u2)) g3 t3 _ (fun c o q ca => t5' _ _ (keep3 c o q ca)) (t5' _ _ ha3) S3 (by omega) (asc_join (fun w hw => (List.mem_append.mp hw).elim (fun h => (List.mem_append.mp h).elim (y1 w) fun q => by rw [List.mem_singleton.mp q]; exact az) (y2 w))) (Nat.le_trans (len_join_le _) szb)
  · -- way 1
    refine ⟨_, rfl, rfl, _, rfl, no (by decide) ?_⟩
    refine ⟨_, rfl, rfl, _, rfl, yes ?_⟩
    obtain ⟨u1, eu1, su1⟩ := cut_strs ws none (some r)
    obtain ⟨u2, eu2, su2⟩ := cut_strs ws (some (r + 1)) none
    have z1 := size_sub su1
    have z2 := size_sub su2
    have y1 : ∀ w ∈ u1, Asc w := fun w hw => wasc w (su1.subset hw)
    have y2 : ∀ w ∈ u2, Asc w := fun w hw => wasc w (su2.subset hw)
    have v1 : u1.length ≤ sizeW u1 := by unfold sizeW; omega
    have v2 : u2.length ≤ sizeW u2 := by unfold sizeW; omega
    refine ⟨_, rfl, _, rfl, _, rfl, pw, _, rfl, .inl (.inl hp0), fun p1 m1 => ?_⟩
    rw [eu1]
    have t1 : Same H0 (upd H0 p1 (.lst (u1.map V.str))) := same_new m1
    refine ⟨_, rfl, _, rfl, _, _, rfl, rfl, _, rfl, pw, _, rfl, .inl (.inl (t1 _ _ hp0)), fun p2 m2 => ?_⟩
    rw [eu2]
    have tt2 := t1.trans (same_new (o := .lst (u2.map V.str)) m2)
    refine ⟨p1, p2, _, _, rfl, rfl, same_new m2 _ _ upd_same, upd_same, by rw [List.length_map, List.length_map]; omega, fun p3 m3 => ?_⟩
    rw [show u1.map V.str ++ u2.map V.str = (u1 ++ u2).map V.str from (List.map_append).symm]
    have tt3 := tt2.trans (same_new (o := .lst ((u1 ++ u2).map V.str)) m3)
    refine ⟨_, rfl, rfl, _, rfl, no (by decide) ?_⟩
    refine ⟨_, rfl, rfl, _, rfl, no (by decide) ?_⟩
    refine ⟨_, rfl, rfl, _, rfl, no (by decide) ?_⟩
    refine ⟨_, rfl, rfl, _, rfl, no (by decide) ?_⟩
    refine ⟨_, rfl, rfl, _, rfl, no (by decide) ?_⟩
    have szb : sizeW (u1 ++ u2) ≤ 4 * x.length + 30 := by rw [size_app]; omega
    refine ⟨⟨_, rfl⟩, _, rfl, " ", p3, u1 ++ u2, rfl, rfl, .inl (.inl (.inl (upd_same))), ?_, ?_⟩
    · have hsum : ((u1 ++ u2).map Str.length).sum + (u1 ++ u2).length ≤ 4 * x.length + 30 := szb
      have l32 : (" " : Str).length = 1 := by decide +kernel
      show ((u1 ++ u2).map Str.length).sum + (u1 ++ u2).length * (" " : Str).length ≤ 16777216
      rw [l32]
      omega
    exact k (Txt.join " " (u1 ++ u2)) g2 t2 _ (fun c o z ca => tt3 _ _ (keep0 c o z ca)) (tt3 _ _ ha0) S2 (by omega) (asc_join (fun w hw => (List.mem_append.mp hw).elim (y1 w) (y2 w))) (Nat.le_trans (len_join_le _) szb)
  · -- way 2
    refine ⟨_, rfl, rfl, _, rfl, no (by decide) ?_⟩
    refine ⟨_, rfl, rfl, _, rfl, no (by decide) ?_⟩
    refine ⟨_, rfl, rfl, _, rfl, yes ?_⟩
    obtain ⟨u1, eu1, su1⟩ := cut_strs ws none (some r)
    obtain ⟨u2, eu2, su2⟩ := cut_strs ws (some (r + 1)) none
    have z1 := size_sub su1
    have z2 := size_sub su2
    have y1 : ∀ w ∈ u1, Asc w := fun w hw => wasc w (su1.subset hw)
    have y2 : ∀ w ∈ u2, Asc w := fun w hw => wasc w (su2.subset hw)
    have v1 : u1.length ≤ sizeW u1 := by unfold sizeW; omega
    have v2 : u2.length ≤ sizeW u2 := by unfold sizeW; omega
    refine ⟨_, rfl, _, rfl, _, rfl, pw, _, rfl, .inl (.inl hp0), fun p1 m1 => ?_⟩
    rw [eu1]
    have t1 : Same H0 (upd H0 p1 (.lst (u1.map V.str))) := same_new m1
    refine ⟨_, rfl, _, rfl, pw, ws.map V.str, r, .str wd, rfl, rfl, .inl (.inl (t1 _ _ hp0)), at0, _, rfl, wd, -1, rfl, rfl, by decide, by omega, fun z lz0 mz => ?_⟩
    have az : Asc z := fun c hc => awd c (mz c hc)
    have lz : z.length ≤ sizeW ws := Nat.le_trans lz0 lwd
    have ha3 := t1 _ _ ha0
    have hp13 : (upd H0 p1 (.lst (u1.map V.str))) p1 = some (.lst (u1.map V.str)) := upd_same
    have hpw3 := t1 _ _ hp0
    have keep3 : ∀ c o, H c = some o → c ≠ a → (upd H0 p1 (.lst (u1.map V.str))) c = some o := fun c o z ca => t1 _ _ (keep0 c o z ca)
    refine ⟨(by show 1 ≤ sizeLine; decide), fun p2 m2 => ?_⟩
    have t2' := same_new (o := .lst [V.str z]) m2
    refine ⟨p1, p2, _, _, rfl, rfl, t2' _ _ hp13, upd_same, by rw [List.length_map, List.length_singleton]; omega, fun p3 m3 => ?_⟩
    rw [show u1.map V.str ++ [V.str z] = (u1 ++ [z]).map V.str from by rw [List.map_append]; rfl]
    have t3' := t2'.trans (same_new (o := .lst ((u1 ++ [z]).map V.str)) m3)
    refine ⟨_, rfl, _, rfl, _, _, rfl, rfl, _, rfl, pw, _, rfl, .inl (.inl (t3' _ _ hpw3)), fun p4 m4 => ?_⟩
    rw [eu2]
    have t4' := t3'.trans (same_new (o := .lst (u2.map V.str)) m4)
    refine ⟨p3, p4, _, _, rfl, rfl, same_new m4 _ _ upd_same, upd_same, by rw [List.length_map, List.length_map, List.length_append, List.length_singleton]; omega, fun p5 m5 => ?_⟩
    rw [show (u1 ++ [z]).map V.str ++ u2.map V.str = (u1 ++ [z] ++ u2).map V.str from (List.map_append).symm]
    have t5' := t4'.trans (same_new (o := .lst ((u1 ++ [z] ++ u2).map V.str)) m5)
    have sz1 : sizeW [z] = z.length + 1 := by unfold sizeW; simp
    refine ⟨_, rfl, rfl, _, rfl, no (by decide) ?_⟩
    refine ⟨_, rfl, rfl, _, rfl, no (by decide) ?_⟩
    refine ⟨_, rfl, rfl, _, rfl, no (by decide) ?_⟩
    refine ⟨_, rfl, rfl, _, rfl, no (by decide) ?_⟩
    have szb : sizeW (u1 ++ [z] ++ u2) ≤ 4 * x.length + 30 := by rw [size_app, size_app, sz1]; omega
    refine ⟨⟨_, rfl⟩, _, rfl, " ", p5, u1 ++ [z] ++ u2, rfl, rfl, .inl (.inl (.inl (upd_same))), ?_, ?_⟩
    · have hsum : ((u1 ++ [z] ++ u2).map Str.length).sum + (u1 ++ [z] ++ u2).length ≤ 4 * x.length + 30 := szb
      have l32 : (" " : Str).length = 1 := by decide +kernel
      show ((u1 ++ [z] ++ u2).map Str.length).sum + (u1 ++ [z] ++ u2).length * (" " : Str).length ≤ 16777216
      rw [l32]
      omega
    exact k (Txt.join " " (u1 ++ [z] ++ u2)) g2 t2 _ (fun c o q ca => t5' _ _ (keep3 c o q ca)) (t5' _ _ ha3) S2 (by omega) (asc_join (fun w hw => (List.mem_append.mp hw).elim (fun h => (List.mem_append.mp h).elim (y1 w) fun q => by rw [List.mem_singleton.mp q]; exact az) (y2 w))) (Nat.le_trans (len_join_le _) szb)
  · -- way 3
    refine ⟨_, rfl, rfl, _, rfl, no (by decide) ?_⟩
    refine ⟨_, rfl, rfl, _, rfl, no (by decide) ?_⟩
    refine ⟨_, rfl, rfl, _, rfl, no (by decide) ?_⟩
    refine ⟨_, rfl, rfl, _, rfl, yes ?_⟩
    refine ⟨_, rfl, _, rfl, pw, ws.map V.str, rfl, .inl (.inl (.inl hp0)), a, g2, sd, t2, ((ws.map V.str).length : Int), rfl, ha0, S2, by omega, by rw [List.length_map]; omega, ?_, fun ro g3 t3 ro0 ro1 S3 h3 => ?_⟩
    · rw [List.length_map]
      exact Nat.lt_of_le_of_lt (show (ws.length : Int).natAbs ≤ 100000 by omega) (by decide)
    rw [List.length_map] at ro1
    obtain ⟨H3, eH3⟩ : ∃ H3, H3 = upd H0 a (.lst (srcL g3 sd t3)) := ⟨_, rfl⟩
    rw [← eH3]
    have ha3 : H3 a = some (.lst (srcL g3 sd t3)) := by
      rw [eH3]
      exact upd_same
    have hp3 : H3 pw = some (.lst (ws.map V.str)) := by
      rw [eH3, upd_ne apw.symm]
      exact hp0
    have keep3 : ∀ c o, H c = some o → c ≠ a → H3 c = some o := fun c o z ca => by
      rw [eH3, upd_ne ca]
      exact keep0 c o z ca
    have hno : ro.toNat < ws.length := by omega
    obtain ⟨wo, hwo⟩ : ∃ wo, ws[ro.toNat]? = some wo := ⟨ws[ro.toNat]'hno, List.getElem?_eq_getElem _⟩
    have mwo := List.mem_of_getElem? hwo
    have lwo := size_mem mwo
    have ato : atI (ws.map V.str) ro = some (.str wo) := at_of (j := ro.toNat) (by omega) (by rw [List.getElem?_map, hwo]; rfl)
    refine ⟨_, rfl, _, rfl, pw, ws.map V.str, ro, .str wo, rfl, rfl, .inl (.inl (hp3)), ato, _, rfl, _, rfl, pw, ws.map V.str, r, .str wd, rfl, rfl, .inl (.inl (hp3)), at0, (by show 2 ≤ sizeLine; decide), fun T nT => ?_⟩
    have tT := same_new (o := .tup [V.str wo, V.str wd]) nT
    refine ⟨T, [.str wo, .str wd], rfl, .inl (.inl upd_same), rfl, _, _, rfl, _, rfl, _, rfl, pw, ws.map V.str, r, r.toNat, rfl, rfl, tT _ _ hp3, ixn ws rfl, ?_⟩
    rw [setm]
    refine ⟨_, _, rfl, _, rfl, _, rfl, pw, (ws.set r.toNat wo).map V.str, ro, ro.toNat, rfl, rfl, upd_same, ?_, rfl, ?_⟩
    · rw [List.length_map, List.length_set]
      unfold ixN
      rw [if_pos (by omega), if_pos (by omega)]
    rw [setm]
    have zz1 := size_set ws r.toNat wo
    have zz2 := size_set (ws.set r.toNat wo) ro.toNat wd
    refine ⟨_, rfl, rfl, _, rfl, no (by decide) ?_⟩
    refine ⟨_, rfl, rfl, _, rfl, no (by decide) ?_⟩
    refine ⟨_, rfl, rfl, _, rfl, no (by decide) ?_⟩
    have szb : sizeW ((ws.set r.toNat wo).set ro.toNat wd) ≤ 4 * x.length + 30 := by omega
    refine ⟨⟨_, rfl⟩, _, rfl, " ", pw, (ws.set r.toNat wo).set ro.toNat wd, rfl, rfl, .inl (.inl (.inl (upd_same))), ?_, ?_⟩
    · have hsum : (((ws.set r.toNat wo).set ro.toNat wd).map Str.length).sum + ((ws.set r.toNat wo).set ro.toNat wd).length ≤ 4 * x.length + 30 := szb
      have l32 : (" " : Str).length = 1 := by decide +kernel
      show (((ws.set r.toNat wo).set ro.toNat wd).map Str.length).sum + ((ws.set r.toNat wo).set ro.toNat wd).length * (" " : Str).length ≤ 16777216
      rw [l32]
      omega
    exact k (Txt.join " " ((ws.set r.toNat wo).set ro.toNat wd)) g3 t3 _ (fun c o z ca => by rw [upd_ne (ne_of_none z nw), upd_ne (ne_of_none z nw)]; exact tT _ _ (keep3 c o z ca)) (by rw [upd_ne apw, upd_ne apw]; exact tT _ _ ha3) S3 (by omega) (asc_join (seta (seta wasc (wasc wo mwo)) awd)) (Nat.le_trans (len_join_le _) szb)
  · -- way 4
    refine ⟨_, rfl, rfl, _, rfl, no (by decide) ?_⟩
    refine ⟨_, rfl, rfl, _, rfl, no (by decide) ?_⟩
    refine ⟨_, rfl, rfl, _, rfl, no (by decide) ?_⟩
    refine ⟨_, rfl, rfl, _, rfl, no (by decide) ?_⟩
    refine ⟨_, rfl, rfl, _, rfl, yes ?_⟩
    obtain ⟨pa, pc, pb, epa⟩ : ∃ pa pc pb, Txt.partition wd ":" = (pa, pc, pb) := ⟨_, _, _, rfl⟩
    obtain ⟨apa, lpa⟩ := asc_part awd epa
    refine ⟨_, rfl, _, rfl, pw, ws.map V.str, r, .str wd, rfl, rfl, .inl (.inl (hp0)), at0, ⟨_, rfl⟩, wd, ":", rfl, rfl, by decide +kernel, by omega, fun p1 m1 => ?_⟩
    rw [epa]
    have t1 := same_new (o := .tup [V.str pa, V.str pc, V.str pb]) m1
    refine ⟨p1, [.str pa, .str pc, .str pb], 0, .str pa, rfl, rfl, .inl (.inl upd_same), rfl, pa, ":", rfl, rfl, by omega, ?_⟩
    refine ⟨_, rfl, (by show 6 ≤ sizeLine; decide), fun q1 b3 => ?_⟩
    have t3q := same_new (o := .lst (c4.map V.str)) b3
    have aq3 : a ≠ q1 := ne_of_none (t1 _ _ ha0) b3
    refine ⟨a, q1, g2, sd, t2, c4.map V.str, rfl, t3q _ _ (t1 _ _ ha0), S2, by omega, .inl (.inl upd_same), aq3, by decide, by decide, fun i3 v3 g3 t3n hv3 S3 h3 => ?_⟩
    obtain ⟨z3, rfl, az3, lz3⟩ := okC_of ok4 hv3
    refine ⟨pa ++ ":", z3, rfl, rfl, by rw [len_app]; omega, ?_⟩
    have hp3 : (upd (upd (upd H0 p1 (.tup [V.str pa, V.str pc, V.str pb])) q1 (.lst (c4.map V.str))) a (.lst (srcL g3 sd t3n))) pw = some (.lst (ws.map V.str)) := by
      rw [upd_ne apw.symm]
      exact t3q _ _ (t1 _ _ hp0)
    refine ⟨_, rfl, _, rfl, pw, ws.map V.str, r, r.toNat, rfl, rfl, hp3, ixn ws rfl, ?_⟩
    rw [setm]
    have zz := size_set ws r.toNat (pa ++ ":" ++ z3)
    rw [len_app, len_app] at zz
    refine ⟨_, rfl, rfl, _, rfl, no (by decide) ?_⟩
    refine ⟨_, rfl, rfl, _, rfl, no (by decide) ?_⟩
    have szb : sizeW (ws.set r.toNat (pa ++ ":" ++ z3)) ≤ 4 * x.length + 30 := by omega
    refine ⟨⟨_, rfl⟩, _, rfl, " ", pw, ws.set r.toNat (pa ++ ":" ++ z3), rfl, rfl, .inl (.inl (.inl (upd_same))), ?_, ?_⟩
    · have hsum : ((ws.set r.toNat (pa ++ ":" ++ z3)).map Str.length).sum + (ws.set r.toNat (pa ++ ":" ++ z3)).length ≤ 4 * x.length + 30 := szb
      have l32 : (" " : Str).length = 1 := by decide +kernel
      show ((ws.set r.toNat (pa ++ ":" ++ z3)).map Str.length).sum + (ws.set r.toNat (pa ++ ":" ++ z3)).length * (" " : Str).length ≤ 16777216
      rw [l32]
      omega
    exact k (Txt.join " " (ws.set r.toNat (pa ++ ":" ++ z3))) g3 t3n _ (fun c o z ca => by rw [upd_ne (ne_of_none z nw), upd_ne ca]; exact t3q _ _ (t1 _ _ (keep0 c o z ca))) (by rw [upd_ne apw]; exact upd_same) S3 (by omega) (asc_join (seta wasc (asc_app (asc_app apa a1) az3))) (Nat.le_trans (len_join_le _) szb)
  · -- way 5
    refine ⟨_, rfl, rfl, _, rfl, no (by decide) ?_⟩
    refine ⟨_, rfl, rfl, _, rfl, no (by decide) ?_⟩
    refine ⟨_, rfl, rfl, _, rfl, no (by decide) ?_⟩
    refine ⟨_, rfl, rfl, _, rfl, no (by decide) ?_⟩
    refine ⟨_, rfl, rfl, _, rfl, no (by decide) ?_⟩
    refine ⟨_, rfl, rfl, _, rfl, yes ?_⟩
    refine ⟨_, rfl, (by show 4 ≤ sizeLine; decide), fun q1 b3 => ?_⟩
    have t3q := same_new (o := .lst (c5a.map V.str)) b3
    have aq3 : a ≠ q1 := ne_of_none (ha0) b3
    refine ⟨a, q1, g2, sd, t2, c5a.map V.str, rfl, t3q _ _ (ha0), S2, by omega, .inl (.inl upd_same), aq3, by decide, by decide, fun i3 v3 g3 t3n hv3 S3 h3 => ?_⟩
    obtain ⟨z3, rfl, az3, lz3⟩ := okC_of ok5a hv3
    have hp3 : (upd (upd H0 q1 (.lst (c5a.map V.str))) a (.lst (srcL g3 sd t3n))) pw = some (.lst (ws.map V.str)) := by
      rw [upd_ne apw.symm]
      exact t3q _ _ hp0
    refine ⟨_, rfl, _, rfl, pw, ws.map V.str, r, .str wd, rfl, rfl, .inl (.inl (hp3)), at0, z3, wd, rfl, rfl, by omega, ?_⟩
    refine ⟨_, rfl, (by show 4 ≤ sizeLine; decide), fun q2 b4 => ?_⟩
    have t4q := same_new (o := .lst (c5b.map V.str)) b4
    have aq4 : a ≠ q2 := ne_of_none (upd_same (H := upd H0 q1 (.lst (c5a.map V.str))) (a := a) (o := .lst (srcL g3 sd t3n))) b4
    refine ⟨a, q2, g3, sd, t3n, c5b.map V.str, rfl, t4q _ _ (upd_same (H := upd H0 q1 (.lst (c5a.map V.str))) (a := a) (o := .lst (srcL g3 sd t3n))), S3, by omega, .inl (.inl upd_same), aq4, by decide, by decide, fun i4 v4 g4 t4n hv4 S4 h4 => ?_⟩
    obtain ⟨z4, rfl, az4, lz4⟩ := okC_of ok5b hv4
    refine ⟨z3 ++ wd, z4, rfl, rfl, by rw [len_app]; omega, ?_⟩
    have hp4 : (upd (upd (upd (upd H0 q1 (.lst (c5a.map V.str))) a (.lst (srcL g3 sd t3n))) q2 (.lst (c5b.map V.str))) a (.lst (srcL g4 sd t4n))) pw = some (.lst (ws.map V.str)) := by
      rw [upd_ne apw.symm]
      exact t4q _ _ hp3
    refine ⟨_, rfl, _, rfl, pw, ws.map V.str, r, r.toNat, rfl, rfl, hp4, ixn ws rfl, ?_⟩
    rw [setm]
    have zz := size_set ws r.toNat (z3 ++ wd ++ z4)
    rw [len_app, len_app] at zz
    refine ⟨_, rfl, rfl, _, rfl, no (by decide) ?_⟩
    have szb : sizeW (ws.set r.toNat (z3 ++ wd ++ z4)) ≤ 4 * x.length + 30 := by omega
    refine ⟨⟨_, rfl⟩, _, rfl, " ", pw, ws.set r.toNat (z3 ++ wd ++ z4), rfl, rfl, .inl (.inl (.inl (upd_same))), ?_, ?_⟩
    · have hsum : ((ws.set r.toNat (z3 ++ wd ++ z4)).map Str.length).sum + (ws.set r.toNat (z3 ++ wd ++ z4)).length ≤ 4 * x.length + 30 := szb
      have l32 : (" " : Str).length = 1 := by decide +kernel
      show ((ws.set r.toNat (z3 ++ wd ++ z4)).map Str.length).sum + (ws.set r.toNat (z3 ++ wd ++ z4)).length * (" " : Str).length ≤ 16777216
      rw [l32]
      omega
    exact k (Txt.join " " (ws.set r.toNat (z3 ++ wd ++ z4))) g4 t4n _ (fun c o z ca => by rw [upd_ne (ne_of_none z nw), upd_ne ca]; refine t4q _ _ ?_; rw [upd_ne ca]; exact t3q _ _ (keep0 c o z ca)) (by rw [upd_ne apw]; exact upd_same) S4 (by omega) (asc_join (seta wasc (asc_app (asc_app az3 awd) az4))) (Nat.le_trans (len_join_le _) szb)
  · -- way 6
    refine ⟨_, rfl, rfl, _, rfl, no (by decide) ?_⟩
    refine ⟨_, rfl, rfl, _, rfl, no (by decide) ?_⟩
    refine ⟨_, rfl, rfl, _, rfl, no (by decide) ?_⟩
    refine ⟨_, rfl, rfl, _, rfl, no (by decide) ?_⟩
    refine ⟨_, rfl, rfl, _, rfl, no (by decide) ?_⟩
    refine ⟨_, rfl, rfl, _, rfl, no (by decide) ?_⟩
    refine ⟨_, rfl, rfl, _, rfl, yes ?_⟩
    refine ⟨_, rfl, _, rfl, pw, ws.map V.str, r, .str wd, rfl, rfl, .inl (.inl (hp0)), at0, ⟨_, rfl⟩, wd, rfl, rfl, by omega, ?_⟩
    refine ⟨_, rfl, _, rfl, pw, ws.map V.str, r, r.toNat, rfl, rfl, hp0, ixn ws rfl, ?_⟩
    rw [setm]
    have zz := size_set ws r.toNat (Txt.upper wd)
    have zu := PyProof.Rows.len_upper wd
    have szb : sizeW (ws.set r.toNat (Txt.upper wd)) ≤ 4 * x.length + 30 := by omega
    refine ⟨⟨_, rfl⟩, _, rfl, " ", pw, ws.set r.toNat (Txt.upper wd), rfl, rfl, .inl (.inl (.inl (upd_same))), ?_, ?_⟩
    · have hsum : ((ws.set r.toNat (Txt.upper wd)).map Str.length).sum + (ws.set r.toNat (Txt.upper wd)).length ≤ 4 * x.length + 30 := szb
      have l32 : (" " : Str).length = 1 := by decide +kernel
      show ((ws.set r.toNat (Txt.upper wd)).map Str.length).sum + (ws.set r.toNat (Txt.upper wd)).length * (" " : Str).length ≤ 16777216
      rw [l32]
      omega
    exact k (Txt.join " " (ws.set r.toNat (Txt.upper wd))) g2 t2 _ (fun c o z ca => by rw [upd_ne (ne_of_none z nw)]; exact keep0 c o z ca) (by rw [upd_ne apw]; exact ha0) S2 (by omega) (asc_join (seta wasc (asc_upper awd))) (Nat.le_trans (len_join_le _) szb)
  · -- way 7
    refine ⟨_, rfl, rfl, _, rfl, no (by decide) ?_⟩
    refine ⟨_, rfl, rfl, _, rfl, no (by decide) ?_⟩
    refine ⟨_, rfl, rfl, _, rfl, no (by decide) ?_⟩
    refine ⟨_, rfl, rfl, _, rfl, no (by decide) ?_⟩
    refine ⟨_, rfl, rfl, _, rfl, no (by decide) ?_⟩
    refine ⟨_, rfl, rfl, _, rfl, no (by decide) ?_⟩
    refine ⟨_, rfl, rfl, _, rfl, no (by decide) ?_⟩
    have szb : sizeW (ws) ≤ 4 * x.length + 30 := by omega
    refine ⟨⟨_, rfl⟩, _, rfl, " ", pw, ws, rfl, rfl, .inl (.inl (.inl (hp0))), ?_, ?_⟩
    · have hsum : ((ws).map Str.length).sum + (ws).length ≤ 4 * x.length + 30 := szb
      have l32 : (" " : Str).length = 1 := by decide +kernel
      show ((ws).map Str.length).sum + (ws).length * (" " : Str).length ≤ 16777216
      rw [l32]
      omega
    exact k (Txt.join " " (ws)) g2 t2 _ (keep0) (ha0) S2 (by omega) (asc_join (wasc)) (Nat.le_trans (len_join_le _) szb)
end
end Lq


set_option Elab.async false
set_option linter.all false
set_option maxRecDepth 100000
set_option maxHeartbeats 16000000
/-! _law_right -/
namespace Lq
open PySem L2 L2.LqX L2H
abbrev sRight : Stmt := topS 27
structure FnsR (P : Program) (w : World) (K : PySem.W.Frag) (mg : Str → Option Value) (base : Heap) : Prop where
  draw : ∃ f fd, FnOk P w K mg base CX0 1 f fd ["source", "many"] spDraw ∧ Binds K fd ["source", "many"] [] ∧ PySem.W.keepIn K (.ref f) = true ∧ mg "_law_draw" = some (.ref f)
  of : ∃ f fd, FnOk P w K mg base CX0 2 f fd ["source", "some"] (spOf K) ∧ Binds K fd ["source", "some"] [] ∧ PySem.W.keepIn K (.ref f) = true ∧ mg "_law_of" = some (.ref f)
  ways : ∃ f fd, FnOk P w K mg base CX0 3 f fd ["source"] (spWays K) ∧ Binds K fd ["source"] [] ∧ PySem.W.keepIn K (.ref f) = true ∧ mg "_law_ways" = some (.ref f)
  text : ∃ f fd, FnOk P w K mg base CX0 2 f fd ["begun", "manners"] spText ∧ Binds K fd ["begun", "manners"] [] ∧ PySem.W.keepIn K (.ref f) = true ∧ mg "_law_book_text" = some (.ref f)
  thing : ∃ f fd, FnOk P w K mg base CX0 3 f fd ["source"] (spThing K) ∧ Binds K fd ["source"] [] ∧ PySem.W.keepIn K (.ref f) = true ∧ mg "_law_thing" = some (.ref f)
  told : ∃ f fd, FnOk P w K mg base CX0 11 f fd PM (spTold K) ∧ Binds K fd PM [] ∧ PySem.W.keepIn K (.ref f) = true ∧ mg "_law_told" = some (.ref f)
  due : ∃ f fd, FnOk P w K mg base CX0 1 f fd PM (spDue K) ∧ Binds K fd PM [] ∧ PySem.W.keepIn K (.ref f) = true ∧ mg "_law_due" = some (.ref f)
  read : ∃ f fd, FnOk P w K mg base CX0 11 f fd ["thing"] (spLRead K) ∧ Binds K fd ["thing"] [] ∧ PySem.W.keepIn K (.ref f) = true ∧ mg "_law_read" = some (.ref f)
  isb : ∃ f fd, FnOk P w K mg base CX0 2 f fd ["text"] spIsB ∧ Binds K fd ["text"] [] ∧ PySem.W.keepIn K (.ref f) = true ∧ mg "_law_is_book" = some (.ref f)
  faulty : ∃ f fd, FnOk P w K mg base CX0 3 f fd ["source", "text"] spFaulty ∧ Binds K fd ["source", "text"] [] ∧ PySem.W.keepIn K (.ref f) = true ∧ mg "_law_faulty" = some (.ref f)
  uR : mg "range" = none
  uA : mg "all" = none
def spRight : Sp := fun vs H Q _ => ∃ (a : Addr) (g s t : Int), vs = [.ref a] ∧ H a = some (.lst (srcL g s t)) ∧ Src g s t ∧ t + 60 < 100000 ∧
  ∀ (g' t' : Int) (H' : Hp), (∀ c o, H c = some o → c ≠ a → H' c = some o) → H' a = some (.lst (srcL g' s t')) → Src g' s t' → t' ≤ t + 60 → Q (.bl true) H'
abbrev NQ : List Str := ["source", "way", "begun", "one", "two", "three", "text", "turn", "things", "thing"]
theorem scRight : FnScope NQ ["source"] (defScope sRight) := ⟨rfl, rfl, rfl, by decide +kernel, rfl, by decide +kernel, by decide +kernel⟩
def begunD : List PyData := [.str "late", .str "early", .str "late", .str "early", .str "", .none, .bool true, .str "Late", .list [.str "late"], .str "usual", .int 0]
theorem begun_ok : ∀ d ∈ begunD, okD d = true := fun d hd => List.all_eq_true.mp (show begunD.all okD = true from by decide +kernel) d hd
theorem begun_short : ∀ d ∈ begunD, short 1000 d := by
  intro d hd
  simp only [begunD, List.mem_cons, List.not_mem_nil, or_false] at hd
  rcases hd with rfl | rfl | rfl | rfl | rfl | rfl | rfl | rfl | rfl | rfl | rfl <;> simp [short, shortAll]
theorem eqv_self {d : PyData} (h : SeqAt.shaped d = true) : PyData.eqv d d = true := SeqAt.eqv_refl d (SeqAt.canLay_of_shaped h)
theorem shaped_pair {x : Str} {d : PyData} (hx : PyData.strOk x = true) (h : SeqAt.shaped d = true) (hd : d.depth ≤ 4) : SeqAt.shaped (.tuple [.str x, d]) = true := by
  unfold SeqAt.shaped at h ⊢
  simp only [Bool.and_eq_true, decide_eq_true_eq] at h ⊢
  refine ⟨by simp [PyData.canLay0, PyData.canLayAll0, h.1, hx], ?_⟩
  simp only [PyData.depth, PyData.depthAll]
  omega
theorem shaped_fb {ds : List PyData} (h : ∀ d ∈ ds, SeqAt.shaped d = true ∧ d.depth ≤ 4) : SeqAt.shaped (firstBad ds) = true := by
  unfold firstBad
  cases e : ds.find? (fun d => !inW d) with
  | none => decide +kernel
  | some d =>
    have m := List.mem_of_find?_eq_some e
    exact shaped_pair (by decide +kernel) (h d m).1 (h d m).2
theorem shaped_out {K : PySem.W.Frag} {H : Hp} {way : Int} {v0 v1 v2 v3 : V} {d0 d1 d2 d3 : PyData} (n0 : NotOf K H v0 d0 []) (n1 : NotOf K H v1 d1 []) (n2 : NotOf K H v2 d2 []) (n3 : NotOf K H v3 d3 []) : SeqAt.shaped (outD way d0 d1 d2 d3) = true := by
  unfold outD
  split
  · exact shaped_pair (by decide +kernel) n0.sh n0.dp
  · split
    · decide +kernel
    · split
      · decide +kernel
      · refine shaped_fb fun d hd => ?_
        split at hd
        · simp only [List.mem_cons, List.not_mem_nil, or_false] at hd
          rcases hd with rfl | rfl | rfl
          · exact ⟨n2.sh, n2.dp⟩
          · exact ⟨n3.sh, n3.dp⟩
          · exact ⟨n1.sh, n1.dp⟩
        · split at hd
          · simp only [List.mem_cons, List.not_mem_nil, or_false] at hd
            rcases hd with rfl | rfl | rfl
            · exact ⟨n2.sh, n2.dp⟩
            · exact ⟨n1.sh, n1.dp⟩
            · exact ⟨n3.sh, n3.dp⟩
          · cases hd
theorem asc_part_of {f : Str → Str} (hf : GoodF f) {l : Str} (m : l ∈ looks) : Asc (partOf f l) := by
  have h1 : Asc l := (by unfold Asc; decide +kernel : ∀ l ∈ looks, Asc l) l m
  have h2 : Asc (f l) := (by unfold Asc; decide +kernel : ∀ z ∈ ways3, Asc z) _ (hf l m)
  have h3 : Asc (":" : Str) := by unfold Asc; decide +kernel
  exact asc_app (asc_app h1 h3) h2
theorem asc_text {b : Str} {f : Str → Str} (hb : GoodB b) (hf : GoodF f) : Asc (bookText b f) := asc_join fun w hw => by
  rcases List.mem_cons.mp hw with rfl | hw
  · rcases hb with rfl | rfl <;> (unfold Asc; decide +kernel)
  · obtain ⟨l, m, rfl⟩ := List.mem_map.mp hw
    exact asc_part_of hf m
theorem text_120 {b : Str} {f : Str → Str} (hb : GoodB b) (hf : GoodF f) : (bookText b f).length ≤ 120 := by
  have h1 := len_join (ws := b :: looks.map (partOf f)) (by simp)
  have h := sum_le Str.length 10 (b :: looks.map (partOf f)) fun p hp => by
    rcases List.mem_cons.mp hp with rfl | hp
    · have := len_built hb
      omega
    · obtain ⟨l, m, rfl⟩ := List.mem_map.mp hp
      exact len_part hf m
  have hl : (b :: looks.map (partOf f)).length = 10 := rfl
  unfold sizeW at h1
  rw [hl] at h h1
  show (Txt.join " " (b :: looks.map (partOf f))).length ≤ 120
  omega
def bnd : Nat → Nat
  | 0 => 120
  | i + 1 => 4 * bnd i + 30
/-! what is no book's text -/
theorem last_join : ∀ (ps : List Str) (p : Str), ∃ A : Str, Txt.join " " (ps ++ [p]) = A ++ p
  | [], p => ⟨Str.empty, by rw [List.nil_append, join_one, emp_app]⟩
  | [q], p => ⟨q ++ " ", by
      show Txt.join " " (q :: p :: []) = _
      rw [join_two, join_one]⟩
  | q :: r :: ps, p => by
    obtain ⟨A, e⟩ := last_join (r :: ps) p
    refine ⟨q ++ " " ++ A, ?_⟩
    show Txt.join " " (q :: r :: (ps ++ [p])) = _
    rw [join_two, show (r :: (ps ++ [p])) = (r :: ps) ++ [p] from rfl, e]
    apply TL.ext_tl
    simp only [TL.tl_append, List.append_assoc]
theorem no_isB_sp (x : Str) : ¬ IsB (x ++ " ") := by
  rintro ⟨b, f, hb, hf, e⟩
  obtain ⟨A, eA⟩ := last_join (b :: (looks.take 8).map (partOf f)) (partOf f "part")
  have e2 : bookText b f = A ++ partOf f "part" := eA
  have mp : ("part" : Str) ∈ looks := by decide +kernel
  have hz := hf "part" mp
  rw [e2] at e
  have e3 := congrArg TL.tl e
  rw [TL.tl_append, TL.tl_append, tl32] at e3
  have fr := part_free hf mp
  cases hl : (TL.tl (partOf f "part")).getLast? with
  | none =>
    rw [List.getLast?_eq_none_iff] at hl
    have : (partOf f "part").length = 0 := by rw [TL.len_tl, hl]; rfl
    unfold partOf at this
    rw [len_app, len_app] at this
    have h1 : ("part" : Str).length = 4 := by decide +kernel
    omega
  | some c =>
    have h1 := congrArg List.getLast? e3
    rw [List.getLast?_append, List.getLast?_append, hl] at h1
    have h2 : c = 32 := by
      have h3 : some 32 = some c := h1
      exact (Option.some.inj h3).symm
    apply fr
    rw [← h2]
    exact List.mem_of_getLast? hl
theorem no_isB_free {x : Str} (h : 32 ∉ TL.tl x) : ¬ IsB x := fun hi => by
  have e := TL.partition_none (y := " ") (s := 32) (S := []) tl32 h
  exact ((isB_step e).mp hi).2.1 rfl
end Lq


set_option Elab.async false
set_option linter.all false
set_option maxRecDepth 100000
set_option maxHeartbeats 16000000
/-! _law_right, walked -/
namespace Lq
open PySem L2 L2.LqX L2H
/-- what _law_read refuses -/
def Thg (K : PySem.W.Frag) (H : Hp) (v : V) (d : PyData) : Prop := (∃ x, v = .str x ∧ d = .str x ∧ Asc x ∧ x.length ≤ 10000 ∧ ¬ IsB x) ∨ ∃ t : String, TyX K H v (.type t) ∧ kitB t "str" = some false ∧ NotOf K H v d []
section
variable {P : Program} {w : World} {K : PySem.W.Frag} {mg : Str → Option Value} {base : Heap}
theorem Thg.da {H : Hp} {v : V} {d : PyData} (h : Thg K H v d) : NotOf K H v d [] := by
  rcases h with ⟨x, rfl, rfl, hx, _, _⟩ | ⟨_, _, _, n⟩
  · exact da_str (asc_ok hx)
  · exact n
theorem Thg.read {H : Hp} {v : V} {d : PyData} {Q : VK} (h : Thg K H v d) (k : ∀ p H', Same H H' → Dp K H' (.ref p) (.tuple [.str "refused", d]) → Q (.ref p) H') : spLRead K [v] H Q E0 := by
  rcases h with ⟨x, rfl, rfl, hx, hl, nb⟩ | ⟨t, ty, kt, n⟩
  · refine ⟨_, rfl, .inl ⟨x, rfl, hx, hl, fun r p H' e hr dp => ?_⟩⟩
    rcases hr with ⟨_, q⟩ | ⟨q, _⟩
    · exact absurd q nb
    · rw [q] at dp
      exact k p H' e dp
  · exact ⟨_, rfl, .inr ⟨t, d, ty, kt, n, k⟩⟩
theorem ok_right {f : Addr} {fd : FuncData} (F : Fun K "_law_right" "_law_right" sRight f fd) (L : FnsR P w K mg base) : FnOk P w K mg base CX0 12 f fd ["source"] spRight := by
  obtain ⟨⟨fD, fdD, GD, bD, kD, mD⟩, ⟨fO, fdO, GO, bO, kO, mO⟩, ⟨fW, fdW, GW, bW, kW, mW⟩, ⟨fX, fdX, GX, bX, kX, mX⟩, ⟨fT, fdT, GT, bT, kT, mT⟩, ⟨fTo, fdTo, GTo, bTo, kTo, mTo⟩, ⟨fDu, fdDu, GDu, bDu, kDu, mDu⟩, ⟨fR, fdR, GR, bR, kR, mR⟩, ⟨fI, fdI, GI, bI, kI, mI⟩, ⟨fF, fdF, GF, bF, kF, mF⟩, uR, uA⟩ := L
  refine F.ok scRight (fun vs H Q E h => ?_) (fun cdv A outer s H vs Q E hr h => ?_)
  · obtain ⟨_, _, _, _, rfl, _⟩ := h
    rfl
  obtain ⟨a, g, sd, t, rfl, ha, S, ht, k⟩ := h
  have hu64 : (A.deeper (PyProof.Rows.envOfC "_law_right" (defScope sRight) s.heap.objs.size f cdv)).units + 64 < cLine := by have := hr.un; omega
  refine ⟨_, pss_cons (ps_set (i := 1) scRight.nd rfl (Or.inl rfl) (pe_call GD (hr.mono (by decide)) (by rfl) mD kD bD .nil pass0 (pa_cons (pv 0) (pa_cons pe_int pa_nil))))
    (pss_cons (ps_set (i := 2) scRight.nd rfl (Or.inl rfl) (pe_call GO (hr.mono (by decide)) (by rfl) mO kO bO .nil pass0 (pa_cons (pv 0) (pa_cons (pe_lst (pa_cons pe_str (pa_cons pe_str (pa_cons pe_str (pa_cons pe_str (pa_cons pe_str (pa_cons pe_non (pa_cons pe_bl (pa_cons pe_str (pa_cons (pe_lst (pa_cons pe_str pa_nil)) (pa_cons pe_str (pa_cons pe_int pa_nil)))))))))))) pa_nil))))
    (pss_cons (ps_par3 (i := 3) (j := 4) (l := 5) rfl scRight.nd rfl rfl rfl (by decide) (by decide) (by decide) rfl rfl rfl (pa_cons (pe_call GT (hr.mono (by decide)) (by rfl) mT kT bT .nil pass0 (pa_cons (pv 0) pa_nil)) (pa_cons (pe_call GT (hr.mono (by decide)) (by rfl) mT kT bT .nil pass0 (pa_cons (pv 0) pa_nil)) (pa_cons (pe_call GT (hr.mono (by decide)) (by rfl) mT kT bT .nil pass0 (pa_cons (pv 0) pa_nil)) pa_nil))) (by rfl))
    (pss_cons (ps_if (pt_cmpR (op_neD hu64) (pe_call GTo hr (by rfl) mTo kTo bTo .nil pass0 (pa_cons (pv 1) (pa_cons (pv 2) (pa_cons (pv 3) (pa_cons (pv 4) (pa_cons (pv 5) pa_nil)))))) (pe_call GDu (hr.mono (by decide)) (by rfl) mDu kDu bDu .nil pass0 (pa_cons (pv 1) (pa_cons (pv 2) (pa_cons (pv 3) (pa_cons (pv 4) (pa_cons (pv 5) pa_nil)))))) (nomark _)) (pss_one ps_never) pss_nil)
    (pss_cons (ps_set (i := 6) scRight.nd rfl (Or.inl rfl) (pe_call GX (hr.mono (by decide)) (by rfl) mX kX bX .nil pass0 (pa_cons (pe_call GO (hr.mono (by decide)) (by rfl) mO kO bO .nil pass0 (pa_cons (pv 0) (pa_cons (pe_lst (pa_cons pe_str (pa_cons pe_str pa_nil))) pa_nil))) (pa_cons (pe_call GW (hr.mono (by decide)) (by rfl) mW kW bW .nil pass0 (pa_cons (pv 0) pa_nil)) pa_nil))))
    (pss_cons (ps_for PassesOwn.never rfl (pi_range1 (by rfl) uR (pa_cons pe_int pa_nil)) (pg_name (i := 7) scRight.nd rfl (Or.inl rfl))
      (pss_cons (ps_if (pt_cmpR (op_neD hu64) (pe_call GR hr (by rfl) mR kR bR .nil pass0 (pa_cons (pv 6) pa_nil)) (pe_tup (pa_cons (pe_ifExp (pt_val (pe_call GI (hr.mono (by decide)) (by rfl) mI kI bI .nil pass0 (pa_cons (pv 6) pa_nil))) pe_str pe_str) (pa_cons (pv 6) pa_nil))) (nomark _)) (pss_one ps_never) pss_nil)
      (pss_one (ps_set (i := 6) scRight.nd rfl (Or.inl rfl) (pe_call GF (hr.mono (by decide)) (by rfl) mF kF bF .nil pass0 (pa_cons (pv 0) (pa_cons (pv 6) pa_nil)))))))
    (pss_cons (ps_set (i := 8) scRight.nd rfl (Or.inl rfl) (pe_lst (pa_cons pe_non (pa_cons pe_int (pa_cons pe_bl (pa_cons (pe_lst (pa_cons (pv 6) pa_nil)) (pa_cons (pe_tup (pa_cons (pv 6) pa_nil)) (pa_cons pe_str (pa_cons pe_str (pa_cons (pe_lst pa_nil) (pa_cons (pe_op op_add_str (pv 6) pe_str) pa_nil)))))))))))
    (pss_one (ps_ret (pe_callB (cr_all rfl) (by rfl) uA PyProof.Rows.boot_all (pa_cons (pe_lc (own := [("thing", 9)]) (g := gName 9) (tt := tYes) rfl scRight.nd (pi_list (pv 8)) (blkOk_by (own := [("thing", 9)]) (N := NQ) (sc := defScope sRight) (by decide +kernel))
      (fun _ _ _ _ _ => pg_name (i := 9) scRight.nd rfl (Or.inl rfl)) (fun _ _ _ _ _ => pts_nil) (fun _ _ _ _ _ => pe_cmpR (r := rEqD K) (op_eqD hu64) (pe_call GR hr (by rfl) mR kR bR .nil pass0 (pa_cons (pv 9) pa_nil)) (pe_tup (pa_cons pe_str (pa_cons (pv 9) pa_nil))) (nomark _))) pa_nil)))))))))), ?_⟩
  have sl : (20000 : Nat) ≤ sizeLine := by decide
  refine ⟨_, rfl, a, g, sd, t, 5, rfl, ha, S, by omega, by decide, by decide, fun way g1 t1 w0 w1 S1 h1 => ?_⟩
  obtain ⟨H1, eH1⟩ : ∃ H1, H1 = upd H a (.lst (srcL g1 sd t1)) := ⟨_, rfl⟩
  have ha1 : H1 a = some (.lst (srcL g1 sd t1)) := by
    rw [eH1]
    exact upd_same
  have keep1 : ∀ c o, H c = some o → c ≠ a → H1 c = some o := fun c o z ca => by
    rw [eH1, upd_ne ca]
    exact z
  rw [← eH1]
  -- begun
  refine ⟨_, rfl, (by show 1 ≤ sizeLine; decide), fun q1 m1 => ⟨(by show 11 ≤ sizeLine; decide), fun pl ml => ?_⟩⟩
  have u1 := same_new (o := .lst [V.str "late"]) m1
  have u2 := same_new (o := .lst [V.str "late", V.str "early", V.str "late", V.str "early", V.str "", V.non, V.bl true, V.str "Late", V.ref q1, V.str "usual", V.int 0]) ml
  obtain ⟨H2, eH2⟩ : ∃ H2, H2 = upd (upd H1 q1 (.lst [V.str "late"])) pl (.lst [V.str "late", V.str "early", V.str "late", V.str "early", V.str "", V.non, V.bl true, V.str "Late", V.ref q1, V.str "usual", V.int 0]) := ⟨_, rfl⟩
  have s12 : Same H1 H2 := by
    rw [eH2]
    exact u1.trans u2
  have aq1 : q1 ≠ a := (ne_of_none ha1 m1).symm
  have apl : a ≠ pl := ne_of_none (u1 _ _ ha1) ml
  have hq1 : del H2 a q1 = some (.lst [V.str "late"]) := by
    rw [del_ne aq1, eH2]
    exact u2 _ _ upd_same
  have TB : DpAll K (del H2 a) [V.str "late", V.str "early", V.str "late", V.str "early", V.str "", V.non, V.bl true, V.str "Late", V.ref q1, V.str "usual", V.int 0] begunD :=
    .cons (.str _) (.cons (.str _) (.cons (.str _) (.cons (.str _) (.cons (.str _) (.cons .non (.cons (.bl _) (.cons (.str _) (.cons (.lst (.inl (.inl hq1)) (.cons (.str _) .nil)) (.cons (.str _) (.cons (.int _) .nil))))))))))
  refine ⟨a, pl, g1, sd, t1, _, rfl, by rw [← eH2]; exact s12 _ _ ha1, S1, by omega, .inl (.inl upd_same), apl, (by show 0 < 11; decide), (by show 11 ≤ 1000; decide), fun i0 v0 g2 t2 hv0 S2 h2 => ?_⟩
  rw [← eH2]
  obtain ⟨d0, hd0, dv0⟩ := dpl_get TB hv0
  have m0 := List.mem_of_getElem? hd0
  have N0 : NotOf K (del (upd H2 a (.lst (srcL g2 sd t2))) a) v0 d0 [] := by
    rw [del_upd]
    exact da_of dv0 (begun_ok d0 m0) (begun_short d0 m0)
  obtain ⟨H3, eH3⟩ : ∃ H3, H3 = upd H2 a (.lst (srcL g2 sd t2)) := ⟨_, rfl⟩
  rw [← eH3] at N0 ⊢
  have ha3 : H3 a = some (.lst (srcL g2 sd t2)) := by
    rw [eH3]
    exact upd_same
  have keep3 : ∀ c o, H c = some o → c ≠ a → H3 c = some o := fun c o z ca => by
    rw [eH3, upd_ne ca]
    exact s12 _ _ (keep1 c o z ca)
  -- one, two, three
  refine ⟨_, rfl, a, g2, sd, t2, rfl, ha3, S2, by omega, fun v1 d1 g3 t3 H4 k4 ha4 S3 h3 N1 => ?_⟩
  refine ⟨_, rfl, a, g3, sd, t3, rfl, ha4, S3, by omega, fun v2 d2 g4 t4 H5 k5 ha5 S4 h4 N2 => ?_⟩
  refine ⟨_, rfl, a, g4, sd, t4, rfl, ha5, S4, by omega, fun v3 d3 g5 t5 H6 k6 ha6 S5 h5 N3 => ⟨_, _, _, rfl, ?_⟩⟩
  have M0 := (((N0.same (del_keep k4)).same (del_keep k5)).same (del_keep k6)).same del_off
  have M1 := ((N1.same (del_keep k5)).same (del_keep k6)).same del_off
  have M2 := (N2.same (del_keep k6)).same del_off
  have M3 := N3.same del_off
  have keep6 : ∀ c o, H c = some o → c ≠ a → H6 c = some o := fun c o z ca => k6 c o (k5 c o (k4 c o (keep3 c o z ca) ca) ca) ca
  have so := shaped_out (way := way) M0 M1 M2 M3
  -- told, due
  refine ⟨_, rfl, _, rfl, _, rfl, _, rfl, _, rfl, way, v0, v1, v2, v3, d0, d1, d2, d3, rfl, w0, w1, M0, M1, M2, M3, fun vt H7 e7 dt => ?_⟩
  refine ⟨_, rfl, _, rfl, _, rfl, _, rfl, _, rfl, way, v0, v1, v2, v3, d0, d1, d2, d3, rfl, w0, w1, M0.same e7, M1.same e7, M2.same e7, M3.same e7, fun vd H8 e8 dd => ⟨_, _, dp_same e8 dt, dd, so, so, _, rfl, ?_⟩⟩
  rw [show (!PyData.eqv (outD way d0 d1 d2 d3) (outD way d0 d1 d2 d3)) = false from by rw [eqv_self so]; rfl]
  have e68 := e7.trans e8
  have ha8 := e68 _ _ ha6
  -- the text
  refine ⟨_, rfl, (by show 2 ≤ sizeLine; decide), fun p1 n1 => ?_⟩
  have ap1 : a ≠ p1 := ne_of_none ha8 n1
  refine ⟨a, p1, g5, sd, t5, [.str "late", .str "early"], rfl, by rw [upd_ne ap1]; exact ha8, S5, by omega, .inl (.inl upd_same), ap1, by decide, by decide, fun i v g6 t6 hv S6 h6 => ?_⟩
  obtain ⟨b, rfl, hb⟩ : ∃ b, v = .str b ∧ GoodB b := by
    match i, hv with
    | 0, hv => cases hv; exact ⟨_, rfl, .inl rfl⟩
    | 1, hv => cases hv; exact ⟨_, rfl, .inr rfl⟩
    | n + 2, hv => cases hv
  refine ⟨_, rfl, a, g6, sd, t6, rfl, upd_same, S6, by omega, fun ws g7 t7 pm H9 W k9 ha9 S7 h7 nm hm => ?_⟩
  have keep9 : ∀ c o, H c = some o → c ≠ a → H9 c = some o := fun c o z ca => k9 c o (by rw [upd_ne ca, upd_ne (ne_of_none (e68 _ _ (keep6 c o z ca)) n1)]; exact e68 _ _ (keep6 c o z ca)) ca
  have hg := good_fOf W
  refine ⟨b, pm, ws, rfl, hb, W, hm, fun H10 e10 => ?_⟩
  have ha10 := e10 _ _ ha9
  -- three turns
  refine ⟨3, rfl, by decide, by decide, ?_⟩
  have b3 : ∀ i, i < 3 → bnd i ≤ 3000 := by decide
  refine for_range (n := 3) (fun i σ' H' => ∃ (x : Str) (g' t' : Int) (x7 : Option V), σ' = [some (.ref a), some (.int way), some v0, some v1, some v2, some v3, some (.str x), x7, none, none] ∧ Asc x ∧ x.length ≤ bnd i ∧ H' a = some (.lst (srcL g' sd t')) ∧ Src g' sd t' ∧ t' ≤ t7 + 5 * (i : Int) ∧ ∀ c o, H c = some o → c ≠ a → H' c = some o)
    ⟨bookText b (fOf ws), g7, t7, none, rfl, asc_text hb hg, text_120 hb hg, ha10, S7, by omega, fun c o z ca => e10 _ _ (keep9 c o z ca)⟩ ?_ ?_
  · rintro i σ' H' hi ⟨x, g', t', x7, rfl, hx, hxl, hA, S', ht', kp⟩
    have hb3 := b3 i hi
    refine ⟨_, rfl, .str x, rfl, .inl ⟨x, rfl, hx, by omega, fun r p H11 e11 hrr dp => ?_⟩⟩
    refine ⟨_, rfl, x, rfl, by omega, fun r2 H12 e12 hr2 => ⟨_, rfl, ?_⟩⟩
    have fin : ∀ {p2 : Addr} {r0 : Str}, r = r0 → (r0 = "book" ∨ r0 = "refused") → ∀ n2 : H12 p2 = none, True := fun _ _ _ => trivial
    have sp : ∀ r0 : Str, (r0 = "book" ∨ r0 = "refused") → SeqAt.shaped (.tuple [.str r0, .str x]) = true := fun r0 h0 => shaped_pair (by rcases h0 with rfl | rfl <;> decide +kernel) (da_str (K := K) (H := H) (asc_ok hx)).sh (Nat.zero_le _)
    have cont : ∀ H13, Same H12 H13 → ∃ v : V, (some (V.ref a) = some v) ∧ True := fun _ _ => ⟨_, rfl, trivial⟩
    cases r2 with
    | true =>
      have er : r = "book" := by
        rcases hrr with ⟨q, _⟩ | ⟨_, q⟩
        · exact q
        · exact absurd (hr2.mp rfl) q
      rw [er] at dp
      refine ⟨_, rfl, (by show 2 ≤ sizeLine; decide), fun p2 n2 => ⟨_, _, dp_same (e12.trans (same_new n2)) dp, .tup (.inl (.inl upd_same)) (.cons (.str _) (.cons (.str _) .nil)), sp _ (.inl rfl), sp _ (.inl rfl), _, rfl, ?_⟩⟩
      rw [show (!PyData.eqv (.tuple [.str "book", .str x]) (.tuple [.str "book", .str x])) = false from by rw [eqv_self (sp "book" (.inl rfl))]; rfl]
      have eA := (e11.trans e12).trans (same_new (o := .tup [V.str "book", V.str x]) n2)
      refine ⟨_, rfl, _, rfl, a, g', sd, t', x, rfl, eA _ _ hA, S', by omega, hx, by omega, fun y g8 t8 H13 k13 ha13 S8 h8 hy hyl => ?_⟩
      exact ⟨y, g8, t8, _, rfl, hy, by show y.length ≤ 4 * bnd i + 30; omega, ha13, S8, by omega, fun c o z ca => k13 c o (eA _ _ (kp c o z ca)) ca⟩
    | false =>
      have er : r = "refused" := by
        rcases hrr with ⟨_, q⟩ | ⟨q, _⟩
        · exact absurd (hr2.mpr q) Bool.false_ne_true
        · exact q
      rw [er] at dp
      refine ⟨_, rfl, (by show 2 ≤ sizeLine; decide), fun p2 n2 => ⟨_, _, dp_same (e12.trans (same_new n2)) dp, .tup (.inl (.inl upd_same)) (.cons (.str _) (.cons (.str _) .nil)), sp _ (.inr rfl), sp _ (.inr rfl), _, rfl, ?_⟩⟩
      rw [show (!PyData.eqv (.tuple [.str "refused", .str x]) (.tuple [.str "refused", .str x])) = false from by rw [eqv_self (sp "refused" (.inr rfl))]; rfl]
      have eA := (e11.trans e12).trans (same_new (o := .tup [V.str "refused", V.str x]) n2)
      refine ⟨_, rfl, _, rfl, a, g', sd, t', x, rfl, eA _ _ hA, S', by omega, hx, by omega, fun y g8 t8 H13 k13 ha13 S8 h8 hy hyl => ?_⟩
      exact ⟨y, g8, t8, _, rfl, hy, by show y.length ≤ 4 * bnd i + 30; omega, ha13, S8, by omega, fun c o z ca => k13 c o (eA _ _ (kp c o z ca)) ca⟩
  · rintro σ' H' ⟨x, g', t', x7, rfl, hx, hxl, hA, S', ht', kp⟩
    have hxl9 : x.length ≤ 8310 := hxl
    have l32 : (" " : Str).length = 1 := by decide +kernel
    -- things
    refine ⟨_, rfl, (by show 1 ≤ sizeLine; decide), fun p3 n3 => ⟨_, rfl, (by show 1 ≤ sizeLine; decide), fun p4 n4 => ⟨(by show 0 ≤ sizeLine; decide), fun p7 n7 => ⟨_, rfl, x, " ", rfl, rfl, by omega, (by show 9 ≤ sizeLine; decide), fun pT nT => ?_⟩⟩⟩⟩
    have q3 := same_new (o := .lst [V.str x]) n3
    have q4 := same_new (o := .tup [V.str x]) n4
    have q7 := same_new (o := .lst []) n7
    have qT := same_new (o := .lst [V.non, V.int 0, V.bl true, V.ref p3, V.ref p4, V.str "", V.str "late", V.ref p7, V.str (x ++ " ")]) nT
    obtain ⟨Hk, eHk⟩ : ∃ Hk, Hk = upd (upd (upd (upd H' p3 (.lst [V.str x])) p4 (.tup [V.str x])) p7 (.lst [])) pT (.lst [V.non, V.int 0, V.bl true, V.ref p3, V.ref p4, V.str "", V.str "late", V.ref p7, V.str (x ++ " ")]) := ⟨_, rfl⟩
    have e9k : Same H' Hk := by
      rw [eHk]
      exact ((q3.trans q4).trans q7).trans qT
    have h3 : Hk p3 = some (.lst [V.str x]) := by
      rw [eHk]
      exact qT _ _ (q7 _ _ (q4 _ _ upd_same))
    have h4 : Hk p4 = some (.tup [V.str x]) := by
      rw [eHk]
      exact qT _ _ (q7 _ _ upd_same)
    have h7 : Hk p7 = some (.lst []) := by
      rw [eHk]
      exact qT _ _ upd_same
    have hT : Hk pT = some (.lst [V.non, V.int 0, V.bl true, V.ref p3, V.ref p4, V.str "", V.str "late", V.ref p7, V.str (x ++ " ")]) := by
      rw [eHk]
      exact upd_same
    have okx := asc_ok hx
    have thg : ∀ H5, Same Hk H5 → ∀ (i : Nat) (v : V), [V.non, V.int 0, V.bl true, V.ref p3, V.ref p4, V.str "", V.str "late", V.ref p7, V.str (x ++ " ")][i]? = some v → ∃ d, Thg K H5 v d := by
      intro H5 e5 i v hv
      match i, hv with
      | 0, hv => cases hv; exact ⟨.none, .inr ⟨"NoneType", .base .non, by decide +kernel, da_of .non (by decide +kernel) (by simp [short])⟩⟩
      | 1, hv => cases hv; exact ⟨.int 0, .inr ⟨"int", .base (.int _), by decide +kernel, da_of (.int _) (by decide +kernel) (by simp [short])⟩⟩
      | 2, hv => cases hv; exact ⟨.bool true, .inr ⟨"bool", .base (.bl _), by decide +kernel, da_of (.bl _) (by decide +kernel) (by simp [short])⟩⟩
      | 3, hv => cases hv; exact ⟨.list [.str x], .inr ⟨"list", .base (.lst (e5 _ _ h3)), by decide +kernel, ⟨.lst (.inl (.inl (e5 _ _ h3))) (.cons (.str _) .nil), by simp [SeqAt.shaped, PyData.canLay0, PyData.canLayAll0, PyData.depth, PyData.depthAll, okx], by simp [PyData.depth, PyData.depthAll], by simp [short, shortAll], rfl⟩⟩⟩
      | 4, hv => cases hv; exact ⟨.tuple [.str x], .inr ⟨"tuple", .base (.tup (e5 _ _ h4)), by decide +kernel, ⟨.tup (.inl (.inl (e5 _ _ h4))) (.cons (.str _) .nil), by simp [SeqAt.shaped, PyData.canLay0, PyData.canLayAll0, PyData.depth, PyData.depthAll, okx], by simp [PyData.depth, PyData.depthAll], by simp [short, shortAll], rfl⟩⟩⟩
      | 5, hv => cases hv; exact ⟨.str "", .inl ⟨"", rfl, rfl, by unfold Asc; decide +kernel, by decide +kernel, no_isB_free (by decide +kernel)⟩⟩
      | 6, hv => cases hv; exact ⟨.str "late", .inl ⟨"late", rfl, rfl, by unfold Asc; decide +kernel, by decide +kernel, no_isB_free (by decide +kernel)⟩⟩
      | 7, hv => cases hv; exact ⟨.list [], .inr ⟨"list", .base (.lst (e5 _ _ h7)), by decide +kernel, da_of (.lst (.inl (.inl (e5 _ _ h7))) .nil) (by decide +kernel) (by simp [short, shortAll])⟩⟩
      | 8, hv => cases hv; exact ⟨.str (x ++ " "), .inl ⟨x ++ " ", rfl, rfl, asc_app hx (by unfold Asc; decide +kernel), by rw [len_app]; omega, no_isB_sp x⟩⟩
      | n + 9, hv => cases hv
    rw [show upd (upd (upd (upd H' p3 (.lst [V.str x])) p4 (.tup [V.str x])) p7 (.lst [])) pT (.lst [V.non, V.int 0, V.bl true, V.ref p3, V.ref p4, V.str "", V.str "late", V.ref p7, V.str (x ++ " ")]) = Hk from eHk.symm]
    refine ⟨_, rfl, pT, rfl, ⟨_, .inl (.inl hT)⟩, fun D3 nD3 => ?_⟩
    refine lc_list (xs := [V.non, V.int 0, V.bl true, V.ref p3, V.ref p4, V.str "", V.str "late", V.ref p7, V.str (x ++ " ")]) (fun i H5 => H5 D3 = some (.lst ((List.replicate i true).map V.bl)) ∧ Same Hk H5) ⟨upd_same, same_new nD3⟩ ?_ ?_ ?_
    · rintro i H5 _ ⟨_, e5⟩
      exact .inl (.inl (e5 _ _ hT))
    · rintro i v H5 hv ⟨hD3, e5⟩
      have hi : i < 9 := (List.getElem?_eq_some_iff.mp hv).1
      obtain ⟨d, th⟩ := thg H5 e5 i v hv
      have no := th.da
      have sP := shaped_pair (x := "refused") (by decide +kernel) no.sh no.dp
      refine ⟨rfl, ?_⟩
      refine ⟨v, rfl, ?_⟩
      unfold tNil
      show spLRead K [v] H5 _ E0
      refine th.read fun p H6 e6 hp => ⟨_, rfl, (by show 2 ≤ sizeLine; decide), fun p2 n2 => ⟨_, _, dp_same (same_new n2) hp, .tup (.inl (.inl upd_same)) (.cons (.str _) (.cons (dp_same (e6.trans (same_new n2)) no.at_) .nil)), sP, sP, ?_⟩⟩
      rw [eqv_self sP]
      refine ⟨_, same_new n2 _ _ (e6 _ _ hD3), ?_, ?_, fun c o z => ?_⟩
      · rw [List.length_map, List.length_replicate]
        omega
      · rw [upd_same, List.replicate_succ', List.map_append]
        rfl
      · rw [upd_ne (ne_of_none z nD3)]
        exact same_new n2 _ _ (e6 _ _ (e5 _ _ z))
    rintro H5 ⟨hD3, e5⟩
    refine ⟨D3, List.replicate 9 true, rfl, .inl (.inl hD3), ?_⟩
    exact k g' t' H5 (fun c o z ca => e5 _ _ (e9k _ _ (kp c o z ca))) (e5 _ _ (e9k _ _ hA)) S' (by have : t' ≤ t7 + 5 * 3 := ht'; omega)
end
end Lq


set_option Elab.async false
set_option linter.all false
set_option maxRecDepth 100000
set_option maxHeartbeats 8000000
/-! The law itself -/
namespace Lq
open PySem L2 L2.LqX L2H
abbrev sLaw : Stmt := topS 28
/-- what the law calls -/
structure LawF (P : Program) (w : World) (K : PySem.W.Frag) (mg : Str → Option Value) (base : Heap) (f0 f1 : Addr) (fd0 fd1 : FuncData) : Prop where
  begin_ : FnOk P w K mg base CX0 1 f0 fd0 ["script", "at"] (spBegin K)
  right : FnOk P w K mg base CX0 12 f1 fd1 ["source"] spRight
  k0 : PySem.W.keepIn K (.ref f0) = true
  k1 : PySem.W.keepIn K (.ref f1) = true
  b0 : Binds K fd0 ["script", "at"] []
  b1 : Binds K fd1 ["source"] []
  m0 : mg "_law_begin" = some (.ref f0)
  m1 : mg "_law_right" = some (.ref f1)
  mlen : mg "len" = none
  mrange : mg "range" = none
  mmax : mg "max" = none
  mmin : mg "min" = none
  mall : mg "all" = none
section
variable {P : Program} {w : World} {K : PySem.W.Frag} {mg : Str → Option Value}
theorem scLaw : FnScope ["script", "at", "source", "turn"] ["script"] (defScope sLaw) := ⟨rfl, rfl, rfl, by decide +kernel, rfl, by decide +kernel, by decide +kernel⟩
theorem law_run {fa a f0 f1 : Addr} {fd fd0 fd1 : FuncData} {s1 : Shared} {ns : List Int} (F : Fun K "law" "law" sLaw fa fd) (L : ∀ base : Heap, K.In base → base.Ns mainGlobals mg → LawF P w K mg base f0 f1 fd0 fd1) (hb : ∀ (s : Shared) (u : Value), BindsTo s fd ⟨[u], []⟩ [("script", u)]) (hns : ns.length ≤ 63) : LawRun P w K mg fa a s1 ns := by
  refine Fun.lawRun F scLaw ⟨rfl, by decide, by decide⟩ hb fun cdv base H kb nb only sq => ?_
  have L := L base kb nb
  have r13 : Room 13 callerA := ⟨rfl, by decide, by decide⟩
  have hr := r13.deeper (PyProof.Rows.envOfC "law" (defScope sLaw) s1.heap.objs.size fa cdv)
  refine ⟨_, pss_cons (ps_for PassesOwn.never rfl (pi_range1 (by rfl) L.mrange (pa_cons (pe_callB (call_max2 rfl) (by rfl) L.mmax PyProof.Rows.boot_max (pa_cons pe_int (pa_cons (pe_callB (call_min2 rfl) (by rfl) L.mmin PyProof.Rows.boot_min (pa_cons pe_int (pa_cons (pe_callB call_len_seq (by rfl) L.mlen PySem.boot_len (pa_cons (pv 0) pa_nil)) pa_nil))) pa_nil))) pa_nil)) (pg_name (i := 1) scLaw.nd rfl (Or.inl rfl))
      (pss_cons (ps_set (i := 2) scLaw.nd rfl (Or.inr rfl) (pe_call L.begin_ (hr.mono (by decide)) (by rfl) L.m0 L.k0 L.b0 .nil pass0 (pa_cons (pv 0) (pa_cons (pv 1) pa_nil))))
      (pss_one (ps_if (pt_not (pt_val (pe_callB (cr_all rfl) (by rfl) L.mall PyProof.Rows.boot_all (pa_cons (pe_lc (own := [("turn", 3)]) (g := gName 3) (tt := tYes) rfl scLaw.nd (pi_range1 (by rfl) L.mrange (pa_cons pe_int pa_nil)) (blkOk_by (own := [("turn", 3)]) (N := ["script", "at", "source", "turn"]) (sc := defScope sLaw) (by decide +kernel))
        (fun _ _ _ _ _ => pg_name (i := 3) scLaw.nd rfl (Or.inl rfl)) (fun _ _ _ _ _ => pts_nil) (fun _ _ _ _ _ => pe_call L.right hr (by rfl) L.m1 L.k1 L.b1 .nil pass0 (pa_cons (pv 2) pa_nil))) pa_nil)))) (pss_one (ps_ret pe_bl)) pss_nil))))
    (pss_one (ps_ret pe_bl)), ?_⟩
  refine ⟨_, rfl, a, _, rfl, .inl sq, _, _, rfl, _, _, rfl, _, rfl, ?_, ?_, ?_⟩
  · show -(2 ^ 62) ≤ (if (if ((ns.map V.int).length : Int) < 5 then ((ns.map V.int).length : Int) else 5) > 1 then (if ((ns.map V.int).length : Int) < 5 then ((ns.map V.int).length : Int) else 5) else 1)
    split <;> split <;> omega
  · show (if (if ((ns.map V.int).length : Int) < 5 then ((ns.map V.int).length : Int) else 5) > 1 then (if ((ns.map V.int).length : Int) < 5 then ((ns.map V.int).length : Int) else 5) else 1) < 2 ^ 62
    split <;> split <;> omega
  have hm : (if (if ((ns.map V.int).length : Int) < 5 then ((ns.map V.int).length : Int) else 5) > 1 then (if ((ns.map V.int).length : Int) < 5 then ((ns.map V.int).length : Int) else 5) else 1) ≤ 5 := by
    split <;> split <;> omega
  refine for_range (fun i σ' H' => ∃ x1 x2 : Option V, σ' = [some (.ref a), x1, x2, none] ∧ Same H H') ⟨none, none, rfl, Same.refl _⟩ ?_ ?_
  rotate_left
  · rintro σ' H' ⟨_, _, _, _⟩
    rfl
  rintro i σ' H' hi ⟨x1, x2, rfl, e1⟩
  rw [Int.zero_add]
  have hi4 : i < 5 := by
    have : i < (((if (if ((ns.map V.int).length : Int) < 5 then ((ns.map V.int).length : Int) else 5) > 1 then (if ((ns.map V.int).length : Int) < 5 then ((ns.map V.int).length : Int) else 5) else 1) : Int)).toNat := hi
    omega
  refine ⟨_, rfl, _, rfl, a, ns, i, rfl, e1.seq sq, by omega, by omega, fun p g sd np S => ?_⟩
  refine ⟨2, rfl, by decide, by decide, fun D nD => ?_⟩
  have s1 : Same H' (upd H' p (.lst (srcL g sd (17 * (i : Int) + 5)))) := same_new np
  have Dp' : D ≠ p := fun z => by
    rw [z, upd_same] at nD
    cases nD
  refine lc_range (n := 2) (fun j H3 => H3 D = some (.lst ((List.replicate j true).map V.bl)) ∧ (∃ g' t', H3 p = some (.lst (srcL g' sd t')) ∧ Src g' sd t' ∧ t' ≤ 100 + 60 * (j : Int)) ∧ Same H' H3) ⟨upd_same, ⟨g, _, by rw [upd_ne Dp'.symm]; exact upd_same, S, by omega⟩, s1.trans (same_new nD)⟩ ?_ ?_
  · rintro j H3 hj ⟨hD, ⟨g', t', hp, S', ht'⟩, e3⟩
    refine ⟨rfl, ?_⟩
    refine ⟨_, rfl, p, g', sd, t', rfl, hp, S', by omega, fun g2 t2 H4 keep hp2 S2 h2 => ?_⟩
    refine ⟨_, keep _ _ hD Dp', ?_, ?_, ⟨g2, t2, by rw [upd_ne Dp'.symm]; exact hp2, S2, by omega⟩, fun c o z => ?_⟩
    · rw [List.length_map, List.length_replicate]
      have : (2 : Nat) < sizeLine := by decide
      omega
    · rw [upd_same, List.replicate_succ', List.map_append]
      rfl
    · rw [upd_ne (ne_of_none (s1 _ _ z) nD)]
      exact keep _ _ (e3 _ _ z) (ne_of_none z np)
  · rintro H3 ⟨hD, _, e3⟩
    refine ⟨D, [true, true], rfl, .inl (.inl hD), _, rfl, ?_⟩
    exact ⟨_, _, rfl, e1.trans e3⟩
end
end Lq


set_option Elab.async false
set_option linter.all false
set_option maxRecDepth 100000
set_option maxHeartbeats 0
/-! A hook: facts, defs at any address, one more Bool -/
namespace LqHk
open PySem PySem.W PySem.Calls PyProof.Rows He He5
def hookB (n : Nat) (fa : List He.Fa) (fn : List DefA) (ex : Frag → Bool) : PySem.W.Hook where
  α := Bool × He.AlD
  obs := fun s => (ex (frG s.heap.get? (asA s.heap.get? n)), obsA fa fn (frG s.heap.get? (asA s.heap.get? n)))
  val := fun _ => (true, valA fn)
  says := fun _ h => ∃ K : Frag, K.In h ∧ SaysA fa fn K ∧ ex K = true
  of := fun _ _ e => ⟨_, frG_in, congrArg Prod.snd e, congrArg Prod.fst e⟩
  keeps := fun _ _ _ ⟨K, hK, c⟩ k => ⟨K, Frag.In.keeps hK k, c⟩
def obsB (n : Nat) (fa : List He.Fa) (fn : List DefA) (ex : Frag → Bool) (g : Addr → Option Obj) : Bool × He.AlD := (ex (frG g (asA g n)), obsA fa fn (frG g (asA g n)))
theorem obsB_eq {n : Nat} {fa : List He.Fa} {fn : List DefA} {ex : Frag → Bool} {g : Addr → Option Obj} {s : Shared} (h : ∀ a, g a = s.heap.get? a) : obsB n fa fn ex g = (hookB n fa fn ex).obs s := by
  have e : g = s.heap.get? := funext h
  rw [e] <;> rfl
end LqHk
namespace Lq
open PySem L2 L2.LqX
def cB (K : PySem.W.Frag) : Addr := He.ga K "Book"
def cBad (K : PySem.W.Frag) : Addr := He.ga K "BadBook"
def cNo (K : PySem.W.Frag) : Addr := He.ga K "NoLook"
def tlB : List Value := [.type "ValueError", .type "Exception", .type "BaseException", .type "object"]
def tlN : List Value := [.type "LookupError", .type "Exception", .type "BaseException", .type "object"]
def mroB (tl : List Value) : List Value → Bool
  | .ref _ :: r => mroB tl r
  | l => l == tl
def xcB (K : PySem.W.Frag) (C : Addr) (tl : List Value) (newId : String) : Bool := match K.lookup C with
  | some ⟨.type t, _, .cls cd, sl⟩ => (match cd.mro, sl.toList with
    | .ref C' :: bm, [_, _, _, _, some (.builtin n), _] => decide (t = "type") && (decide (C' = C) && (decide (n = newId) && (!cd.hasDel && (cd.hasDict && mroB tl bm))))
    | _, _ => false)
  | _ => false
def oB (a b : Option Bool) : Bool := decide (a = b)
def errB (K : PySem.W.Frag) (c : Addr) (tl : List Value) (newId : String) (fl : Str) : Bool :=
  xcB K c tl newId && (He.eqO (PySem.W.findIn K (.ref c) "__setattr__") (some (some (.builtin "object.__setattr__"))) && (oB (PySem.W.subIn K (.ref c) (.type "BaseException")) (some true) && (decide (PySem.W.typeIn K (.ref c) = some (.type "type")) && (PySem.W.keepIn K (.ref c) &&
  (He.eqO (PySem.W.findIn K (.ref c) "__init__") (some (some (.ref (He.ma K c "__init__")))) && (decide (PySem.W.typeIn K (.ref (He.ma K c "__init__")) = some (.type "function")) && (He.eqO (PySem.W.findIn K (.ref c) "__getattribute__") (some (some (.builtin "BaseException.__getattribute__"))) &&
  (He.eqO (PySem.W.findIn K (.ref c) "__getattr__") (some none) && (PySem.W.hasDictIn K c && He.eqO (PySem.W.findIn K (.ref c) fl) (some none))))))))))
def cvA (K : PySem.W.Frag) (x : Str) : Addr := match PySem.W.findCls K (.ref (cB K)) (.type "type") x with
  | some (.val (.ref a)) => a
  | _ => 0
def cvB (K : PySem.W.Frag) (x : Str) : Bool := match PySem.W.findCls K (.ref (cB K)) (.type "type") x with
  | some (.val (.ref _)) => true
  | _ => false
def tupB (K : PySem.W.Frag) (a : Addr) (vs : List V) : Bool := match K.lookup a with
  | some ⟨.type t, _, .seq its _, _⟩ => decide (t = "tuple") && (decide (its.size ≤ sizeLine) && He.relAll vs its.toList)
  | _ => false
def excB (K : PySem.W.Frag) (D : Addr) : Bool := He.eqO (PySem.W.findIn K (.ref D) "__getattribute__") (some (some (.builtin "BaseException.__getattribute__"))) && (He.eqO (PySem.W.findIn K (.ref D) "__getattr__") (some none) && (oB (PySem.W.subIn K (.ref D) (.type "BaseException")) (some true) && (PySem.W.hasDictIn K D &&
  (He.eqO (PySem.W.findIn K (.ref D) "__class__") (some (some (.builtin "object.__class__"))) && (He.eqO (PySem.W.specialIn K (.builtin "object.__class__") "__get__") (some (some (.builtin "getset_descriptor.__get__"))) && (oB (PySem.W.takesIn K (.builtin "object.__class__")) (some true) && oB (PySem.W.mroIn K D (.type "object")) (some true)))))))
def exB (K : PySem.W.Frag) : Bool := errB K (cBad K) tlB "ValueError.__new__" "thing" && (errB K (cNo K) tlN "LookupError.__new__" "look" && (PySem.W.readsIn K (cB K) (.type "type") && (He.eqO (PySem.W.specialIn K (.ref (cB K)) "__getattribute__") (some (some (.builtin "type.__getattribute__"))) && (cvB K "LOOKS" && (cvB K "WAYS" && (tupB K (cvA K "LOOKS") (looks.map V.str) && (tupB K (cvA K "WAYS") (ways3.map V.str) && (He.eqO (PySem.W.findIn K (.ref (cB K)) "__class__") (some (some (.builtin "object.__class__"))) && (He.eqO (PySem.W.specialIn K (.builtin "object.__class__") "__get__") (some (some (.builtin "getset_descriptor.__get__"))) && (oB (PySem.W.takesIn K (.builtin "object.__class__")) (some true) && (oB (PySem.W.mroIn K (cB K) (.type "object")) (some true) && (oB (PySem.W.kitOne K (.ref (cB K)) (.ref (cB K))) (some true) && (He5.wrapB K (cB K) "classmethod" "classmethod.__get__" "read" && (PySem.W.fnIn K (He5.wf K (cB K) "classmethod" "read") && (PySem.W.fnIn K (He.ma K (cB K) "__str__") && (excB K (cBad K) && (oB (PySem.W.kitOne K (.ref (cBad K)) (.ref (cBad K))) (some true) && (oB (PySem.W.kitOne K (.ref (cBad K)) (.ref (He.ga K "BadForm"))) (some false)))))))))))))))))))
def dF_copied : He5.DefA := ⟨fun K => He.ga K "copied", "copied", "copied", defArgs (topS 2), defBody (topS 2), defScope (topS 2), [], []⟩
def dF_built : He5.DefA := ⟨fun K => He.ga K "is_built", "is_built", "is_built", defArgs (topS 10), defBody (topS 10), defScope (topS 10), [], []⟩
def dF_usual : He5.DefA := ⟨fun K => He.ga K "usual_way", "usual_way", "usual_way", defArgs (topS 11), defBody (topS 11), defScope (topS 11), [], []⟩
def dF_begin : He5.DefA := ⟨fun K => He.ga K "_law_begin", "_law_begin", "_law_begin", defArgs (topS 13), defBody (topS 13), defScope (topS 13), [], []⟩
def dF_draw : He5.DefA := ⟨fun K => He.ga K "_law_draw", "_law_draw", "_law_draw", defArgs (topS 14), defBody (topS 14), defScope (topS 14), [], []⟩
def dF_of : He5.DefA := ⟨fun K => He.ga K "_law_of", "_law_of", "_law_of", defArgs (topS 15), defBody (topS 15), defScope (topS 15), [], []⟩
def dF_looks : He5.DefA := ⟨fun K => He.ga K "_law_looks", "_law_looks", "_law_looks", defArgs (topS 16), defBody (topS 16), defScope (topS 16), [], []⟩
def dF_ways : He5.DefA := ⟨fun K => He.ga K "_law_ways", "_law_ways", "_law_ways", defArgs (topS 18), defBody (topS 18), defScope (topS 18), [], []⟩
def dF_text : He5.DefA := ⟨fun K => He.ga K "_law_book_text", "_law_book_text", "_law_book_text", defArgs (topS 19), defBody (topS 19), defScope (topS 19), [], []⟩
def dF_thing : He5.DefA := ⟨fun K => He.ga K "_law_thing", "_law_thing", "_law_thing", defArgs (topS 20), defBody (topS 20), defScope (topS 20), [], []⟩
def dF_made : He5.DefA := ⟨fun K => He.ga K "_law_made", "_law_made", "_law_made", defArgs (topS 21), defBody (topS 21), defScope (topS 21), [], []⟩
def dF_due : He5.DefA := ⟨fun K => He.ga K "_law_due", "_law_due", "_law_due", defArgs (topS 22), defBody (topS 22), defScope (topS 22), [], []⟩
def dF_told : He5.DefA := ⟨fun K => He.ga K "_law_told", "_law_told", "_law_told", defArgs (topS 23), defBody (topS 23), defScope (topS 23), [], []⟩
def dF_lread : He5.DefA := ⟨fun K => He.ga K "_law_read", "_law_read", "_law_read", defArgs (topS 24), defBody (topS 24), defScope (topS 24), [], []⟩
def dF_faulty : He5.DefA := ⟨fun K => He.ga K "_law_faulty", "_law_faulty", "_law_faulty", defArgs (topS 25), defBody (topS 25), defScope (topS 25), [], []⟩
def dF_isb : He5.DefA := ⟨fun K => He.ga K "_law_is_book", "_law_is_book", "_law_is_book", defArgs (topS 26), defBody (topS 26), defScope (topS 26), [], []⟩
def dF_right : He5.DefA := ⟨fun K => He.ga K "_law_right", "_law_right", "_law_right", defArgs (topS 27), defBody (topS 27), defScope (topS 27), [], []⟩
def dF_law : He5.DefA := ⟨fun K => He.ga K "law", "law", "law", defArgs (topS 28), defBody (topS 28), defScope (topS 28), [], []⟩
def dM_bad : He5.DefA := ⟨fun K => He.ma K (He.ga K "BadBook") "__init__", "__init__", "BadBook.__init__", defArgs (inClass (topS 6) 0), defBody (inClass (topS 6) 0), defScope (inClass (topS 6) 0), [], []⟩
def dM_nolook : He5.DefA := ⟨fun K => He.ma K (He.ga K "NoLook") "__init__", "__init__", "NoLook.__init__", defArgs (inClass (topS 7) 0), defBody (inClass (topS 7) 0), defScope (inClass (topS 7) 0), [], []⟩
def dM_init : He5.DefA := ⟨fun K => He.ma K (He.ga K "Book") "__init__", "__init__", "Book.__init__", defArgs sInit, defBody sInit, defScope sInit, [.str "late"], []⟩
def dM_read : He5.DefA := ⟨fun K => He5.wf K (He.ga K "Book") "classmethod" "read", "read", "Book.read", defArgs sRead, defBody sRead, defScope sRead, [], []⟩
def dM_str : He5.DefA := ⟨fun K => He.ma K (He.ga K "Book") "__str__", "__str__", "Book.__str__", defArgs sStr, defBody sStr, defScope sStr, [], []⟩
def fn : List He5.DefA := [dF_copied, dF_built, dF_usual, dF_begin, dF_draw, dF_of, dF_looks, dF_ways, dF_text, dF_thing, dF_made, dF_due, dF_told, dF_lread, dF_faulty, dF_isb, dF_right, dF_law, dM_bad, dM_nolook, dM_init, dM_read, dM_str]
def fa : List He.Fa := [.glo "copied", .glo "is_built", .glo "usual_way", .glo "_law_begin", .glo "_law_draw", .glo "_law_of", .glo "_law_looks", .glo "_law_ways", .glo "_law_book_text", .glo "_law_thing", .glo "_law_made", .glo "_law_due", .glo "_law_told", .glo "_law_read", .glo "_law_faulty", .glo "_law_is_book", .glo "_law_right", .glo "law", .glo "BadBook", .glo "NoLook", .glo "Book", .glo "LateError", .glo "BadForm", .free "isinstance", .free "list", .free "tuple", .free "int", .free "len", .free "abs", .free "str", .free "sorted", .free "zip", .free "range", .free "max", .free "min", .free "all", .cls "Book", .noat "Book" "built", .noat "Book" "order", .noat "Book" "chosen", .meth "Book" "__str__", .mkr "Book", .exm "NoLook" "NoLook" true, .exm "BadBook" "NoLook" false, .exm "BadBook" "BadBook" true, .exm "BadBook" "LateError" true]
abbrev R : PySem.W.OpenRow := PySem.W.OpenLaw.row PySem.Challenge.rw_latequestions_k12_books_refused
abbrev hk : PySem.W.Hook := LqHk.hookB 6 fa fn exB
def ob (s : PySem.W.SharedT) : Bool × He.AlD := LqHk.obsB 6 fa fn exB (HandSHeadRun.getT s)
theorem ob_eq (s : PySem.W.SharedT) : ob s = hk.obs s.abs := LqHk.obsB_eq (HandSHeadRun.getT_eq s)

def loose : List Str := ([("_wall" : Str), ("copied" : Str), ("LateError" : Str), ("BadForm" : Str), ("BadBook" : Str), ("NoLook" : Str), ("Book" : Str), ("is_built" : Str), ("usual_way" : Str), ("_law_begin" : Str), ("_law_draw" : Str), ("_law_of" : Str), ("_law_looks" : Str), ("_law_usual" : Str)] : List Str) ++ ([("_law_ways" : Str), ("_law_book_text" : Str), ("_law_thing" : Str), ("_law_made" : Str), ("_law_due" : Str), ("_law_told" : Str), ("_law_read" : Str), ("_law_faulty" : Str), ("_law_is_book" : Str), ("_law_right" : Str)] : List Str)
theorem run (w : World) : HandSHeadRun.RunEq R (PySem.W.view R.prog [28]) hk ob 8000 loose w := by
  intro os
  kernel_rfl
end Lq


set_option Elab.async false
set_option linter.all false
set_option maxRecDepth 100000
set_option maxHeartbeats 8000000
namespace Lq
open PySem L2 L2.LqX
theorem fun_of {K : PySem.W.Frag} {x qual : Str} {st : Stmt} {f : Addr} {fd : FuncData} (h : FunD K x qual (defArgs st) (defBody st) (defScope st) [] [] f fd) : Fun K x qual st f fd := by
  obtain ⟨oc, od, dV, kV, doc, pm, an, cdv, ct, osl, e, lk, hcd, hd, _⟩ := h.ex
  have e0 : dV = .none := by
    rcases hd with ⟨_, z⟩ | ⟨z, _⟩
    · exact z
    · exact absurd rfl z
  subst e0
  exact ⟨⟨oc, od, kV, doc, pm, an, cdv, ct, osl, e, lk, hcd⟩, h.kp⟩
theorem mro_of {B : String} {tl : List Value} (T : PySem.LqX.Tl B tl) : ∀ {l : List Value}, mroB tl l = true → PySem.LqX.Tl B l
  | .ref c :: r, h => (mro_of T (l := r) h).cons
  | [], h => by rw [show ([] : List Value) = tl from beq_iff_eq.mp h]; exact T
  | .none :: r, h => by rw [show (Value.none :: r) = tl from beq_iff_eq.mp h]; exact T
  | .ellipsis :: r, h => by rw [show (Value.ellipsis :: r) = tl from beq_iff_eq.mp h]; exact T
  | .notImplemented :: r, h => by rw [show (Value.notImplemented :: r) = tl from beq_iff_eq.mp h]; exact T
  | .bool b :: r, h => by rw [show (Value.bool b :: r) = tl from beq_iff_eq.mp h]; exact T
  | .int b t :: r, h => by rw [show (Value.int b t :: r) = tl from beq_iff_eq.mp h]; exact T
  | .float b t :: r, h => by rw [show (Value.float b t :: r) = tl from beq_iff_eq.mp h]; exact T
  | .str b t :: r, h => by rw [show (Value.str b t :: r) = tl from beq_iff_eq.mp h]; exact T
  | .bytes b t :: r, h => by rw [show (Value.bytes b t :: r) = tl from beq_iff_eq.mp h]; exact T
  | .type b :: r, h => by rw [show (Value.type b :: r) = tl from beq_iff_eq.mp h]; exact T
  | .builtin b :: r, h => by rw [show (Value.builtin b :: r) = tl from beq_iff_eq.mp h]; exact T
theorem xc_of {K : PySem.W.Frag} {C : Addr} {tl : List Value} {B newId : String} (T : PySem.LqX.Tl B tl) (h : xcB K C tl newId = true) :
    ∃ nm q N bs bm sn sub ab col dd k0 k1 k2 k3 k5, K.lookup C = some (excClassObj nm q C N bs bm true sn sub ab col dd k0 k1 k2 k3 k5 newId) ∧ PySem.LqX.Tl B bm := by
  unfold xcB at h
  split at h
  · rename_i t dd cd sl ho
    split at h
    · rename_i C' bm k0 k1 k2 k3 n k5 hm hs
      simp only [Bool.and_eq_true, decide_eq_true_eq, Bool.not_eq_true'] at h
      obtain ⟨rfl, rfl, rfl, hdel, hdi, hmr⟩ := h
      obtain ⟨nm, bs, mro, ns, qn, hd, sn, sub, ab, col, del⟩ := cd
      dsimp only at hm hdel hdi
      subst hm hdel hdi
      have hsl : sl = #[k0, k1, k2, k3, some (.builtin n), k5] := by
        obtain ⟨l⟩ := sl
        simp only at hs
        rw [hs]
      subst hsl
      exact ⟨nm, qn, ns, bs, bm, sn, sub, ab, col, dd, k0, k1, k2, k3, k5, ho, mro_of T hmr⟩
    · cases h
  · cases h
theorem oB_ok {a b : Option Bool} (h : oB a b = true) : a = b := of_decide_eq_true h
theorem excB_ok {K : PySem.W.Frag} {D : Addr} (h : excB K D = true) : ExcC K D ∧ XfC K D := by
  obtain ⟨h1, h⟩ := He.ba h
  obtain ⟨h2, h⟩ := He.ba h
  obtain ⟨h3, h⟩ := He.ba h
  obtain ⟨h4, h⟩ := He.ba h
  obtain ⟨h5, h⟩ := He.ba h
  obtain ⟨h6, h⟩ := He.ba h
  obtain ⟨h7, h8⟩ := He.ba h
  exact ⟨⟨He.eqO_ok h1, He.eqO_ok h2, oB_ok h3, h4, He.eqO_ok h5, He.eqO_ok h6, oB_ok h7, oB_ok h8⟩, ⟨He.eqO_ok h1, He.eqO_ok h2, oB_ok h3, h4⟩⟩
section
variable {P : Program} {w : World} {K : PySem.W.Frag} {mg : Str → Option Value} {h base : Heap}
theorem er_of {nm fl : Str} {c : Addr} {tl : List Value} {B newId initId : String} {bB : List Value} {arg qual : Str} {st : Stmt} {fdI : FuncData} {p1 p2 p3 p4 p5 p6 : Pos} {fC : Addr} {fdC : FuncData} (g : mg nm = some (.ref c)) (T : PySem.LqX.Tl B tl) (FB : ExcBaseFacts B newId initId bB) (e : errB K c tl newId fl = true)
    (F : Fun K "__init__" qual st (He.ma K c "__init__") fdI) (S : FnScope ["self", arg] ["self", arg] (defScope st)) (hbd : defBody st = [.Assign [.Attribute (.Name "self" p1) fl p2] (.Call (.Name "copied" p3) [.Name arg p4] [] p5) p6])
    (l0 : (defScope st).names.lookup ("self" : Str) = some .local) (l1 : (defScope st).names.lookup arg = some .local) (lg : (defScope st).names.lookup ("copied" : Str) = some .globalImplicit) (na : (arg == ("__debug__" : Str)) = false) (nc : (arg == ("__classdict__" : Str)) = false)
    (GC : FnOk P w K mg base CX0 5 fC fdC ["thing"] (spCopied K 4)) (bC : Binds K fdC ["thing"] []) (kC : PySem.W.keepIn K (.ref fC) = true) (mC : mg "copied" = some (.ref fC)) (bI : Binds K fdI ["self", arg] []) : ErF P w K mg base nm fl c := by
  obtain ⟨e1, e⟩ := He.ba e
  obtain ⟨e2, e⟩ := He.ba e
  obtain ⟨e3, e⟩ := He.ba e
  obtain ⟨e4, e⟩ := He.ba e
  obtain ⟨e5, e⟩ := He.ba e
  obtain ⟨e6, e⟩ := He.ba e
  obtain ⟨e7, e⟩ := He.ba e
  obtain ⟨e8, e⟩ := He.ba e
  obtain ⟨e9, e⟩ := He.ba e
  obtain ⟨e10, e11⟩ := He.ba e
  have X : XC K c B newId := ⟨xc_of T e1, He.eqO_ok e2, oB_ok e3, of_decide_eq_true e4, e5⟩
  refine ⟨g, ⟨He.eqO_ok e8, He.eqO_ok e9, oB_ok e3, e10⟩, He.eqO_ok e11, B, newId, initId, bB, ["self", arg], _, fdI, FB, X, He.eqO_ok e6, of_decide_eq_true e7, ?_, bI⟩
  exact ok_init F S hbd l0 l1 lg na nc X (He.eqO_ok e11) GC bC kC mC
theorem cv_of {x : Str} (e : cvB K x = true) : ClX.CVal K (cB K) (.type "type") x (.ref (cvA K x)) (.ref (cvA K x)) := by
  refine ⟨?_, rfl⟩
  unfold cvB at e
  unfold cvA
  split at e
  · rename_i a q
    rw [q]
  · cases e
theorem tup_of {a : Addr} {vs : List V} (e : tupB K a vs = true) : ∀ H, SqT K H a vs := by
  intro H
  unfold tupB at e
  split at e
  · rename_i t d its n sl q
    obtain ⟨q1, e⟩ := He.ba e
    obtain ⟨q2, q3⟩ := He.ba e
    exact .inr ⟨_, its, n, q, by rw [of_decide_eq_true q1], rfl, of_decide_eq_true q2, He.relAll_ok q3⟩
  · cases e
theorem facts {fA a : Addr} {s1 : Shared} {ns : List Int} (KX : K.In h) (G : h.Ns mainGlobals mg) (hfa : mg "law" = some (.ref fA)) (c : He5.SaysA fa fn K) (hx : exB K = true) (hl : ns.length ≤ 63) : LawRun P w K mg fA a s1 ns := by
  obtain ⟨fd_copied, D_copied⟩ := c.def_ 0 (d := dF_copied) rfl
  have F_copied : Fun K "copied" "copied" sCopied (He.ga K "copied") fd_copied := fun_of D_copied
  have g_copied : mg "copied" = some (.ref (He.ga K "copied")) := He.glo_ok KX G (c.fact 0 (f := .glo "copied") rfl)
  have b_copied : Binds K fd_copied ["thing"] [] := F_copied.binds fun _ _ _ _ _ _ us hl => match us, hl with | [_], _ => rfl
  obtain ⟨fd_built, D_built⟩ := c.def_ 1 (d := dF_built) rfl
  have F_built : Fun K "is_built" "is_built" sBuilt (He.ga K "is_built") fd_built := fun_of D_built
  have g_built : mg "is_built" = some (.ref (He.ga K "is_built")) := He.glo_ok KX G (c.fact 1 (f := .glo "is_built") rfl)
  have b_built : Binds K fd_built ["thing"] [] := F_built.binds fun _ _ _ _ _ _ us hl => match us, hl with | [_], _ => rfl
  obtain ⟨fd_usual, D_usual⟩ := c.def_ 2 (d := dF_usual) rfl
  have F_usual : Fun K "usual_way" "usual_way" sUsual (He.ga K "usual_way") fd_usual := fun_of D_usual
  have g_usual : mg "usual_way" = some (.ref (He.ga K "usual_way")) := He.glo_ok KX G (c.fact 2 (f := .glo "usual_way") rfl)
  have b_usual : Binds K fd_usual ["look"] [] := F_usual.binds fun _ _ _ _ _ _ us hl => match us, hl with | [_], _ => rfl
  obtain ⟨fd_begin, D_begin⟩ := c.def_ 3 (d := dF_begin) rfl
  have F_begin : Fun K "_law_begin" "_law_begin" sBegin (He.ga K "_law_begin") fd_begin := fun_of D_begin
  have g_begin : mg "_law_begin" = some (.ref (He.ga K "_law_begin")) := He.glo_ok KX G (c.fact 3 (f := .glo "_law_begin") rfl)
  have b_begin : Binds K fd_begin ["script", "at"] [] := F_begin.binds fun _ _ _ _ _ _ us hl => match us, hl with | [_, _], _ => rfl
  obtain ⟨fd_draw, D_draw⟩ := c.def_ 4 (d := dF_draw) rfl
  have F_draw : Fun K "_law_draw" "_law_draw" sDraw (He.ga K "_law_draw") fd_draw := fun_of D_draw
  have g_draw : mg "_law_draw" = some (.ref (He.ga K "_law_draw")) := He.glo_ok KX G (c.fact 4 (f := .glo "_law_draw") rfl)
  have b_draw : Binds K fd_draw ["source", "many"] [] := F_draw.binds fun _ _ _ _ _ _ us hl => match us, hl with | [_, _], _ => rfl
  obtain ⟨fd_of, D_of⟩ := c.def_ 5 (d := dF_of) rfl
  have F_of : Fun K "_law_of" "_law_of" sOf (He.ga K "_law_of") fd_of := fun_of D_of
  have g_of : mg "_law_of" = some (.ref (He.ga K "_law_of")) := He.glo_ok KX G (c.fact 5 (f := .glo "_law_of") rfl)
  have b_of : Binds K fd_of ["source", "some"] [] := F_of.binds fun _ _ _ _ _ _ us hl => match us, hl with | [_, _], _ => rfl
  obtain ⟨fd_looks, D_looks⟩ := c.def_ 6 (d := dF_looks) rfl
  have F_looks : Fun K "_law_looks" "_law_looks" sLooks (He.ga K "_law_looks") fd_looks := fun_of D_looks
  have g_looks : mg "_law_looks" = some (.ref (He.ga K "_law_looks")) := He.glo_ok KX G (c.fact 6 (f := .glo "_law_looks") rfl)
  have b_looks : Binds K fd_looks [] [] := F_looks.binds fun _ _ _ _ _ _ us hl => match us, hl with | [], _ => rfl
  obtain ⟨fd_ways, D_ways⟩ := c.def_ 7 (d := dF_ways) rfl
  have F_ways : Fun K "_law_ways" "_law_ways" sWays (He.ga K "_law_ways") fd_ways := fun_of D_ways
  have g_ways : mg "_law_ways" = some (.ref (He.ga K "_law_ways")) := He.glo_ok KX G (c.fact 7 (f := .glo "_law_ways") rfl)
  have b_ways : Binds K fd_ways ["source"] [] := F_ways.binds fun _ _ _ _ _ _ us hl => match us, hl with | [_], _ => rfl
  obtain ⟨fd_text, D_text⟩ := c.def_ 8 (d := dF_text) rfl
  have F_text : Fun K "_law_book_text" "_law_book_text" sText (He.ga K "_law_book_text") fd_text := fun_of D_text
  have g_text : mg "_law_book_text" = some (.ref (He.ga K "_law_book_text")) := He.glo_ok KX G (c.fact 8 (f := .glo "_law_book_text") rfl)
  have b_text : Binds K fd_text ["begun", "manners"] [] := F_text.binds fun _ _ _ _ _ _ us hl => match us, hl with | [_, _], _ => rfl
  obtain ⟨fd_thing, D_thing⟩ := c.def_ 9 (d := dF_thing) rfl
  have F_thing : Fun K "_law_thing" "_law_thing" sThing (He.ga K "_law_thing") fd_thing := fun_of D_thing
  have g_thing : mg "_law_thing" = some (.ref (He.ga K "_law_thing")) := He.glo_ok KX G (c.fact 9 (f := .glo "_law_thing") rfl)
  have b_thing : Binds K fd_thing ["source"] [] := F_thing.binds fun _ _ _ _ _ _ us hl => match us, hl with | [_], _ => rfl
  obtain ⟨fd_made, D_made⟩ := c.def_ 10 (d := dF_made) rfl
  have F_made : Fun K "_law_made" "_law_made" sMade (He.ga K "_law_made") fd_made := fun_of D_made
  have g_made : mg "_law_made" = some (.ref (He.ga K "_law_made")) := He.glo_ok KX G (c.fact 10 (f := .glo "_law_made") rfl)
  have b_made : Binds K fd_made ["way", "begun", "one", "two", "three"] [] := F_made.binds fun _ _ _ _ _ _ us hl => match us, hl with | [_, _, _, _, _], _ => rfl
  obtain ⟨fd_due, D_due⟩ := c.def_ 11 (d := dF_due) rfl
  have F_due : Fun K "_law_due" "_law_due" sDue (He.ga K "_law_due") fd_due := fun_of D_due
  have g_due : mg "_law_due" = some (.ref (He.ga K "_law_due")) := He.glo_ok KX G (c.fact 11 (f := .glo "_law_due") rfl)
  have b_due : Binds K fd_due ["way", "begun", "one", "two", "three"] [] := F_due.binds fun _ _ _ _ _ _ us hl => match us, hl with | [_, _, _, _, _], _ => rfl
  obtain ⟨fd_told, D_told⟩ := c.def_ 12 (d := dF_told) rfl
  have F_told : Fun K "_law_told" "_law_told" sTold (He.ga K "_law_told") fd_told := fun_of D_told
  have g_told : mg "_law_told" = some (.ref (He.ga K "_law_told")) := He.glo_ok KX G (c.fact 12 (f := .glo "_law_told") rfl)
  have b_told : Binds K fd_told ["way", "begun", "one", "two", "three"] [] := F_told.binds fun _ _ _ _ _ _ us hl => match us, hl with | [_, _, _, _, _], _ => rfl
  obtain ⟨fd_lread, D_lread⟩ := c.def_ 13 (d := dF_lread) rfl
  have F_lread : Fun K "_law_read" "_law_read" sLRead (He.ga K "_law_read") fd_lread := fun_of D_lread
  have g_lread : mg "_law_read" = some (.ref (He.ga K "_law_read")) := He.glo_ok KX G (c.fact 13 (f := .glo "_law_read") rfl)
  have b_lread : Binds K fd_lread ["thing"] [] := F_lread.binds fun _ _ _ _ _ _ us hl => match us, hl with | [_], _ => rfl
  obtain ⟨fd_faulty, D_faulty⟩ := c.def_ 14 (d := dF_faulty) rfl
  have F_faulty : Fun K "_law_faulty" "_law_faulty" sFaulty (He.ga K "_law_faulty") fd_faulty := fun_of D_faulty
  have g_faulty : mg "_law_faulty" = some (.ref (He.ga K "_law_faulty")) := He.glo_ok KX G (c.fact 14 (f := .glo "_law_faulty") rfl)
  have b_faulty : Binds K fd_faulty ["source", "text"] [] := F_faulty.binds fun _ _ _ _ _ _ us hl => match us, hl with | [_, _], _ => rfl
  obtain ⟨fd_isb, D_isb⟩ := c.def_ 15 (d := dF_isb) rfl
  have F_isb : Fun K "_law_is_book" "_law_is_book" sIsB (He.ga K "_law_is_book") fd_isb := fun_of D_isb
  have g_isb : mg "_law_is_book" = some (.ref (He.ga K "_law_is_book")) := He.glo_ok KX G (c.fact 15 (f := .glo "_law_is_book") rfl)
  have b_isb : Binds K fd_isb ["text"] [] := F_isb.binds fun _ _ _ _ _ _ us hl => match us, hl with | [_], _ => rfl
  obtain ⟨fd_right, D_right⟩ := c.def_ 16 (d := dF_right) rfl
  have F_right : Fun K "_law_right" "_law_right" sRight (He.ga K "_law_right") fd_right := fun_of D_right
  have g_right : mg "_law_right" = some (.ref (He.ga K "_law_right")) := He.glo_ok KX G (c.fact 16 (f := .glo "_law_right") rfl)
  have b_right : Binds K fd_right ["source"] [] := F_right.binds fun _ _ _ _ _ _ us hl => match us, hl with | [_], _ => rfl
  obtain ⟨fd_law, D_law⟩ := c.def_ 17 (d := dF_law) rfl
  have F_law : Fun K "law" "law" sLaw (He.ga K "law") fd_law := fun_of D_law
  have g_law : mg "law" = some (.ref (He.ga K "law")) := He.glo_ok KX G (c.fact 17 (f := .glo "law") rfl)
  have b_law : Binds K fd_law ["script"] [] := F_law.binds fun _ _ _ _ _ _ us hl => match us, hl with | [_], _ => rfl
  obtain ⟨fd_mbad, D_mbad⟩ := c.def_ 18 (d := dM_bad) rfl
  have F_mbad : Fun K "__init__" "BadBook.__init__" (inClass (topS 6) 0) (He.ma K (He.ga K "BadBook") "__init__") fd_mbad := fun_of D_mbad
  have b_mbad : Binds K fd_mbad ["self", "thing"] [] := F_mbad.binds fun _ _ _ _ _ _ us hl => match us, hl with | [_, _], _ => rfl
  obtain ⟨fd_mnolook, D_mnolook⟩ := c.def_ 19 (d := dM_nolook) rfl
  have F_mnolook : Fun K "__init__" "NoLook.__init__" (inClass (topS 7) 0) (He.ma K (He.ga K "NoLook") "__init__") fd_mnolook := fun_of D_mnolook
  have b_mnolook : Binds K fd_mnolook ["self", "look"] [] := F_mnolook.binds fun _ _ _ _ _ _ us hl => match us, hl with | [_, _], _ => rfl
  obtain ⟨fd_minit, D_minit⟩ := c.def_ 20 (d := dM_init) rfl
  obtain ⟨fd_mread, D_mread⟩ := c.def_ 21 (d := dM_read) rfl
  have F_mread : Fun K "read" "Book.read" sRead (He5.wf K (He.ga K "Book") "classmethod" "read") fd_mread := fun_of D_mread
  have b_mread : Binds K fd_mread ["cls", "text"] [] := F_mread.binds fun _ _ _ _ _ _ us hl => match us, hl with | [_, _], _ => rfl
  obtain ⟨fd_mstr, D_mstr⟩ := c.def_ 22 (d := dM_str) rfl
  have F_mstr : Fun K "__str__" "Book.__str__" sStr (He.ma K (He.ga K "Book") "__str__") fd_mstr := fun_of D_mstr
  have b_mstr : Binds K fd_mstr ["self"] [] := F_mstr.binds fun _ _ _ _ _ _ us hl => match us, hl with | [_], _ => rfl
  have gBadBook : mg "BadBook" = some (.ref (He.ga K "BadBook")) := He.glo_ok KX G (c.fact 18 (f := .glo "BadBook") rfl)
  have gNoLook : mg "NoLook" = some (.ref (He.ga K "NoLook")) := He.glo_ok KX G (c.fact 19 (f := .glo "NoLook") rfl)
  have gBook : mg "Book" = some (.ref (He.ga K "Book")) := He.glo_ok KX G (c.fact 20 (f := .glo "Book") rfl)
  have gLateError : mg "LateError" = some (.ref (He.ga K "LateError")) := He.glo_ok KX G (c.fact 21 (f := .glo "LateError") rfl)
  have gBadForm : mg "BadForm" = some (.ref (He.ga K "BadForm")) := He.glo_ok KX G (c.fact 22 (f := .glo "BadForm") rfl)
  have u_isinstance : mg "isinstance" = none := He.free_ok KX G (c.fact 23 (f := .free "isinstance") rfl)
  have u_list : mg "list" = none := He.free_ok KX G (c.fact 24 (f := .free "list") rfl)
  have u_tuple : mg "tuple" = none := He.free_ok KX G (c.fact 25 (f := .free "tuple") rfl)
  have u_int : mg "int" = none := He.free_ok KX G (c.fact 26 (f := .free "int") rfl)
  have u_len : mg "len" = none := He.free_ok KX G (c.fact 27 (f := .free "len") rfl)
  have u_abs : mg "abs" = none := He.free_ok KX G (c.fact 28 (f := .free "abs") rfl)
  have u_str : mg "str" = none := He.free_ok KX G (c.fact 29 (f := .free "str") rfl)
  have u_sorted : mg "sorted" = none := He.free_ok KX G (c.fact 30 (f := .free "sorted") rfl)
  have u_zip : mg "zip" = none := He.free_ok KX G (c.fact 31 (f := .free "zip") rfl)
  have u_range : mg "range" = none := He.free_ok KX G (c.fact 32 (f := .free "range") rfl)
  have u_max : mg "max" = none := He.free_ok KX G (c.fact 33 (f := .free "max") rfl)
  have u_min : mg "min" = none := He.free_ok KX G (c.fact 34 (f := .free "min") rfl)
  have u_all : mg "all" = none := He.free_ok KX G (c.fact 35 (f := .free "all") rfl)
  have cl := He.cls_ok (c.fact 36 (f := .cls "Book") rfl)
  have na_built := He.noat_ok (c.fact 37 (f := .noat "Book" "built") rfl)
  have na_order := He.noat_ok (c.fact 38 (f := .noat "Book" "order") rfl)
  have na_chosen := He.noat_ok (c.fact 39 (f := .noat "Book" "chosen") rfl)
  have m_str := He.meth_ok (c.fact 40 (f := .meth "Book" "__str__") rfl)
  have mk := He.mkr_ok (c.fact 41 (f := .mkr "Book") rfl)
  have x1 := He.exm_ok (c.fact 42 (f := .exm "NoLook" "NoLook" true) rfl)
  have x2 := He.exm_ok (c.fact 43 (f := .exm "BadBook" "NoLook" false) rfl)
  have x3 := He.exm_ok (c.fact 44 (f := .exm "BadBook" "BadBook" true) rfl)
  have x4 := He.exm_ok (c.fact 45 (f := .exm "BadBook" "LateError" true) rfl)
  obtain ⟨h_bad, hx⟩ := He.ba hx
  obtain ⟨h_no, hx⟩ := He.ba hx
  obtain ⟨h_rd, hx⟩ := He.ba hx
  obtain ⟨h_ga, hx⟩ := He.ba hx
  obtain ⟨h_cl, hx⟩ := He.ba hx
  obtain ⟨h_cw, hx⟩ := He.ba hx
  obtain ⟨h_tl, hx⟩ := He.ba hx
  obtain ⟨h_tw, hx⟩ := He.ba hx
  obtain ⟨h_ca, hx⟩ := He.ba hx
  obtain ⟨h_cg, hx⟩ := He.ba hx
  obtain ⟨h_ct, hx⟩ := He.ba hx
  obtain ⟨h_cm, hx⟩ := He.ba hx
  obtain ⟨h_ck, hx⟩ := He.ba hx
  obtain ⟨h_w_read, hx⟩ := He.ba hx
  obtain ⟨h_f_read, hx⟩ := He.ba hx
  obtain ⟨h_m_str, hx⟩ := He.ba hx
  obtain ⟨h_exc, hx⟩ := He.ba hx
  obtain ⟨h_kbb, h_kbf⟩ := He.ba hx
  have e := hfa.symm.trans g_law
  cases e
  have B : BkF K mg (cB K) (cvA K "LOOKS") (cvA K "WAYS") (.type "type") := ⟨gBook, ⟨h_rd, He.eqO_ok h_ga⟩, cv_of h_cl, cv_of h_cw, tup_of h_tl, tup_of h_tw, cl, na_built, na_order, na_chosen, He.eqO_ok h_ca, He.eqO_ok h_cg, oB_ok h_ct, oB_ok h_cm, oB_ok h_ck⟩
  have oS : OwnM K (cB K) "__str__" (He.ma K (cB K) "__str__") := ⟨m_str.at_, m_str.fn, h_m_str⟩
  have c_read : ClX.CMet K (cB K) (.type "type") "read" (He.ma K (cB K) "read") (He5.wf K (cB K) "classmethod" "read") := He5.cmet_of h_w_read h_f_read
  obtain ⟨xC, _⟩ := excB_ok h_exc
  refine law_run (f0 := He.ga K "_law_begin") (f1 := He.ga K "_law_right") (fd0 := fd_begin) (fd1 := fd_right) F_law (fun base kb nb => ?_) ?_ hl
  · have GC : FnOk P w K mg base CX0 5 (He.ga K "copied") fd_copied ["thing"] (spCopied K 4) := ok_copied F_copied b_copied g_copied u_isinstance u_list u_tuple 4
    have eB : ErF P w K mg base "BadBook" "thing" (cBad K) := er_of (arg := "thing") gBadBook PySem.LqX.tl_value F.excBase_ValueError h_bad F_mbad ⟨rfl, rfl, rfl, by decide +kernel, rfl, by decide +kernel, by decide +kernel⟩ rfl (by decide +kernel) (by decide +kernel) (by decide +kernel) (by decide +kernel) (by decide +kernel) GC b_copied F_copied.kp g_copied b_mbad
    have eN : ErF P w K mg base "NoLook" "look" (cNo K) := er_of (arg := "look") gNoLook PySem.LqX.tl_lookup F.excBase_LookupError h_no F_mnolook ⟨rfl, rfl, rfl, by decide +kernel, rfl, by decide +kernel, by decide +kernel⟩ rfl (by decide +kernel) (by decide +kernel) (by decide +kernel) (by decide +kernel) (by decide +kernel) GC b_copied F_copied.kp g_copied b_mnolook
    have GB : FnOk P w K mg base CX0 1 (He.ga K "is_built") fd_built ["thing"] (spBuilt K) := ok_built F_built
    have GU : FnOk P w K mg base CX0 1 (He.ga K "usual_way") fd_usual ["look"] spUsual := ok_usual F_usual
    have GI : FnA P w K mg base (L2N.CX P w) 8 (He.ma K (cB K) "__init__") (spKw "self" "built" (.str "late") (spBook K (cB K) (cvA K "LOOKS") (cBad K) (cNo K))) := ok_book D_minit B eB eN GB b_built F_built.kp g_built GU b_usual F_usual.kp g_usual u_sorted
    have GS : FnOk P w K mg base CX0 1 (He.ma K (cB K) "__str__") fd_mstr ["self"] (spStr (cB K) (cvA K "LOOKS")) := ok_str F_mstr B
    have GR : FnOk P w K mg base (L2N.CX P w) 10 (He5.wf K (cB K) "classmethod" "read") fd_mread ["cls", "text"] (spRead K (cB K) (cvA K "LOOKS") (cBad K)) := ok_read F_mread B mk GI eB GB b_built F_built.kp g_built u_isinstance u_str u_len u_zip
    have GD : FnOk P w K mg base CX0 1 (He.ga K "_law_draw") fd_draw ["source", "many"] spDraw := ok_draw F_draw u_int
    have GO : FnOk P w K mg base CX0 2 (He.ga K "_law_of") fd_of ["source", "some"] (spOf K) := ok_of F_of GD b_draw F_draw.kp g_draw u_len
    have GL : FnOk P w K mg base CX0 1 (He.ga K "_law_looks") fd_looks [] spLooks := ok_looks F_looks
    have GW : FnOk P w K mg base CX0 3 (He.ga K "_law_ways") fd_ways ["source"] (spWays K) := ok_ways F_ways GO b_of F_of.kp g_of GL b_looks F_looks.kp g_looks
    have GX : FnOk P w K mg base CX0 2 (He.ga K "_law_book_text") fd_text ["begun", "manners"] spText := ok_text F_text GL b_looks F_looks.kp g_looks u_zip
    have GT : FnOk P w K mg base CX0 3 (He.ga K "_law_thing") fd_thing ["source"] (spThing K) := ok_thing F_thing GO b_of F_of.kp g_of
    have GM : FnOk P w K mg base (L2N.CX P w) 10 (He.ga K "_law_made") fd_made PM (spMade K (cB K) (cvA K "LOOKS") (cBad K) (cNo K)) := ok_made F_made B mk GI
    have GDu : FnOk P w K mg base CX0 1 (He.ga K "_law_due") fd_due PM (spDue K) := ok_due F_due u_len
    have GTo : FnOk P w K mg base CX0 11 (He.ga K "_law_told") fd_told PM (spTold K) := ok_told F_told B eB eN gLateError gBadForm xC x1 x2 x4 (oB_ok h_kbb) (oB_ok h_kbf) GM b_made F_made.kp g_made u_isinstance
    have GLr : FnOk P w K mg base CX0 11 (He.ga K "_law_read") fd_lread ["thing"] (spLRead K) := ok_lread F_lread B eB x3 c_read GR b_mread oS GS b_mstr u_str
    have GF : FnOk P w K mg base CX0 3 (He.ga K "_law_faulty") fd_faulty ["source", "text"] spFaulty := ok_faulty F_faulty GD b_draw F_draw.kp g_draw GO b_of F_of.kp g_of u_len
    have GIb : FnOk P w K mg base CX0 2 (He.ga K "_law_is_book") fd_isb ["text"] spIsB := ok_isB F_isb GL b_looks F_looks.kp g_looks
    have Rt : FnOk P w K mg base CX0 12 (He.ga K "_law_right") fd_right ["source"] spRight := ok_right F_right ⟨⟨_, _, GD, b_draw, F_draw.kp, g_draw⟩, ⟨_, _, GO, b_of, F_of.kp, g_of⟩, ⟨_, _, GW, b_ways, F_ways.kp, g_ways⟩, ⟨_, _, GX, b_text, F_text.kp, g_text⟩, ⟨_, _, GT, b_thing, F_thing.kp, g_thing⟩, ⟨_, _, GTo, b_told, F_told.kp, g_told⟩, ⟨_, _, GDu, b_due, F_due.kp, g_due⟩, ⟨_, _, GLr, b_lread, F_lread.kp, g_lread⟩, ⟨_, _, GIb, b_isb, F_isb.kp, g_isb⟩, ⟨_, _, GF, b_faulty, F_faulty.kp, g_faulty⟩, u_range, u_all⟩
    exact ⟨ok_begin F_begin u_int u_len u_abs, Rt, F_begin.kp, F_right.kp, b_begin, b_right, g_begin, g_right, u_len, u_range, u_max, u_min, u_all⟩
  · intro s u
    have D : FunD K "law" "law" (defArgs sLaw) (defBody sLaw) (defScope sLaw) [] [] (He.ga K "law") fd_law := D_law
    exact FunD.bindsA (ps := ["script"]) D (fun _ _ _ _ _ _ us hl => match us, hl with | [_], _ => rfl) s [u] rfl
end
end Lq
open PySem PySem.W PySem.Calls PyProof.Rows
theorem PySem.Challenge.cw_latequestions_k12_books_refused_holds : PySem.Challenge.rw_latequestions_k12_books_refused.Holds := by
  w_on; o_law
  refine HandSHeadRun.head_any (r := OpenLaw.row PySem.Challenge.rw_latequestions_k12_books_refused) (q := view (OpenLaw.row PySem.Challenge.rw_latequestions_k12_books_refused).prog [28]) (H := Lq.hk) (ob := Lq.ob) (M := 8000) (loose := Lq.loose) (d := HandSHeadRun.topDef (OpenLaw.row PySem.Challenge.rw_latequestions_k12_books_refused).prog 28) (kwd := []) Lq.ob_eq
    (by kernel_rfl) (fun s => by kernel_rfl) Lq.run (by kernel_rfl) (by kernel_rfl) (by kernel_rfl) (by rfl) (by first | assumption | decide +kernel) (by decide +kernel) ⟨rfl, rfl, rfl, rfl, rfl, by decide +kernel⟩ ?hw ?hc
  case hw => w_witness2
  case hc =>
    refine L2.LqX.walk_law (l := PySem.Challenge.rw_latequestions_k12_books_refused) (n := 63) rfl (by decide) (by kernel_rfl) ?F
    intro w mg fA h Y G hmg0
    obtain ⟨K, KX, c, hx⟩ := Y
    have hmg : mg ("law" : PySem.Str) = some (.ref fA) := by
      have e : (HandSHeadRun.topDef (OpenLaw.row PySem.Challenge.rw_latequestions_k12_books_refused).prog 28).name = ("law" : PySem.Str) := by kernel_rfl
      rw [← e]
      exact hmg0
    exact ⟨K, KX, fun s1 a ns hl => Lq.facts KX G hmg c hx hl⟩


